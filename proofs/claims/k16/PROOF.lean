import PyProof.Rows.All
import Wide.All
import OpenK.AllK
import Wide.FinOn
import Lean
import PyProof.EqAt
import PyProof.EqKinds
import PyProof.TupleCall
import PyProof.Draws
import PyProof.EnumMake
import PyProof.EnumFor
import PyProof.TupleIter
import PyProof.P3Eq
import PyProof.EqLayable
import PyProof.ConsumeWalk
import PyProof.ZipIter
import KE.KDictOf
import PyProof.AttrMissHeap
import KE.KIntText
import PyProof.StrWalks
import PyProof.SliceStr2
import PyProof.StrBlockI
import PyProof.WalksMore
import PyProof.NsDelKeeps
import PySem.Challenge.RW_backhead_k16_refused
set_option Elab.async false
set_option linter.all false
set_option maxRecDepth 100000
set_option maxHeartbeats 4000000
namespace L2
open PySem PySem.Spec PyProof.Rows
abbrev Key:=Sum Int Str
def JZ:Key→Value→Bool
 | .inl k,v=>Value.isInt k v
 | .inr x,v=>Value.isStrOf x v
def zd9(w:World):Key→Int
 | .inl k=>hashInt k
 | .inr x=>hashStr w x
theorem xF:∀{k:Key} {v:Value},JZ k v=true→(∃i t,k=Sum.inl i∧v=Value.int i t)∨(∃x t,k=Sum.inr x∧v=Value.str x t)
 | .inl i,v,h=>by
  obtain ⟨t,e⟩:=Value.isInt_shape (k:=i) (v:=v) h
  exact .inl ⟨i,t,rfl,e⟩
 | .inr x,v,h=>by
  obtain ⟨t,e⟩:=Value.isStrOf_shape (x:=x) (v:=v) h
  exact .inr ⟨x,t,rfl,e⟩
theorem zbd(a b:Int):decide ((Sum.inl a:Key)=Sum.inl b)=(a == b):=by
 by_cases e:a=b
 ·subst e;simp
 ·have h:¬(Sum.inl a:Key)=Sum.inl b:=fun q=>e (Sum.inl.inj q)
  rw [decide_eq_false h]
  exact (beq_eq_false_iff_ne.mpr e).symm
theorem zbe(a b:Str):decide ((Sum.inr a:Key)=Sum.inr b)=decide (a=b):=by
 by_cases e:a=b
 ·subst e;simp
 ·have h:¬(Sum.inr a:Key)=Sum.inr b:=fun q=>e (Sum.inr.inj q)
  rw [decide_eq_false h,decide_eq_false e]
theorem zbf(a:Int)(b:Str):decide ((Sum.inl a:Key)=Sum.inr b)=false:=decide_eq_false (fun q=>nomatch q)
theorem zbg(a:Str)(b:Int):decide ((Sum.inr a:Key)=Sum.inl b)=false:=decide_eq_false (fun q=>nomatch q)
def Vt(prog:Program)(w:World):PySem.KeyKind prog w Key where
 is:=JZ
 hash:=zd9 w
 inj:=fun v a b ha hb=>by
  rcases xF ha with ⟨i,t,rfl,rfl⟩|⟨x,t,rfl,rfl⟩
  ·rcases xF hb with ⟨j,u,rfl,e⟩|⟨y,u,rfl,e⟩
   ·injection e with e1 _;rw [e1]
   ·exact nomatch e
  ·rcases xF hb with ⟨j,u,rfl,e⟩|⟨y,u,rfl,e⟩
   ·exact nomatch e
   ·injection e with e1 _;rw [e1]
 byValue:=fun k v h=>by
  rcases xF h with ⟨i,t,rfl,rfl⟩|⟨x,t,rfl,rfl⟩ <;> rfl
 pyHash:=fun hv h=>by
  rcases xF hv with ⟨i,t,rfl,rfl⟩|⟨x,t,rfl,rfl⟩
  ·exact wpAny_pyHash_int h
  ·exact wpAny_pyHash_str h
 eqBool:=fun hu hv h=>by
  rcases xF hu with ⟨i,t,rfl,rfl⟩|⟨x,t,rfl,rfl⟩
  ·rcases xF hv with ⟨j,u,rfl,rfl⟩|⟨y,u,rfl,rfl⟩
   ·rw [zbd] at h;exact wpAny_eqBool_int h
   ·rw [zbf] at h;exact SeqAt.EqAt.int_str i t y u _ _ _ _ h
  ·rcases xF hv with ⟨j,u,rfl,rfl⟩|⟨y,u,rfl,rfl⟩
   ·rw [zbg] at h;exact SeqAt.EqAt.str_int x t j u _ _ _ _ h
   ·rw [zbe] at h;exact wpAny_eqBool_str h
 «strs»:=fun k x t v h=>by
  rcases xF h with ⟨i,u,rfl,e⟩|⟨y,u,rfl,e⟩
  ·exact nomatch e
  ·injection e with e1 _
   subst e1
   cases v <;> rfl
end L2
namespace L2
open PySem PySem.Spec PyProof.Rows
inductive V where
 | non|bl (b:Bool)|int (i:Int)|str (x:Str)|byt (b:Array UInt8)|flt (b:UInt64)|ref (a:Addr)|ty (n:String)
 deriving DecidableEq
def yt:V→Value→Prop
 | .non,u=>u=Value.none
 | .bl b,u=>u=Value.bool b
 | .int i,u=>∃t,u=Value.int i t
 | .str x,u=>∃t,u=Value.str x t
 | .byt b,u=>∃t,u=Value.bytes b t
 | .flt b,u=>∃t,u=Value.float b t
 | .ref a,u=>u=Value.ref a
 | .ty n,u=>u=Value.type n
abbrev z6:List V→List Value→Prop:=Paired yt
theorem z6.length{xs:List V}{us:List Value}(r:z6 xs us):xs.length=us.length:=Paired.length r
theorem z6.get:∀{xs:List V} {us:List Value} {i:Nat} {x:V},z6 xs us→xs[i]?=some x→∃u,us[i]?=some u∧yt x u
 | _,_,_,_,.nil,e=>by simp at e
 | _,_,0,_,.cons r _,e=>by simp at e;subst e;exact ⟨_,rfl,r⟩
 | _,_,i+1,x,.cons _ t,e=>by
  obtain ⟨u,h1,h2⟩:=z6.get (i:=i) (x:=x) t (by simpa using e)
  exact ⟨u,by simpa using h1,h2⟩
theorem z6.set{x:V}{u:Value}(r:yt x u):∀{xs:List V} {us:List Value} (i:Nat),z6 xs us→z6 (xs.set i x) (us.set i u)
 | _,_,_,.nil=>.nil
 | _,_,0,.cons _ t=>.cons r t
 | _,_,i+1,.cons q t=>.cons q (z6.set r i t)
theorem z6.append:∀{xs ys:List V} {us ws:List Value},z6 xs us→z6 ys ws→z6 (xs++ys) (us++ws)
 | _,_,_,_,.nil,s=>s
 | _,_,_,_,.cons r t,s=>.cons r (z6.append t s)
theorem z6.take:∀{xs:List V} {us:List Value} (n:Nat),z6 xs us→z6 (xs.take n) (us.take n)
 | _,_,0,_=>.nil
 | _,_,_+1,.nil=>.nil
 | _,_,n+1,.cons r t=>.cons r (z6.take n t)
theorem z6.drop:∀{xs:List V} {us:List Value} (n:Nat),z6 xs us→z6 (xs.drop n) (us.drop n)
 | _,_,0,r=>r
 | _,_,_+1,.nil=>.nil
 | _,_,n+1,.cons _ t=>z6.drop n t
def QI:Option V→Option Value→Prop
 | some v,some u=>yt v u
 | none,none=>True
 | _,_=>False
def KV{κ:Type}:List (κ×V)→List (κ×Value)→Prop:=Paired fun (p:κ×V) (q:κ×Value)=>p.1=q.1∧yt p.2 q.2
def kV:Key→V
 | .inl i=>.int i
 | .inr x=>.str x
inductive HO where
 | lst (xs:List V)
 | tup (xs:List V)
 | dK (kvs:List (Key×V))|dT (kvs:List (List Key×V))
 | set (S:Int→Bool) (n:Nat)
 | ins (C dx:Addr) (fs:List (Str×V))
 | own (x:Addr)
 | xd (fs:List (Str×V))
 | met (f x:Addr)
 | rng (lo hi:Int)
 | frz (o:Obj) (u:HO)
 | tbl (ps:Array Value)
 | ext (φ:Heap→Prop)
abbrev Hp:=Addr→Option HO
def upd(H:Hp)(a:Addr)(o:HO):Hp:=fun b=>if b=a then some o else H b
theorem yj{H:Hp}{a:Addr}{o:HO}:upd H a o a=some o:=by unfold upd;rw [if_pos rfl]
theorem yc{H:Hp}{a b:Addr}{o:HO}(h:b≠a):upd H a o b=H b:=by unfold upd;rw [if_neg h]
theorem yB{H:Hp}{a b:Addr}{o:HO}(h:H a=some o)(h':H b=none):a≠b:=by
 intro e;subst e;rw [h] at h';cases h'
section
variable (P:Program) (w:World)
def xf(H:Hp)(h:Heap)(a:Addr):HO→Prop
 | .lst xs=>xs.length≤sizeLine∧∃(its:List Value) (n:Nat),z6 xs its∧h.get? a=some { cls:=.type "list",data:=.seq its.toArray n }
 | .tup xs=>xs.length≤sizeLine∧∃its:List Value,z6 xs its∧IsTup h a its.toArray
 | .dK kvs=>kvs.length≤sizeLine∧(a == sysModules)=false∧∃vs,KV kvs vs∧h.DictOf (Vt P w) a vs
 | .dT kvs=>kvs.length≤sizeLine∧(a == sysModules)=false∧∃xs:List (List Key×Addr×Value),
  Paired (fun (p:List Key×V) (q:List Key×Addr×Value)=>p.1=q.1∧H q.2.1=some (.tup (p.1.map kV))∧yt p.2 q.2.2) kvs xs ∧
  ∃o es ep,h.get? a=some o∧o.ExactDict∧o.data=.dict es ep∧es.toList=xs.map (entryOfKey (tupleKind (Vt P w)))∧(xs.map (·.1)).Nodup
 | .set S n=>h.SetOf (intKind P w) a S n
 | .ins C dx fs=>H dx=some (.own a)∧fs.length≤1000∧dx≠a∧h.get? a=some (PySem.W.instObj C dx) ∧
  ∃mA,h.Ns1 dx mA∧(∀f,QI (fs.lookup f) (mA f))∧PySem.Within mA (fs.map (·.1))
 | .own _=>∃o,h.get? a=some o
 | .xd fs=>∃mA,h.Ns1 a mA∧∀f,QI (fs.lookup f) (mA f)
 | .rng lo hi=>∃t u v,h.get? a=some { cls:=.type "range",data:=.fields #[.int lo t,.int hi u,.int 1 v] }
 | .frz o u=>h.get? a=some o∧xf H h a u
 | .tbl ps=>h.get? a=some { cls:=.none,data:=.fields ps }
 | .met f x=>h.get? a=some (PySem.W.methodObj (.ref f) (.ref x))
 | .ext φ=>φ h∧(∃o,h.get? a=some o)∧∀h1 h2:Heap,φ h1→(∀o,h1.get? a=some o→h2.get? a=some o)→φ h2
def HOk(H:Hp)(h:Heap):Prop:=∀a o,H a=some o→xf P w H h a o
end
section
variable {P:Program} {w:World} {H H':Hp} {h h':Heap} {a:Addr} {o:HO}
theorem xf.lt(x:xf P w H h a o):a < h.objs.size:=by
 cases o with
 | lst xs=>obtain ⟨_,_,_,_,e⟩:=x;exact Heap.lt_size e
 | tup xs=>obtain ⟨_,_,_,p⟩:=x;exact p.lt
 | dK kvs=>obtain ⟨_,_,_,_,o,_,_,e,_⟩:=x;exact Heap.lt_size e
 | dT kvs=>obtain ⟨_,_,_,_,o,_,_,e,_⟩:=x;exact Heap.lt_size e
 | set S n=>obtain ⟨o,_,_,_,e,_⟩:=x;exact Heap.lt_size e
 | ins C dx fs=>obtain ⟨_,_,_,e,_⟩:=x;exact Heap.lt_size e
 | own y=>obtain ⟨_,e⟩:=x;exact Heap.lt_size e
 | xd fs=>obtain ⟨_,⟨_,_,_,e,_⟩,_⟩:=x;exact Heap.lt_size e
 | rng lo hi=>obtain ⟨_,_,_,e⟩:=x;exact Heap.lt_size e
 | frz ob u=>obtain ⟨e,_⟩:=x;exact Heap.lt_size e
 | tbl ps=>exact Heap.lt_size (show h.get? a=some _ from x)
 | met f y=>exact Heap.lt_size (show h.get? a=some _ from x)
 | ext φ=>obtain ⟨_,⟨_,e⟩,_⟩:=x;exact Heap.lt_size e
theorem Paired.mapP{α β:Type}{F G:α→β→Prop}:∀{l₁:List α} {l₂:List β},Paired F l₁ l₂→(∀a b,F a b→G a b)→Paired G l₁ l₂
 | _,_,.nil,_=>.nil
 | _,_,.cons r t,f=>.cons (f _ _ r) (Paired.mapP t f)
theorem xf.stay(x:xf P w H h a o)(k:∀b u,(b=a∨H b=some (.own a))→h.get? b=some u→h'.get? b=some u) 
  (ho:∀b,H b=some (.own a)→H' b=some (.own a)) (ht:∀b xs,H b=some (.tup xs)→H' b=some (.tup xs)):xf P w H' h' a o:=by
 induction o with
 | lst xs=>obtain ⟨z,its,n,r,e⟩:=x;exact ⟨z,its,n,r,k _ _ (.inl rfl) e⟩
 | tup xs=>obtain ⟨z,its,r,ob,e,c⟩:=x;exact ⟨z,its,r,ob,k _ _ (.inl rfl) e,c⟩
 | dK kvs=>obtain ⟨z,y,vs,r,ob,es,ep,e,c⟩:=x;exact ⟨z,y,vs,r,ob,es,ep,k _ _ (.inl rfl) e,c⟩
 | dT kvs =>
  obtain ⟨z,y,xs,r,ob,es,ep,e,c⟩:=x
  exact ⟨z,y,xs,Paired.mapP r fun p q z=>⟨z.1,ht _ _ z.2.1,z.2.2⟩,ob,es,ep,k _ _ (.inl rfl) e,c⟩
 | set S n=>obtain ⟨ob,es,ep,t,e,c⟩:=x;exact ⟨ob,es,ep,t,k _ _ (.inl rfl) e,c⟩
 | ins C dx fs =>
  obtain ⟨d,z,ne,e,mA,⟨od,es,ep,e2,c⟩,r⟩:=x
  exact ⟨ho _ d,z,ne,k _ _ (.inl rfl) e,mA,⟨od,es,ep,k _ _ (.inr d) e2,c⟩,r⟩
 | own y=>obtain ⟨ob,e⟩:=x;exact ⟨ob,k _ _ (.inl rfl) e⟩
 | xd fs=>obtain ⟨mA,⟨od,es,ep,e,c⟩,r⟩:=x;exact ⟨mA,⟨od,es,ep,k _ _ (.inl rfl) e,c⟩,r⟩
 | rng lo hi=>obtain ⟨t,u,v,e⟩:=x;exact ⟨t,u,v,k _ _ (.inl rfl) e⟩
 | frz ob u ih=>obtain ⟨e,q⟩:=x;exact ⟨k _ _ (.inl rfl) e,ih q⟩
 | tbl ps =>
  have e:h.get? a=some { cls:=.none,data:=.fields ps }:=x
  show h'.get? a=some { cls:=.none,data:=.fields ps }
  exact k a _ (.inl rfl) e
 | met f y =>
  have e:h.get? a=some (PySem.W.methodObj (.ref f) (.ref y)):=x
  show h'.get? a=some (PySem.W.methodObj (.ref f) (.ref y))
  exact k a _ (.inl rfl) e
 | ext φ=>obtain ⟨p,⟨o,e⟩,st⟩:=x;exact ⟨st _ _ p fun o q=>k _ _ (.inl rfl) q,⟨o,k _ _ (.inl rfl) e⟩,st⟩
theorem HOk.lt(x:HOk P w H h)(e:H a=some o):a < h.objs.size:=(x a o e).lt
theorem HOk.fresh(x:HOk P w H h)(e:h.objs.size≤a):H a=none:=by
 cases q:H a with
 | none=>rfl
 | some u=>exact absurd (Nat.lt_of_lt_of_le (x.lt q) e) (Nat.lt_irrefl _)
theorem HOk.kept(x:HOk P w H h)(k:∀b u,h.get? b=some u→h'.get? b=some u):HOk P w H h':=fun a o e =>
 (x a o e).stay (fun b u _ q=>k b u q) (fun _ q=>q) fun _ _ q=>q
theorem HOk.laid(x:HOk P w H h)(k:∀b u,h.get? b=some u→h'.get? b=some u)(hp:h.objs.size≤a)(new:xf P w (upd H a o) h' a o):HOk P w (upd H a o) h':=fun b u e=>by
 have hn:=x.fresh hp
 by_cases hb:b=a
 ·subst hb;rw [yj] at e;cases e;exact new
 ·rw [yc hb] at e
  exact (x b u e).stay (fun c v _ q=>k c v q) (fun c q=>by rw [yc (yB q hn)];exact q) fun c xs q=>by rw [yc (yB q hn)];exact q
end
def Rd(H:Hp)(a:Addr)(u:HO):Prop:=H a=some u∨∃o,H a=some (.frz o u)
theorem Rd.ok{P:Program}{w:World}{H:Hp}{h:Heap}{a:Addr}{u:HO}(r:Rd H a u)(x:HOk P w H h):xf P w H h a u:=by
 rcases r with r|⟨o,r⟩
 ·exact x a u r
 ·obtain ⟨_,q⟩:=x a _ r
  exact q
def Mut:Option HO→Prop
 | some (.lst _)=>True
 | some (.dK _)=>True
 | some (.dT _)=>True
 | some (.set _ _)=>True
 | some (.ins _ _ _)=>True
 | some (.ext _)=>True
 | _=>False
section
variable {P:Program} {w:World} {H:Hp} {h h':Heap} {x e:Addr} {o':HO}
theorem HOk.write(ok:HOk P w H h)(mu:Mut (H x))(he:e=x∨H e=some (.own x))(k:∀b u,b≠e→h.get? b=some u→h'.get? b=some u)(heo:∃u,h'.get? e=some u) 
  (new:xf P w (upd H x o') h' x o'):HOk P w (upd H x o') h':=fun b u q=>by
 have nown:∀c y,H c=some (.own y)→c≠x:=fun c y r z=>by subst z;rw [r] at mu;exact mu
 have ntup:∀c xs,H c=some (.tup xs)→c≠x:=fun c xs r z=>by subst z;rw [r] at mu;exact mu
 by_cases hb:b=x
 ·subst hb;rw [yj] at q;cases q;exact new
 ·rw [yc hb] at q
  by_cases hbe:b=e
  ·have q':H b=some (.own x):=by
    rcases he with z|z
    ·exact absurd (hbe.trans z) hb
    ·rw [hbe];exact z
   rw [q] at q';cases q'
   obtain ⟨v,hv⟩:=heo
   exact ⟨v,by rw [hbe];exact hv⟩
  ·refine (ok b u q).stay (fun c v hc r=>k c v ?_ r) (fun c r=>by rw [yc (nown c b r)];exact r) fun c xs r=>by rw [yc (ntup c xs r)];exact r
   rcases hc with rfl|hc
   ·exact hbe
   ·rintro rfl
    rcases he with z|z
    ·exact nown c b hc z
    ·rw [hc] at z;cases z;exact hb rfl
end
structure Un (fs ex:List Addr) (H H':Hp) (h h':Heap):Prop where
 keep:∀b o,h.get? b=some o→H b=none→b ∉ fs→b ∉ ex→h'.get? b=some o
 slot:∀b o,h.get? b=some o→H b=none→b∈fs→b ∉ ex→∃sl,h'.get? b=some { o with slots:=sl }
 free:∀b o,h.get? b=some o→H b=none→b ∉ ex→H' b=none
 there:∀b o,h.get? b=some o→b ∉ ex→∃o',h'.get? b=some o'
 tups:∀b xs,H b=some (.tup xs)→H' b=some (.tup xs)
 frzs:∀b o u,H b=some (.frz o u)→H' b=some (.frz o u)
 tbls:∀b ps,H b=some (.tbl ps)→∃more,H' b=some (.tbl (ps++more))
section
variable {fs fs' ex ex':List Addr} {H H1 H2:Hp} {h h1 h2 h':Heap} {a x e:Addr} {o:HO}
theorem Un.any(u:Un fs ex H H1 h h1){b:Addr}{ob:Obj}(q:h.get? b=some ob)(n:H b=none)(hx:b ∉ ex):∃sl,h1.get? b=some { ob with slots:=sl }:=by
 by_cases hb:b∈fs
 ·exact u.slot b ob q n hb hx
 ·exact ⟨ob.slots,u.keep b ob q n hb hx⟩
theorem Un.kept(k:∀b u,h.get? b=some u→h'.get? b=some u):Un fs ex H H h h' :=
 ⟨fun b ob q _ _ _=>k b ob q,fun b ob q _ _ _=>⟨ob.slots,k b ob q⟩,fun _ _ _ n _=>n,fun b ob q _=>⟨ob,k b ob q⟩,fun _ _ q=>q,fun _ _ _ q=>q,fun _ ps q=>⟨#[],by rw [q];simp⟩⟩
theorem Un.refl:Un fs ex H H h h:=Un.kept fun _ _ q=>q
theorem Un.laid(k:∀b u,h.get? b=some u→h'.get? b=some u)(hp:h.objs.size≤a)(hn:H a=none):Un fs ex H (upd H a o) h h' where
 keep:=fun b u q _ _ _=>k b u q
 slot:=fun b u q _ _ _=>⟨u.slots,k b u q⟩
 free:=fun b u q n _=>by rw [yc (Nat.ne_of_lt (Nat.lt_of_lt_of_le (Heap.lt_size q) hp))];exact n
 there:=fun b u q _=>⟨u,k b u q⟩
 tups:=fun b xs q=>by rw [yc (yB q hn)];exact q
 frzs:=fun b u xs q=>by rw [yc (yB q hn)];exact q
 tbls:=fun b ps q=>⟨#[],by rw [yc (yB q hn),q];simp⟩
theorem Un.write(mu:Mut (H x))(he:e=x∨H e=some (.own x))(k:∀b u,b≠e→h.get? b=some u→h'.get? b=some u)(heo:∃u,h'.get? e=some u):Un fs ex H (upd H x o) h h':=by
 have hx:∀b,H b=none→b≠x:=fun b n z=>by subst z;rw [n] at mu;exact mu
 have hb:∀b,H b=none→b≠e:=fun b n z=>by
  subst z
  rcases he with r|r
  ·exact hx b n r
  ·rw [n] at r;cases r
 have hm:∀b u,H b=some u→¬Mut (some u)→b≠x:=fun b u q nm z=>by subst z;rw [q] at mu;exact nm mu
 refine ⟨fun b u q n _ _=>k b u (hb b n) q,fun b u q n _ _=>⟨u.slots,k b u (hb b n) q⟩,fun b u q n _=>by rw [yc (hx b n)];exact n,fun b u q _=>?_,
  fun b xs q=>by rw [yc (hm b _ q fun z=>z)];exact q,fun b u xs q=>by rw [yc (hm b _ q fun z=>z)];exact q,fun b ps q=>⟨#[],by rw [yc (hm b _ q fun z=>z),q];simp⟩⟩
 by_cases hbe:b=e
 ·subst hbe;exact heo
 ·exact ⟨u,k b u hbe q⟩
end
def trk(h:Heap)(H:Hp):List Addr:=(List.range h.objs.size).filter fun a=>(H a).isSome
def Z1(h:Heap)(H:Hp):Heap:=PySem.W.hideAll h (trk h H)
theorem UR(h:Heap)(H:Hp):(Z1 h H).objs.size=h.objs.size:=PySem.W.hideAll_size _ _
theorem QJ{h:Heap}{H:Hp}{b:Addr}{o:Obj}(e:h.get? b=some o)(n:H b=none):(Z1 h H).get? b=some o :=
 PySem.W.hideAll_get _ e fun hm=>by
  have q:(H b).isSome=true:=(List.mem_filter.mp hm).2
  rw [n] at q;simp at q
theorem zau{h:Heap}{H:Hp}{b:Addr}{o:Obj}(e:(Z1 h H).get? b=some o):h.get? b=some o∧H b=none:=by
 have e':h.get? b=some o:=PySem.W.of_hideAll (trk h H) e
 refine ⟨e',?_⟩
 cases q:H b with
 | none=>rfl
 | some x =>
  have hm:b∈trk h H:=List.mem_filter.mpr ⟨List.mem_range.mpr (Heap.lt_size e'),by simp [q]⟩
  have z:(Z1 h H).get? b=none:=PySem.W.hideAll_none (trk h H) hm
  rw [z] at e;cases e
end L2
namespace L2
open PySem PySem.Spec PyProof.Rows
structure Mod (K:PySem.W.Frag) (mg:Str→Option Value) (base:Heap):Prop where
 kin:K.In base
 glob:base.Ns mainGlobals mg
 blt:∃mb,base.Ns builtinsNs mb∧∀x:Str,x≠"__name__"→mb x=bootBuiltins x
 nolimit:base.NoLimit
structure Cx where
 prog:Program
 w:World
 K:PySem.W.Frag
 mg:Str→Option Value
 base:Heap
 A:Around
 N:List Str
 s₀:Shared
 H₀:Hp
 env:Env
 outer:List Env
 stack:List Env
 ex:List Addr
 fn:Str→Bool
 calm:Bool
 pn:List (Addr×Obj)
 xe:Value→Shared→Prop
def frs(l:List Env):List Addr:=l.filterMap (·.frame)
abbrev Cx.fs(X:Cx):List Addr:=frs X.outer
def Vis(sc:Scope)(x:Str):Prop:=sc.names.lookup x=some .local∨sc.names.lookup x=some .cell∨sc.names.lookup x=some .free
def Loc(sc:Scope)(x:Str):Prop:=sc.names.lookup x=some .local∨sc.names.lookup x=some .cell
def zea(env:Env)(h:Heap)(m:Str→Option Value)(x:Str)(u:Value):Prop :=
 (env.kindOf x=some .local∧m x=some u)∨((env.kindOf x=some .cell∨env.kindOf x=some .free)∧∃c,env.cells.lookup x=some c∧h.IsCell c (some u))
structure Cx.Ok (X:Cx):Prop where
 mod:Mod X.K X.mg X.base
 kind:X.env.scope.kind=.function
 glob:X.env.globals=mainGlobals
 blt:X.env.builtins=builtinsNs
 above:X.s₀.heap.objs.size≤X.env.locals
 inj:∀x y c,X.env.cells.lookup x=some c→X.env.cells.lookup y=some c→x=y
 has:∀x,(X.env.kindOf x=some .cell∨X.env.kindOf x=some .free)→∃c,X.env.cells.lookup x=some c
 cab:∀x c,X.fn x=true→X.env.cells.lookup x=some c→X.s₀.heap.objs.size≤c
 hd:X.calm=true→X.A.handled=none
 frames:X.A.frames=some X.stack
 stk:X.stack=X.outer∨(X.stack=X.env::X.outer∧X.env.frame=some X.env.locals)
 exf:∀b∈X.ex,b≠X.env.locals∧∀x c,X.env.cells.lookup x=some c→c≠b
 bs:∀b o,X.base.get? b=some o→X.s₀.heap.get? b=some o∧X.H₀ b=none
 bsz:X.base.objs.size≤X.s₀.heap.objs.size
 noex:∀b o,X.base.get? b=some o→b ∉ X.ex
 exfs:∀b∈X.ex,b ∉ X.fs
 funs:X.s₀.heap.FunFrames X.base X.outer
 frf:∀b∈X.fs,X.H₀ b=none
structure Inv (X:Cx) (pins:List (Addr×Obj)) (σ:List (Option V)) (H:Hp) (s:Shared):Prop where
 ok:X.Ok
 os:s.os=X.s₀.os
 bare:AllBare s.gens
 base:Un X.fs X.ex X.H₀ H X.s₀.heap s.heap
 loc:∃m,s.heap.Ns X.env.locals m∧∀(i:Nat) (x:Str) (v:V),X.N[i]?=some x→σ[i]?=some (some v)→Vis X.env.scope x→∃u,yt v u∧zea X.env s.heap m x u
 cell:∀x c,X.env.cells.lookup x=some c→∃v,s.heap.IsCell c v
 free:H X.env.locals=none
 freeC:∀x c,X.env.cells.lookup x=some c→H c=none
 pin:∀p∈X.pn++pins,s.heap.get? p.1=some p.2∧H p.1=none∧p.1≠X.env.locals∧p.1 ∉ X.fs∧∀v,p.2.data≠.cell v
 hok:HOk X.prog X.w H s.heap
 len:σ.length=X.N.length
section
variable {X:Cx} {pins:List (Addr×Obj)} {σ:List (Option V)} {H H':Hp} {s:Shared} {h':Heap}
theorem Cx.Ok.nofr(ok:X.Ok){b:Addr}{o:Obj}(e:X.base.get? b=some o):b ∉ X.fs:=fun hb=>by
 have:=(ok.funs.mem hb).1
 rw [e] at this;cases this
theorem Inv.bs(I:Inv X pins σ H s):∀b o,X.base.get? b=some o→s.heap.get? b=some o∧H b=none:=fun b o e =>
 ⟨I.base.keep b o (I.ok.bs b o e).1 (I.ok.bs b o e).2 (I.ok.nofr e) (I.ok.noex b o e),I.base.free b o (I.ok.bs b o e).1 (I.ok.bs b o e).2 (I.ok.noex b o e)⟩
theorem Inv.bk(I:Inv X pins σ H s):∀b o,X.base.get? b=some o→s.heap.get? b=some o:=fun b o e=>(I.bs b o e).1
theorem Inv.mod(I:Inv X pins σ H s):Mod X.K X.mg X.base:=I.ok.mod
theorem Inv.kIn(I:Inv X pins σ H s):X.K.In s.heap:=I.ok.mod.kin.keeps I.bk
theorem Inv.lt(I:Inv X pins σ H s):X.env.locals < s.heap.objs.size:=(by obtain ⟨_,hn,_⟩:=I.loc;exact hn.lt)
theorem Inv.sz(I:Inv X pins σ H s):X.s₀.heap.objs.size≤s.heap.objs.size:=Nat.le_trans I.ok.above (Nat.le_of_lt I.lt)
theorem Inv.nofs(I:Inv X pins σ H s){a:Addr}(h:s.heap.objs.size≤a):a ∉ X.fs:=fun hb=>by
 obtain ⟨_,o,ho,_⟩:=I.ok.funs.mem hb
 exact absurd (Nat.lt_of_lt_of_le (Heap.lt_size ho) (Nat.le_trans I.sz h)) (Nat.lt_irrefl _)
theorem Inv.cne(I:Inv X pins σ H s):∀x c,X.env.cells.lookup x=some c→c≠X.env.locals:=fun x c e z=>by
 obtain ⟨v,o,ho,hd⟩:=I.cell x c e
 obtain ⟨m,⟨o',es,ep,ho',hd',_⟩,_⟩:=I.loc
 rw [z,ho'] at ho;cases ho;rw [hd'] at hd;cases hd
theorem Inv.funs(I:Inv X pins σ H s):s.heap.FunFrames X.base X.outer:=by
 have all:∀(l:List Env),(∀b∈frs l,b∈X.fs)→X.s₀.heap.FunFrames X.base l→s.heap.FunFrames X.base l:=by
  intro l
  induction l with
  | nil=>intro _ _;trivial
  | cons env r ih =>
   intro hs hl
   obtain ⟨hk,⟨L,o,hf,hn,ho,hd⟩,hr⟩:=hl
   have hL:L∈X.fs:=hs L (by unfold frs;rw [List.filterMap_cons,hf];exact List.mem_cons_self)
   obtain ⟨sl,e⟩:=I.base.slot L o ho (I.ok.frf L hL) hL fun z=>I.ok.exfs L z hL
   exact ⟨hk,⟨L,_,hf,hn,e,hd⟩,ih (fun b hb=>hs b (by unfold frs;rw [List.filterMap_cons,hf];exact List.mem_cons_of_mem _ hb)) hr⟩
 exact all X.outer (fun _ hb=>hb) I.ok.funs
theorem Inv.stack(I:Inv X pins σ H s):s.heap.FunFrames X.base X.stack:=by
 rcases I.ok.stk with e|⟨e,hf⟩
 ·rw [e];exact I.funs
 ·rw [e]
  obtain ⟨m,hn,_⟩:=I.loc
  refine .cons (by rw [I.ok.kind];decide) hf hn ?_ I.funs
  exact Heap.get?_none_of_le (Nat.le_trans I.ok.bsz I.ok.above)
theorem Inv.stkSub(I:Inv X pins σ H s):∀b∈frs X.stack,b∈X.env.locals::X.fs:=fun b hb=>by
 rcases I.ok.stk with e|⟨e,hf⟩
 ·rw [e] at hb;exact List.mem_cons_of_mem _ hb
 ·rw [e] at hb
  unfold frs at hb
  rw [List.filterMap_cons,hf] at hb
  exact hb
theorem Inv.stkFree(I:Inv X pins σ H s):∀b∈frs X.stack,H b=none:=fun b hb=>by
 rcases List.mem_cons.mp (I.stkSub b hb) with e|hb
 ·rw [e];exact I.free
 ·obtain ⟨_,o,ho,_⟩:=I.ok.funs.mem hb
  exact I.base.free b o ho (I.ok.frf b hb) fun z=>I.ok.exfs b z hb
theorem Inv.step{g':Array GenState}{t':Nat}{d':Drawn}{ch:List Addr}(I:Inv X pins σ H s) 
  (hch:∀b∈ch,(b∈X.ex∨X.s₀.heap.objs.size≤b)∧b≠X.env.locals∧(∀x c,X.env.cells.lookup x=some c→c≠b)∧∀p∈X.pn++pins,p.1≠b)
  (keep:∀b o,b≠X.env.locals→b ∉ X.fs→b ∉ ch→s.heap.get? b=some o→H b=none→h'.get? b=some o)
  (slot:∀b o,b≠X.env.locals→b∈X.fs→b ∉ ch→s.heap.get? b=some o→H b=none→∃sl,h'.get? b=some { o with slots:=sl }) (free:∀b o,b ∉ ch→s.heap.get? b=some o→H b=none→H' b=none)
  (there:∀b o,b ∉ ch→s.heap.get? b=some o→∃o',h'.get? b=some o')
  (tups:∀b xs,H b=some (.tup xs)→H' b=some (.tup xs)) (frzs:∀b o u,H b=some (.frz o u)→H' b=some (.frz o u)) (tbls:∀b ps,H b=some (.tbl ps)→∃more,H' b=some (.tbl (ps++more)))
  (ns:∀m,s.heap.Ns X.env.locals m→h'.Ns X.env.locals m) (hok:HOk X.prog X.w H' h') (hg:AllBare g') :
  Inv X pins σ H' { s with heap:=h',gens:=g',drawn:=d',toks:=t' }:=by
 have neL:∀b o,X.s₀.heap.get? b=some o→b≠X.env.locals:=fun b o e=>Nat.ne_of_lt (Nat.lt_of_lt_of_le (Heap.lt_size e) I.ok.above)
 have neC:∀b o,X.s₀.heap.get? b=some o→b ∉ X.ex→b ∉ ch:=fun b o e hx hb=>by
  rcases (hch b hb).1 with z|z
  ·exact hx z
  ·exact absurd (Nat.lt_of_lt_of_le (Heap.lt_size e) z) (Nat.lt_irrefl _)
 have cellK:∀x c,X.env.cells.lookup x=some c→∀v,s.heap.IsCell c v→h'.IsCell c v:=fun x c e v hh1'=>by
  obtain ⟨o,ho,hd⟩:=hh1'
  have nch:c ∉ ch:=fun z=>(hch c z).2.2.1 x c e rfl
  by_cases hc:c∈X.fs
  ·obtain ⟨sl,q⟩:=slot c o (I.cne x c e) hc nch ho (I.freeC x c e)
   exact ⟨_,q,hd⟩
  ·exact ⟨o,keep c o (I.cne x c e) hc nch ho (I.freeC x c e),hd⟩
 refine ⟨I.ok,I.os,hg,⟨fun b o e n hb hx=>?_,fun b o e n hb hx=>?_,fun b o e n hx=>?_,fun b o e hx=>?_,fun b xs e=>tups b xs (I.base.tups b xs e),fun b o xs e=>frzs b o xs (I.base.frzs b o xs e),fun b ps e=>?_⟩,?_,fun x c e=>?_,?_,fun x c e=>?_,fun p hp=>?_,hok,I.len⟩
 ·exact keep b o (neL b o e) hb (neC b o e hx) (I.base.keep b o e n hb hx) (I.base.free b o e n hx)
 ·obtain ⟨sl,e1⟩:=I.base.slot b o e n hb hx
  obtain ⟨sl',e2⟩:=slot b _ (neL b o e) hb (neC b o e hx) e1 (I.base.free b o e n hx)
  exact ⟨sl',e2⟩
 ·obtain ⟨o',e1⟩:=I.base.there b o e hx
  exact free b o' (neC b o e hx) e1 (I.base.free b o e n hx)
 ·obtain ⟨o',e1⟩:=I.base.there b o e hx
  exact there b o' (neC b o e hx) e1
 ·obtain ⟨m1,e1⟩:=I.base.tbls b ps e
  obtain ⟨m2,e2⟩:=tbls b _ e1
  exact ⟨m1++m2,by rw [e2,Array.append_assoc]⟩
 ·obtain ⟨m,hn,hl⟩:=I.loc
  refine ⟨m,ns m hn,fun i x v e1 e2 e3=>?_⟩
  obtain ⟨u,r,l⟩:=hl i x v e1 e2 e3
  refine ⟨u,r,?_⟩
  rcases l with l|⟨k,c,e,z⟩
  ·exact .inl l
  ·exact .inr ⟨k,c,e,cellK x c e _ z⟩
 ·obtain ⟨v,z⟩:=I.cell x c e
  exact ⟨v,cellK x c e v z⟩
 ·obtain ⟨m,⟨o,_,_,ho,_⟩,_⟩:=I.loc
  exact free _ o (fun z=>(hch _ z).2.1 rfl) ho I.free
 ·obtain ⟨v,o,ho,hd⟩:=I.cell x c e
  exact free c o (fun z=>(hch c z).2.2.1 x c e rfl) ho (I.freeC x c e)
 ·obtain ⟨e,n,ne,nf,d⟩:=I.pin p hp
  have nch:p.1 ∉ ch:=fun z=>(hch p.1 z).2.2.2 p hp rfl
  exact ⟨keep p.1 p.2 ne nf nch e n,free p.1 p.2 nch e n,ne,nf,d⟩
theorem Inv.un{t':Nat}(I:Inv X pins σ H s)(u:Un X.fs [] H H' s.heap h')(hok:HOk X.prog X.w H' h'):Inv X pins σ H' { s with heap:=h',toks:=t' }:=by
 obtain ⟨m,⟨o,es,ep,ho,r⟩,_⟩:=id I.loc
 obtain ⟨sl,hL⟩:=u.any ho I.free (by simp)
 exact I.step (g':=s.gens) (d':=s.drawn) (ch:=[]) (fun _ z=>nomatch z) (fun b o _ hb _ e n=>u.keep b o e n hb (by simp)) (fun b o _ hb _ e n=>u.slot b o e n hb (by simp)) (fun b o _ e n=>u.free b o e n (by simp)) (fun b o _ e=>u.there b o e (by simp)) u.tups u.frzs u.tbls (fun m' hm=>by
  obtain ⟨o',es',ep',ho',r'⟩:=hm
  rw [ho] at ho';cases ho'
  exact ⟨_,es',ep',hL,r'⟩) hok I.bare
theorem Inv.call{g':Array GenState}{t':Nat}{d':Drawn}{ch:List Addr}(I:Inv X pins σ H s)(u:Un (frs X.stack) ch H H' s.heap h')(hok:HOk X.prog X.w H' h')(hg:AllBare g') 
  (hch:∀b∈ch,(b∈X.ex∨X.s₀.heap.objs.size≤b)∧b≠X.env.locals∧(∀x c,X.env.cells.lookup x=some c→c≠b)∧∀p∈X.pn++pins,p.1≠b) :
  Inv X pins σ H' { s with heap:=h',gens:=g',drawn:=d',toks:=t' }:=by
 obtain ⟨m,⟨o,es,ep,ho,r⟩,_⟩:=id I.loc
 obtain ⟨sl,hL⟩:=u.any ho I.free fun z=>(hch _ z).2.1 rfl
 exact I.step (ch:=ch) hch (fun b o hL hb hc e n=>u.keep b o e n (fun z=>(List.mem_cons.mp (I.stkSub b z)).elim hL hb) hc) (fun b o _ _ hc e n=>u.any e n hc) (fun b o hc e n=>u.free b o e n hc) (fun b o hc e=>u.there b o e hc) u.tups u.frzs u.tbls (fun m' hm=>by
  obtain ⟨o',es',ep',ho',r'⟩:=hm
  rw [ho] at ho';cases ho'
  exact ⟨_,es',ep',hL,r'⟩) hok hg
theorem Inv.turned{t':Nat}{it:Addr}(I:Inv X pins σ H s)(k:∀b o,b≠it→s.heap.get? b=some o→h'.get? b=some o)(hn:H it=none)(hL:it≠X.env.locals) 
  (h1:it∈X.ex∨X.s₀.heap.objs.size≤it) (h2:∀x c,X.env.cells.lookup x=some c→c≠it) (h3:∀p∈X.pn++pins,p.1≠it):Inv X pins σ H { s with heap:=h',toks:=t' }:=by
 have nit:∀b u,H b=some u→b≠it:=fun b u e z=>by rw [z,hn] at e;cases e
 refine I.step (g':=s.gens) (d':=s.drawn) (ch:=[it]) (fun b hb=>?_) (fun b o _ _ hc e _=>k b o (fun z=>hc (by simp [z])) e) (fun b o _ _ hc e _=>⟨o.slots,k b o (fun z=>hc (by simp [z])) e⟩) (fun _ _ _ _ n=>n)
  (fun b o hc e=>⟨o,k b o (fun z=>hc (by simp [z])) e⟩) (fun _ _ e=>e) (fun _ _ _ e=>e) (fun b ps e=>⟨#[],by rw [e];simp⟩) (fun m hm=>?_) (fun b u e=>?_) I.bare
 ·have e:b=it:=by simpa using hb
  subst e
  exact ⟨h1,hL,h2,h3⟩
 ·obtain ⟨o,es,ep,ho,r⟩:=hm
  exact ⟨o,es,ep,k _ o (Ne.symm hL) ho,r⟩
 ·refine (I.hok b u e).stay (fun c v hc q=>k c v ?_ q) (fun _ q=>q) fun _ _ q=>q
  rcases hc with z|z
  ·rw [z];exact nit b u e
  ·exact nit c _ z
theorem Inv.tok(I:Inv X pins σ H s)(t:Nat):Inv X pins σ H { s with toks:=t }:=I.un (h':=s.heap) (t':=t) Un.refl I.hok
theorem Inv.kept{t':Nat}(I:Inv X pins σ H s)(k:∀b u,s.heap.get? b=some u→h'.get? b=some u):Inv X pins σ H { s with heap:=h',toks:=t' }:=I.un (Un.kept k) (I.hok.kept k)
theorem Inv.laid{a:Addr}{o:HO}{t':Nat}(I:Inv X pins σ H s)(k:∀b u,s.heap.get? b=some u→h'.get? b=some u)(hp:s.heap.objs.size≤a)(new:xf X.prog X.w (upd H a o) h' a o):
 Inv X pins σ (upd H a o) { s with heap:=h',toks:=t' }:=I.un (Un.laid k hp (I.hok.fresh hp)) (I.hok.laid k hp new)
theorem Inv.write{x e:Addr}{o:HO}{t':Nat}(I:Inv X pins σ H s)(mu:Mut (H x))(he:e=x∨H e=some (.own x))(k:∀b u,b≠e→s.heap.get? b=some u→h'.get? b=some u)(heo:∃u,h'.get? e=some u) 
 (new:xf X.prog X.w (upd H x o) h' x o):Inv X pins σ (upd H x o) { s with heap:=h',toks:=t' }:=I.un (Un.write mu he k heo) (I.hok.write mu he k heo new)
theorem Inv.weak{σ':List (Option V)}(I:Inv X pins σ H s)(hl:σ'.length=σ.length)(w:∀(i:Nat) v,σ'[i]?=some (some v)→σ[i]?=some (some v)):Inv X pins σ' H s :=
 ⟨I.ok,I.os,I.bare,I.base,(by obtain ⟨m,hn,hl'⟩:=I.loc;exact ⟨m,hn,fun i x v e1 e2 e3=>hl' i x v e1 (w i v e2) e3⟩),I.cell,I.free,I.freeC,I.pin,I.hok,hl.trans I.len⟩
theorem Inv.pins_of{pins':List (Addr×Obj)}(I:Inv X pins σ H s)(h:∀p∈pins',s.heap.get? p.1=some p.2∧H p.1=none∧p.1≠X.env.locals∧p.1 ∉ X.fs∧∀v,p.2.data≠.cell v):Inv X pins' σ H s :=
 ⟨I.ok,I.os,I.bare,I.base,I.loc,I.cell,I.free,I.freeC,fun p hp=>(List.mem_append.mp hp).elim (fun z=>I.pin p (List.mem_append_left _ z)) (h p),I.hok,I.len⟩
theorem WU{N:List Str}(hN:N.Nodup){i j:Nat}{x:Str}(a:N[i]?=some x)(b:N[j]?=some x):i=j:=by
 obtain ⟨h1,e1⟩:=List.getElem?_eq_some_iff.mp a
 obtain ⟨h2,e2⟩:=List.getElem?_eq_some_iff.mp b
 exact (List.getElem_inj hN).mp (e1.trans e2.symm)
theorem Wl{M:Model}{A:Around}{E:Value→Shared→Prop}{i:Nat}{x:Str}{v:V}{u:Value}{Q:Unit→Shared→Prop}(I:Inv X pins σ H s)(hN:X.N.Nodup)(hi:X.N[i]?=some x)(hx:Loc X.env.scope x)(r:yt v u) 
  (h:∀s',Inv X pins (σ.set i (some v)) H s'→(∃a,Heap.SameBut a s.heap s'.heap∧(a=X.env.locals∨X.env.cells.lookup x=some a))→Q () s') (hf:X.fn x=true∨X.env.scope.names.lookup x=some .local:=by first|exact .inl rfl|exact .inr rfl|assumption):wpAny M A (storeName X.env x u) Q E s:=by
 obtain ⟨m,hn,hl⟩:=id I.loc
 have hcls:(X.env.scope.kind == .class || (X.env.scope.kind == .module && X.env.locals != X.env.globals))=false:=by rw [I.ok.kind];rfl
 have hiσ:i < σ.length:=by rw [I.len];exact (List.getElem?_eq_some_iff.mp hi).1
 have cne:=I.cne
 have tracked:∀{a:Addr} {h':Heap},(∃o,s.heap.get? a=some o∧H a=none)→Heap.SameBut a s.heap h'→HOk X.prog X.w H h':=fun {a h'} ha hs b ob e=>by
  obtain ⟨_,_,hfree⟩:=ha
  refine (I.hok b ob e).stay (fun c w' hc q=>(hs.2 c ?_).trans q) (fun _ q=>q) fun _ _ q=>q
  rintro rfl
  rcases hc with rfl|hc
  ·rw [hfree] at e;cases e
  ·rw [hfree] at hc;cases hc
 rcases hx with hk|hk
 ·refine wpAny_storeName_local hk hn (fun h' hn' hs=>?_) hcls
  obtain ⟨oL,_,_,hoL,_⟩:=id hn
  refine h _ ⟨I.ok,I.os,I.bare,⟨fun b o e n hb hx=>?_,fun b o e n hb hx=>?_,I.base.free,fun b o e hx=>?_,I.base.tups,I.base.frzs,I.base.tbls⟩,⟨_,hn',fun j y v' e1 e2 e3=>?_⟩,fun y c e=>?_,I.free,I.freeC,fun p hp=>?_,tracked ⟨oL,hoL,I.free⟩ hs,by simpa using I.len⟩ ⟨_,hs,.inl rfl⟩
  ·exact (hs.2 b (Nat.ne_of_lt (Nat.lt_of_lt_of_le (Heap.lt_size e) I.ok.above))).trans (I.base.keep b o e n hb hx)
  ·obtain ⟨sl,e1⟩:=I.base.slot b o e n hb hx
   exact ⟨sl,(hs.2 b (Nat.ne_of_lt (Nat.lt_of_lt_of_le (Heap.lt_size e) I.ok.above))).trans e1⟩
  ·obtain ⟨o',e1⟩:=I.base.there b o e hx
   exact ⟨o',(hs.2 b (Nat.ne_of_lt (Nat.lt_of_lt_of_le (Heap.lt_size e) I.ok.above))).trans e1⟩
  ·by_cases hj:j=i
   ·subst hj
    rw [hi] at e1;cases e1
    rw [List.getElem?_set_self hiσ] at e2
    cases e2
    exact ⟨u,r,.inl ⟨hk,by simp⟩⟩
   ·rw [List.getElem?_set_ne (Ne.symm hj)] at e2
    obtain ⟨u',r',q⟩:=hl j y v' e1 e2 e3
    refine ⟨u',r',?_⟩
    rcases q with ⟨k,e⟩|⟨k,c,e,z⟩
    ·refine .inl ⟨k,?_⟩
     have:y≠x:=fun e=>hj (WU hN e1 (e ▸ hi))
     simp [this,e]
    ·exact .inr ⟨k,c,e,z.sameBut hs (cne y c e)⟩
  ·obtain ⟨w',z⟩:=I.cell y c e
   exact ⟨w',z.sameBut hs (cne y c e)⟩
  ·obtain ⟨e,n,ne,nf,d⟩:=I.pin p hp
   exact ⟨(hs.2 p.1 ne).trans e,n,ne,nf,d⟩
 ·have hfn:X.fn x=true:=by
   rcases hf with z|z
   ·exact z
   ·rw [z] at hk;cases hk
  obtain ⟨c,hc⟩:=I.ok.has x (.inl hk)
  obtain ⟨w',z⟩:=I.cell x c hc
  refine wpAny_storeName_cell I.ok.kind hk hc z (fun h' hc' hs=>?_)
  obtain ⟨oc,hoc,hocd⟩:=id z
  refine h { s with heap:=h' } ⟨I.ok,I.os,I.bare,⟨fun b o e n hb hx=>?_,fun b o e n hb hx=>?_,I.base.free,fun b o e hx=>?_,I.base.tups,I.base.frzs,I.base.tbls⟩,⟨m,hn.sameBut hs (Ne.symm (cne x c hc)),fun j y v' e1 e2 e3=>?_⟩,fun y c' e=>?_,I.free,I.freeC,fun p hp=>?_,tracked ⟨oc,hoc,I.freeC x c hc⟩ hs,by simpa using I.len⟩ ⟨c,hs,.inr hc⟩
  ·exact (hs.2 b (Nat.ne_of_lt (Nat.lt_of_lt_of_le (Heap.lt_size e) (I.ok.cab x c hfn hc)))).trans (I.base.keep b o e n hb hx)
  ·obtain ⟨sl,e1⟩:=I.base.slot b o e n hb hx
   exact ⟨sl,(hs.2 b (Nat.ne_of_lt (Nat.lt_of_lt_of_le (Heap.lt_size e) (I.ok.cab x c hfn hc)))).trans e1⟩
  ·obtain ⟨o',e1⟩:=I.base.there b o e hx
   exact ⟨o',(hs.2 b (Nat.ne_of_lt (Nat.lt_of_lt_of_le (Heap.lt_size e) (I.ok.cab x c hfn hc)))).trans e1⟩
  ·by_cases hj:j=i
   ·subst hj
    rw [hi] at e1;cases e1
    rw [List.getElem?_set_self hiσ] at e2
    cases e2
    exact ⟨u,r,.inr ⟨.inl hk,c,hc,hc'⟩⟩
   ·rw [List.getElem?_set_ne (Ne.symm hj)] at e2
    obtain ⟨u',r',q⟩:=hl j y v' e1 e2 e3
    refine ⟨u',r',?_⟩
    rcases q with q|⟨k,c',e,z'⟩
    ·exact .inl q
    ·refine .inr ⟨k,c',e,z'.sameBut hs ?_⟩
     rintro rfl
     exact hj (WU hN e1 (I.ok.inj _ _ _ e hc ▸ hi))
  ·by_cases hcc:c'=c
   ·subst hcc;exact ⟨_,hc'⟩
   ·obtain ⟨w2,z2⟩:=I.cell y c' e
    exact ⟨w2,z2.sameBut hs hcc⟩
  ·obtain ⟨e,n,ne,nf,d⟩:=I.pin p hp
   refine ⟨(hs.2 p.1 ?_).trans e,n,ne,nf,d⟩
   intro q
   rw [q,hoc] at e
   have q':oc=p.2:=Option.some.inj e
   exact d w' (by rw [←q'];exact hocd)
theorem Y8{M:Model}{A:Around}{E:Value→Shared→Prop}{i:Nat}{x:Str}{v:V}{u:Value}{Q:Unit→Shared→Prop}(I:Inv X pins σ H s)(hN:X.N.Nodup)(hi:X.N[i]?=some x)(hx:Loc X.env.scope x)(r:yt v u) 
  (h:∀s',Inv X pins (σ.set i (some v)) H s'→Q () s') (hf:X.fn x=true∨X.env.scope.names.lookup x=some .local:=by first|exact .inl rfl|exact .inr rfl|assumption):wpAny M A (storeName X.env x u) Q E s :=
 Wl I hN hi hx r (fun s' I' _=>h s' I') hf
theorem Inv.call'{s':Shared}{ch:List Addr}(I:Inv X pins σ H s)(ho:s'.os=s.os)(u:Un (frs X.stack) ch H H' s.heap s'.heap)(hok:HOk X.prog X.w H' s'.heap)(hg:AllBare s'.gens) 
  (hch:∀b∈ch,(b∈X.ex∨X.s₀.heap.objs.size≤b)∧b≠X.env.locals∧(∀x c,X.env.cells.lookup x=some c→c≠b)∧∀p∈X.pn++pins,p.1≠b):Inv X pins σ H' s':=by
 obtain ⟨h',g',d',t',o'⟩:=s'
 have e:o'=s.os:=ho
 subst e
 exact I.call (g':=g') (t':=t') (d':=d') u hok hg hch
end
abbrev XK:=Value→Option Addr→Hp→Prop
abbrev St:=List (Option V)
abbrev VK:=V→Hp→Prop
abbrev TE:=St→Hp→VK→Prop
abbrev TT:=St→Hp→(Bool→Hp→Prop)→Prop
abbrev TA:=St→Hp→(List V→Hp→Prop)→Prop
structure Ends where
 nx:St→Hp→Prop
 rt:VK
 bk:St→Hp→Prop:=fun _ _=>False
 ct:St→Hp→Prop:=fun _ _=>False
abbrev TS:=Ends→St→Hp→Prop
def EP(X:Cx)(pins:List (Addr×Obj))(σ:St)(Q:VK)(u:Value)(s':Shared):Prop:=∃v H',Inv X pins σ H' s'∧yt v u∧Q v H'
def TP(X:Cx)(pins:List (Addr×Obj))(σ:St)(Q:Bool→Hp→Prop)(b:Bool)(s':Shared):Prop:=∃H',Inv X pins σ H' s'∧Q b H'
def AP(X:Cx)(pins:List (Addr×Obj))(σ:St)(Q:List V→Hp→Prop)(us:List Value)(s':Shared):Prop:=∃vs H',Inv X pins σ H' s'∧z6 vs us∧Q vs H'
def SP(X:Cx)(pins:List (Addr×Obj))(D:Ends)(f:Flow)(s':Shared):Prop :=
 match f with
 | .next=>∃σ' H',Inv X pins σ' H' s'∧D.nx σ' H'
 | .brk=>∃σ' H',Inv X pins σ' H' s'∧D.bk σ' H'
 | .cont=>∃σ' H',Inv X pins σ' H' s'∧D.ct σ' H'
 | .ret u=>∃v σ' H',Inv X pins σ' H' s'∧yt v u∧D.rt v H'
def PE(X:Cx)(e:Expr)(t:TE):Prop :=
 ∀(pins:List (Addr×Obj)) (s:Shared) (σ:St) (H:Hp) (Q:VK),Inv X pins σ H s→t σ H Q→wpAny (model X.prog X.w) X.A (eval e X.env) (EP X pins σ Q) X.xe s
def PT(X:Cx)(e:Expr)(t:TT):Prop :=
 ∀(pins:List (Addr×Obj)) (s:Shared) (σ:St) (H:Hp) (Q:Bool→Hp→Prop),Inv X pins σ H s→t σ H Q→wpAny (model X.prog X.w) X.A (isTrue e X.env (eval e X.env)) (TP X pins σ Q) X.xe s
def PW(X:Cx)(e:Expr)(t:TT):Prop :=
 ∀(whole:Sem Value) (pins:List (Addr×Obj)) (s:Shared) (σ:St) (H:Hp) (Q:Bool→Hp→Prop),Inv X pins σ H s→t σ H Q→wpAny (model X.prog X.w) X.A (isTrue e X.env whole) (TP X pins σ Q) X.xe s
theorem PW.pt{X:Cx}{e:Expr}{t:TT}(h:PW X e t):PT X e t:=h _
def PA(X:Cx)(es:List Expr)(t:TA):Prop :=
 ∀(pos:Pos) (pins:List (Addr×Obj)) (s:Shared) (σ:St) (H:Hp) (Q:List V→Hp→Prop),Inv X pins σ H s→t σ H Q→wpAny (model X.prog X.w) X.A (spliced (backTo pos (starEach es X.env))) (AP X pins σ Q) X.xe s
def PS(X:Cx)(st:Stmt)(t:TS):Prop :=
 ∀(pins:List (Addr×Obj)) (s:Shared) (σ:St) (H:Hp) (D:Ends),Inv X pins σ H s→t D σ H→wpAny (model X.prog X.w) X.A (exec st X.env) (SP X pins D) X.xe s
def PSs(X:Cx)(st:List Stmt)(t:TS):Prop :=
 ∀(pins:List (Addr×Obj)) (s:Shared) (σ:St) (H:Hp) (D:Ends),Inv X pins σ H s→t D σ H→wpAny (model X.prog X.w) X.A (execs st X.env) (SP X pins D) X.xe s
theorem thn{α:Type}{t:Sem α}{Q Q':α→Shared→Prop}{M:Model}{A:Around}{E:Value→Shared→Prop}{s:Shared}(h:wpAny M A t Q E s)(hQ:∀a s,Q a s→Q' a s):wpAny M A t Q' E s:=wpAny_mono h hQ fun _ _ x=>x
end L2
namespace L2
open PySem PySem.Spec PyProof.Rows
section
variable {X:Cx}
def Y9(i:Nat):TE:=fun σ H Q=>∃v,σ[i]?=some (some v)∧Q v H
def tC(v:V):TE:=fun _ H Q=>Q v H
theorem zbh{i:Nat}{x:Str}{pos:Pos}(hN:X.N[i]?=some x)(hv:Vis X.env.scope x)(hd:(x == ("__debug__":Str))=false:=by decide)(hcd:(x == ("__classdict__":Str))=false:=by decide):PE X (.Name x pos) (Y9 i):=by
 intro pins s σ H Q I h
 obtain ⟨v,e,h⟩:=h
 obtain ⟨m,hn,hl⟩:=I.loc
 obtain ⟨u,r,l⟩:=hl i x v hN e hv
 have fin:EP X pins σ Q u s:=⟨v,H,I,r,h⟩
 rcases l with ⟨hk,hm⟩|⟨hk,c,hc,hcell⟩
 ·exact wpAny_Name (wpAny_loadName_local I.ok.kind hk hn hm fin) hd
 ·rcases hk with hk|hk
  ·exact wpAny_Name (wpAny_loadName_cell I.ok.kind hk hc hcell fin) hd
  ·exact wpAny_Name (wpAny_loadName_free I.ok.kind hk hc hcell fin hcd) hd
theorem zbi{i j pos}:PE X (.Constant (.int i) j pos) (tC (.int i)):=fun _ _ _ H _ I h=>wpAny_Constant_int ⟨.int i,H,I.tok _,⟨_,rfl⟩,h⟩
theorem zcV{b j pos}:PE X (.Constant (.bool b) j pos) (tC (.bl b)):=fun _ _ _ H _ I h=>Constant_bool ⟨.bl b,H,I,rfl,h⟩
theorem zbj{j pos}:PE X (.Constant .none j pos) (tC .non):=fun _ _ _ H _ I h=>Constant_none ⟨.non,H,I,rfl,h⟩
theorem US{x j pos}:PE X (.Constant (.str x) j pos) (tC (.str x)):=fun _ _ _ H _ I h=>Calls.Constant_str ⟨.str x,H,I.tok _,⟨_,rfl⟩,h⟩
def Gl(X:Cx)(x:Str):Prop:=X.env.kindOf x=some .globalImplicit
theorem ur{E:Value→Shared→Prop}{pins:List (Addr×Obj)}{s:Shared}{σ:St}{H:Hp}{x:Str}{u:Value}{pos:Pos}{Q:Value→Shared→Prop}(I:Inv X pins σ H s)(hg:Gl X x)(hm:X.mg x=some u)(h:Q u s) 
  (hd:(x == ("__debug__":Str))=false:=by decide):wpAny (model X.prog X.w) X.A (eval (.Name x pos) X.env) Q E s :=
 Calls.Name_function_global I.ok.kind hg (Calls.loadGlobal_global (by rw [I.ok.glob];exact I.mod.glob.keeps I.bk) hm h) hd
theorem Yo{E:Value→Shared→Prop}{pins:List (Addr×Obj)}{s:Shared}{σ:St}{H:Hp}{x:Str}{u:Value}{pos:Pos}{Q:Value→Shared→Prop}(I:Inv X pins σ H s)(hg:Gl X x)(hm:X.mg x=none)(hv:bootBuiltins x=some u)(h:Q u s) 
  (hn:x≠"__name__":=by decide) (hd:(x == ("__debug__":Str))=false:=by decide):wpAny (model X.prog X.w) X.A (eval (.Name x pos) X.env) Q E s:=by
 obtain ⟨mb,h1,h2⟩:=I.mod.blt
 exact Calls.Name_function_global I.ok.kind hg (Calls.loadGlobal_builtin (by rw [I.ok.glob];exact I.mod.glob.keeps I.bk) hm (by rw [I.ok.blt];exact h1.keeps I.bk) ((h2 x hn).trans hv) h) hd
theorem zO{x:Str}{v:V}{u:Value}{pos:Pos}(hg:Gl X x)(hm:X.mg x=some u)(r:yt v u)(hd:(x == ("__debug__":Str))=false:=by decide):PE X (.Name x pos) (tC v) :=
 fun _ _ _ H _ I h=>ur I hg hm ⟨v,H,I,r,h⟩ hd
theorem ut{x:Str}{v:V}{u:Value}{pos:Pos}(hg:Gl X x)(hm:X.mg x=none)(hv:bootBuiltins x=some u)(r:yt v u)(hn:x≠"__name__":=by decide)(hd:(x == ("__debug__":Str))=false:=by decide):PE X (.Name x pos) (tC v) :=
 fun _ _ _ H _ I h=>Yo I hg hm hv ⟨v,H,I,r,h⟩ hn hd
variable {a b:Expr} {ta tb:TE} {pos:Pos}
def tB(t:TE):TT:=fun σ H Q=>t σ H fun x H1=>∃c,x=.bl c∧Q c H1
theorem zbk{e:Expr}{t:TE}(h:PE X e t)(he:∀whole,isTrue e X.env whole=(do let v ←whole;standAt e.pos;holding [v] (truthy v)):=by intro _;rfl):PT X e (tB t):=by
 intro pins s σ H Q I hw
 refine isTrue_plain (thn (h pins s σ H _ I hw) fun v s1 ⟨x,H1,I1,r1,q1⟩=>?_) (he _)
 obtain ⟨d,rfl,q⟩:=q1
 cases r1
 exact wpAny_truthy_bool ⟨H1,I1,q⟩
variable {tA tB':TT} {rest:List Expr}
def tOr(t u:TT):TT:=fun σ H Q=>t σ H fun c H1=>if c=true then Q true H1 else u σ H1 Q
def zeb(t:TT):TT:=fun σ H Q=>t σ H fun c H1=>Q (!c) H1
theorem zbl(ha:PT X a tA):PW X (.BoolOp .Or [a] pos) tA:=by
 intro wh pins s σ H Q I h
 refine isTrue_or (thn (ha pins s σ H Q I h) fun c s1 e=>?_)
 cases c with
 | false=>exact isTrue_or_nil e
 | true=>exact e
theorem zcW(ha:PT X a tA)(hb:PW X (.BoolOp .Or (b::rest) pos) tB'):PW X (.BoolOp .Or (a::b::rest) pos) (tOr tA tB'):=by
 intro wh pins s σ H Q I h
 refine isTrue_or (thn (ha pins s σ H _ I h) fun c s1 ⟨H1,I1,q1⟩=>?_)
 cases c with
 | true=>exact ⟨H1,I1,q1⟩
 | false=>exact hb wh pins s1 σ H1 Q I1 q1
theorem zbm(ha:PT X a tA):PT X (.UnaryOp .Not a pos) (zeb tA):=by
 intro pins s σ H Q I h
 exact isTrue_not (ha pins s σ H (fun c H1=>Q (!c) H1) I h)
def zcX(ta tb:TE):TE:=fun σ H Q=>ta σ H fun x H1=>∃c,x=.bl c∧if c=true then tb σ H1 Q else Q (.bl false) H1
theorem zbn{op}{t:TE}(h:PE X a t):PE X (.BoolOp op [a] pos) t:=fun pins s σ H Q I hw=>BoolOp_one (h pins s σ H Q I hw)
theorem zbo(ha:PE X a ta)(hb:PE X (.BoolOp .And (b::rest) pos) tb):PE X (.BoolOp .And (a::b::rest) pos) (zcX ta tb):=by
 intro pins s σ H Q I h
 refine BoolOp_and (thn (ha pins s σ H _ I h) fun v s1 ⟨x,H1,I1,r1,q1⟩=>?_)
 obtain ⟨c,rfl,q1⟩:=q1
 cases r1
 refine wpAny_truthy_bool ?_
 cases c with
 | true=>exact hb pins s1 σ H1 Q I1 q1
 | false=>exact ⟨.bl false,H1,I1,rfl,q1⟩
def tIf(t:TT)(ta tb:TE):TE:=fun σ H Q=>t σ H fun c H1=>if c=true then ta σ H1 Q else tb σ H1 Q
theorem QK{c:Expr}(hc:PT X c tA)(ha:PE X a ta)(hb:PE X b tb):PE X (.IfExp c a b pos) (tIf tA ta tb):=by
 intro pins s σ H Q I h
 refine wpAny_IfExp (thn (hc pins s σ H _ I h) fun d s1 ⟨H1,I1,q1⟩=>?_)
 cases d with
 | true=>exact ha pins s1 σ H1 Q I1 q1
 | false=>exact hb pins s1 σ H1 Q I1 q1
end
end L2
namespace L2
open PySem PySem.Spec PyProof.Rows
def SqL(K:PySem.W.Frag)(H:Hp)(a:Addr)(xs:List V):Prop :=
 Rd H a (.lst xs) ∨
  ∃(o:Obj) (its:Array Value) (n:Nat),K.lookup a=some o∧o.cls=.type "list"∧o.dict=none∧o.data=.seq its n∧its.size≤sizeLine∧z6 xs its.toList
def SqT(K:PySem.W.Frag)(H:Hp)(a:Addr)(xs:List V):Prop :=
 Rd H a (.tup xs) ∨
  ∃(o:Obj) (its:Array Value) (n:Nat),K.lookup a=some o∧o.cls=.type "tuple"∧o.data=.seq its n∧its.size≤sizeLine∧z6 xs its.toList
def zec:Value→Option V
 | .none=>some .non
 | .bool b=>some (.bl b)
 | .int i _=>some (.int i)
 | .str x _=>some (.str x)
 | .bytes b _=>some (.byt b)
 | .float b _=>some (.flt b)
 | .ref a=>some (.ref a)
 | .type n=>some (.ty n)
 | _=>none
theorem yt.abs{x:V}{u:Value}(r:yt x u):zec u=some x:=by
 cases x with
 | non=>cases r;rfl
 | bl _=>cases r;rfl
 | int _=>obtain ⟨t,rfl⟩:=r;rfl
 | str _=>obtain ⟨t,rfl⟩:=r;rfl
 | byt _=>obtain ⟨t,rfl⟩:=r;rfl
 | flt _=>obtain ⟨t,rfl⟩:=r;rfl
 | ref _=>cases r;rfl
 | ty _=>cases r;rfl
theorem yt.inj{x y:V}{u:Value}(r:yt x u)(q:yt y u):x=y:=Option.some.inj (r.abs.symm.trans q.abs)
theorem z6.inj:∀{xs ys:List V} {us:List Value},z6 xs us→z6 ys us→xs=ys
 | _,_,_,.nil,.nil=>rfl
 | _,_,_,.cons r t,.cons r' t'=>by rw [r.inj r',z6.inj t t']
section
variable {X:Cx} {pins:List (Addr×Obj)} {σ:St} {H:Hp} {s:Shared} {a:Addr} {xs ys:List V}
theorem SqL.of{K:PySem.W.Frag}(h:H a=some (.lst xs)):SqL K H a xs:=.inl (.inl h)
theorem SqT.of{K:PySem.W.Frag}(h:H a=some (.tup xs)):SqT K H a xs:=.inl (.inl h)
theorem Inv.list(I:Inv X pins σ H s)(h:SqL X.K H a xs):∃its:List Value,z6 xs its∧PlainL s.heap a its.toArray∧xs.length≤sizeLine:=by
 rcases h with h|⟨o,its,n,hk,hc,hd,hs,hz,r⟩
 ·obtain ⟨z,its,n,r,e⟩:=h.ok I.hok
  exact ⟨its,r,⟨_,n,e,rfl,rfl,rfl⟩,z⟩
 ·refine ⟨its.toList,r,⟨o,n,I.kIn a o hk,hc,hd,by simpa using hs⟩,?_⟩
  have e:=r.length
  simp only [Array.length_toList] at e
  omega
theorem Inv.tuple(I:Inv X pins σ H s)(h:SqT X.K H a xs):∃its:List Value,z6 xs its∧IsTup s.heap a its.toArray∧xs.length≤sizeLine:=by
 rcases h with h|⟨o,its,n,hk,hc,hs,hz,r⟩
 ·obtain ⟨z,its,r,p⟩:=h.ok I.hok
  exact ⟨its,r,p,z⟩
 ·refine ⟨its.toList,r,⟨o,I.kIn a o hk,hc,n,by simpa using hs⟩,?_⟩
  have e:=r.length
  simp only [Array.length_toList] at e
  omega
theorem Inv.list_inj(I:Inv X pins σ H s)(h:SqL X.K H a xs)(h':SqL X.K H a ys):xs=ys:=by
 obtain ⟨its,r,⟨o,n,e,_,_,d⟩,_⟩:=I.list h
 obtain ⟨its',r',⟨o',n',e',_,_,d'⟩,_⟩:=I.list h'
 rw [e] at e';cases e'
 rw [d] at d'
 injection d' with d1 _
 have:its=its':=by simpa using congrArg Array.toList d1
 subst this
 exact r.inj r'
theorem Inv.tuple_inj(I:Inv X pins σ H s)(h:SqT X.K H a xs)(h':SqT X.K H a ys):xs=ys:=by
 obtain ⟨its,r,⟨o,e,_,n,d⟩,_⟩:=I.tuple h
 obtain ⟨its',r',⟨o',e',_,n',d'⟩,_⟩:=I.tuple h'
 rw [e] at e';cases e'
 rw [d] at d'
 injection d' with d1 _
 have:its=its':=by simpa using congrArg Array.toList d1
 subst this
 exact r.inj r'
end
abbrev Cx.wish(X:Cx)(E:Value→Shared→Prop):Cx:={ X with xe:=E }
abbrev Cx.nox(X:Cx):Cx:=X.wish fun _ _=>False
theorem Cx.Ok.wish{X:Cx}(ok:X.Ok)(E:Value→Shared→Prop):(X.wish E).Ok :=
 ⟨ok.mod,ok.kind,ok.glob,ok.blt,ok.above,ok.inj,ok.has,ok.cab,ok.hd,ok.frames,ok.stk,ok.exf,ok.bs,ok.bsz,ok.noex,ok.exfs,ok.funs,ok.frf⟩
theorem Cx.Ok.unwish{X:Cx}{E:Value→Shared→Prop}(ok:(X.wish E).Ok):X.Ok :=
 ⟨ok.mod,ok.kind,ok.glob,ok.blt,ok.above,ok.inj,ok.has,ok.cab,ok.hd,ok.frames,ok.stk,ok.exf,ok.bs,ok.bsz,ok.noex,ok.exfs,ok.funs,ok.frf⟩
section
variable {X:Cx} {pins:List (Addr×Obj)} {σ:St} {H:Hp} {s:Shared} {E:Value→Shared→Prop}
theorem Inv.wish(I:Inv X pins σ H s)(E:Value→Shared→Prop):Inv (X.wish E) pins σ H s:=⟨I.ok.wish E,I.os,I.bare,I.base,I.loc,I.cell,I.free,I.freeC,I.pin,I.hok,I.len⟩
theorem Inv.unwish(I:Inv (X.wish E) pins σ H s):Inv X pins σ H s:=⟨I.ok.unwish,I.os,I.bare,I.base,I.loc,I.cell,I.free,I.freeC,I.pin,I.hok,I.len⟩
theorem SP.unwish{D:Ends}{f:Flow}{s':Shared}(h:SP (X.wish E) pins D f s'):SP X pins D f s':=by
 cases f with
 | next=>obtain ⟨σ',H',I,q⟩:=h;exact ⟨σ',H',I.unwish,q⟩
 | brk=>obtain ⟨σ',H',I,q⟩:=h;exact ⟨σ',H',I.unwish,q⟩
 | cont=>obtain ⟨σ',H',I,q⟩:=h;exact ⟨σ',H',I.unwish,q⟩
 | ret u=>obtain ⟨v,σ',H',I,r,q⟩:=h;exact ⟨v,σ',H',I.unwish,r,q⟩
theorem PE.nox{e:Expr}{t:TE}(h:PE X.nox e t):PE X e t:=fun pins s σ H Q I hw =>
 wpAny_mono (h pins s σ H Q (I.wish _) hw) (fun _ _ hh3'=>(by obtain ⟨v,H',I',r,q⟩:=hh3';exact ⟨v,H',I'.unwish,r,q⟩)) fun _ _ z=>False.elim z
theorem PT.nox{e:Expr}{t:TT}(h:PT X.nox e t):PT X e t:=fun pins s σ H Q I hw =>
 wpAny_mono (h pins s σ H Q (I.wish _) hw) (fun _ _ hh4'=>(by obtain ⟨H',I',q⟩:=hh4';exact ⟨H',I'.unwish,q⟩)) fun _ _ z=>False.elim z
theorem PSs.nox{st:List Stmt}{t:TS}(h:PSs X.nox st t):PSs X st t:=fun pins s σ H D I hw =>
 wpAny_mono (h pins s σ H D (I.wish _) hw) (fun _ _ q=>q.unwish) fun _ _ z=>False.elim z
end
section
variable {X:Cx} {st:Stmt} {rest:List Stmt} {t u:TS} {e:Expr} {te:TE} {pos:Pos}
def zcY:TS:=fun D σ H=>D.nx σ H
def zed(t u:TS):TS:=fun D σ H=>t { D with nx:=u D } σ H
theorem zav:PSs X [] zcY:=fun _ _ σ H _ I h=>wpAny_execs_nil ⟨σ,H,I,h⟩
theorem Z2(h1:PS X st t)(h2:PSs X rest u):PSs X (st::rest) (zed t u):=by
 intro pins s σ H D I h
 refine wpAny_execs_cons (thn (h1 pins s σ H { D with nx:=u D } I h) fun f s1 q=>?_)
 cases f with
 | next =>
  obtain ⟨σ',H',I',q⟩:=q
  exact h2 pins s1 σ' H' D I' q
 | ret v=>exact q
 | brk=>exact q
 | cont=>exact q
theorem zaw(h1:PS X st t):PSs X [st] t:=by
 intro pins s σ H D I h
 refine wpAny_execs_cons (thn (h1 pins s σ H D I h) fun f s1 q=>?_)
 cases f with
 | next=>exact wpAny_execs_nil q
 | ret v=>exact q
 | brk=>exact q
 | cont=>exact q
theorem Inv.quiet{pins:List (Addr×Obj)}{σ:St}{H:Hp}{s:Shared}(I:Inv X pins σ H s):interactive X.env=false:=by simp [interactive,I.ok.kind]
def zcZ(te:TE):TS:=fun D σ H=>te σ H fun _ H1=>D.nx σ H1
theorem YK(he:PE X e te)(hs:swapsWith e none pos.line X.env=pure false:=by rfl):PS X (.Expr e pos) (zcZ te):=by
 intro pins s σ H D I h
 exact wpAny_Expr_any (thn (he pins s σ H _ I h) fun v s1 hh5'=>(by obtain ⟨x,H1,I1,r1,q1⟩:=hh5';exact ⟨σ,H1,I1,q1⟩)) I.quiet hs
def zee(te:TE):TS:=fun D σ H=>te σ H D.rt
theorem UT(he:PE X e te):PS X (.Return (some e) pos) (zee te):=by
 intro pins s σ H D I h
 exact wpAny_Return_some (thn (he pins s σ H _ I h) fun v s1 hh6'=>(by obtain ⟨x,H1,I1,r1,q1⟩:=hh6';exact ⟨x,σ,H1,I1,r1,q1⟩))
def zef(c:TT)(t u:TS):TS:=fun D σ H=>c σ H fun b H1=>if b=true then t D σ H1 else u D σ H1
theorem J0{c:Expr}{a b:List Stmt}{tc:TT}(hc:PT X c tc)(ha:PSs X a t)(hb:PSs X b u):PS X (.If c a b pos) (zef tc t u):=by
 intro pins s σ H D I h
 refine wpAny_If (thn (hc pins s σ H _ I h) fun d s1 ⟨H1,I1,q1⟩=>?_)
 cases d with
 | true=>exact ha pins s1 σ H1 D I1 q1
 | false=>exact hb pins s1 σ H1 D I1 q1
def zbp:TS:=fun _ _ _=>False
theorem Wm{sts:List Stmt}:PSs X sts zbp:=fun _ _ _ _ _ _ h=>h.elim
end
abbrev TG:=V→St→Hp→(St→Hp→Prop)→Prop
abbrev TGs:=List V→St→Hp→(St→Hp→Prop)→Prop
def PG(X:Cx)(target:Expr)(t:TG):Prop :=
 ∀(pins:List (Addr×Obj)) (s:Shared) (σ:St) (H:Hp) (v:V) (u:Value) (Q:St→Hp→Prop),Inv X pins σ H s→yt v u→t v σ H Q →
  wpAny (model X.prog X.w) X.A (assign target X.env u) (fun _ s'=>∃σ' H',Inv X pins σ' H' s'∧Q σ' H') X.xe s
def PGs(X:Cx)(ts:List Expr)(t:TGs):Prop :=
 ∀(pins:List (Addr×Obj)) (s:Shared) (σ:St) (H:Hp) (vs:List V) (us:List Value) (Q:St→Hp→Prop),Inv X pins σ H s→z6 vs us→t vs σ H Q →
  wpAny (model X.prog X.w) X.A (assignInOrder ((assignEach ts X.env).map (·.2)) us) (fun _ s'=>∃σ' H',Inv X pins σ' H' s'∧Q σ' H') X.xe s
abbrev QL:=V→V→V→Hp→(Hp→Prop)→Prop
def zbq(X:Cx)(t:QL):Prop :=
 ∀(pins:List (Addr×Obj)) (s:Shared) (σ:St) (H:Hp) (o i v:V) (ov iv u:Value) (Q:Hp→Prop),Inv X pins σ H s→yt o ov→yt i iv→yt v u→t o i v H Q →
  wpAny (model X.prog X.w) X.A (setItem ov iv u) (fun _ s'=>∃H',Inv X pins σ H' s'∧Q H') X.xe s
section
variable {X:Cx} {pos:Pos}
def Xn(i:Nat):TG:=fun v σ H Q=>Q (σ.set i (some v)) H
theorem zax{i:Nat}{x:Str}(hN:X.N.Nodup)(hi:X.N[i]?=some x)(hx:Loc X.env.scope x)(hf:X.fn x=true∨X.env.scope.names.lookup x=some .local:=by first|exact .inl rfl|exact .inr rfl|assumption):PG X (.Name x pos) (Xn i):=by
 intro pins s σ H v u Q I r h
 exact wpAny_assign_Name (Y8 I hN hi hx r (fun s' I'=>⟨_,H,I',h⟩) hf)
def zeg:TGs:=fun vs σ H Q=>vs=[]∧Q σ H
def zc0(t:TG)(u:TGs):TGs:=fun vs σ H Q=>∃v r,vs=v::r∧t v σ H fun σ' H'=>u r σ' H' Q
theorem zay:PGs X [] zeg:=by
 intro pins s σ H vs us Q I r h
 obtain ⟨e,h⟩:=h
 subst e
 cases r
 exact assignInOrder_nil ⟨σ,H,I,h⟩
theorem QM{e:Expr}{es:List Expr}{t:TG}{u:TGs}(h1:PG X e t)(h2:PGs X es u) 
  (hs:(assignEach (e::es) X.env).map (·.2)=assign e X.env::(assignEach es X.env).map (·.2):=by rfl):PGs X (e::es) (zc0 t u):=by
 intro pins s σ H vs us Q I r h
 obtain ⟨v,vr,e1,h⟩:=h
 subst e1
 cases r with
 | cons r rr =>
  rw [hs]
  refine assignInOrder_cons (thn (h1 pins s σ H _ _ _ I r h) fun _ s1 ⟨σ1,H1,I1,q1⟩=>?_)
  exact h2 pins s1 σ1 H1 _ _ Q I1 rr q1
def zeh(K:PySem.W.Frag)(n:Nat)(t:TGs):TG:=fun v σ H Q=>∃a xs,v=.ref a∧SqT K H a xs∧xs.length=n∧t xs σ H Q
theorem zbr{es:List Expr}{k:Nat}{t:TGs}{n:Nat}(hc:X.calm=true)(h:PGs X es t) 
  (hn:(assignEach es X.env).length=n:=by rfl) (hst:(assignEach es X.env).findIdx? (·.1)=none:=by rfl):PG X (.Tuple es k pos) (zeh X.K n t):=by
 intro pins s σ H v u Q I r hw
 obtain ⟨a,xs,e1,hq,hl,hw⟩:=hw
 subst e1
 cases r
 obtain ⟨its,rv,ht,hz⟩:=I.tuple hq
 refine assign_Tuple_tuple (I.ok.hd hc) ht (by simp [hn,←hl,rv.length]) hst fun h' hx=>?_
 have I1:Inv X pins σ H { s with heap:=h' }:=I.kept (t':=s.toks) fun b o e=>hx b o (Nat.ne_of_lt (Heap.lt_size e)) e
 exact h pins _ σ H xs _ Q I1 (by simpa using rv) hw
def zei(to ti:TE)(t:QL):TG:=fun v σ H Q=>to σ H fun o H1=>ti σ H1 fun i H2=>t o i v H2 fun H3=>Q σ H3
theorem zbs{o i:Expr}{to ti:TE}{t:QL}(ho:PE X o to)(hi:PE X i ti)(hs:zbq X t) 
  (ha:∀v,assign (.Subscript o i pos) X.env v=(do
   let ov ←holding [v] (eval o X.env)
   let iv ←holding [v,ov] (eval i X.env)
   standAt pos
   holding [v,ov,iv] (setItem ov iv v)
   release [v,ov,iv] []):=by intro _;rfl):PG X (.Subscript o i pos) (zei to ti t):=by
 intro pins s σ H v u Q I r h
 rw [ha]
 refine wpAny_bind (wpAny_holding (thn (ho pins s σ H _ I h) fun ov s1 ⟨x,H1,I1,r1,q1⟩=>?_))
 refine wpAny_bind (wpAny_holding (thn (hi pins s1 σ H1 _ I1 q1) fun iv s2 ⟨y,H2,I2,r2,q2⟩=>?_))
 refine wpAny_bind (wpAny_standAt (wpAny_bind (wpAny_holding (thn (hs pins s2 σ H2 x y v ov iv u _ I2 r1 r2 r q2) fun _ s3 ⟨H3,I3,q3⟩=>?_))))
 exact wpAny_release ⟨σ,H3,I3,q3⟩
def WV(te:TE)(g:TG):TS:=fun D σ H=>te σ H fun x H1=>g x σ H1 D.nx
theorem UU{tg e:Expr}{te:TE}{g:TG}(he:PE X e te)(hg:PG X tg g)(hs:swapsWithSole [tg] e pos.line X.env=pure false:=by rfl)(hw:swappedStores [tg] e X.env=pure none:=by rfl) 
  (h1:(assignEach [tg] X.env).map (·.2)=[assign tg X.env]:=by rfl):PS X (.Assign [tg] e pos) (WV te g):=by
 intro pins s σ H D I h
 refine wpAny_Assign_stores (thn (he pins s σ H _ I h) fun v s1 ⟨x,H1,I1,r1,q1⟩=>?_) hs hw
 rw [h1]
 exact thn (hg pins s1 σ H1 x v _ I1 r1 q1) fun _ s2 q=>q
theorem WW{i:Nat}{x:Str}{e:Expr}{te:TE}{pos':Pos}(hN:X.N.Nodup)(hi:X.N[i]?=some x)(hx:Loc X.env.scope x)(he:PE X e te)(hs:swapsWith e (some (.Name x pos')) pos.line X.env=pure false:=by rfl)(hf:X.fn x=true∨X.env.scope.names.lookup x=some .local:=by first|exact .inl rfl|exact .inr rfl|assumption):
  PS X (.Assign [.Name x pos'] e pos) (WV te (Xn i)):=by
 intro pins s σ H D I h
 refine wpAny_Assign_Name (thn (he pins s σ H _ I h) fun v s1 ⟨y,H1,I1,r1,q1⟩=>?_) hs
 exact Y8 I1 hN hi hx r1 (fun s2 I2=>⟨_,H1,I2,q1⟩) hf
end
section
variable {X:Cx} {pos:Pos}
end
structure It where
 go:Nat→Hp→Prop
 yld:Nat→Hp→V→Hp→Prop
 stop:Nat→Hp→Prop
def vQ(X:Cx)(pins:List (Addr×Obj))(H:Hp)(b:Addr):Prop :=
 H b=none∧b≠X.env.locals∧b ∉ X.fs∧(b∈X.ex∨X.s₀.heap.objs.size≤b)∧(∀x c,X.env.cells.lookup x=some c→c≠b)∧∀p∈X.pn++pins,p.1≠b
theorem Inv.fpOk{X:Cx}{pins:List (Addr×Obj)}{σ:St}{H H':Hp}{s:Shared}{b:Addr}(I:Inv X pins σ H s)(hb:s.heap.objs.size≤b)(hn:H' b=none):vQ X pins H' b:=by
 refine ⟨hn,Nat.ne_of_gt (Nat.lt_of_lt_of_le I.lt hb),I.nofs hb,.inr (Nat.le_trans I.sz hb),fun x c e z=>?_,fun p hp z=>?_⟩
 ·obtain ⟨v,q⟩:=I.cell x c e
  exact absurd (Nat.lt_of_lt_of_le q.lt (by rw [z];exact hb)) (Nat.lt_irrefl _)
 ·exact absurd (Nat.lt_of_lt_of_le (Heap.lt_size (I.pin p hp).1) (by rw [z];exact hb)) (Nat.lt_irrefl _)
structure Turn (P:Program) (w:World) (K:PySem.W.Frag) (tg:Expr) (J:It) (fp:List Addr) (it:Addr) (tn:Nat→Heap→Prop):Prop where
 mem:it∈fp
 obj:∀i h,tn i h→∀b∈fp,∃o,h.get? b=some o∧∀v,o.data≠.cell v
 keep:∀i h h',tn i h→(∀b∈fp,∀o,h.get? b=some o→h'.get? b=some o)→tn i h'
 item:∀(X:Cx),X.prog=P→X.w=w→X.K=K→X.calm=true→∀(i:Nat) (pins:List (Addr×Obj)) (s:Shared) (σ:St) (H:Hp) (E:Value→Shared→Prop),Inv X pins σ H s→(∀b∈fp,vQ X pins H b)→tn i s.heap→J.go i H →
  wpAny (model P w) X.A (pyNext (.ref it)) (fun r s1=>∃u,r=some u ∧
   wpAny (model P w) X.A (letOwnedTupleGo tg (.ref it) u) (fun _ s2=>∃x H',Inv X pins σ H' s2∧yt x u∧J.yld i H x H'∧tn (i+1) s2.heap∧∀b∈fp,H' b=none) E s1) E s
 done:∀(X:Cx),X.prog=P→X.w=w→X.K=K→X.calm=true→∀(i:Nat) (pins:List (Addr×Obj)) (s:Shared) (σ:St) (H:Hp) (E:Value→Shared→Prop),Inv X pins σ H s→(∀b∈fp,vQ X pins H b)→tn i s.heap→J.stop i H →
  wpAny (model P w) X.A (pyNext (.ref it)) (fun r s1=>r=none∧Inv X pins σ H s1) E s
 self:∀(A:Around) (i:Nat) (s:Shared) (Q:Value→Shared→Prop) (E:Value→Shared→Prop),tn i s.heap→Q (.ref it) s→wpAny (model P w) A (pyIter (.ref it)) Q E s
abbrev TI:=St→Hp→(It→Hp→Prop)→Prop
def PIE(X:Cx)(pins:List (Addr×Obj))(σ:St)(tg:Expr)(R:It→Hp→Prop)(itv:Value)(s2:Shared):Prop :=
 ∃(it:Addr) (fp:List Addr) (tn:Nat→Heap→Prop) (J:It) (H':Hp),itv=.ref it∧Inv X pins σ H' s2∧Turn X.prog X.w X.K tg J fp it tn∧tn 0 s2.heap∧(∀b∈fp,vQ X pins H' b)∧R J H'
def PI(X:Cx)(tg iter:Expr)(wi:TI):Prop :=
 ∀(pins:List (Addr×Obj)) (s:Shared) (σ:St) (H:Hp) (R:It→Hp→Prop),Inv X pins σ H s→wi σ H R →
  wpAny (model X.prog X.w) X.A (eval iter X.env) (fun v s1=>wpAny (model X.prog X.w) X.A (pyIter v) (PIE X pins σ tg R) X.xe s1) X.xe s
theorem VR{M : Model}{A : Around}{E : Value → Shared → Prop}{s : Shared}{tg : Expr}{it : Addr}{u : Value}{o : Obj}{n : String}{vs : Array Value}{Q : Unit → Shared → Prop}(ho : s.heap.get? it = some o)(hc : o.cls = .type n)(hd : o.data = .fields vs) 
    (hn : ["enumerate", "zip", "dict_itemiterator", "dict_reverseitemiterator", "odict_iterator", "itertools.zip_longest", "itertools.pairwise"].contains n = false) (hQ : Q () s) : wpAny M A (letOwnedTupleGo tg (.ref it) u) Q E s := by
  unfold letOwnedTupleGo
  cases tg <;> first
    | exact wpAny_pure hQ
    | (cases u <;> first
        | exact wpAny_pure hQ
        | (refine wpAny_bind (wpAny_load ho ?_)
           rw [hc, hd]
           show wpAny M A (if (["enumerate", "zip", "dict_itemiterator", "dict_reverseitemiterator", "odict_iterator", "itertools.zip_longest", "itertools.pairwise"].contains n && vs[0]? == some (rawInt _)) = true then _ else _) Q E s
           rw [if_neg (by intro h; rw [hn, Bool.false_and] at h; cases h)]
           exact wpAny_pure hQ))
def Itl(K:PySem.W.Frag)(a:Addr):It :=
 ⟨fun i H=>∃xs x,SqL K H a xs∧xs[i]?=some x,fun i H x H'=>H'=H∧∀xs,SqL K H a xs→xs[i]?=some x,fun i H=>∃xs,SqL K H a xs∧xs.length≤i⟩
def Itt(K:PySem.W.Frag)(a:Addr):It :=
 ⟨fun i H=>∃xs x,SqT K H a xs∧xs[i]?=some x,fun i H x H'=>H'=H∧∀xs,SqT K H a xs→xs[i]?=some x,fun i H=>∃xs,SqT K H a xs∧xs.length≤i⟩
def Itr(lo:Int)(n:Nat):It:=⟨fun i _=>i < n,fun i H x H'=>H'=H∧x=.int (lo+i),fun i _=>n≤i⟩
theorem UV{P:Program}{w:World}{K:PySem.W.Frag}{tg:Expr}(a it:Addr):Turn P w K tg (Itl K a) [it] it (fun i h=>h.IsListIter it a i) where
 mem:=by simp
 obj:=fun i h st b hb=>by
  have e:b=it:=by simpa using hb
  subst e
  obtain ⟨o,e,c,d⟩:=st
  exact ⟨o,e,fun v z=>by rw [d] at z;cases z⟩
 keep:=fun i h h' st k=>st.at fun o e=>k it (by simp) o e
 item:=by
  intro X hP hw hK hc i pins s σ H E I hf st hg
  subst hP hw hK
  obtain ⟨xs,x,hq,hx⟩:=hg
  obtain ⟨its,rv,p,hz⟩:=I.list hq
  obtain ⟨u,hu,ru⟩:=rv.get hx
  obtain ⟨f0,f1,f2,f3,f4,f5⟩:=hf it (by simp)
  refine wpAny_pyNext_list_item st p.isList (x:=u) (by simpa using hu) fun h' st' sb=>?_
  have I1:Inv X pins σ H { s with heap:=h' }:=I.turned (t':=s.toks) (fun b o hb e=>(sb.2 b hb).trans e) f0 f1 f3 f4 f5
  obtain ⟨o,e,c,d⟩:=id st'
  exact ⟨u,rfl,VR (s:={ s with heap:=h' }) e c d (by decide) ⟨x,H,I1,ru,⟨rfl,fun ys hy=>by rw [I.list_inj hy hq];exact hx⟩,st',fun b hb=>(hf b hb).1⟩⟩
 done:=by
  intro X hP hw hK hc i pins s σ H E I hf st hg
  subst hP hw hK
  obtain ⟨xs,hq,hx⟩:=hg
  obtain ⟨its,rv,p,hz⟩:=I.list hq
  obtain ⟨f0,f1,f2,f3,f4,f5⟩:=hf it (by simp)
  have hl:=rv.length
  exact wpAny_pyNext_list_end (I.ok.hd hc) st p.isList (by simp;omega) fun h' eb=>⟨rfl,I.turned (t':=s.toks) (fun b o hb e=>eb b o hb e) f0 f1 f3 f4 f5⟩
 self:=fun _ _ _ _ _ st h=>wpAny_pyIter_listiter st h
theorem VS{P:Program}{w:World}{K:PySem.W.Frag}{tg:Expr}(a it:Addr):Turn P w K tg (Itt K a) [it] it (fun i h=>h.IsTupleIter it a i) where
 mem:=by simp
 obj:=fun i h st b hb=>by
  have e:b=it:=by simpa using hb
  subst e
  obtain ⟨o,e,c,d⟩:=st
  exact ⟨o,e,fun v z=>by rw [d] at z;cases z⟩
 keep:=fun i h h' st k=>st.at fun o e=>k it (by simp) o e
 item:=by
  intro X hP hw hK hc i pins s σ H E I hf st hg
  subst hP hw hK
  obtain ⟨xs,x,hq,hx⟩:=hg
  obtain ⟨its,rv,p,hz⟩:=I.tuple hq
  obtain ⟨u,hu,ru⟩:=rv.get hx
  obtain ⟨f0,f1,f2,f3,f4,f5⟩:=hf it (by simp)
  refine wpAny_pyNext_tuple_item st (show s.heap.IsTuple a its.toArray from p) (x:=u) (by simpa using hu) fun h' st' sb=>?_
  have I1:Inv X pins σ H { s with heap:=h' }:=I.turned (t':=s.toks) (fun b o hb e=>(sb.2 b hb).trans e) f0 f1 f3 f4 f5
  obtain ⟨o,e,c,d⟩:=id st'
  exact ⟨u,rfl,VR (s:={ s with heap:=h' }) e c d (by decide) ⟨x,H,I1,ru,⟨rfl,fun ys hy=>by rw [I.tuple_inj hy hq];exact hx⟩,st',fun b hb=>(hf b hb).1⟩⟩
 done:=by
  intro X hP hw hK hc i pins s σ H E I hf st hg
  subst hP hw hK
  obtain ⟨xs,hq,hx⟩:=hg
  obtain ⟨its,rv,p,hz⟩:=I.tuple hq
  obtain ⟨f0,f1,f2,f3,f4,f5⟩:=hf it (by simp)
  have hl:=rv.length
  exact wpAny_pyNext_tuple_end (I.ok.hd hc) st (show s.heap.IsTuple a its.toArray from p) (by simp;omega) fun h' eb=>⟨rfl,I.turned (t':=s.toks) (fun b o hb e=>eb b o hb e) f0 f1 f3 f4 f5⟩
 self:=fun _ _ _ _ _ st h=>wpAny_pyIter_tupleiter st h
theorem VT{P:Program}{w:World}{K:PySem.W.Frag}{tg:Expr}(it:Addr)(lo:Int)(n:Nat):Turn P w K tg (Itr lo n) [it] it (fun i h=>IsRangeIter h it (lo+(i:Nat) * 1) ((n:Int) - (i:Nat)) 1) where
 mem:=by simp
 obj:=fun i h st b hb=>by
  have e:b=it:=by simpa using hb
  subst e
  exact ⟨_,st,fun v z=>by
   have z':Data.fields _=Data.cell v:=z
   cases z'⟩
 keep:=fun i h h' st k=>k it (by simp) _ st
 item:=by
  intro X hP hw hK hc i pins s σ H E I hf st hg
  subst hP hw hK
  obtain ⟨f0,f1,f2,f3,f4,f5⟩:=hf it (by simp)
  have W:=Walks.range (prog:=X.prog) (w:=X.w) (I.ok.hd hc) it lo 1 n
  refine W.item i s _ _ hg st fun v h' tk hv st' kk=>?_
  obtain ⟨t,rfl⟩:=hv
  have I1:Inv X pins σ H { s with heap:=h',toks:=tk }:=I.turned (fun b o hb e=>kk b o (by simpa using hb) e) f0 f1 f3 f4 f5
  refine ⟨_,rfl,VR (s:={ s with heap:=h',toks:=tk }) (n:="range_iterator") st' rfl rfl (by decide) ⟨.int (lo+i),H,I1,⟨t,?_⟩,⟨rfl,rfl⟩,st',fun b hb=>(hf b hb).1⟩⟩
  rw [Int.mul_one]
 done:=by
  intro X hP hw hK hc i pins s σ H E I hf st hg
  subst hP hw hK
  obtain ⟨f0,f1,f2,f3,f4,f5⟩:=hf it (by simp)
  exact wpAny_pyNext_range_end (I.ok.hd hc) st (by have:n≤i:=hg;omega) fun h' eb=>⟨rfl,I.turned (t':=s.toks) (fun b o hb e=>eb b o hb e) f0 f1 f3 f4 f5⟩
 self:=fun _ _ _ _ _ st h=>wpAny_pyIter_rangeiter st h
end L2
namespace L2
open PySem PySem.Spec PyProof.Rows
section
variable {X:Cx} {tg:Expr}
theorem QN{pins:List (Addr×Obj)}{σ:St}{H:Hp}{s:Shared}{R:It→Hp→Prop}{E:Value→Shared→Prop}{lo hi:Int}{t u v:Tok}{tk:Nat}(I:Inv X pins σ H s)(h1:-(2 ^ 62)≤lo)(h2:lo < 2 ^ 62)(h3:-(2 ^ 62)≤hi)(h4:hi < 2 ^ 62) 
  (q:R (Itr lo (hi - lo).toNat) H):wpAny (model X.prog X.w) X.A (pyIter (.ref s.heap.objs.size)) (PIE X pins σ tg R) E { s with heap:=s.heap.push { cls:=.type "range",data:=.fields #[.int lo t,.int hi u,.int 1 v] },toks:=tk }:=by
 refine wpAny_pyIter_range (IsRange.new ..) (small_one h1 h2 h3 h4) ?_
 have I1:Inv X pins σ H { s with heap:=s.heap.push { cls:=.type "range",data:=.fields #[.int lo t,.int hi u,.int 1 v] },toks:=tk }:=I.kept fun b o e=>Heap.get?_push_of_some _ e
 refine ⟨(s.heap.push { cls:=.type "range",data:=.fields #[.int lo t,.int hi u,.int 1 v] }).objs.size,[(s.heap.push { cls:=.type "range",data:=.fields #[.int lo t,.int hi u,.int 1 v] }).objs.size],_,_,H,rfl,
  I1.kept (t':=tk) fun b o e=>Heap.get?_push_of_some _ e,VT _ lo (hi - lo).toNat,?_,fun b hb=>?_,q⟩
 ·have e1:lo+((0:Nat):Int) * 1=lo:=by simp
  have e2:(((hi - lo).toNat:Nat):Int) - ((0:Nat):Int)=Builtin.Range.rangeSize lo hi 1:=by rw [rangeSize_one];split <;> omega
  show IsRangeIter _ _ (lo+((0:Nat):Int) * 1) ((((hi - lo).toNat:Nat):Int) - ((0:Nat):Int)) 1
  rw [e1,e2]
  exact Heap.get?_push_size _ rfl
 ·have e:b=(s.heap.push { cls:=.type "range",data:=.fields #[.int lo t,.int hi u,.int 1 v] }).objs.size:=by simpa using hb
  subst e
  exact I1.fpOk (Nat.le_refl _) (I1.hok.fresh (Nat.le_refl _))
def zc1(ta:TA):TI:=fun σ H R=>ta σ H fun vs H1=>∃j:Int,vs=[.int j]∧-(2 ^ 62)≤j∧j < 2 ^ 62∧R (Itr 0 j.toNat) H1
theorem UW{a:Expr}{ta:TA}{p pos:Pos}(hg:Gl X "range")(hm:X.mg "range"=none)(ha:PA X [a] ta)(hs:starEach [a] X.env=[(false,eval a X.env)]:=by rfl):PI X tg (.Call (.Name "range" p) [a] [] pos) (zc1 ta):=by
 intro pins s σ H R I h
 refine Call_ (Yo I hg hm boot_range (PyProof.Rows.callWith_type1 (thn (ha pos pins s σ H _ I h) fun us s1 ⟨vs,H1,I1,r1,q1⟩=>?_) hs rfl))
 obtain ⟨j,e,q1,q2,q⟩:=q1
 subst e
 cases r1 with
 | cons r rr =>
  cases rr
  obtain ⟨t,rfl⟩:=r
  exact call_range_1 (QN I1 (by omega) (by omega) q1 q2 (by simpa using q))
def zej(wi:TI)(g:TG)(tb:TS):TS:=fun D σ H=>wi σ H fun J H1=>∃W:Nat→Nat→St→Hp→Prop,(∃m,W 0 m σ H1)∧∀i m σ H,W i m σ H →
 (J.stop i H∧D.nx σ H)∨(J.go i H∧∃N:St→Hp→Prop,(∀σ' H',N σ' H'→∃m',m' < m∧W (i+1) m' σ' H')∧∀x H',J.yld i H x H'→g x σ H' fun σ2 H2=>tb { D with nx:=N,ct:=N,bk:=D.nx } σ2 H2)
def Yp(fp:List Addr)(h:Heap):List (Addr×Obj):=fp.filterMap fun b=>(h.get? b).map fun o=>(b,o)
theorem Z3{fp:List Addr}{h:Heap}{b:Addr}{o:Obj}(hb:b∈fp)(e:h.get? b=some o):(b,o)∈Yp fp h:=List.mem_filterMap.mpr ⟨b,hb,by rw [e];rfl⟩
theorem UX{fp:List Addr}{h:Heap}{p:Addr×Obj}(hp:p∈Yp fp h):p.1∈fp∧h.get? p.1=some p.2:=by
 obtain ⟨b,hb,e⟩:=List.mem_filterMap.mp hp
 cases q:h.get? b with
 | none=>rw [q] at e;cases e
 | some o =>
  rw [q] at e
  have e':(b,o)=p:=Option.some.inj e
  subst e'
  exact ⟨hb,q⟩
theorem Inv.pinned{pins:List (Addr×Obj)}{σ:St}{H:Hp}{s:Shared}{fp:List Addr}(I:Inv X pins σ H s)(hf:∀b∈fp,vQ X pins H b)(ho:∀b∈fp,∃o,s.heap.get? b=some o∧∀v,o.data≠.cell v):Inv X (pins++Yp fp s.heap) σ H s :=
 I.pins_of fun p hp=>(List.mem_append.mp hp).elim (fun z=>I.pin p (List.mem_append_right _ z)) fun z=>by
  obtain ⟨hb,e⟩:=UX z
  obtain ⟨f0,f1,f2,_⟩:=hf p.1 hb
  obtain ⟨o,e',d⟩:=ho p.1 hb
  rw [e] at e';cases e'
  exact ⟨e,f0,f1,f2,d⟩
theorem Inv.unpinned{pins pl:List (Addr×Obj)}{σ:St}{H:Hp}{s:Shared}(I:Inv X (pins++pl) σ H s):Inv X pins σ H s:=I.pins_of fun p hp=>I.pin p (List.mem_append_right _ (List.mem_append_left _ hp))
theorem zbt{iter:Expr}{body:List Stmt}{wi:TI}{g:TG}{tb:TS}{pos:Pos}(hp:PassesOwn (model X.prog X.w) X.A X.env X.xe)(hc:X.calm=true)(hi:PI X tg iter wi)(hg:PG X tg g)(hb:PSs X body tb) 
  (hs:∀x,foldedSetIterable iter X.env x=pure x:=by intro _;rfl):PS X (.For tg iter body [] pos) (zej wi g tb):=by
 intro pins s σ H D I h
 refine wpAny_For (thn (hi pins s σ H _ I h) fun v s1 h1=>thn h1 fun itv s2 h2=>?_) hs
 obtain ⟨it,fp,tn,J,H2,e,I2,T,st2,f2,W,⟨m0,w0⟩,turn⟩:=h2
 subst e
 have stat:∀{H':Hp},(∀b∈fp,H' b=none)→∀b∈fp,vQ X pins H' b:=fun hn b hb=>⟨hn b hb,(f2 b hb).2⟩
 refine codeAny_forLoop_any (fun n s'=>∃i σ' H',Inv X pins σ' H' s'∧tn i s'.heap∧(∀b∈fp,H' b=none)∧W i n σ' H') ?_ m0 ⟨0,σ,H2,I2,st2,fun b hb=>(f2 b hb).1,w0⟩
 rintro n s3 ⟨i,σ3,H3,I3,st3,fr3,w3⟩
 rcases turn i n σ3 H3 w3 with ⟨stop,qn⟩|⟨go,N,hN,step⟩
 ·refine wpAny_passesOwn hp (thn (T.done X rfl rfl rfl hc i pins s3 σ3 H3 X.xe I3 (stat fr3) st3 stop) fun r s4 ⟨hr,I4⟩=>?_)
  subst hr
  exact wpAny_execs_nil ⟨σ3,H3,I4,qn⟩
 ·refine wpAny_passesOwn hp (thn (T.item X rfl rfl rfl hc i pins s3 σ3 H3 X.xe I3 (stat fr3) st3 go) fun r s4 ⟨u,hr,h4⟩=>?_)
  subst hr
  refine wpAny_passesOwn hp (thn h4 fun _ s5 ⟨x,H5,I5,r5,y5,st5,fr5⟩=>?_)
  have I5':=I5.pinned (stat fr5) (T.obj _ _ st5)
  refine wpAny_passesOwn hp (thn (hg _ s5 σ3 H5 x u _ I5' r5 (step x H5 y5)) fun _ s6 ⟨σ6,H6,I6,q6⟩=>?_)
  refine wpAny_passesOwn hp (thn (hb _ s6 σ6 H6 _ I6 q6) fun f s7 q7=>?_)
  have again:∀{σ7:St} {H7:Hp},Inv X (pins++Yp fp s5.heap) σ7 H7 s7→N σ7 H7→∃m,m < n∧∃i σ' H',Inv X pins σ' H' s7∧tn i s7.heap∧(∀b∈fp,H' b=none)∧W i m σ' H':=fun {σ7 H7} I7 n7=>by
   obtain ⟨m',hm,w7⟩:=hN σ7 H7 n7
   refine ⟨m',hm,i+1,σ7,H7,I7.unpinned,T.keep _ _ _ st5 fun b hb o e=>(I7.pin (b,o) (List.mem_append_right _ (List.mem_append_right _ (Z3 hb e)))).1,fun b hb=>?_,w7⟩
   obtain ⟨o,e,d⟩:=T.obj _ _ st5 b hb
   exact (I7.pin (b,o) (List.mem_append_right _ (List.mem_append_right _ (Z3 hb e)))).2.1
  cases f with
  | next=>obtain ⟨σ7,H7,I7,n7⟩:=q7;exact again I7 n7
  | cont=>obtain ⟨σ7,H7,I7,n7⟩:=q7;exact again I7 n7
  | brk=>obtain ⟨σ7,H7,I7,q7⟩:=q7;exact ⟨σ7,H7,I7.unpinned,q7⟩
  | ret v=>obtain ⟨x7,σ7,H7,I7,r7,q7⟩:=q7;exact ⟨x7,σ7,H7,I7.unpinned,r7,q7⟩
end
end L2
namespace L2
open PySem PySem.Spec PyProof.Rows
abbrev R2:=V→V→Hp→VK→Prop
def OpR(X:Cx)(f:Value→Value→Sem Value)(r:R2):Prop :=
 ∀(pins:List (Addr×Obj)) (s:Shared) (σ:St) (H:Hp) (x y:V) (v u:Value) (Q:VK),Inv X pins σ H s→yt x v→yt y u→r x y H Q →
  wpAny (model X.prog X.w) X.A (f v u) (EP X pins σ Q) X.xe s
def UnR(X:Cx)(f:Value→Sem Value)(r:V→Hp→VK→Prop):Prop :=
 ∀(pins:List (Addr×Obj)) (s:Shared) (σ:St) (H:Hp) (x:V) (v:Value) (Q:VK),Inv X pins σ H s→yt x v→r x H Q →
  wpAny (model X.prog X.w) X.A (f v) (EP X pins σ Q) X.xe s
def uD(X:Cx)(f:Value)(r:List V→Hp→VK→Prop):Prop :=
 ∀(pins:List (Addr×Obj)) (s:Shared) (σ:St) (H:Hp) (xs:List V) (us:List Value) (Q:VK),Inv X pins σ H s→z6 xs us→r xs H Q →
  wpAny (model X.prog X.w) X.A (call f us) (EP X pins σ Q) X.xe s
def tOp(r:R2)(ta tb:TE):TE:=fun σ H Q=>ta σ H fun x H1=>tb σ H1 fun y H2=>r x y H2 Q
def tUn(r:V→Hp→VK→Prop)(ta:TE):TE:=fun σ H Q=>ta σ H fun x H1=>r x H1 Q
def rI(C:Int→Int→Prop)(g:Int→Int→V):R2:=fun x y H Q=>∃i j,x=.int i∧y=.int j∧C i j∧Q (g i j) H
def rI0(g:Int→Int→V):R2:=fun x y H Q=>∃i j,x=.int i∧y=.int j∧Q (g i j) H
def rU(g:Int→V):V→Hp→VK→Prop:=fun x H Q=>∃i,x=.int i∧Q (g i) H
section
variable {X:Cx} {a b c:Expr} {ta tb tc:TE} {pos:Pos}
theorem QO(ha:PE X a ta)(hb:PE X b tb){pins:List (Addr×Obj)}{s:Shared}{σ:St}{H:Hp}{R:V→V→Hp→Prop}(I:Inv X pins σ H s) 
  (h:ta σ H fun x H1=>tb σ H1 fun y H2=>R x y H2) {Q:Value→Shared→Prop} {f:Value→Value→Sem Value}
  (hf:∀v u s2 x y H2,Inv X pins σ H2 s2→yt x v→yt y u→R x y H2→wpAny (model X.prog X.w) X.A (f v u) Q X.xe s2) :
  wpAny (model X.prog X.w) X.A (eval a X.env) (fun v s₁=>wpAny (model X.prog X.w) X.A (eval b X.env) (fun u s₂=>wpAny (model X.prog X.w) X.A (f v u) Q X.xe s₂) X.xe s₁) X.xe s:=by
 refine thn (ha pins s σ H _ I h) fun v s1 ⟨x,H1,I1,r1,q1⟩=>?_
 refine thn (hb pins s1 σ H1 _ I1 q1) fun u s2 ⟨y,H2,I2,r2,q2⟩=>?_
 exact hf v u s2 x y H2 I2 r1 r2 q2
theorem zc2{op:Operator}{r:R2}(ho:OpR X (binaryOp op) r)(ha:PE X a ta)(hb:PE X b tb):PE X (.BinOp a op b pos) (tOp r ta tb):=by
 intro pins s σ H Q I h
 exact wpAny_BinOp (QO ha hb I h fun v u s2 x y H2 I2 rx ry q=>ho pins s2 σ H2 x y v u Q I2 rx ry q)
theorem zc3{op:UnaryOp}{r:V→Hp→VK→Prop}(ho:UnR X (unaryOp op) r)(ha:PE X a ta):PE X (.UnaryOp op a pos) (tUn r ta):=by
 intro pins s σ H Q I h
 exact UnaryOp_ (thn (ha pins s σ H _ I h) fun v s1 hh7'=>(by obtain ⟨x,H1,I1,r1,q1⟩:=hh7';exact ho pins s1 σ H1 x v Q I1 r1 q1))
theorem opI{f:Value→Value→Sem Value}{C:Int→Int→Prop}{g:Int→Int→Int} 
  (rule:∀(i j:Int) (t u:Tok) (s:Shared) (Q:Value→Shared→Prop) (E:Value→Shared→Prop),C i j→Q (.int (g i j) s.toks) { s with toks:=s.toks+1 }→wpAny (model X.prog X.w) X.A (f (.int i t) (.int j u)) Q E s) :
  OpR X f (rI C fun i j=>.int (g i j)):=by
 intro pins s σ H x y v u Q I rx ry h
 obtain ⟨i,j,rfl,rfl,hc,q⟩:=h
 obtain ⟨t,rfl⟩:=rx
 obtain ⟨t',rfl⟩:=ry
 exact rule i j t t' s _ _ hc ⟨.int (g i j),H,I.tok _,⟨_,rfl⟩,q⟩
theorem zbu{f:Value→Value→Sem Value}{g:Int→Int→Int} 
  (rule:∀(i j:Int) (t u:Tok) (s:Shared) (Q:Value→Shared→Prop) (E:Value→Shared→Prop),Q (.int (g i j) s.toks) { s with toks:=s.toks+1 }→wpAny (model X.prog X.w) X.A (f (.int i t) (.int j u)) Q E s) :
  OpR X f (rI0 fun i j=>.int (g i j)):=by
 intro pins s σ H x y v u Q I rx ry h
 obtain ⟨i,j,rfl,rfl,q⟩:=h
 obtain ⟨t,rfl⟩:=rx
 obtain ⟨t',rfl⟩:=ry
 exact rule i j t t' s _ _ ⟨.int (g i j),H,I.tok _,⟨_,rfl⟩,q⟩
theorem QP{f:Value→Value→Sem Value}{g:Int→Int→Bool} 
  (rule:∀(i j:Int) (t u:Tok) (s:Shared) (Q:Value→Shared→Prop) (E:Value→Shared→Prop),Q (.bool (g i j)) s→wpAny (model X.prog X.w) X.A (f (.int i t) (.int j u)) Q E s) :
  OpR X f (rI0 fun i j=>.bl (g i j)):=by
 intro pins s σ H x y v u Q I rx ry h
 obtain ⟨i,j,rfl,rfl,q⟩:=h
 obtain ⟨t,rfl⟩:=rx
 obtain ⟨t',rfl⟩:=ry
 exact rule i j t t' s _ _ ⟨.bl (g i j),H,I,rfl,q⟩
def zbv(i j:Int):Prop:=0 < j∧j < 1073741824
def zbw(i j:Int):Prop:=0≤j∧j≤1000000∧i.natAbs < 2 ^ 64
def VU(i j:Int):Prop:=(-(2 ^ 64) < i∧i < 2 ^ 64)∨(-(2 ^ 64) < j∧j < 2 ^ 64)
theorem VU.ok{i j:Int}(h:VU i j):IntMulOk i j:=by
 rcases h with ⟨h1,h2⟩|⟨h1,h2⟩
 ·exact .of_left (intBits_le_64 h1 h2)
 ·exact .of_right (intBits_le_64 h1 h2)
theorem zbx:OpR X (binaryOp .Add) (rI0 fun i j=>.int (i+j)):=zbu fun _ _ _ _ _ _ _ q=>add_int q
theorem Xo:OpR X (binaryOp .Sub) (rI0 fun i j=>.int (i - j)):=zbu fun _ _ _ _ _ _ _ q=>sub_int q
theorem v1:OpR X (binaryOp .Mult) (rI VU fun i j=>.int (i * j)):=opI fun _ _ _ _ _ _ _ hc q=>mul_int q hc.ok
theorem vy:OpR X (binaryOp .FloorDiv) (rI zbv fun i j=>.int (i / j)):=opI fun i j _ _ _ _ _ hc q=>by
 have h1:(0:Int) < j:=hc.1
 have h2:j < 1073741824:=hc.2
 exact floordiv_int (by omega) (by rw [Int.fdiv_eq_ediv_of_nonneg i (by omega)];exact q) (.inl (PyProof.noPylong_small (by omega)))
theorem zQ:OpR X (binaryOp .Mod) (rI (fun _ j=>0 < j) fun i j=>.int (i % j)):=opI fun i j _ _ _ _ _ hc q=>by
 have h1:(0:Int) < j:=hc
 exact mod_int' (by omega) (by rw [Int.fmod_eq_emod_of_nonneg i (by omega)];exact q)
theorem Zz:OpR X (binaryOp .Pow) (rI zbw fun i j=>.int (i ^ j.toNat)):=opI fun _ _ _ _ _ _ _ hc q=>pow_int_small hc.1 hc.2.1 hc.2.2 q
theorem unI{f:Value→Sem Value}{g:Int→Int} 
  (rule:∀(i:Int) (t:Tok) (s:Shared) (Q:Value→Shared→Prop) (E:Value→Shared→Prop),Q (.int (g i) s.toks) { s with toks:=s.toks+1 }→wpAny (model X.prog X.w) X.A (f (.int i t)) Q E s) :
  UnR X f (rU fun i=>.int (g i)):=by
 intro pins s σ H x v Q I rx h
 obtain ⟨i,rfl,q⟩:=h
 obtain ⟨t,rfl⟩:=rx
 exact rule i t s _ _ ⟨.int (g i),H,I.tok _,⟨_,rfl⟩,q⟩
theorem zby:UnR X (unaryOp .USub) (rU fun i=>.int (-i)):=unI fun _ _ _ _ _ q=>neg_int q
end
section
variable {X:Cx} {a b c:Expr} {ta tb tc:TE} {pos:Pos}
theorem VV:OpR X (compareOp .Lt) (rI0 fun i j=>.bl (decide (i < j))):=QP fun _ _ _ _ _ _ _ q=>lt_int q
theorem WA:OpR X (compareOp .LtE) (rI0 fun i j=>.bl (decide (i≤j))):=QP fun _ _ _ _ _ _ _ q=>le_int q
theorem J1:OpR X (compareOp .Gt) (rI0 fun i j=>.bl (decide (j < i))):=QP fun _ _ _ _ _ _ _ q=>gt_int q
theorem OpR.or{f:Value→Value→Sem Value}{r r':R2}(h:OpR X f r)(h':OpR X f r'):OpR X f (fun x y H Q=>r x y H Q∨r' x y H Q):=by
 intro pins s σ H x y v u Q I rx ry q
 rcases q with q|q
 ·exact h pins s σ H x y v u Q I rx ry q
 ·exact h' pins s σ H x y v u Q I rx ry q
theorem zo(b:Expr){op:CmpOp}(h:op≠.In:=by decide)(h2:op≠.NotIn:=by decide):behindInMarks op b=false:=by
 have e1:(op == CmpOp.In)=false:=by cases op <;> first|rfl|exact absurd rfl h
 have e2:(op == CmpOp.NotIn)=false:=by cases op <;> first|rfl|exact absurd rfl h2
 cases b <;> simp [behindInMarks,e1,e2]
theorem zaz{op:CmpOp}{r:R2}(ho:OpR X (compareOp op) r)(ha:PE X a ta)(hb:PE X b tb)(hm:behindInMarks op b=false):PE X (.Compare a [op] [b] pos) (tOp r ta tb):=by
 intro pins s σ H Q I h
 exact wpAny_Compare1 (QO ha hb I h fun v u s2 x y H2 I2 rx ry q=>ho pins s2 σ H2 x y v u Q I2 rx ry q) hm
def zc4(t:TE):TT:=fun σ H Q=>t σ H fun x H'=>∃k,x=.bl k∧Q k H'
theorem zaA{op:CmpOp}{r:R2}(ho:OpR X (compareOp op) r)(ha:PE X a ta)(hb:PE X b tb)(hm:behindInMarks op b=false):PT X (.Compare a [op] [b] pos) (zc4 (tOp r ta tb)):=by
 intro pins s σ H Q I h
 refine wpAny_isTrue_Compare1 (thn (ha pins s σ H _ I h) fun v s1 ⟨x,H1,I1,r1,q1⟩=>thn (hb pins s1 σ H1 _ I1 q1) fun u s2 ⟨y,H2,I2,r2,q2⟩ =>
  thn (ho pins s2 σ H2 x y v u _ I2 r1 r2 q2) fun c s3 ⟨z,H3,I3,r3,k,e,q3⟩=>?_) hm
 subst e
 cases r3
 exact wpAny_truthy_bool ⟨H3,I3,q3⟩
def UY(r r':R2)(ta tb tc:TE):TE:=fun σ H Q=>ta σ H fun x H1=>tb σ H1 fun y H2=>r x y H2 fun z H3=>∃k,z=.bl k ∧
 (if k=true then tc σ H3 fun w' H4=>r' y w' H4 Q else Q (.bl false) H3)
theorem QQ{op op':CmpOp}{r r':R2}(ho:OpR X (compareOp op) r)(ho':OpR X (compareOp op') r')(ha:PE X a ta)(hb:PE X b tb)(hc:PE X c tc) 
  (hm:lastMarks [op,op'] [b,c]=false:=by with_unfolding_all rfl):PE X (.Compare a [op,op'] [b,c] pos) (UY r r' ta tb tc):=by
 intro pins s σ H Q I h
 refine Compare_chain (thn (ha pins s σ H _ I h) fun v s1 ⟨x,H1,I1,r1,q1⟩=>chain_link (thn (hb pins s1 σ H1 _ I1 q1) fun u s2 ⟨y,H2,I2,r2,q2⟩ =>
  thn (ho pins s2 σ H2 x y v u _ I2 r1 r2 q2) fun d s3 ⟨z,H3,I3,r3,k,e,q3⟩=>?_)) hm
 subst e
 cases r3
 refine wpAny_truthy_bool ?_
 cases k with
 | false=>exact ite_ff ⟨.bl false,H3,I3,rfl,q3⟩
 | true=>exact ite_tt (chain_last (thn (hc pins s3 σ H3 _ I3 q3) fun w' s4 hh8'=>(by obtain ⟨z',H4,I4,r4,q4⟩:=hh8';exact ho' pins s4 σ H4 y z' u w' Q I4 r2 r4 q4)))
theorem Xp:(sizeLine:Nat) < 2 ^ 63:=by rw [sizeLine_eq];decide
theorem WB{x:V}{us:List Value}(r:z6 [x] us):∃u,us=[u]∧yt x u:=by
 cases r with
 | cons r1 r2=>cases r2;exact ⟨_,rfl,r1⟩
end
end L2
namespace L2
open PySem PySem.Spec PyProof.Rows
structure ObjM (h:Heap) (x dx C:Addr) (mA:Str→Option Value):Prop where
 obj:h.get? x=some (PySem.W.instObj C dx)
 ns:h.Ns1 dx mA
 ne:dx≠x
theorem UZ{h:Heap}{dx:Addr}{mA:Str→Option Value}(n:h.Ns1 dx mA):∃od,h.get? dx=some od∧∀name,PySem.W.lookIn name od=some (mA name):=by
 obtain ⟨o,es,ep,ho,hd,hk,_,hm⟩:=n
 refine ⟨o,ho,fun name=>?_⟩
 have e:=hm name
 unfold nsFind findBy at e
 rw [←Array.find?_toList] at e
 unfold PySem.W.lookIn
 rw [hd]
 dsimp only
 split
 ·rename_i y q
  rw [q] at e
  exact congrArg some e
 ·rename_i q
  rw [q] at e
  have a:es.toList.any (·.refKey)=false:=by
   rw [List.any_eq_false]
   intro y hy
   obtain ⟨z,t,hkey⟩:=hk y (Array.mem_toList_iff.mp hy)
   simp [DictEntry.refKey,hkey]
  have a':¬es.toList.any (·.refKey)=true:=by rw [a];exact Bool.false_ne_true
  rw [if_neg a']
  exact congrArg some e
theorem ObjM.look{h:Heap}{x dx C:Addr}{mA:Str→Option Value}(I:ObjM h x dx C mA):∃od,PySem.W.InstAt h x (PySem.W.instObj C dx) C (some od)∧∀name,PySem.W.lookIn name od=some (mA name) :=
 let ⟨od,ho,hl⟩:=UZ I.ns
 ⟨od,⟨I.obj,rfl,rfl,ho⟩,hl⟩
section
variable {prog:Program} {w:World} {A:Around} {E:Value→Shared→Prop} {s:Shared} {K:PySem.W.Frag} {x dx C f:Addr} {mA:Str→Option Value} {name:Str} {v:Value}
end
section
variable {P:Program} {w:World} {H H':Hp} {h h':Heap} {a C dx:Addr} {fs fs':List (Str×V)}
theorem zaB(hok:HOk P w H h)(e:H a=some (.ins C dx fs)):∃mA,ObjM h a dx C mA∧(∀f,QI (fs.lookup f) (mA f))∧PySem.Within mA (fs.map (·.1))∧fs.length≤1000∧H dx=some (.own a):=by
 obtain ⟨d,z,ne,ob,mA,n,r,q⟩:=(show xf P w H h a (.ins C dx fs) from hok a _ e)
 exact ⟨mA,⟨ob,n,ne⟩,r,q,z,d⟩
end
structure Cls (K:PySem.W.Frag) (C:Addr):Prop where
 pg:PySem.W.plainGet K C Str.empty=true
 hd:PySem.W.hasDictIn K C=true
 po:PySem.W.plainOver K C=true
 sa:PySem.W.findIn K (.ref C) "__setattr__"=some (some (.builtin "object.__setattr__"))
theorem Cls.get{K:PySem.W.Frag}{C:Addr}(c:Cls K C)(f:Str):PySem.W.plainGet K C f=true:=c.pg
section
variable {X:Cx} {pins:List (Addr×Obj)} {σ:St} {H:Hp} {s:Shared} {a C dx:Addr} {fs:List (Str×V)} {f:Str} {v:V} {A:Around} {E:Value→Shared→Prop}
end
section
variable {X:Cx} {o e value:Expr} {f:Str} {pos pos' tpos:Pos} {ta tv:TE}
end
section
variable {X:Cx} {pins:List (Addr×Obj)} {σ:St} {H:Hp} {s:Shared} {A:Around} {E:Value→Shared→Prop} {Q:Value→Shared→Prop} {c:Value} {b:Bool}
inductive TyOf (K:PySem.W.Frag) (H:Hp):V→Value→Prop where
 | non:TyOf K H .non (.type "NoneType")
 | bl (x:Bool):TyOf K H (.bl x) (.type "bool")
 | int (i:Int):TyOf K H (.int i) (.type "int")
 | str (x:Str):TyOf K H (.str x) (.type "str")
 | flt (x:UInt64):TyOf K H (.flt x) (.type "float")
 | lst {a:Addr} {xs:List V} (e:H a=some (.lst xs)):TyOf K H (.ref a) (.type "list")
 | frz {a:Addr} {o:Obj} {xs:List V} (e:H a=some (.frz o (.lst xs))):TyOf K H (.ref a) (.type "list")
 | tup {a:Addr} {xs:List V} (e:H a=some (.tup xs)):TyOf K H (.ref a) (.type "tuple")
 | dK {a:Addr} {kvs:List (Key×V)} (e:H a=some (.dK kvs)):TyOf K H (.ref a) (.type "dict")
 | dT {a:Addr} {kvs:List (List Key×V)} (e:H a=some (.dT kvs)):TyOf K H (.ref a) (.type "dict")
 | ins {a C dx:Addr} {fs:List (Str×V)} (e:H a=some (.ins C dx fs)) (cl:Cls K C) (ha:PySem.W.findIn K (.ref C) "__class__"=some (some (.builtin "object.__class__")))
  (hn:PySem.W.specialIn K (.builtin "object.__class__") "__get__"=some (some (.builtin "getset_descriptor.__get__"))) (htk:PySem.W.takesIn K (.builtin "object.__class__")=some true)
  (hm:PySem.W.mroIn K C (.type "object")=some true):TyOf K H (.ref a) (.ref C)
theorem U0{x:V}{u t:Value}(I:Inv X pins σ H s)(rx:yt x u)(ty:TyOf X.K H x t)(e:PySem.W.kitOne X.K t c=some b)(h:∀tk,Q (.bool b) { s with toks:=tk }):
  wpAny (model X.prog X.w) A (call (.builtin "isinstance") [u,c]) Q E s:=by
 cases ty with
 | non=>cases (show u=Value.none from rx);exact PySem.W.kia_one PySem.W.kitx_none I.kIn True.intro e (fun z=>nomatch z) h
 | bl y=>cases (show u=Value.bool y from rx);exact PySem.W.kia_one PySem.W.kitx_bool I.kIn True.intro e (fun z=>nomatch z) h
 | int i=>obtain ⟨t,q⟩:=(show ∃t,u=Value.int i t from rx);cases q;exact PySem.W.kia_one PySem.W.kitx_int I.kIn True.intro e (fun z=>nomatch z) h
 | str y=>obtain ⟨t,q⟩:=(show ∃t,u=Value.str y t from rx);cases q;exact PySem.W.kia_one PySem.W.kitx_str I.kIn True.intro e (fun z=>nomatch z) h
 | flt y=>obtain ⟨t,q⟩:=(show ∃t,u=Value.float y t from rx);cases q;exact PySem.W.kia_one PySem.W.kitx_float I.kIn True.intro e (fun z=>nomatch z) h
 | @lst a xs ea =>
  cases (show u=Value.ref a from rx)
  obtain ⟨_,_,n,_,h1⟩:=(show xf X.prog X.w H s.heap a (.lst xs) from I.hok a _ ea)
  exact PySem.W.kia_one PySem.W.kitx_list I.kIn ⟨_,h1,rfl⟩ e (fun z=>nomatch z) h
 | @frz a ob xs ea =>
  cases (show u=Value.ref a from rx)
  obtain ⟨_,_,_,n,_,h1⟩:=(show xf X.prog X.w H s.heap a (.frz ob (.lst xs)) from I.hok a _ ea)
  exact PySem.W.kia_one PySem.W.kitx_list I.kIn ⟨_,h1,rfl⟩ e (fun z=>nomatch z) h
 | @tup a xs ea =>
  cases (show u=Value.ref a from rx)
  obtain ⟨_,_,_,p⟩:=(show xf X.prog X.w H s.heap a (.tup xs) from I.hok a _ ea)
  obtain ⟨o,h1,h2,_⟩:=p
  exact PySem.W.kia_one PySem.W.kitx_tuple I.kIn ⟨o,h1,h2⟩ e (fun z=>nomatch z) h
 | @dK a kvs ea =>
  cases (show u=Value.ref a from rx)
  obtain ⟨_,_,vs,_,p⟩:=(show xf X.prog X.w H s.heap a (.dK kvs) from I.hok a _ ea)
  obtain ⟨o,es,ep,h1,h2,_⟩:=p
  exact PySem.W.kia_one PySem.W.kitx_dict I.kIn ⟨o,h1,h2.1⟩ e (fun z=>nomatch z) h
 | @dT a kvs ea =>
  cases (show u=Value.ref a from rx)
  obtain ⟨_,_,xs,_,o,es,ep,h1,h2,_⟩:=(show xf X.prog X.w H s.heap a (.dT kvs) from I.hok a _ ea)
  exact PySem.W.kia_one PySem.W.kitx_dict I.kIn ⟨o,h1,h2.1⟩ e (fun z=>nomatch z) h
 | @ins a C dx fs ea cl ha hn htk hm =>
  cases (show u=Value.ref a from rx)
  obtain ⟨mA,O,_⟩:=zaB I.hok ea
  obtain ⟨od,J,_⟩:=O.look
  exact PySem.W.kia_one (PySem.W.kitx_own (cl.get _) cl.hd ha hn htk hm) I.kIn J e (fun z=>nomatch z) h
end
end L2
namespace L2
open PySem PySem.Spec PyProof.Rows
structure Room (k:Nat) (A:Around):Prop where
 hd:A.handled=none
 dp:A.depth+3 * k+5 < recursionLimit
 un:A.units+16 * k+200 < cLine
theorem Room.mono{j k:Nat}{A:Around}(r:Room k A)(h:j≤k):Room j A:=⟨r.hd,by have:=r.dp;omega,by have:=r.un;omega⟩
theorem Room.deeper{k:Nat}{A:Around}(r:Room (k+1) A)(env:Env):Room k (A.deeper env) :=
 ⟨r.hd,by have:=r.dp;show A.depth+1+3 * k+5 < _;omega,by have:=r.un;show A.units+3+16 * k+200 < _;omega⟩
theorem Room.depth{k:Nat}{A:Around}(r:Room k A):A.depth < recursionLimit:=by have:=r.dp;omega
theorem Room.units{k:Nat}{A:Around}(r:Room k A):A.units+64 < cLine:=by have:=r.un;omega
def WX:TA:=fun _ H Q=>Q [] H
def Xq(ta:TE)(tr:TA):TA:=fun σ H Q=>ta σ H fun x H1=>tr σ H1 fun xs H2=>Q (x::xs) H2
section
variable {X:Cx} {e:Expr} {es:List Expr} {te:TE} {t:TA} {pos:Pos}
theorem yx:PA X [] WX:=fun _ _ _ _ H Q I h=>Calls.spliced_nil ⟨[],H,I,.nil,h⟩
theorem yf(ha:PE X e te)(hr:PA X es t)(hs:starEach (e::es) X.env=(false,eval e X.env)::starEach es X.env:=by rfl):PA X (e::es) (Xq te t):=by
 intro pos pins s σ H Q I h
 rw [hs]
 show wpAny _ _ (spliced ((false,eval e X.env)::backTo pos (starEach es X.env))) _ _ s
 refine Calls.spliced_cons (thn (ha pins s σ H _ I h) fun u s1 ⟨x,H1,I1,r1,q1⟩=>?_)
 exact thn (hr pos pins s1 σ H1 _ I1 q1) fun us s2 hh9'=>by obtain ⟨xs,H2,I2,r2,q2⟩:=hh9';exact ⟨x::xs,H2,I2,.cons r1 r2,q2⟩
def zek(t:TA):TE:=fun σ H Q=>t σ H fun xs H1=>xs.length≤sizeLine∧∀p,H1 p=none→Q (.ref p) (upd H1 p (.tup xs))
def zel(t:TA):TE:=fun σ H Q=>t σ H fun xs H1=>xs.length≤sizeLine∧∀p,H1 p=none→Q (.ref p) (upd H1 p (.lst xs))
theorem zbz{x1}(h:PA X es t):PE X (.Tuple es x1 pos) (zek t):=by
 intro pins s σ H Q I hq
 refine wpAny_Tuple_spliced (thn (h pos pins s σ H _ I hq) fun us s1 ⟨xs,H1,I1,r,z,q⟩=>⟨by rw [←r.length];exact z,?_⟩)
 have hf:H1 s1.heap.objs.size=none:=I1.hok.fresh (Nat.le_refl _)
 refine ⟨.ref s1.heap.objs.size,upd H1 s1.heap.objs.size (.tup xs),I1.laid (t':=s1.toks) (fun b u e=>Heap.get?_push_of_some _ e) (Nat.le_refl _) ?_,rfl,q _ hf⟩
 exact ⟨z,us,r,⟨_,Heap.get?_push_size _ rfl,rfl,_,rfl⟩⟩
theorem zbA(h:PA X es t):PE X (.List es pos) (zel t):=by
 intro pins s σ H Q I hq
 refine wpAny_List_spliced (thn (h pos pins s σ H _ I hq) fun us s1 ⟨xs,H1,I1,r,z,q⟩=>⟨by rw [←r.length];exact z,?_⟩)
 have hf:H1 s1.heap.objs.size=none:=I1.hok.fresh (Nat.le_refl _)
 refine ⟨.ref s1.heap.objs.size,upd H1 s1.heap.objs.size (.lst xs),I1.laid (t':=s1.toks) (fun b u e=>Heap.get?_push_of_some _ e) (Nat.le_refl _) ?_,rfl,q _ hf⟩
 exact ⟨z,us,0,r,Heap.get?_push_size _ rfl⟩
end
abbrev Sp:=List V→Hp→VK→XK→Prop
abbrev CXT:=List Env→Hp→Shared→XK→Value→Shared→Prop
structure Env0 (P:Program) (w:World) (K:PySem.W.Frag) (mg:Str→Option Value) (base:Heap) (A:Around) (outer:List Env) (s:Shared) (H:Hp):Prop where
 frames:A.frames=some outer
 mod:Mod K mg base
 bs:∀b o,base.get? b=some o→s.heap.get? b=some o∧H b=none
 bsz:base.objs.size≤s.heap.objs.size
 funs:s.heap.FunFrames base outer
 frf:∀b∈frs outer,H b=none
 hok:HOk P w H s.heap
 bare:AllBare s.gens
def CE(outer:List Env)(P:Program)(w:World)(H:Hp)(s:Shared)(Q:VK)(u:Value)(s':Shared):Prop :=
 ∃v H',s'.os=s.os∧AllBare s'.gens∧Un (frs outer) [] H H' s.heap s'.heap∧HOk P w H' s'.heap∧yt v u∧Q v H'
def CR(CX:CXT)(outer:List Env)(P:Program)(w:World)(H:Hp)(s:Shared)(Q:VK)(E:XK)(r:Result)(s':Shared):Prop :=
 match r with
 | .ok (.ret u)=>CE outer P w H s Q u s'
 | .ok _=>False
 | .error e=>CX outer H s E e s'
structure FnOk (P:Program) (w:World) (K:PySem.W.Frag) (mg:Str→Option Value) (base:Heap) (CX:CXT) (k:Nat) (f:Addr) (fd:FuncData) (ps:List Str) (sp:Sp):Prop where
 len:∀vs H Q E,sp vs H Q E→vs.length=ps.length
 run:∀(A:Around) (outer:List Env) (s:Shared) (H:Hp) (args:Args) (us:List Value) (vs:List V) (Q:VK) (E:XK),Room k A→Env0 P w K mg base A outer s H→BindsTo s fd args (ps.zip us)→z6 vs us→sp vs H Q E →
  codeAny (model P w) A (.call (.ref f) args) (CR CX outer P w H s Q E) s
theorem FnOk.mono{P:Program}{w:World}{K:PySem.W.Frag}{mg:Str→Option Value}{base:Heap}{CX:CXT}{j k:Nat}{f:Addr}{fd:FuncData}{ps:List Str}{sp:Sp}(F:FnOk P w K mg base CX j f fd ps sp)(h:j≤k):
 FnOk P w K mg base CX k f fd ps sp:=⟨F.len,fun A outer s H args us vs Q E hr=>F.run A outer s H args us vs Q E (hr.mono h)⟩
section
variable {X:Cx} {pins:List (Addr×Obj)} {σ:St} {H:Hp} {s s':Shared}
theorem Inv.env0(I:Inv X pins σ H s):Env0 X.prog X.w X.K X.mg X.base X.A X.stack s H :=
 ⟨I.ok.frames,I.ok.mod,I.bs,Nat.le_trans I.ok.bsz I.sz,I.stack,I.stkFree,I.hok,I.bare⟩
theorem Inv.after{Q:VK}{u:Value}(I:Inv X pins σ H s)(h:CE X.stack X.prog X.w H s Q u s'):EP X pins σ Q u s':=by
 obtain ⟨v,H',os,bare,un,hok,r,q⟩:=h
 obtain ⟨hh,g,d,t,os'⟩:=s'
 obtain rfl:os'=s.os:=os
 exact ⟨v,H',I.call (h':=hh) (g':=g) (d':=d) (t':=t) (ch:=[]) un hok bare (fun b z=>absurd z (by simp)),r,q⟩
end
def zc5(sp:Sp)(dvs:List V)(E:XK)(t:TA):TE:=fun σ H Q=>t σ H fun vs H1=>sp (vs++dvs) H1 Q E
def v2(K:PySem.W.Frag)(fd:FuncData)(ps:List Str)(ds:List Value):Prop :=
 ∀(s:Shared) (us:List Value),K.In s.heap→(us++ds).length=ps.length→BindsTo s fd ⟨us,[]⟩ (ps.zip (us++ds))
theorem v2.all{K:PySem.W.Frag}{fd:FuncData}{ps:List Str}(h:∀us:List Value,us.length=ps.length→bindArgs fd ⟨us,[]⟩=pure (ps.zip us)):v2 K fd ps []:=fun s us _ hl=>by
 rw [List.append_nil] at hl ⊢
 exact .of_eq (h us hl)
def WY(CX:CXT)(X:Cx)(E:XK):Prop:=∀(pins:List (Addr×Obj)) (σ:St) (H:Hp) (s:Shared) (e:Value) (s':Shared),Inv X pins σ H s→CX X.stack H s E e s'→X.xe e s'
section
variable {X:Cx} {CX:CXT} {k:Nat} {f C:Addr} {fd:FuncData} {ps:List Str} {sp:Sp} {dvs:List V} {ds:List Value} {E:XK} {x m:Str} {p pos apos:Pos} {e o:Expr} {es:List Expr} {ta:TE} {t:TA}
theorem zbB{pins:List (Addr×Obj)}{σ:St}{H:Hp}{s:Shared}{Q:VK}{us:List Value}{vs:List V}(F:FnOk X.prog X.w X.K X.mg X.base CX k f fd ps sp)(hr:Room k X.A)(hb:v2 X.K fd ps ds)(hd:z6 dvs ds)(hx:WY CX X E) 
  (I:Inv X pins σ H s) (r:z6 vs us) (h:sp (vs++dvs) H Q E):wpAny (model X.prog X.w) X.A (call (.ref f) us) (EP X pins σ Q) X.xe s:=by
 have r2:z6 (vs++dvs) (us++ds):=r.append hd
 have hl:(us++ds).length=ps.length:=by rw [←r2.length];exact F.len _ _ _ _ h
 refine wpAny_call (codeAny_mono (F.run X.A X.stack s H ⟨us,[]⟩ (us++ds) (vs++dvs) Q E hr I.env0 (hb s us I.kIn hl) r2 h) fun r s' hq=>?_)
 cases r with
 | error e=>exact hx pins σ H s e s' I hq
 | ok fl =>
  cases fl with
  | ret u=>exact I.after hq
  | next=>exact False.elim hq
  | brk=>exact False.elim hq
  | cont=>exact False.elim hq
theorem zaC(F:FnOk X.prog X.w X.K X.mg X.base CX k f fd ps sp)(hr:Room k X.A)(hg:Gl X x)(hm:X.mg x=some (.ref f))(hk:PySem.W.keepIn X.K (.ref f)=true)(hb:v2 X.K fd ps ds)(hd:z6 dvs ds)(hx:WY CX X E) 
  (ha:PA X (e::es) t) (hdb:(x == ("__debug__":Str))=false:=by decide) (he:starEach (e::es) X.env=(false,eval e X.env)::starEach es X.env:=by rfl) (hpl:(backTo pos (starEach es X.env)).any (·.1)=false:=by rfl) :
  PE X (.Call (.Name x p) (e::es) [] pos) (zc5 sp dvs E t):=by
 intro pins s σ H Q I h
 refine wpAny_Call_Name_kw (ur I hg hm ?_ hdb)
 refine PySem.W.callWith_K (h₀:=X.base) I.ok.mod.kin hk (thn (ha pos pins s σ H _ I h) fun us s1 ⟨vs,H1,I1,r,q⟩=>⟨I1.kIn,?_⟩) he hpl
 exact zbB F hr hb hd hx I1 r q
end
section
variable {X:Cx} {CX:CXT} {k:Nat} {f C:Addr} {fd:FuncData} {ps ks:List Str} {sp:Sp} {E:XK} {x m:Str} {p pos apos kpos:Pos} {e o:Expr} {es:List Expr} {kws:List Keyword} {te ta:TE} {t tk:TA} {nm:Option Str}
variable {g:List Value→List Value→List Value} {gV:List V→List V→List V}
end
structure FnScope (N P:List Str) (sc:Scope):Prop where
 kind:sc.kind=.function
 co:sc.isCoroutine=false
 gen:sc.isGenerator=false
 nd:N.Nodup
 pre:N.take P.length=P
 par:∀x∈P,sc.names.lookup x=some .local∨sc.names.lookup x=some .cell
 nofree:∀y∈sc.names,y.2≠.free
theorem Wn{kindOf:Str→Option NameKind}{x:Str}:∀{binds:List (Str×Value)} {m:Str→Option Value},(∀v,(x,v) ∉ binds)→bindL kindOf binds m x=m x
 | [],_,_=>rfl
 | (n,v)::r,m,h=>by
  unfold bindL
  rw [Wn fun w hw=>h w (List.mem_cons_of_mem _ hw)]
  split
  ·have:x≠n:=by rintro rfl;exact h v List.mem_cons_self
   simp [this]
  ·rfl
theorem Wo{kindOf:Str→Option NameKind}{x:Str}:∀{binds:List (Str×Value)} {m:Str→Option Value},(∀v,(x,v) ∉ binds)→bindC kindOf binds m x=m x
 | [],_,_=>rfl
 | (n,v)::r,m,h=>by
  unfold bindC
  rw [Wo fun w hw=>h w (List.mem_cons_of_mem _ hw)]
  split
  ·rfl
  ·have:x≠n:=by rintro rfl;exact h v List.mem_cons_self
   simp [this]
theorem Wp{kindOf:Str→Option NameKind}{x:Str}{v:Value}:∀{P:List Str} {vs:List Value} {i:Nat} {m:Str→Option Value},P.Nodup→P[i]?=some x→vs[i]?=some v→kindOf x=some .local →
  bindL kindOf (P.zip vs) m x=some v
 | [],_,_,_,_,h,_,_=>by simp at h
 | _::_,[],_,_,_,_,h,_=>by simp at h
 | p::P,w::vs,0,m,nd,h1,h2,hk=>by
  simp at h1 h2;subst h1;subst h2
  show bindL kindOf ((p,w)::P.zip vs) m p=_
  unfold bindL
  rw [Wn fun v hv=>(List.nodup_cons.mp nd).1 (List.of_mem_zip hv).1,if_pos hk]
  simp
 | p::P,w::vs,i+1,m,nd,h1,h2,hk=>by
  show bindL kindOf ((p,w)::P.zip vs) m x=_
  unfold bindL
  exact Wp (i:=i) (List.nodup_cons.mp nd).2 (by simpa using h1) (by simpa using h2) hk
theorem Wq{kindOf:Str→Option NameKind}{x:Str}{v:Value}:∀{P:List Str} {vs:List Value} {i:Nat} {m:Str→Option Value},P.Nodup→P[i]?=some x→vs[i]?=some v→kindOf x≠some .local →
  bindC kindOf (P.zip vs) m x=some v
 | [],_,_,_,_,h,_,_=>by simp at h
 | _::_,[],_,_,_,_,h,_=>by simp at h
 | p::P,w::vs,0,m,nd,h1,h2,hk=>by
  simp at h1 h2;subst h1;subst h2
  show bindC kindOf ((p,w)::P.zip vs) m p=_
  unfold bindC
  rw [Wo fun v hv=>(List.nodup_cons.mp nd).1 (List.of_mem_zip hv).1,if_neg hk]
  simp
 | p::P,w::vs,i+1,m,nd,h1,h2,hk=>by
  show bindC kindOf ((p,w)::P.zip vs) m x=_
  unfold bindC
  exact Wq (i:=i) (List.nodup_cons.mp nd).2 (by simpa using h1) (by simpa using h2) hk
def v3(N:List Str)(vs:List V):St:=vs.map some++List.replicate (N.length - vs.length) none
def w4(CX:CXT)(P:Program)(w:World)(K:PySem.W.Frag)(mg:Str→Option Value)(base:Heap)(N:List Str)(qual:Str)(scope:Scope)(f:Addr)(cd:Value)(A:Around)(outer:List Env)(s:Shared)(H:Hp)(E:XK):Cx where
 prog:=P
 w:=w
 K:=K
 mg:=mg
 base:=base
 A:=A.deeper (envOfC qual scope s.heap.objs.size f cd)
 N:=N
 s₀:=s
 H₀:=H
 env:=envOfC qual scope s.heap.objs.size f cd
 outer:=outer
 stack:=envOfC qual scope s.heap.objs.size f cd::outer
 ex:=[]
 calm:=true
 fn:=fun _=>true
 pn:=[]
 xe:=fun e s'=>wpAny (model P w) (A.deeper (envOfC qual scope s.heap.objs.size f cd)) (leaving (envOfC qual scope s.heap.objs.size f cd) e) (fun _ s''=>CX outer H s E e s'') (fun e' s''=>CX outer H s E e' s'') s'
theorem WZ{sc:Scope}{n:Nat}{x:Str}(h:sc.names.lookup x=some .cell):∃c,(cellsFrom n sc.names []).lookup x=some c:=by
 have q:=PySem.W.cellsFrom_some sc.names n [] (.inl h)
 exact Option.isSome_iff_exists.mp q
theorem U1{CX:CXT}{P:Program}{w:World}{K:PySem.W.Frag}{mg:Str→Option Value}{base:Heap}{N ps:List Str}{qual:Str}{scope:Scope}{f:Addr}{cd:Value}{A:Around}{outer:List Env}{s s1:Shared}{H:Hp}{E:XK}{us:List Value}{vs:List V} 
  (S:FnScope N ps scope) (hd:A.handled=none) (e0:Env0 P w K mg base A outer s H) (hl:vs.length=ps.length) (r:z6 vs us)
  (x:InCallC s s.heap.objs.size (bindL (envOfC qual scope s.heap.objs.size f cd).kindOf (ps.zip us) fun _=>none) (cellsFrom (s.heap.objs.size+1) scope.names []) (bindC (envOfC qual scope s.heap.objs.size f cd).kindOf (ps.zip us) fun _=>none) s1) :
  Inv (w4 CX P w K mg base N qual scope f cd A outer s H E) [] (v3 N vs) H s1:=by
 have hpl:ps.length≤N.length:=by have:=congrArg List.length S.pre;rw [List.length_take] at this;omega
 obtain ⟨h1,tk,rfl,hk⟩:=x.done
 have noA:∀b:Addr,b ∉ (w4 CX P w K mg base N qual scope f cd A outer s H E).ex:=fun b z=>absurd (show b∈([]:List Addr) from z) (by simp)
 refine ⟨⟨e0.mod,S.kind,rfl,rfl,Nat.le_refl _,fun y z c h1 h2=>?_,fun y hy=>?_,fun y c _ h=>?_,fun _=>hd,Around.frames_deeper e0.frames,.inr ⟨rfl,rfl⟩,fun b z=>absurd z (noA b),e0.bs,e0.bsz,fun b _ _=>noA b,fun b z=>absurd z (noA b),e0.funs,e0.frf⟩,
  rfl,e0.bare,Un.kept hk,⟨_,x.toInCall.ns,fun i y v h1 h2 h3=>?_⟩,fun y c h=>⟨_,x.cell y c h⟩,e0.hok.fresh (Nat.le_refl _),fun y c h=>?_,fun p hp=>absurd (show p∈([]:List (Addr×Obj)) from hp) (by simp),e0.hok.kept hk,?_⟩
 ·exact name_of_addr x.apart (PySem.mem_of_lookup h1) (PySem.mem_of_lookup h2)
 ·have hy:scope.names.lookup y=some .cell∨scope.names.lookup y=some .free:=hy
  rcases hy with hy|hy
  ·exact WZ hy
  ·exact absurd rfl (S.nofree _ (PySem.mem_of_lookup hy))
 ·exact Nat.le_of_lt (x.above y c (PySem.mem_of_lookup h))
 ·have hi:i < vs.length:=by
   unfold v3 at h2
   by_cases hi:i < vs.length
   ·exact hi
   ·rw [List.getElem?_append_right (by simpa using hi)] at h2
    rw [List.getElem?_replicate] at h2
    split at h2 <;> cases h2
  have ha:vs[i]?=some v:=by
   unfold v3 at h2
   rw [List.getElem?_append_left (by simpa using hi),List.getElem?_map] at h2
   cases e:vs[i]? with
   | none=>rw [e] at h2;cases h2
   | some a=>rw [e] at h2;cases h2;rfl
  obtain ⟨u,hu,rv⟩:=r.get ha
  have hp:ps[i]?=some y:=by
   rw [←S.pre,List.getElem?_take_of_lt (by omega)];exact h1
  have ndP:ps.Nodup:=by rw [←S.pre];exact S.nd.sublist (List.take_sublist _ _)
  refine ⟨u,rv,?_⟩
  rcases S.par y (List.mem_of_getElem? hp) with k|k
  ·exact .inl ⟨k,Wp ndP hp hu k⟩
  ·obtain ⟨c,e⟩:=WZ (n:=s.heap.objs.size+1) k
   refine .inr ⟨.inl k,c,e,?_⟩
   have q:=x.cell y c e
   rw [Wq ndP hp hu (by show scope.names.lookup y≠_;rw [k];decide)] at q
   exact q
 ·exact e0.hok.fresh (Nat.le_of_lt (x.above y c (PySem.mem_of_lookup h)))
 ·unfold v3
  show _=N.length
  rw [List.length_append,List.length_map,List.length_replicate]
  omega
theorem J2{CX:CXT}{P:Program}{w:World}{K:PySem.W.Frag}{mg:Str→Option Value}{base:Heap}{k:Nat}{f:Addr}{name qual:Str}{params:Arguments}{body:List Stmt}{scope:Scope}{dV kV doc pm cdv ct oc:Value}{an od:Option Addr} 
  {osl:Array (Option Value)} {N ps:List Str} {sp:Sp} (lk:K.lookup f=some ⟨oc,od,.func (PySem.W.fnOf name qual params body scope dV kV doc pm an cdv ct),osl⟩) (hcd:PySem.W.codeIn K cdv qual=true) (S:FnScope N ps scope)
  (len:∀vs H Q E,sp vs H Q E→vs.length=ps.length)
  (hbody:∀(A:Around) (outer:List Env) (s:Shared) (H:Hp) (vs:List V) (Q:VK) (E:XK),Room k (A.deeper (envOfC qual scope s.heap.objs.size f cdv))→sp vs H Q E →
   ∃t,PSs (w4 CX P w K mg base N qual scope f cdv A outer s H E) body t∧t { nx:=fun _ H'=>Q .non H',rt:=Q } (v3 N vs) H) :
  FnOk P w K mg base CX (k+1) f (PySem.W.fnOf name qual params body scope dV kV doc pm an cdv ct) ps sp:=by
 refine ⟨len,fun A outer s H args us vs Q E hr e0 hb r hsp=>?_⟩
 have hl:=len _ _ _ _ hsp
 have KX:K.In s.heap:=e0.mod.kin.keeps fun b o e=>(e0.bs b o e).1
 have lim:s.heap.NoLimit:=e0.mod.nolimit.keeps fun b o e=>(e0.bs b o e).1
 have hkind:∀y∈ps.zip us,scope.names.lookup y.1=some .local∨(scope.names.lookup y.1=some .cell∧((cellsFrom (s.heap.objs.size+1) scope.names []).lookup y.1).isSome=true):=fun hh10' hy=>by
  obtain ⟨n,v⟩:=hh10'
  rcases S.par n (List.of_mem_zip hy).1 with q|q
  ·exact .inl q
  ·exact .inr ⟨q,PySem.W.cellsFrom_some _ _ _ (.inl q)⟩
 refine codeAny_call_function hr.depth (KX _ _ lk) rfl S.co S.gen rfl (PySem.W.codeRec_of KX hcd) (hb _ _ _ _ ?_)
 refine wpAny_newFunctionEnv_cells S.kind hkind fun env he s1 x=>?_
 subst he
 refine ⟨lim.keeps x.toInCall.keep,codeAny_func ?_⟩
 obtain ⟨t,ht,hq⟩:=hbody A outer s H vs Q E (hr.deeper _) hsp
 have I:Inv (w4 CX P w K mg base N qual scope f cdv A outer s H E) [] (v3 N vs) H s1:=U1 S hr.hd e0 hl r x
 refine wpAny_mono (ht [] s1 (v3 N vs) H _ I hq) (fun fl s' hs=>?_) fun e s' hs=>hs
 have fin:∀{σ':St} {H':Hp} {v:V} {u:Value},Inv (w4 CX P w K mg base N qual scope f cdv A outer s H E) [] σ' H' s'→yt v u→Q v H'→CE outer P w H s Q u s' :=
  fun {σ' H' v u} J rv q=>⟨v,H',J.os,J.bare,J.base,J.hok,rv,q⟩
 cases fl with
 | ret u =>
  obtain ⟨v,σ',H',J,rv,q⟩:=hs
  exact fin J rv q
 | next =>
  obtain ⟨σ',H',J,q⟩:=hs
  exact fin (v:=V.non) (u:=Value.none) J rfl q
 | brk =>
  obtain ⟨_,_,_,q⟩:=hs
  exact False.elim q
 | cont =>
  obtain ⟨_,_,_,q⟩:=hs
  exact False.elim q
end L2
namespace L2
open PySem PySem.Spec PyProof.Rows
section
variable {X:Cx} {x:Str} {p pos:Pos} {e:Expr} {es:List Expr} {t:TA} {id T:String} {r:List V→Hp→VK→Prop}
def tCB(r:List V→Hp→VK→Prop)(t:TA):TE:=fun σ H Q=>t σ H fun vs H1=>r vs H1 Q
theorem W0(hc:uD X (.builtin id) r)(hg:Gl X x)(hm:X.mg x=none)(hv:bootBuiltins x=some (.builtin id))(ha:PA X (e::es) t)(hn:x≠"__name__":=by decide)(hdb:(x == ("__debug__":Str))=false:=by decide) 
  (he:starEach (e::es) X.env=(false,eval e X.env)::starEach es X.env:=by rfl) (hpl:(backTo pos (starEach es X.env)).any (·.1)=false:=by rfl):PE X (.Call (.Name x p) (e::es) [] pos) (tCB r t):=by
 intro pins s σ H Q I h
 refine wpAny_Call_Name_kw (Yo I hg hm hv ?_ hn hdb)
 exact PyProof.Rows.callWith_builtin1 (thn (ha pos pins s σ H _ I h) fun us s1 hh11'=>(by obtain ⟨vs,H1,I1,r1,q1⟩:=hh11';exact hc pins s1 σ H1 vs us Q I1 r1 q1)) he hpl
theorem U2(hc:uD X (.type T) r)(hg:Gl X x)(hm:X.mg x=none)(hv:bootBuiltins x=some (.type T))(ha:PA X (e::es) t)(hn:x≠"__name__":=by decide)(hdb:(x == ("__debug__":Str))=false:=by decide) 
  (he:starEach (e::es) X.env=(false,eval e X.env)::starEach es X.env:=by rfl) (hpl:(backTo pos (starEach es X.env)).any (·.1)=false:=by rfl):PE X (.Call (.Name x p) (e::es) [] pos) (tCB r t):=by
 intro pins s σ H Q I h
 refine wpAny_Call_Name_kw (Yo I hg hm hv ?_ hn hdb)
 exact PyProof.Rows.callWith_type1 (thn (ha pos pins s σ H _ I h) fun us s1 hh12'=>(by obtain ⟨vs,H1,I1,r1,q1⟩:=hh12';exact hc pins s1 σ H1 vs us Q I1 r1 q1)) he hpl
end
end L2
namespace HT
open PySem PyProof.Rows
section
open PySem.SeqAt
open PySem.AutoSeq1 (wpAny_loadPart')
open PySem.MeetsSeq PySem.MeetsSeq2 PySem.MeetsSeq3
end
section
variable {prog:Program} {w:World} {A:Around} {E:Value→Shared→Prop} {s:Shared}
theorem cat_tup{t b:Addr}{vs ws:List Value}{Q:Value→Shared→Prop}(ht:IsTup s.heap t vs.toArray)(hb:IsTup s.heap b ws.toArray)(hv:vs≠[]) 
  (h1:ws=[]→Q (.ref t) s) (h2:ws≠[]→Q (.ref s.heap.objs.size) { s with heap:=s.heap.push { cls:=.type "tuple",data:=.seq (vs++ws).toArray } })
  (hsz:vs.length+ws.length≤sizeLine):wpAny (model prog w) A (binaryOp .Add (.ref t) (.ref b)) Q E s:=by
 obtain ⟨⟨cls,dd,data,sl⟩,ho,hc,n,hd⟩:=id ht
 obtain ⟨⟨cls2,dd2,data2,sl2⟩,ho2,hc2,n2,hd2⟩:=id hb
 simp only at hc hd hc2 hd2
 subst hc hd hc2 hd2
 have e:vs.toArray++ws.toArray=(vs++ws).toArray:=by simp
 by_cases hw:ws=[]
 ·exact concat_meets ⟨_,ho,rfl⟩ ⟨_,ho2,rfl⟩ noFill_tuple_add seq_tuple_add PySem.F.slot_tuple_add PySem.F.entry_tuple_add (PySem.F.args_tuple_add_2 _ _)
   (tuple_addW1 t b vs.toArray ws.toArray n n2 dd dd2 sl sl2 (by simpa using hv) (by simp [hw])) ⟨ho,ho2,h1 hw⟩
 ·refine concat_meets ⟨_,ho,rfl⟩ ⟨_,ho2,rfl⟩ noFill_tuple_add seq_tuple_add PySem.F.slot_tuple_add PySem.F.entry_tuple_add (PySem.F.args_tuple_add_2 _ _)
   (tuple_addW2 t b vs.toArray ws.toArray n n2 dd dd2 sl sl2 (by simpa using hv) (by simpa using hw) (by rw [List.size_toArray,List.size_toArray];exact hsz)) ⟨ho,ho2,?_⟩
  rw [e]
  exact h2 hw
def sIx(n d:Nat):Option Int→Nat
 | none=>d
 | some v=>if v < 0 then (v+(n:Int)).toNat else min v.toNat n
theorem sIx_none(n d:Nat):sIx n d none=d:=rfl
theorem sIx_nat(n d k:Nat):sIx n d (some (k:Int))=min k n:=by
 show (if (k:Int) < 0 then ((k:Int)+(n:Int)).toNat else min (k:Int).toNat n)=min k n
 rw [if_neg (by omega),Int.toNat_natCast]
theorem zbC(n d:Nat)(hd:d≤n)(o:Option Int):sIx n d o≤n:=by
 cases o with
 | none=>exact hd
 | some v =>
  show (if v < 0 then (v+(n:Int)).toNat else min v.toNat n)≤n
  by_cases hv:v < 0
  ·rw [if_pos hv];omega
  ·rw [if_neg hv];exact Nat.min_le_right _ _
theorem Vu(v:Int)(n d:Nat):(if v < 0 then max (v+(n:Int)) 0 else min v (n:Int))=((sIx n d (some v):Nat):Int):=by
 show (if v < 0 then max (v+(n:Int)) 0 else min v (n:Int))=(((if v < 0 then (v+(n:Int)).toNat else min v.toNat n):Nat):Int)
 by_cases hv:v < 0
 ·simp only [if_pos hv];omega
 ·simp only [if_neg hv];omega
theorem VW(lo hi:Option Int)(n:Nat):Builtin.Slice.sliceAdjust lo hi 1 (n:Int)=(((sIx n 0 lo:Nat):Int),((sIx n n hi:Nat):Int)):=by
 have h1:¬((1:Int) < 0):=by omega
 unfold Builtin.Slice.sliceAdjust
 simp only [h1,if_false]
 refine Prod.ext ?_ ?_
 ·cases lo with
  | none=>rfl
  | some v=>exact Vu v n 0
 ·cases hi with
  | none=>rfl
  | some v=>exact Vu v n n
theorem VX(i j:Nat):Builtin.Slice.slicePlaces (i:Int) (j:Int) 1=j - i:=by
 unfold Builtin.Slice.slicePlaces
 have h1:(1:Int) > 0:=by omega
 simp only [h1,if_true,Int.ediv_one]
 split <;> omega
theorem Xr{v:Value}{o:Option Int}{Q:Option Int→Shared→Prop}(p:IsPart v o)(h:Q o s):wpAny (model prog w) A (Builtin.Slice.slicePartIndex v) Q E s:=by
 cases p with
 | none=>exact slicePart_none h
 | int i t=>exact slicePart_int h
theorem Xa{sl:Addr}{vl vu:Value}{lo hi:Option Int}{n:Nat}{Q:Int×Int×Nat→Shared→Prop}(hs:s.heap.IsSliceOf sl vl vu .none)(pl:IsPart vl lo)(pu:IsPart vu hi) 
  (h:Q (((sIx n 0 lo:Nat):Int),1,sIx n n hi - sIx n 0 lo) s):wpAny (model prog w) A (Builtin.Slice.sliceApplied (.ref sl) (pure (n:Int))) Q E s:=by
 obtain ⟨os,hos,hcs,hds⟩:=id hs
 unfold Builtin.Slice.sliceApplied Builtin.Slice.sliceFields
 refine wpAny_bind (wpAny_bind (wpAny_field hos hds (x:=vl) rfl (wpAny_bind (wpAny_field hos hds (x:=vu) rfl (wpAny_bind (wpAny_field hos hds (x:=.none) rfl (wpAny_pure ?_)))))))
 refine wpAny_bind (slicePart_none ?_)
 show wpAny _ _ (if ((1:Int) == 0)=true then _ else _) _ _ s
 rw [if_neg (by decide)]
 refine wpAny_bind (Xr pl (wpAny_bind (Xr pu (wpAny_bind (wpAny_pure ?_)))))
 show wpAny _ _ (match Builtin.Slice.sliceAdjust lo hi 1 (n:Int) with|(lo,hi)=>pure (lo,(1:Int),Builtin.Slice.slicePlaces lo hi 1)) _ _ s
 rw [VW lo hi n]
 show wpAny _ _ (pure (((sIx n 0 lo:Nat):Int),(1:Int),Builtin.Slice.slicePlaces ((sIx n 0 lo:Nat):Int) ((sIx n n hi:Nat):Int) 1)) _ _ s
 rw [VX]
 exact wpAny_pure h
theorem QR(xs:Array Value)(i k:Nat):((List.range k).filterMap fun (m:Nat)=>xs[((i:Int)+(m:Int) * 1).toNat]?).toArray=((xs.toList.drop i).take k).toArray:=by
 have e:(fun (m:Nat)=>xs[((i:Int)+(m:Int) * 1).toNat]?)=fun m=>xs[i+m]?:=by
  funext m
  have:((i:Int)+(m:Int) * 1).toNat=i+m:=by omega
  rw [this]
 rw [e]
 have:=pick_run xs i k
 rw [List.filterMap_map] at this
 have e2:((fun x=>xs[x]?) ∘ fun x=>i+x)=fun m=>xs[i+m]?:=rfl
 rw [e2] at this
 rw [this]
theorem getItem_tuple_cut{t sl:Addr}{items:Array Value}{vl vu:Value}{lo hi:Option Int}{Q:Value→Shared→Prop}(ht:IsTup s.heap t items)(hs:s.heap.IsSliceOf sl vl vu .none)(pl:IsPart vl lo)(pu:IsPart vu hi) 
  (hw:¬(sIx items.size 0 lo=0∧sIx items.size items.size hi=items.size))
  (h:Q (.ref s.heap.objs.size) { s with heap:=s.heap.push { cls:=.type "tuple",data:=.seq ((items.toList.drop (sIx items.size 0 lo)).take (sIx items.size items.size hi - sIx items.size 0 lo)).toArray } })
  (hsz:items.size≤sizeLine):wpAny (model prog w) A (getItem (.ref t) (.ref sl)) Q E s:=by
 have htake:sizeOk (.seq ((items.toList.drop (sIx items.size 0 lo)).take (sIx items.size items.size hi - sIx items.size 0 lo)).toArray):=by
  show ((items.toList.drop (sIx items.size 0 lo)).take (sIx items.size items.size hi - sIx items.size 0 lo)).toArray.size≤sizeLine
  rw [List.size_toArray,List.length_take,List.length_drop,Array.length_toList]
  omega
 have hj:sIx items.size items.size hi≤items.size:=zbC _ _ (Nat.le_refl _) hi
 obtain ⟨os,hos,hcs,hds⟩:=id hs
 have hTs:s.TypeIs (.ref sl) "slice":=⟨os,hos,hcs⟩
 unfold getItem
 try with_reducible refine wpAny_holding ?_
 first|refine wpAny_bind (wpAny_pure ?_)|skip
 refine wpAny_bind (wpAny_sequenceKey ht.typeIs (by decide) ?_)
 refine wpAny_bind (wpAny_callSpecial?_slot (name:=Str.ofString "__getitem__") ht.typeIs PyProof.Rows.slot_tuple_getitem
  (wpAny_call_entry PyProof.Rows.slot_tuple_getitem ht.typeIs entry_tuple_getitem ?_ (args_tuple_getitem _ _)))
 show wpAny _ _ (Builtin.Tuple.tupleItemsOf (.ref t) >>= _) _ _ s
 refine wpAny_bind (tupleItemsOf_ ht ?_)
 refine wpAny_bind (wpAny_typeOf hTs ?_)
 rw [if_pos (by decide)]
 refine wpAny_bind (Xa hs pl pu ?_)
 have hno:¬((((sIx items.size 0 lo:Nat):Int) == 0 && (1:Int) == 1 && (sIx items.size items.size hi - sIx items.size 0 lo) == items.size)=true):=by
  intro q
  rw [Bool.and_eq_true,Bool.and_eq_true] at q
  have q1:((sIx items.size 0 lo:Nat):Int)=0:=eq_of_beq q.1.1
  have q2:sIx items.size items.size hi - sIx items.size 0 lo=items.size:=eq_of_beq q.2
  exact hw ⟨by omega,by omega⟩
 show wpAny _ _ (if (((sIx items.size 0 lo:Nat):Int) == 0 && (1:Int) == 1 && (sIx items.size items.size hi - sIx items.size 0 lo) == items.size)=true then _ else _) _ _ s
 rw [if_neg hno,QR]
 first
  | exact wpAny_bind (m:=Builtin.Tuple.tupleExact _) (wpAny_newObj_type (wpAny_pure ⟨_,rfl,wpAny_pure h⟩) htake)
  | exact wpAny_bind (m:=Builtin.Tuple.tupleExact _) (wpAny_newObj_type (wpAny_bind (wpAny_pure (wpAny_pure ⟨_,rfl,wpAny_pure h⟩))) htake)
  | exact wpAny_bind (wpAny_bind (m:=Builtin.Tuple.tupleExact _) (wpAny_newObj_type (wpAny_pure (wpAny_pure ⟨_,rfl,wpAny_pure h⟩)) htake))
  | exact wpAny_bind (wpAny_bind (m:=Builtin.Tuple.tupleExact _) (wpAny_newObj_type (wpAny_pure ⟨_,rfl,wpAny_pure h⟩) htake))
end
end HT
namespace L2
open PySem PySem.Spec PyProof.Rows
abbrev TO:=St→Hp→(Option Int→Hp→Prop)→Prop
def PO(X:Cx)(e:Option Expr)(t:TO):Prop :=
 ∀(pins:List (Addr×Obj)) (s:Shared) (σ:St) (H:Hp) (Q:Option Int→Hp→Prop),Inv X pins σ H s→t σ H Q →
  wpAny (model X.prog X.w) X.A (evalPart e X.env) (fun u s'=>∃o H',Inv X pins σ H' s'∧IsPart u o∧Q o H') X.xe s
def zaD:TO:=fun _ H Q=>Q none H
def zc6(t:TE):TO:=fun σ H Q=>t σ H fun x H1=>∃i,x=.int i∧Q (some i) H1
section
variable {X:Cx} {e:Expr} {te:TE} {lo hi:Option Expr} {tl th:TO} {pos p2:Pos}
theorem zaE:PO X none zaD:=by
 intro pins s σ H Q I h
 rw [evalPart_none]
 exact wpAny_pure ⟨none,H,I,.none,h⟩
theorem zaF(h:PE X e te):PO X (some e) (zc6 te):=by
 intro pins s σ H Q I hw
 rw [evalPart_some]
 refine thn (h pins s σ H _ I hw) fun u s1 ⟨x,H1,I1,r1,q1⟩=>?_
 obtain ⟨i,rfl,q⟩:=q1
 obtain ⟨t,rfl⟩:=r1
 exact ⟨some i,H1,I1,.int i t,q⟩
def SlR(X:Cx)(r:V→Option Int→Option Int→Hp→VK→Prop):Prop :=
 ∀(pins:List (Addr×Obj)) (s:Shared) (σ:St) (H:Hp) (x:V) (v vl vu:Value) (lo hi:Option Int) (sl:Addr) (Q:VK),Inv X pins σ H s→yt x v→s.heap.IsSliceOf sl vl vu .none→IsPart vl lo→IsPart vu hi→r x lo hi H Q →
  ∃T id,typeLookup (.type T) "__getitem__"=pure (some (.builtin id))∧s.TypeIs v T∧wpAny (model X.prog X.w) X.A (getItem v (.ref sl)) (EP X pins σ Q) X.xe s
theorem SlR.or{r r':V→Option Int→Option Int→Hp→VK→Prop}(h:SlR X r)(h':SlR X r'):SlR X (fun x lo hi H Q=>r x lo hi H Q∨r' x lo hi H Q):=by
 intro pins s σ H x v vl vu lo hi sl Q I rx hs pl pu q
 rcases q with q|q
 ·exact h pins s σ H x v vl vu lo hi sl Q I rx hs pl pu q
 ·exact h' pins s σ H x v vl vu lo hi sl Q I rx hs pl pu q
def tSl(r:V→Option Int→Option Int→Hp→VK→Prop)(te:TE)(tl th:TO):TE:=fun σ H Q=>te σ H fun x H1=>tl σ H1 fun l H2=>th σ H2 fun u H3=>r x l u H3 Q
theorem QS{r:V→Option Int→Option Int→Hp→VK→Prop}(hr:SlR X r)(he:PE X e te)(hl:PO X lo tl)(hu:PO X hi th):PE X (.Subscript e (.Slice lo hi none p2) pos) (tSl r te tl th):=by
 intro pins s σ H Q I h
 refine Subscript_ (thn (he pins s σ H _ I h) fun v s1 ⟨x,H1,I1,r1,q1⟩=>?_)
 refine wpAny_Slice (thn (hl pins s1 σ H1 _ I1 q1) fun vl s2 ⟨l,H2,I2,pl,q2⟩=>thn (hu pins s2 σ H2 _ I2 q2) fun vu s3 ⟨u,H3,I3,pu,q3⟩=>?_)
 rw [evalPart_none]
 refine wpAny_pure ?_
 have I4:Inv X pins σ H3 { s3 with heap:=s3.heap.push { cls:=.type "slice",data:=.fields #[vl,vu,.none] } }:=I3.kept (t':=s3.toks) fun b ob q=>Heap.get?_push_of_some _ q
 obtain ⟨T,id,hT,ht,hg⟩:=hr pins { s3 with heap:=s3.heap.push { cls:=.type "slice",data:=.fields #[vl,vu,.none] } } σ H3 x v vl vu l u s3.heap.objs.size Q I4 r1 (Heap.IsSliceOf.new ..) pl pu q3
 show wpAny (model X.prog X.w) X.A (subscriptTail e (.Slice lo hi none p2) v (.ref s3.heap.objs.size)) (EP X pins σ Q) X.xe { s3 with heap:=s3.heap.push { cls:=.type "slice",data:=.fields #[vl,vu,.none] } }
 exact tail_any (ops:=[.ref s3.heap.objs.size,v]) ht hT hg (by with_unfolding_all rfl)
def Zq(xs:List V)(lo hi:Option Int):List V:=(xs.drop (HT.sIx xs.length 0 lo)).take (HT.sIx xs.length xs.length hi - HT.sIx xs.length 0 lo)
theorem Y7(xs:List V)(lo hi:Option Int):(Zq xs lo hi).length≤xs.length:=by
 unfold Zq
 rw [List.length_take,List.length_drop]
 omega
def zbD(K:PySem.W.Frag):V→Option Int→Option Int→Hp→VK→Prop:=fun x lo hi H Q=>∃a xs,x=.ref a∧SqT K H a xs ∧
 ¬(HT.sIx xs.length 0 lo=0∧HT.sIx xs.length xs.length hi=xs.length)∧∀p,H p=none→Q (.ref p) (upd H p (.tup (Zq xs lo hi)))
theorem zbE:SlR X (zbD X.K):=by
 intro pins s σ H x v vl vu lo hi sl Q I rx hs pl pu h
 obtain ⟨a,xs,rfl,hx,hw,q⟩:=h
 cases rx
 obtain ⟨its,r,ht,hz⟩:=I.tuple hx
 have hlen:its.toArray.size=xs.length:=by rw [List.size_toArray];exact r.length.symm
 refine ⟨"tuple",_,PyProof.Rows.slot_tuple_getitem.lookup,ht.typeIs,?_⟩
 refine HT.getItem_tuple_cut ht hs pl pu (by rw [hlen];exact hw) ?_ (by rw [hlen];exact hz)
 rw [hlen]
 refine ⟨.ref s.heap.objs.size,_,I.laid (t':=s.toks) (o:=.tup (Zq xs lo hi)) (fun b ob q=>Heap.get?_push_of_some _ q) (Nat.le_refl _) ?_,rfl,q _ (I.hok.fresh (Nat.le_refl _))⟩
 exact ⟨Nat.le_trans (Y7 xs lo hi) hz,_,(r.drop (HT.sIx xs.length 0 lo)).take (HT.sIx xs.length xs.length hi - HT.sIx xs.length 0 lo),IsTup.new _ _⟩
def J3(K:PySem.W.Frag):R2:=fun x y H Q=>∃a b xs ys,x=.ref a∧y=.ref b∧SqT K H a xs∧SqT K H b ys∧xs≠[]∧xs.length+ys.length≤sizeLine ∧
 (ys=[]→Q (.ref a) H)∧(ys≠[]→∀p,H p=none→Q (.ref p) (upd H p (.tup (xs++ys))))
theorem z6.nil_iff{xs:List V}{us:List Value}(r:z6 xs us):us=[]↔xs=[]:=by
 cases r with
 | nil=>simp
 | cons _ _=>simp
theorem zaG:OpR X (binaryOp .Add) (J3 X.K):=by
 intro pins s σ H x y v u Q I rx ry h
 obtain ⟨a,b,xs,ys,rfl,rfl,ha,hb,hx,hz,q1,q2⟩:=h
 cases rx
 cases ry
 obtain ⟨its,r1,p1,_⟩:=I.tuple ha
 obtain ⟨its2,r2,p2,_⟩:=I.tuple hb
 refine HT.cat_tup p1 p2 (fun z=>hx (r1.nil_iff.mp z)) (fun z=>⟨.ref a,H,I,rfl,q1 (r2.nil_iff.mp z)⟩) (fun z=>?_) (by rw [←r1.length,←r2.length];exact hz)
 refine ⟨.ref s.heap.objs.size,_,I.laid (t':=s.toks) (o:=.tup (xs++ys)) (fun b ob q=>Heap.get?_push_of_some _ q) (Nat.le_refl _) ?_,rfl,q2 (fun w=>z (r2.nil_iff.mpr w)) _ (I.hok.fresh (Nat.le_refl _))⟩
 exact ⟨by rw [List.length_append];exact hz,_,r1.append r2,IsTup.new _ _⟩
end
end L2
namespace L2
open PySem PySem.Spec PyProof.Rows
def ixN(n:Nat)(i:Int):Option Nat:=if 0≤i then (if i < n then some i.toNat else none) else if -(n:Int)≤i then some (i+n).toNat else none
def atI{α:Type}(xs:List α)(i:Int):Option α:=(ixN xs.length i).bind fun j=>xs[j]?
theorem Vv{n:Nat}{i:Int}{j:Nat}(h:ixN n i=some j):seqIndex? i n=some j∧j < n∧-(n:Int)≤i∧i < n:=by
 unfold ixN at h
 by_cases h0:0≤i
 ·rw [if_pos h0] at h
  by_cases h1:i < n
  ·rw [if_pos h1] at h
   have e:i.toNat=j:=Option.some.inj h
   exact ⟨by rw [seqIndex_of h0 h1,e],by omega,by omega,h1⟩
  ·rw [if_neg h1] at h;cases h
 ·rw [if_neg h0] at h
  by_cases h1:-(n:Int)≤i
  ·rw [if_pos h1] at h
   have e:(i+n).toNat=j:=Option.some.inj h
   exact ⟨by rw [seqIndex_neg (by omega) h1,e],by omega,h1,by omega⟩
  ·rw [if_neg h1] at h;cases h
theorem Vw{α:Type}{xs:List α}{i:Int}{v:α}(h:atI xs i=some v):∃j,seqIndex? i xs.length=some j∧xs[j]?=some v∧j < xs.length∧-(xs.length:Int)≤i∧i < xs.length:=by
 unfold atI at h
 cases e:ixN xs.length i with
 | none=>rw [e] at h;cases h
 | some j =>
  rw [e] at h
  obtain ⟨h1,h2,h3,h4⟩:=Vv e
  exact ⟨j,h1,h,h2,h3,h4⟩
def YL(b:Expr):Prop:=∀o i,subscripted b false o i=operate [o,i] (getItem o i)
def IxR(X:Cx)(r:R2):Prop :=
 ∀(value slice:Expr) (pins:List (Addr×Obj)) (s:Shared) (σ:St) (H:Hp) (x y:V) (v u:Value) (Q:VK),Inv X pins σ H s→yt x v→yt y u→r x y H Q →
  subscripted slice false v u=operate [v,u] (getItem v u)→wpAny (model X.prog X.w) X.A (subscriptTail value slice v u) (EP X pins σ Q) X.xe s
def MtR(X:Cx)(id:String)(r:V→List V→Hp→VK→Prop):Prop :=
 ∀(pins:List (Addr×Obj)) (s:Shared) (σ:St) (H:Hp) (x:V) (xs:List V) (v:Value) (us:List Value) (Q:VK),Inv X pins σ H s→yt x v→z6 xs us→r x xs H Q →
  wpAny (model X.prog X.w) X.A (call (.builtin id) (v::us)) (EP X pins σ Q) X.xe s
section
variable {X:Cx} {a b:Expr} {ta tb:TE} {pos:Pos}
theorem IxR.or{r r':R2}(h:IxR X r)(h':IxR X r'):IxR X (fun x y H Q=>r x y H Q∨r' x y H Q):=by
 intro value slice pins s σ H x y v u Q I rx ry q hs
 rcases q with q|q
 ·exact h value slice pins s σ H x y v u Q I rx ry q hs
 ·exact h' value slice pins s σ H x y v u Q I rx ry q hs
theorem J4{r:R2}(hr:IxR X r)(ha:PE X a ta)(hb:PE X b tb)(hs:YL b):PE X (.Subscript a b pos) (tOp r ta tb):=by
 intro pins s σ H Q I h
 exact Subscript_ (QO ha hb I h fun v u s2 x y H2 I2 rx ry q=>hr a b pins s2 σ H2 x y v u Q I2 rx ry q (hs _ _))
def zbF(K:PySem.W.Frag):R2:=fun x y H Q=>∃p xs i v,x=.ref p∧y=.int i∧SqL K H p xs∧atI xs i=some v∧Q v H
def zbG(K:PySem.W.Frag):R2:=fun x y H Q=>∃p xs i v,x=.ref p∧y=.int i∧SqT K H p xs∧atI xs i=some v∧Q v H
theorem Vx:IxR X (zbF X.K):=by
 intro value slice pins s σ H x y v u Q I rx ry h hs
 obtain ⟨p,xs,i,z,rfl,rfl,hq,he,q⟩:=h
 cases rx
 obtain ⟨t,rfl⟩:=ry
 obtain ⟨its,r,pl,hz⟩:=I.list hq
 obtain ⟨j,h1,h2,h3,h4,h5⟩:=Vw he
 obtain ⟨w,ew,rw'⟩:=r.get h2
 have hl:=r.length
 have hn:=Xp
 have fin:EP X pins σ Q w s:=⟨z,H,I,rw',q⟩
 by_cases h0:0≤i
 ·have hj:i.toNat=j:=by
   rw [seqIndex_of h0 h5] at h1
   exact Option.some.inj h1
  exact item_listR pl.isList h0 (by omega) (by rw [hj];simpa using ew) fin hs
 ·have hj:(i+(its.toArray.size:Int)).toNat=j:=by
   rw [seqIndex_neg (by omega) h4] at h1
   rw [List.size_toArray,←hl]
   exact Option.some.inj h1
  exact subscriptTail_builtinR (x:=w) pl.isList.typeIs slot_list_getitem.lookup
   (wpAny_getItem_list_neg (Q:=fun r s'=>r=w∧EP X pins σ Q r s') pl.isList (by omega) (by rw [List.size_toArray] <;> omega) (by omega) (by rw [hj];simpa using ew) ⟨rfl,fin⟩) hs
theorem U3:IxR X (zbG X.K):=by
 intro value slice pins s σ H x y v u Q I rx ry h hs
 obtain ⟨p,xs,i,z,rfl,rfl,hq,he,q⟩:=h
 cases rx
 obtain ⟨t,rfl⟩:=ry
 obtain ⟨its,r,pl,hz⟩:=I.tuple hq
 obtain ⟨j,h1,h2,h3,h4,h5⟩:=Vw he
 obtain ⟨w,ew,rw'⟩:=r.get h2
 have hl:=r.length
 have hn:=Xp
 have fin:EP X pins σ Q w s:=⟨z,H,I,rw',q⟩
 exact subscriptTail_builtinR (x:=w) pl.typeIs slot_tuple_getitem.lookup
  (getItem_tuple (j:=j) (Q:=fun r s'=>r=w∧EP X pins σ Q r s') pl (by omega) (by omega) (by rw [List.size_toArray,←hl];exact h1) (by simpa using ew) ⟨rfl,fin⟩) hs
theorem VY(its:List Value)(n j:Nat)(u:Value):Obj.mapSeq (·.setIfInBounds j u) { cls:=.type "list",data:=.seq its.toArray n }={ cls:=.type "list",data:=.seq (its.set j u).toArray n }:=by
 simp [Obj.mapSeq]
theorem Inv.lst{pins:List (Addr×Obj)}{σ:St}{H:Hp}{s:Shared}{p:Addr}{xs:List V}(I:Inv X pins σ H s)(h:H p=some (.lst xs)):
  ∃(its:List Value) (n:Nat),z6 xs its∧s.heap.get? p=some { cls:=.type "list",data:=.seq its.toArray n }∧xs.length≤sizeLine:=by
 obtain ⟨z,its,n,r,e⟩:=I.hok p _ h
 exact ⟨its,n,r,e,z⟩
theorem Inv.lstUpd{pins:List (Addr×Obj)}{σ:St}{H:Hp}{s:Shared}{p:Addr}{xs ys:List V}{its its':List Value}{n n':Nat}{f:Obj→Obj}(I:Inv X pins σ H s)(h:H p=some (.lst xs)) 
  (ho:s.heap.get? p=some { cls:=.type "list",data:=.seq its.toArray n }) (hf:f { cls:=.type "list",data:=.seq its.toArray n }={ cls:=.type "list",data:=.seq its'.toArray n' }) (r:z6 ys its') (hz:ys.length≤sizeLine) (t:Nat) :
  Inv X pins σ (upd H p (.lst ys)) { s with heap:=s.heap.update p f,toks:=t }:=by
 have e:(s.heap.update p f).get? p=some { cls:=.type "list",data:=.seq its'.toArray n' }:=by
  rw [Heap.get?_update_self f ho (by rw [hf] <;> rfl),hf]
 refine I.write (x:=p) (e:=p) (by rw [h];trivial) (.inl rfl) (fun b u hb q=>(Heap.get?_update_other _ _ (Ne.symm hb)).trans q) ⟨_,e⟩ ?_
 exact ⟨hz,its',n',r,e⟩
def zc7:V→V→V→Hp→(Hp→Prop)→Prop:=fun o i v H Q=>∃p xs k j,o=.ref p∧i=.int k∧H p=some (.lst xs)∧ixN xs.length k=some j∧Q (upd H p (.lst (xs.set j v)))
theorem QT:zbq X zc7:=by
 intro pins s σ H o i v ov iv u Q I ro ri rv h
 obtain ⟨p,xs,k,j,rfl,rfl,hp,hj,q⟩:=h
 cases ro
 obtain ⟨t,rfl⟩:=ri
 obtain ⟨its,n,r,ho,hz⟩:=I.lst hp
 obtain ⟨h1,h2,h3,h4⟩:=Vv hj
 have hl:=r.length
 have hn:=Xp
 have I':Inv X pins σ (upd H p (.lst (xs.set j v))) { s with heap:=s.heap.update p (Obj.mapSeq (·.setIfInBounds j u)) } :=
  I.lstUpd hp ho (VY its n j u) (r.set rv j) (by rw [List.length_set];exact hz) s.toks
 by_cases h0:0≤k
 ·have hk:k.toNat=j:=by
   rw [seqIndex_of h0 h4] at h1
   exact Option.some.inj h1
  exact PySem.W.ki_setAt ho h0 (by omega) (by rw [List.size_toArray,←hl];exact h4) (by rw [hk];exact ⟨_,I',q⟩)
 ·have hk:(k+(its.toArray.size:Int)).toNat=j:=by
   rw [seqIndex_neg (by omega) h3] at h1
   rw [List.size_toArray,←hl]
   exact Option.some.inj h1
  exact PySem.W.ki_setBack ho (by omega) (by rw [List.size_toArray,←hl];exact h3) (by omega) (by rw [hk];exact ⟨_,I',q⟩)
theorem W1(lo hi:Option Int)(n:Nat):(sliceBounds lo hi none n).1=((HT.sIx n 0 lo:Nat):Int)∧(sliceBounds lo hi none n).2.1=((HT.sIx n n hi:Nat):Int)∧(sliceBounds lo hi none n).2.2=1:=by
 refine ⟨?_,?_,rfl⟩
 ·cases lo with
  | none=>simp [sliceBounds,HT.sIx]
  | some i =>
   simp only [sliceBounds,HT.sIx,Option.getD_none,show (1:Int) > 0 by decide,if_true]
   by_cases h:i < 0
   ·simp only [h,if_true] <;> omega
   ·simp only [h,if_false] <;> omega
 ·cases hi with
  | none=>simp [sliceBounds,HT.sIx]
  | some i =>
   simp only [sliceBounds,HT.sIx,Option.getD_none,show (1:Int) > 0 by decide,if_true]
   by_cases h:i < 0
   ·simp only [h,if_true] <;> omega
   ·simp only [h,if_false] <;> omega
theorem Ww(its:List Value)(lo hi:Option Int):slicePick its.toArray lo hi none=((its.drop (HT.sIx its.length 0 lo)).take (HT.sIx its.length its.length hi - HT.sIx its.length 0 lo)).toArray:=by
 obtain ⟨h1,h2,h3⟩:=W1 lo hi its.toArray.size
 unfold slicePick
 rw [h1,h2,h3]
 simp only [sliceRange_one,pick_run,List.size_toArray] <;> rfl
def zbH(K:PySem.W.Frag):V→Option Int→Option Int→Hp→VK→Prop:=fun x lo hi H Q=>∃a xs,x=.ref a∧SqL K H a xs∧∀p,H p=none→Q (.ref p) (upd H p (.lst (Zq xs lo hi)))
theorem zaH:SlR X (zbH X.K):=by
 intro pins s σ H x v vl vu lo hi sl Q I rx hs pl pu h
 obtain ⟨a,xs,rfl,hx,q⟩:=h
 cases rx
 obtain ⟨its,r,ht,hz⟩:=I.list hx
 have hlen:=r.length
 refine ⟨"list",_,slot_list_getitem.lookup,ht.isList.typeIs,?_⟩
 refine wpAny_getItem_list_slice ht.isList hs pl pu .none (by simp) ?_ (by rw [List.size_toArray] <;> omega)
 rw [Ww,←hlen]
 refine ⟨.ref s.heap.objs.size,_,I.laid (t':=s.toks) (o:=.lst (Zq xs lo hi)) (fun b ob q=>Heap.get?_push_of_some _ q) (Nat.le_refl _) ?_,rfl,q _ (I.hok.fresh (Nat.le_refl _))⟩
 exact ⟨Nat.le_trans (Y7 xs lo hi) hz,_,0,(r.drop (HT.sIx xs.length 0 lo)).take (HT.sIx xs.length xs.length hi - HT.sIx xs.length 0 lo),Heap.get?_push_size _ rfl⟩
theorem z7:uD X (.builtin "len") (fun xs H Q=>∃p ys,xs=[.ref p]∧(SqL X.K H p ys∨SqT X.K H p ys)∧Q (.int ys.length) H):=by
 intro pins s σ H xs us Q I r h
 obtain ⟨p,ys,rfl,hq,q⟩:=h
 obtain ⟨u,rfl,rx⟩:=WB r
 cases rx
 have hn:=Xp
 rcases hq with hq|hq
 ·obtain ⟨its,r',pl,hz⟩:=I.list hq
  have hlen:=r'.length
  exact Calls.call_len_list pl.isList (by simp only [List.size_toArray] <;> omega) ⟨.int ys.length,H,I.tok _,⟨s.toks+1,by rw [List.size_toArray,hlen]⟩,q⟩
 ·obtain ⟨its,r',pl,hz⟩:=I.tuple hq
  have hlen:=r'.length
  exact len_tuple pl (by simp only [List.size_toArray] <;> omega) ⟨.int ys.length,H,I.tok _,⟨s.toks+1,by rw [List.size_toArray,hlen]⟩,q⟩
theorem v4:uD X (.type "list") (fun xs H Q=>∃p ys,xs=[.ref p]∧(SqL X.K H p ys∨SqT X.K H p ys)∧∀l,H l=none→Q (.ref l) (upd H l (.lst ys))):=by
 intro pins s σ H xs us Q I r h
 obtain ⟨p,ys,rfl,hq,q⟩:=h
 obtain ⟨u,rfl,rx⟩:=WB r
 cases rx
 have fin:∀(its:List Value),z6 ys its→ys.length≤sizeLine→∀(h':Heap) (c':Nat),(∀b o',s.heap.get? b=some o'→h'.get? b=some o') →
   h'.get? s.heap.objs.size=some { cls:=.type "list",dict:=none,data:=.seq its.toArray c',slots:=#[] }→EP X pins σ Q (.ref s.heap.objs.size) { s with heap:=h' }:=fun its r' hz h' c' kp e =>
  ⟨.ref s.heap.objs.size,_,I.laid (t':=s.toks) kp (Nat.le_refl _) (show xf X.prog X.w _ h' _ (.lst ys) from ⟨hz,its,c',r',e⟩),rfl,q _ (I.hok.fresh (Nat.le_refl _))⟩
 rcases hq with hq|hq
 ·obtain ⟨its,r',pl,hz⟩:=I.list hq
  have hlen:=r'.length
  obtain ⟨o,ho,hc,n,hd⟩:=pl.isList
  exact call_list_seq p (.inl rfl) ho hc hd (fun h' c' kp e=>fin its r' hz h' c' kp e) (by simp only [List.size_toArray] <;> omega)
 ·obtain ⟨its,r',pl,hz⟩:=I.tuple hq
  have hlen:=r'.length
  obtain ⟨o,ho,hc,n,hd⟩:=pl
  exact call_list_seq p (.inr rfl) ho hc hd (fun h' c' kp e=>fin its r' hz h' c' kp e) (by simp only [List.size_toArray] <;> omega)
theorem yv:uD X (.type "tuple") (fun xs H Q=>∃p ys,xs=[.ref p]∧((SqL X.K H p ys∧∀l,H l=none→Q (.ref l) (upd H l (.tup ys)))∨(SqT X.K H p ys∧Q (.ref p) H))):=by
 intro pins s σ H xs us Q I r h
 obtain ⟨p,ys,rfl,h⟩:=h
 obtain ⟨u,rfl,rx⟩:=WB r
 cases rx
 rcases h with ⟨hq,q⟩|⟨hq,q⟩
 ·obtain ⟨its,r',pl,hz⟩:=I.list hq
  have hlen:=r'.length
  refine call_tuple_list pl.isList (fun h' kp=>?_) (by simp only [List.size_toArray] <;> omega)
  have I1:Inv X pins σ H { s with heap:=h' }:=I.kept (t':=s.toks) kp
  have I2:Inv X pins σ (upd H h'.objs.size (.tup ys)) { s with heap:=h'.push { cls:=.type "tuple",data:=.seq its.toArray } } :=
   I1.laid (t':=s.toks) (fun b o e=>Heap.get?_push_of_some _ e) (Nat.le_refl _) (show xf X.prog X.w _ _ _ (.tup ys) from ⟨hz,its,r',IsTup.new _ _⟩)
  exact ⟨.ref h'.objs.size,_,I2,rfl,q _ (I1.hok.fresh (Nat.le_refl _))⟩
 ·obtain ⟨its,r',pl,hz⟩:=I.tuple hq
  exact call_tuple_same pl ⟨.ref p,H,I,rfl,q⟩
def tyV(K:PySem.W.Frag)(T:String)(x:V)(H:Hp):Prop:=match x with
 | .str _=>T="str"
 | .int _=>T="int"
 | .ref p=>(T="list"∧∃xs,SqL K H p xs)∨(T="tuple"∧∃o,K.lookup p=some o∧o.cls=.type "tuple"∧o.dict=none) ∨
  (T="dict"∧((∃kvs,H p=some (.dK kvs))∨∃kvs,H p=some (.dT kvs)))∨(T="set"∧∃S n,H p=some (.set S n))
 | _=>False
theorem zbI{pins:List (Addr×Obj)}{σ:St}{H:Hp}{s:Shared}{T:String}{x:V}{v:Value}(I:Inv X pins σ H s)(r:yt x v)(ty:tyV X.K T x H):
  s.TypeIs v T∧∀a,v=.ref a→∃ob,s.heap.get? a=some ob∧ob.dict=none:=by
 cases x with
 | str z =>
  obtain ⟨t,rfl⟩:=r
  cases (show T="str" from ty)
  exact ⟨typeIs_str s z t,fun _ e=>nomatch e⟩
 | int i =>
  obtain ⟨t,rfl⟩:=r
  cases (show T="int" from ty)
  exact ⟨typeIs_int s i t,fun _ e=>nomatch e⟩
 | ref p =>
  cases r
  rcases ty with ⟨rfl,xs,hq⟩|⟨rfl,o,hk,hc,hd⟩|⟨rfl,hk⟩|⟨rfl,S,n,hk⟩
  ·obtain ⟨its,_,pl,_⟩:=I.list hq
   refine ⟨pl.isList.typeIs,fun a e=>?_⟩
   cases e
   obtain ⟨o,n,e,c,hd,_⟩:=pl
   exact ⟨o,e,hd⟩
  ·refine ⟨⟨o,I.kIn p o hk,hc⟩,fun a e=>?_⟩
   cases e
   exact ⟨o,I.kIn _ o hk,hd⟩
  ·have z:∃o,s.heap.get? p=some o∧o.ExactDict:=by
    rcases hk with ⟨kvs,hk⟩|⟨kvs,hk⟩
    ·obtain ⟨_,_,_,_,o,_,_,e,ex,_⟩:=I.hok p _ hk
     exact ⟨o,e,ex⟩
    ·obtain ⟨_,_,_,_,o,_,_,e,ex,_⟩:=I.hok p _ hk
     exact ⟨o,e,ex⟩
   obtain ⟨o,e,ex⟩:=z
   refine ⟨⟨o,e,ex.1⟩,fun a e2=>?_⟩
   cases e2
   exact ⟨o,e,ex.2.1⟩
  ·obtain ⟨o,_,_,_,e,ex,_⟩:=I.hok p _ hk
   refine ⟨⟨o,e,ex.1⟩,fun a e2=>?_⟩
   cases e2
   exact ⟨o,e,ex.2.1⟩
 | _=>exact False.elim ty
def tBM(K:PySem.W.Frag)(T:String)(r:V→List V→Hp→VK→Prop)(to:TE)(t:TA):TE:=fun σ H Q=>to σ H fun x H1=>tyV K T x H1∧t σ H1 fun xs H2=>r x xs H2 Q
variable {o e:Expr} {es:List Expr} {to:TE} {t:TA} {name:Str} {apos cpos:Pos} {T id:String} {r:V→List V→Hp→VK→Prop}
theorem y8(pa:PlainAttrs T)(slot:Slot T name id)(hty:typeOf (.builtin id)=pure (.type "method_descriptor"))(hm:MtR X id r)(ho:PE X o to)(ha:PA X (e::es) t) 
  (hbase:attributeBase o name X.env (eval o X.env)=eval o X.env:=by rfl)
  (hfew:((backTo cpos (starEach (e::es) X.env)).all (fun x=>!x.1) && (backToKw cpos (keywordEach [] X.env)).all (fun x=>x.1.isSome)
   && decide ((e::es).length+([]:List Keyword).length+(if ([]:List Keyword).isEmpty then 0 else 1) < 30))=true:=by rfl)
  (hline:(apos.endLine == cpos.line)=true:=by rfl) (hs:starEach (e::es) X.env=(false,eval e X.env)::starEach es X.env:=by rfl) (hplain:(backTo cpos (starEach es X.env)).any (·.1)=false:=by rfl) :
  PE X (.Call (.Attribute o name apos) (e::es) [] cpos) (tBM X.K T r to t):=by
 intro pins s σ H Q I h
 refine wpAny_Call_method_late hbase hfew hline rfl (thn (ho pins s σ H _ I h) fun v s1 ⟨x,H1,I1,r1,ty,q1⟩=>?_)
 obtain ⟨h1,h2⟩:=zbI I1 r1 ty
 refine ⟨T,id,pa,slot,hty,h1,h2,?_⟩
 have hA:=ha cpos pins s1 σ H1 _ I1 q1
 rw [hs] at hA ⊢
 refine Calls.callWith_builtin (by show (false || (backTo cpos (starEach es X.env)).any (·.1))=false;rw [hplain] <;> rfl) (Calls.evalArgs_plain ?_)
 exact thn hA fun us s2 hh13'=>by obtain ⟨vs,H2,I2,r2,q2⟩:=hh13';exact hm pins s2 σ H2 x vs v us Q I2 r1 r2 q2
end
end L2
namespace L2
open PySem PySem.Spec PyProof.Rows
def MtM(X:Cx)(id:String)(r:V→List V→Hp→VK→Prop):Prop :=
 ∀(pins:List (Addr×Obj)) (s:Shared) (σ:St) (H:Hp) (x:V) (xs:List V) (v:Value) (us:List Value) (Q:VK),Inv X pins σ H s→yt x v→z6 xs us→r x xs H Q →
  wpAny (model X.prog X.w) X.A (call (.builtin id) (v::us)) (EP X pins σ Q) X.xe s
theorem z6.one:∀{x:V} {us:List Value},z6 [x] us→∃u,us=[u]∧yt x u
 | _,_,.cons r .nil=>⟨_,rfl,r⟩
theorem z6.rep{xs:List V}{us:List Value}(h:z6 xs us):∀k:Nat,z6 (List.replicate k xs).flatten (List.replicate k us).flatten
 | 0=>.nil
 | k+1=>by
  rw [List.replicate_succ,List.replicate_succ,List.flatten_cons,List.flatten_cons]
  exact z6.append h (z6.rep h k)
theorem Wr(its:List Value):∀(k:Nat) (acc:List Value),
  List.foldl (fun x1 x2=>x1++x2) acc.toArray (List.replicate k its.toArray)=(acc++(List.replicate k its).flatten).toArray
 | 0,acc=>by simp
 | k+1,acc=>by
  have e:acc.toArray++its.toArray=(acc++its).toArray:=by simp
  have e2:(acc++its)++(List.replicate k its).flatten=acc++(List.replicate (k+1) its).flatten:=by
   rw [List.replicate_succ,List.flatten_cons,List.append_assoc]
  rw [←e2,←Wr its k (acc++its),←e,List.replicate_succ,List.foldl_cons]
section
variable {X:Cx} {pins:List (Addr×Obj)} {σ:St} {H:Hp} {s:Shared} {l b:Addr} {xs ys zs:List V}
theorem Inv.lset{its its':List Value}{n:Nat}{f:Array Value→Array Value}{t':Nat}(I:Inv X pins σ H s)(hH:H l=some (.lst xs)) 
  (e:s.heap.get? l=some { cls:=.type "list",data:=.seq its.toArray n }) (hf:f its.toArray=its'.toArray) (hv:z6 ys its') (hz:ys.length≤sizeLine) :
  Inv X pins σ (upd H l (.lst ys)) { s with heap:=s.heap.update l (Obj.mapSeq f),toks:=t' }:=by
 have q:=PySem.IsL.update e f
 rw [hf] at q
 refine I.write (x:=l) (e:=l) (by rw [hH];exact trivial) (.inl rfl) (fun b' u hb hu=>(Heap.get?_update_other s.heap (Obj.mapSeq f) (Ne.symm hb)).trans hu) ⟨_,q⟩ ?_
 exact ⟨hz,its',_,hv,q⟩
theorem Inv.lnew{its:List Value}{t':Nat}(I:Inv X pins σ H s)(hv:z6 ys its)(hz:ys.length≤sizeLine):
  Inv X pins σ (upd H s.heap.objs.size (.lst ys)) { s with heap:=s.heap.push { cls:=.type "list",data:=.seq its.toArray },toks:=t' } :=
 I.laid (fun _ _ q=>Heap.get?_push_of_some _ q) (Nat.le_refl _) ⟨hz,its,0,hv,Heap.get?_push_size _ rfl⟩
theorem Inv.fresh(I:Inv X pins σ H s):H s.heap.objs.size=none:=I.hok.fresh (Nat.le_refl _)
theorem Inv.lstM(I:Inv X pins σ H s)(hH:H l=some (.lst xs)):xs.length≤sizeLine∧∃(its:List Value) (n:Nat),z6 xs its∧xs.length=its.length∧s.heap.get? l=some { cls:=.type "list",data:=.seq its.toArray n }:=by
 obtain ⟨z,its,n,r,e⟩:=I.hok l _ hH
 exact ⟨z,its,n,r,r.length,e⟩
theorem QU{n:Nat}(h:n≤sizeLine):Builtin.List.listTooLong n=false:=by
 unfold Builtin.List.listTooLong
 exact decide_eq_false (by omega)
end
section
variable {X:Cx}
def Vy:V→List V→Hp→VK→Prop:=fun x vs H Q=>∃l xs y,x=.ref l∧vs=[y]∧H l=some (.lst xs)∧xs.length < sizeLine∧Q .non (upd H l (.lst (xs++[y])))
theorem uI:MtM X "list.append" Vy:=by
 intro pins s σ H x vs v us Q I rx rv h
 obtain ⟨l,xs,y,rfl,rfl,hH,hz,q⟩:=h
 cases rx
 obtain ⟨u,rfl,ru⟩:=rv.one
 obtain ⟨z,its,n,r,hl,e⟩:=I.lstM hH
 refine call_meets F.slot_list_append ⟨_,e,rfl⟩ F.entry_list_append (F.args_list_append_2 _ _) (PySem.list_append l its.toArray n u (by rw [List.size_toArray];omega)) ⟨e,?_⟩
 refine ⟨.non,_,I.lset (its':=its++[u]) hH e (by simp) (r.append (.cons ru .nil)) ?_,rfl,q⟩
 rw [List.length_append,List.length_singleton]
 omega
def Vz:V→List V→Hp→VK→Prop:=fun x vs H Q=>∃l b xs zs,x=.ref l∧vs=[.ref b]∧H l=some (.lst xs)∧H b=some (.lst zs)∧xs.length+zs.length≤sizeLine∧Q .non (upd H l (.lst (xs++zs)))
theorem wK:MtM X "list.extend" Vz:=by
 intro pins s σ H x vs v us Q I rx rv h
 obtain ⟨l,b,xs,zs,rfl,rfl,hH,hB,hz,q⟩:=h
 cases rx
 obtain ⟨u,rfl,ru⟩:=rv.one
 cases ru
 obtain ⟨z,its,n,r,hl,e⟩:=I.lstM hH
 obtain ⟨z2,its2,n2,r2,hl2,e2⟩:=I.lstM hB
 have hsz:its.toArray.size+its2.toArray.size≤sizeLine:=by rw [List.size_toArray,List.size_toArray];omega
 have hlong:¬(!its.toArray.isEmpty && Builtin.List.listTooLong (its.toArray.size+its2.toArray.size))=true:=by
  rw [QU hsz,Bool.and_false]
  exact Bool.false_ne_true
 refine call_meets F.slot_list_extend ⟨_,e,rfl⟩ F.entry_list_extend (F.args_list_extend_2 _ _)
  (AutoSeq1.list_extend_list_list_0 l its.toArray n b its2.toArray n2 hlong (by rw [List.size_toArray];omega) (by omega)) ⟨e,e2,?_⟩
 refine ⟨.non,_,I.lset (its':=its++its2) hH e (by simp) (r.append r2) ?_,rfl,q⟩
 rw [List.length_append]
 omega
def VZ:R2:=fun x y H Q=>∃l b xs zs,x=.ref l∧y=.ref b∧H l=some (.lst xs)∧H b=some (.lst zs)∧xs.length+zs.length≤sizeLine∧∀p,H p=none→Q (.ref p) (upd H p (.lst (xs++zs)))
theorem zbJ:OpR X (binaryOp .Add) VZ:=by
 intro pins s σ H x y v u Q I rx ry h
 obtain ⟨l,b,xs,zs,rfl,rfl,hH,hB,hz,q⟩:=h
 cases rx
 cases ry
 obtain ⟨z,its,n,r,hl,e⟩:=I.lstM hH
 obtain ⟨z2,its2,n2,r2,hl2,e2⟩:=I.lstM hB
 refine PySem.P.add_list e e2 ?_ (by rw [List.size_toArray,List.size_toArray];omega)
 have ea:its.toArray++its2.toArray=(its++its2).toArray:=by simp
 rw [ea]
 exact ⟨.ref _,_,I.lnew (t':=s.toks) (r.append r2) (by rw [List.length_append];omega),rfl,q _ I.fresh⟩
theorem zaI{α:Type}(xs:List α)(k:Nat):(List.replicate k xs).flatten.length=k * xs.length:=by
 induction k with
 | zero=>simp
 | succ k ih=>rw [List.replicate_succ,List.flatten_cons,List.length_append,ih,Nat.succ_mul,Nat.add_comm]
end
section
variable {prog:Program} {w:World} {A:Around} {E:Value→Shared→Prop} {s:Shared}
end
section
variable {X:Cx}
end
end L2
namespace Att
open PySem PySem.W PySem.Calls PyProof.Rows
theorem Xs{P:Params}{h:Heap}:∀(ns:List Int) (vs:List Value),WellAll P h vs (ns.map WData.int)→IntsAre vs ns:=by
 intro ns
 induction ns with
 | nil =>
  intro vs w
  rw [List.map_nil] at w
  cases w
  exact .nil
 | cons n ns ih =>
  intro vs w
  rw [List.map_cons] at w
  cases w with
  | cons a b =>
   cases a
   exact .cons _ _ (ih _ b)
theorem U4{l:OpenLaw}{n:Nat}(hn:l.most=some n){P:Params}{h:Heap}{args:List WData}{vals:List Value} 
  (hpre:l.row.toRowW.claim.pre args=true) (hwl:WellAll P h vals args) :
  ∃a vs ns,vals=[Value.ref a]∧args=[WData.list (ns.map WData.int)]∧h.get? a=some { cls:=.type "list",data:=.seq vs.toArray }∧IntsAre vs ns∧ns.length≤n:=by
 have hsh:WShape.hasAll [] args [.list .int]=true:=(pre_splitW hpre).1
 have hc:l.pre.holds [] { args:=args }=true:=(pre_splitW hpre).2
 obtain ⟨d,r,rfl,h1,h2⟩:=hasAllW_cons hsh
 obtain rfl:=hasAllW_nil h2
 obtain ⟨xs,rfl,h3⟩:=hasW_list h1
 obtain ⟨ns,rfl⟩:=items_int h3
 have hlen:ns.length≤n:=by
  unfold OpenLaw.pre at hc
  have h4:(WTm.not (.lt (.lit (.int (n:Int))) (.len (.arg 0)))).holds [] { args:=[.list (ns.map .int)] }=true:=by
   have h4:=(holds_andW hc).1
   rw [hn] at h4
   exact h4
  have h5:=condW_of h4 (w_not (w_lt w_lit (w_len_list (w_arg rfl))))
  rw [List.length_map] at h5
  refine Nat.le_of_not_lt fun q=>?_
  have q':(n:Int) < ((ns.length:Nat):Int):=by omega
  first
   | (rw [decide_eq_true q'] at h5;exact absurd h5 (by decide))
   | (simp at h5;omega)
 cases hwl with
 | cons w1 w2 =>
  cases w2
  cases w1 with
  | list ho hall=>exact ⟨_,_,ns,rfl,rfl,ho,Xs ns _ hall,hlen⟩
theorem U5(l:OpenLaw)(args:List WData):l.row.toRowW.claim.post args (.bool true) args=true :=
 postW_of (r:=l.row.toRowW) (X:=(true == true))
  (show WShape.has [] (.bool true) .bool=true by first|rfl|decide|simp [WShape.has,WShape.arms,WShape.armsAll])
  (show (WTm.eq .res (.lit (.bool true))).value [] { args:=args,res:=some (.bool true),after:=args }=some (.bool (true == true)) from w_eq_bool (w_res rfl) w_lit) rfl
theorem attach_call{l:OpenLaw}{n:Nat}{q:Program}{loose:List Str}{XP:(Str→Option Value)→Heap→Prop}{YP:World→Heap→Prop}{d:DefRec} 
  (hn:l.most=some n) (hdf:d.params.defaults=[])
  (call:∀(w:World) (s₀ s₁:Shared) (mg mb:Str→Option Value) (fa:Addr) (o:Obj) (pm cd doc:Value) (a:Addr) (vs:List Value) (ns:List Int),
   Ground q loose [] XP w s₀ mg mb s₁.heap→YP w s₁.heap →
   s₁.heap.get? fa=some o→o.data=.func (docDef d.name d.params d.body d.scope pm cd doc)→s₁.heap.CodeRec cd d.name→mg d.name=some (.ref fa) →
   s₁.heap.get? a=some { cls:=.type "list",data:=.seq vs.toArray }→IntsAre vs ns→ns.length≤n→s₁.gens=#[] →
   codeAny (model l.prog w) callerA (.call (.ref fa) ⟨[.ref a],[]⟩) (fun r s'=>r=.ok (.ret (.bool true))∧OldK s₁.heap s'.heap∧s'.os=s₁.os∧AllBare s'.gens) s₁) :
  WalkO q loose XP YP l.row.toRowW d [] (fun f vs=>PySem.call f vs):=by
 intro w s₀ s₁ mg mb G Y fa o pm cd doc dV kV ho hd hcd hD hmg hg args vals as hpre hlay hrd hwl hlo
 obtain rfl:dV=.none:=Dflts.none hD hdf
 obtain rfl:kV=.none:=Dflts.noKw hD
 obtain ⟨a,vs,ns,rfl,rfl,hobj,hints,hlen⟩:=U4 hn hpre hwl
 refine enter_call (codeAny_mono (call w s₀ s₁ mg mb fa o pm cd doc a vs ns G Y ho (fd_plain hd) hcd hmg hobj hints hlen hg) fun r s' hq=>?_)
 obtain ⟨rfl,h2,h3,h4⟩:=hq
 exact ⟨.inl ⟨.bool true,.bool true,[],rfl,fun _=>rfl,.bool true,U5 l _,fun _=>⟨List.Pairwise.nil,fun _ hm=>(nomatch hm)⟩⟩,h2,h3,h4⟩
section
variable {prog:Program} {w:World} {A:Around} {E:Value→Shared→Prop} {s:Shared} {K:Frag}
end
end Att
namespace L2
open PySem PySem.Spec PyProof.Rows
theorem Ws:∀{vs:List Value} {ns:List Int},IntsAre vs ns→z6 (ns.map V.int) vs
 | _,_,.nil=>.nil
 | _,_,.cons n t h=>.cons ⟨t,rfl⟩ (Ws h)
def QV(H:Hp):Prop:=∀b,H b=none∨∃o xs,H b=some (.frz o (.lst xs))
theorem QW{P:Program}{w:World}{K:PySem.W.Frag}{mg mb:Str→Option Value}{CX:CXT}{k:Nat}{fa a:Addr}{fd:FuncData}{x:Str}{sp:Sp}{s₁:Shared}{vs:List Value}{ns:List Int} 
  (KX:K.In s₁.heap) (hns:s₁.heap.Ns mainGlobals mg) (hb:s₁.heap.Ns builtinsNs mb) (hbb:∀x:Str,x≠"__name__"→mb x=bootBuiltins x) (hlim:s₁.heap.NoLimit) (hg:s₁.gens=#[])
  (ha:s₁.heap.get? a=some { cls:=.type "list",data:=.seq vs.toArray }) (hi:IntsAre vs ns) (hl:ns.length≤sizeLine) (hr:Room k callerA)
  (F:∀base:Heap,K.In base→base.Ns mainGlobals mg→FnOk P w K mg base CX k fa fd [x] sp) (hbind:∀(s:Shared) (u:Value),BindsTo s fd ⟨[u],[]⟩ [(x,u)])
  (hsp:∀H:Hp,QV H→SqL K H a (ns.map V.int)→sp [.ref a] H (fun v _=>v=.bl true) fun _ _ _=>False)
  (hCX:∀H e s',CX [] H s₁ (fun _ _ _=>False) e s'→False) :
  codeAny (model P w) callerA (.call (.ref fa) ⟨[.ref a],[]⟩) (fun r s'=>r=.ok (.ret (.bool true))∧OldK s₁.heap s'.heap∧s'.os=s₁.os∧AllBare s'.gens) s₁:=by
 have rv:=Ws hi
 have lenV:=hi.length
 have core:∀H:Hp,QV H→SqL K H a (ns.map V.int)→HOk P w H s₁.heap→(∀b,H b≠none→b=a)→(H a≠none→K.lookup a=none) →
   codeAny (model P w) callerA (.call (.ref fa) ⟨[.ref a],[]⟩) (fun r s'=>r=.ok (.ret (.bool true))∧OldK s₁.heap s'.heap∧s'.os=s₁.os∧AllBare s'.gens) s₁:=by
  intro H hO hS hok hA hK
  have base_of:∀{b:Addr} {o:Obj},s₁.heap.get? b=some o→H b=none→(Z1 s₁.heap H).get? b=some o:=fun e n=>QJ e n
  have noA:∀{b:Addr} {o:Obj} {es:Array DictEntry} {ep:Nat},s₁.heap.get? b=some o→o.data=.dict es ep→H b=none:=fun {b o es ep} e d=>by
   cases q:H b with
   | none=>rfl
   | some u =>
    have e':b=a:=hA b (by rw [q];simp)
    subst e'
    rw [ha] at e;cases e
    have d':Data.seq vs.toArray _=Data.dict es ep:=d
    cases d'
  have nsK:∀{b:Addr} {m:Str→Option Value},s₁.heap.Ns b m→(Z1 s₁.heap H).Ns b m:=fun {b m} hh14'=>by obtain ⟨o,es,ep,e,d,r⟩:=hh14';exact ⟨o,es,ep,base_of e (noA e d),d,r⟩
  have hKb:K.In (Z1 s₁.heap H):=fun b o e=>base_of (KX b o e) (by
   cases q:H b with
   | none=>rfl
   | some u =>
    have e':b=a:=hA b (by rw [q];simp)
    subst e'
    rw [hK (by rw [q];simp)] at e;cases e)
  have hM:Mod K mg (Z1 s₁.heap H):=⟨hKb,nsK hns,⟨mb,nsK hb,hbb⟩,(by obtain ⟨mc,h1,h2⟩:=hlim;exact ⟨mc,nsK h1,h2⟩)⟩
  have e0:Env0 P w K mg (Z1 s₁.heap H) callerA [] s₁ H:=⟨rfl,hM,fun b o e=>zau e,Nat.le_of_eq (UR _ _),trivial,fun b hb=>absurd (show b∈([]:List Addr) from hb) (by simp),hok,.of_eq hg⟩
  refine codeAny_mono ((F _ hKb (nsK hns)).run callerA [] s₁ H ⟨[.ref a],[]⟩ [.ref a] [.ref a] _ _ hr e0 (hbind s₁ (.ref a)) (.cons rfl .nil) (hsp H hO hS)) fun r s' h=>?_
  cases r with
  | error e=>exact (hCX H e s' h).elim
  | ok fl =>
   cases fl with
   | next=>exact False.elim h
   | brk=>exact False.elim h
   | cont=>exact False.elim h
   | ret u =>
    obtain ⟨v,H',os,bare,un,hok',r',q⟩:=h
    have q':v=.bl true:=q
    subst q'
    obtain rfl:u=Value.bool true:=r'
    refine ⟨rfl,OldK.of_keep fun b o e=>?_,os,bare⟩
    cases q:H b with
    | none=>exact un.keep b o e q (by intro z;exact absurd (show b∈([]:List Addr) from z) (by simp)) (by simp)
    | some u =>
     rcases hO b with z|⟨ob,xs,z⟩
     ·rw [q] at z;cases z
     ·have z2:=un.frzs b ob _ z
      obtain ⟨e1,_⟩:=hok b _ z
      obtain ⟨e2,_⟩:=hok' b _ z2
      rw [e] at e1;cases e1
      exact e2
 cases hk:K.lookup a with
 | some o =>
  have e:=KX a o hk
  rw [ha] at e
  cases e
  refine core (fun _=>none) (fun _=>.inl rfl) (.inr ⟨_,vs.toArray,_,hk,rfl,rfl,rfl,by rw [List.size_toArray,lenV];exact hl,by simpa using rv⟩) (fun b u z=>by have z':(none:Option HO)=some u:=z;cases z') (fun b z=>absurd rfl z) fun z=>absurd rfl z
 | none =>
  refine core (fun b=>if b=a then some (.frz { cls:=.type "list",data:=.seq vs.toArray } (.lst (ns.map V.int))) else none) (fun b=>?_) (.inl (.inr ⟨{ cls:=.type "list",data:=.seq vs.toArray },if_pos rfl⟩)) (fun b u z=>?_) (fun b z=>?_) fun _=>hk
  ·by_cases hb:b=a
   ·exact .inr ⟨_,_,if_pos hb⟩
   ·exact .inl (if_neg hb)
  ·by_cases hb:b=a
   ·have z':=(if_pos hb).symm.trans z
    cases z'
    subst hb
    exact ⟨ha,by rw [List.length_map];exact hl,vs,_,rv,ha⟩
   ·have z':=(if_neg hb).symm.trans z
    cases z'
  ·by_cases hb:b=a
   ·exact hb
   ·exact absurd (if_neg hb) z
end L2
namespace L2
open PySem PySem.Spec PyProof.Rows
theorem zaJ{l:PySem.W.OpenLaw}{n k:Nat}{q:Program}{loose:List Str}{XP:(Str→Option Value)→Heap→Prop}{YP:World→Heap→Prop}{d:DefRec}{K:Params→PySem.W.Frag}{CX:World→CXT}{sp:World→Sp}{x:Str} 
  (hn:l.most=some n) (hn2:n≤sizeLine) (hdf:d.params.defaults=[]) (hr:Room k callerA)
  (hY:∀(w:World) (h:Heap),YP w h→(K w.params).In h)
  (F:∀(w:World) (mg:Str→Option Value) (fa:Addr) (h:Heap),(K w.params).In h→h.Ns mainGlobals mg→mg d.name=some (.ref fa) →
   ∃fd:FuncData,(∀(s:Shared) (u:Value),BindsTo s fd ⟨[u],[]⟩ [(x,u)]) ∧
    ∀base:Heap,(K w.params).In base→base.Ns mainGlobals mg→FnOk l.prog w (K w.params) mg base (CX w) k fa fd [x] (sp w))
  (hsp:∀(w:World) (H:Hp) (a:Addr) (ns:List Int),ns.length≤n→QV H→SqL (K w.params) H a (ns.map V.int)→sp w [.ref a] H (fun v _=>v=.bl true) fun _ _ _=>False)
  (hCX:∀(w:World) (H:Hp) (s:Shared) (e:Value) (s':Shared),CX w [] H s (fun _ _ _=>False) e s'→False) :
  PySem.W.WalkO q loose XP YP l.row.toRowW d [] (fun f vs=>PySem.call f vs):=by
 refine Att.attach_call hn hdf fun w s₀ s₁ mg mb fa o pm cd doc a vs ns G Y ho hd hcd hmg hobj hints hlen hg=>?_
 have KX:=hY w _ Y
 obtain ⟨fd,hb,hF⟩:=F w mg fa _ KX G.T.g hmg
 exact QW KX G.T.g G.T.b G.T.builtins G.T.nolimit hg hobj hints (Nat.le_trans hlen hn2) hr hF hb (fun H hO hS=>hsp w H a ns hlen hO hS) fun H e s'=>hCX w H s₁ e s'
end L2
namespace L2
open PySem PySem.Spec PyProof.Rows
def ZA(s:Stmt):Arguments:=match s with
 | .FunctionDef _ a _ _ _ _ _ _ _ _=>a
 | _=>{ posonlyargs:=[],args:=[],vararg:=none,kwonlyargs:=[],kw_defaults:=[],kwarg:=none,defaults:=[] }
def vz(s:Stmt):List Stmt:=match s with
 | .FunctionDef _ _ b _ _ _ _ _ _ _=>b
 | _=>[]
def zr(s:Stmt):Scope:=match s with
 | .FunctionDef _ _ _ _ _ _ sc _ _ _=>sc
 | _=>{ kind:=.function,names:=[],isGenerator:=false,isCoroutine:=false }
abbrev CX0:CXT:=fun _ _ _ _ _ _=>False
abbrev E0:XK:=fun _ _ _=>False
theorem zc8{X:Cx}:WY CX0 X E0:=fun _ _ _ _ _ _ _ h=>h.elim
structure Fun (K:PySem.W.Frag) (x qual:Str) (st:Stmt) (f:Addr) (fd:FuncData):Prop where
 ex:∃(oc:Value) (od:Option Addr) (kV doc pm:Value) (an:Option Addr) (cdv ct:Value) (osl:Array (Option Value)),
  fd=PySem.W.fnOf x qual (ZA st) (vz st) (zr st) .none kV doc pm an cdv ct∧K.lookup f=some ⟨oc,od,.func fd,osl⟩∧PySem.W.codeIn K cdv qual=true
 kp:PySem.W.keepIn K (.ref f)=true
section
variable {P:Program} {w:World} {K:PySem.W.Frag} {mg:Str→Option Value} {base:Heap}
theorem Fun.ok{x qual:Str}{st:Stmt}{f:Addr}{fd:FuncData}{N ps:List Str}{k:Nat}{sp:Sp}(F:Fun K x qual st f fd)(S:FnScope N ps (zr st))(len:∀vs H Q E,sp vs H Q E→vs.length=ps.length) 
  (hbody:∀(cdv:Value) (A:Around) (outer:List Env) (s:Shared) (H:Hp) (vs:List V) (Q:VK) (E:XK),Room k (A.deeper (envOfC qual (zr st) s.heap.objs.size f cdv))→sp vs H Q E →
   ∃t,PSs (w4 CX0 P w K mg base N qual (zr st) f cdv A outer s H E).nox (vz st) t∧t { nx:=fun _ H'=>Q .non H',rt:=Q } (v3 N vs) H):FnOk P w K mg base CX0 (k+1) f fd ps sp:=by
 obtain ⟨oc,od,kV,doc,pm,an,cdv,ct,osl,rfl,lk,hcd⟩:=F.ex
 refine J2 lk hcd S len fun A outer s H vs Q E hr hsp=>?_
 obtain ⟨t,h,q⟩:=hbody cdv A outer s H vs Q E hr hsp
 exact ⟨t,h.nox,q⟩
theorem Fun.binds{x qual:Str}{st:Stmt}{f:Addr}{fd:FuncData}{ps:List Str}(F:Fun K x qual st f fd) 
  (h:∀(kV doc pm:Value) (an:Option Addr) (cdv ct:Value) (us:List Value),us.length=ps.length→bindArgs (PySem.W.fnOf x qual (ZA st) (vz st) (zr st) .none kV doc pm an cdv ct) ⟨us,[]⟩=pure (ps.zip us)):v2 K fd ps []:=by
 obtain ⟨oc,od,kV,doc,pm,an,cdv,ct,osl,rfl,lk,hcd⟩:=F.ex
 exact .all (h kV doc pm an cdv ct)
theorem zN{x qual:Str}{st:Stmt}{f:Addr}{oc:Value}{od an:Option Addr}{osl:Array (Option Value)}{kV doc pm cdv ct:Value}(l:K.lookup f=some ⟨oc,od,.func (PySem.W.fnOf x qual (ZA st) (vz st) (zr st) .none kV doc pm an cdv ct),osl⟩) 
 (c:PySem.W.codeIn K cdv qual=true) (k:PySem.W.keepIn K (.ref f)=true):Fun K x qual st f (PySem.W.fnOf x qual (ZA st) (vz st) (zr st) .none kV doc pm an cdv ct):=⟨⟨oc,od,kV,doc,pm,an,cdv,ct,osl,rfl,l,c⟩,k⟩
end
section
variable {X:Cx}
theorem pv(i:Nat){x:Str}{pos:Pos}(hN:X.N[i]?=some x:=by rfl)(hv:Vis X.env.scope x:=by first|exact Or.inl rfl|exact Or.inr (Or.inl rfl)|exact Or.inr (Or.inr rfl))(hd:(x == ("__debug__":Str))=false:=by decide) 
 (hcd:(x == ("__classdict__":Str))=false:=by decide):PE X (.Name x pos) (Y9 i):=zbh hN hv hd hcd
end
def zV(H H':Hp):Prop:=∀b o,H b=some o→H' b=some o
theorem zV.refl(H:Hp):zV H H:=fun _ _ h=>h
theorem zV.trans{H H1 H2:Hp}(a:zV H H1)(b:zV H1 H2):zV H H2:=fun c o h=>b c o (a c o h)
theorem zV.free{H H':Hp}(e:zV H H'){l:Addr}(h:H' l=Option.none):H l=Option.none:=by
 cases q:H l with
 | none=>rfl
 | some o =>
  rw [e l o q] at h
  cases h
theorem zV.seq{K:PySem.W.Frag}{H H':Hp}{a:Addr}{xs:List V}(e:zV H H')(h:SqL K H a xs):SqL K H' a xs:=by
 rcases h with (h|⟨o,h⟩)|h
 ·exact .inl (.inl (e _ _ h))
 ·exact .inl (.inr ⟨o,e _ _ h⟩)
 ·exact .inr h
end L2
namespace L2
open PySem PySem.Spec PyProof.Rows
def PF(X:Cx)(ifs:List Expr)(t:TT):Prop :=
 ∀(pins:List (Addr×Obj)) (s:Shared) (σ:St) (H:Hp) (Q:Bool→Hp→Prop),Inv X pins σ H s→t σ H Q →
  wpAny (model X.prog X.w) X.A (forIn ifs true fun c r=>if r=true then do let ok ←isTrue c X.env (eval c X.env);pure (ForInStep.yield ok) else pure (ForInStep.yield r)) (TP X pins σ Q) X.xe s
def zaK:TT:=fun _ H Q=>Q true H
theorem zbK{X:Cx}:PF X [] zaK:=fun _ _ _ H _ I h=>wpAny_tests_nil ⟨H,I,h⟩
theorem U6{prog:Program}{w:World}{A:Around}{R:Result→Shared→Prop}{s:Shared}{elt target iter:Expr}{ifs:List Expr}{scope:Scope}{pos:Pos}{it acc:Value}{env:Env}(I:Nat→Shared→Prop) 
  (turn:∀n s,I n s→wpAny (model prog w) A (pyNext it) (fun r s1=>match r with
   | none=>R (.ok .next) s1
   | some v=>wpAny (model prog w) A (letOwnedTupleGo target it v) (fun _ s1'=>wpAny (model prog w) A (assign target env v) (fun _ s2 =>
    wpAny (model prog w) A (forIn ifs true fun c r=>if r=true then do let ok ←isTrue c env (eval c env);pure (ForInStep.yield ok) else pure (ForInStep.yield r)) (fun ok s3 =>
     if ok=true then wpAny (model prog w) A (eval elt env) (fun x s4 =>
      wpAny (model prog w) A (call (.builtin "list.append") [acc,x]) (fun _ s5=>∃m,m < n∧I m s5) (fun _ _=>False) s4) (fun _ _=>False) s3
     else ∃m,m < n∧I m s3) (fun _ _=>False) s2) (fun _ _=>False) s1') (fun _ _=>False) s1) (fun _ _=>False) s)
  (n:Nat) (h:I n s) :
  codeAny (model prog w) A (.compLoop (.ListComp elt [⟨target,iter,ifs,0⟩] scope pos) 0 it acc env) R s:=by
 refine codeAny_loop rfl I (fun n s hI=>?_) n h
 show wpAny _ A ((compTurn (.ListComp elt [⟨target,iter,ifs,0⟩] scope pos) 0 it acc env).onRaise (fun x=>do noteFrame x env;theTreesLotGoes x)) _ _ s
 refine wpAny_noted ?_
 rw [compTurn_list]
 refine wpAny_bind (wpAny_standAt (wpAny_bind (wpAny_mono (turn n s hI) (fun r s1 h1=>?_) fun _ _ h'=>h'.elim)))
 cases r with
 | none=>exact wpAny_pure h1
 | some v =>
  refine wpAny_bind (wpAny_mono h1 (fun _ s1' h1'=>?_) fun _ _ h'=>h'.elim)
  refine wpAny_bind (wpAny_mono h1' (fun _ s2 h2=>wpAny_bind (wpAny_mono h2 (fun ok s3 h3=>?_) fun _ _ h'=>h'.elim)) fun _ _ h'=>h'.elim)
  cases ok with
  | false=>exact wpAny_pure ⟨rfl,h3⟩
  | true=>exact wpAny_bind (wpAny_bind (wpAny_mono h3 (fun x s4 h4=>wpAny_bind (wpAny_mono h4 (fun _ s5 h5=>wpAny_pure (wpAny_pure ⟨rfl,h5⟩)) fun _ _ h'=>h'.elim)) fun _ _ h'=>h'.elim))
theorem Zr{env:Env}:∀(l:List (Str×NameKind)) (acc:List (Str×Addr)),(∀y∈l,y.2=.free→(env.cells.lookup y.1).isSome=true)→(∀x c,acc.lookup x=some c→env.cells.lookup x=some c) →
  ∃cl:List (Str×Addr),(forIn l acc (fun (x:Str×NameKind) (r:List (Str×Addr))=>match x with
   | (name,kind)=>if (kind == NameKind.free)=true then do let a ←cellOf env name;pure (ForInStep.yield ((name,a)::r)) else pure (ForInStep.yield r)):Sem (List (Str×Addr)))=pure cl ∧
   (∀x c,cl.lookup x=some c→env.cells.lookup x=some c)∧(∀x,(x,NameKind.free)∈l→∃c,cl.lookup x=some c)∧∀x,(∃c,acc.lookup x=some c)→∃c,cl.lookup x=some c
 | [],acc,_,ha=>⟨acc,rfl,ha,fun x h=>(nomatch h),fun x h=>h⟩
 | (n,k)::r,acc,h,ha=>by
  by_cases hk:k=NameKind.free
  ·subst hk
   obtain ⟨c,hc⟩:=Option.isSome_iff_exists.mp (h (n,.free) List.mem_cons_self rfl)
   have ha':∀x c',((n,c)::acc).lookup x=some c'→env.cells.lookup x=some c':=fun x c' e=>by
    rw [List.lookup_cons] at e
    cases hx:x == n with
    | true =>
     rw [hx] at e
     have:x=n:=eq_of_beq hx
     rw [this,hc];simpa using e
    | false=>rw [hx] at e;exact ha x c' e
   obtain ⟨cl,e1,e2,e3,e4⟩:=Zr r ((n,c)::acc) (fun y hy=>h y (List.mem_cons_of_mem _ hy)) ha'
   refine ⟨cl,?_,e2,fun x hx=>?_,fun x ⟨d,hd⟩=>e4 x ?_⟩
   ·rw [List.forIn_cons]
    show (if (NameKind.free == NameKind.free)=true then _ else _:Sem _) >>= _=_
    rw [if_pos (show (NameKind.free == NameKind.free)=true from rfl)]
    have hco:cellOf env n=pure c:=by unfold cellOf;rw [hc]
    rw [hco]
    exact e1
   ·rcases List.mem_cons.mp hx with q|q
    ·cases q
     exact e4 n ⟨c,by simp [List.lookup_cons]⟩
    ·exact e3 x q
   ·cases hx:x == n with
    | true=>exact ⟨c,by rw [List.lookup_cons,hx]⟩
    | false=>exact ⟨d,by rw [List.lookup_cons,hx];exact hd⟩
  ·obtain ⟨cl,e1,e2,e3,e4⟩:=Zr r acc (fun y hy=>h y (List.mem_cons_of_mem _ hy)) ha
   refine ⟨cl,?_,e2,fun x hx=>?_,e4⟩
   ·rw [List.forIn_cons]
    have hb:¬(k == NameKind.free)=true:=by simpa using hk
    show (if (k == NameKind.free)=true then _ else _:Sem _) >>= _=_
    rw [if_neg hb]
    exact e1
   ·rcases List.mem_cons.mp hx with q|q
    ·cases q;exact absurd rfl hk
    ·exact e3 x q
theorem V0{scope:Scope}{env:Env}(h:∀y∈scope.names,y.2=.free→(env.cells.lookup y.1).isSome=true):
  ∃cl:List (Str×Addr),closureFor scope env=pure cl∧(∀x c,cl.lookup x=some c→env.cells.lookup x=some c)∧∀x,(x,NameKind.free)∈scope.names→∃c,cl.lookup x=some c:=by
 obtain ⟨cl,e1,e2,e3,_⟩:=Zr (env:=env) scope.names [] h (fun x c e=>by simp at e)
 refine ⟨cl,?_,e2,e3⟩
 unfold closureFor
 exact (congrArg (fun (m:Sem (List (Str×Addr)))=>m >>= fun cs=>pure cs) e1)
def VA(osc:Scope)(oN:List Str)(scope:Scope)(N:List Str)(ms:List (Option Nat)):Bool :=
 scope.names.all (fun y=>decide (y.2≠.cell) && (decide (y.2≠.local) || decide (scope.names.lookup y.1=some .local)) && (decide (y.2≠.free) || decide (osc.names.lookup y.1=some .cell) || decide (osc.names.lookup y.1=some .free)))
 && decide (ms.length=N.length) && decide (N.Nodup) && decide (scope.kind=.function)
 && (N.zip ms).all (fun p=>match p.2 with|none=>true|some j=>decide (oN[j]?=some p.1) && decide (scope.names.lookup p.1=some .free))
structure CompOk (osc:Scope) (oN:List Str) (scope:Scope) (N:List Str) (ms:List (Option Nat)):Prop where
 kind:scope.kind=.function
 nocell:∀y∈scope.names,y.2≠.cell
 loc:∀y∈scope.names,y.2=.local→scope.names.lookup y.1=some .local
 fr:∀y∈scope.names,y.2=.free→osc.names.lookup y.1=some .cell∨osc.names.lookup y.1=some .free
 len:ms.length=N.length
 nd:N.Nodup
 sel:∀(i:Nat) x j,N[i]?=some x→ms[i]?=some (some j)→oN[j]?=some x∧scope.names.lookup x=some .free
theorem CompOk.of{osc:Scope}{oN:List Str}{scope:Scope}{N:List Str}{ms:List (Option Nat)}(h:VA osc oN scope N ms=true):CompOk osc oN scope N ms:=by
 unfold VA at h
 simp only [Bool.and_eq_true,decide_eq_true_eq,List.all_eq_true,Bool.or_eq_true] at h
 obtain ⟨⟨⟨⟨h1,h2⟩,h3⟩,h4⟩,h5⟩:=h
 refine ⟨h4,fun y hy=>(h1 y hy).1.1,fun y hy e=>?_,fun y hy e=>?_,h2,h3,fun i x j e1 e2=>?_⟩
 ·rcases (h1 y hy).1.2 with q|q
  ·exact absurd e q
  ·exact q
 ·rcases (h1 y hy).2 with (q|q)|q
  ·exact absurd e q
  ·exact .inl q
  ·exact .inr q
 ·have m:(x,some j)∈N.zip ms:=by
   have:(N.zip ms)[i]?=some (x,some j):=by rw [List.getElem?_zip_eq_some];exact ⟨e1,e2⟩
   exact List.mem_of_getElem? this
  have q:=h5 _ m
  simpa using q
def yI(X:Cx)(scope:Scope)(cl:List (Str×Addr))(C:Addr)(N:List Str)(s:Shared)(H:Hp)(ex:List Addr):Cx :=
 { X with N:=N,s₀:=s,H₀:=H,env:=compEnvC scope cl C X.env,outer:=X.stack,stack:=X.stack,ex:=ex,fn:=fun _=>false,pn:=[],xe:=fun _ _=>False }
def blk(ms:List (Option Nat))(σ:St):St:=ms.map fun m=>m.bind fun j=>(σ[j]?).join
theorem VB{ms:List (Option Nat)}{σ:St}{i:Nat}{v:V}(h:(blk ms σ)[i]?=some (some v)):∃j,ms[i]?=some (some j)∧σ[j]?=some (some v):=by
 unfold blk at h
 rw [List.getElem?_map] at h
 cases e:ms[i]? with
 | none=>rw [e] at h;simp at h
 | some m =>
  rw [e] at h
  cases m with
  | none=>simp at h
  | some j =>
   refine ⟨j,rfl,?_⟩
   simp only [Option.map_some,Option.bind_some,Option.some.injEq] at h
   cases q:σ[j]? with
   | none=>rw [q] at h;simp at h
   | some o=>rw [q] at h;simp at h;rw [h]
theorem uu{env:Env}:∀{names:List (Str×NameKind)} {x:Str} {k:NameKind},
  (names.map fun (n,k)=>if (k == NameKind.free && env.scope.kind == .function && env.kindOf n == some .cell) then (n,NameKind.cell) else (n,k)).lookup x=some k →
  (names.lookup x=some k)∨(names.lookup x=some .free∧k=.cell)
 | [],_,_,h=>by simp at h
 | (n,k')::r,x,k,h=>by
  have ih:=@uu env r x k
  rw [List.map_cons] at h
  by_cases hc:(k' == NameKind.free && env.scope.kind == .function && env.kindOf n == some .cell)=true
  ·have hf:k'=.free:=by
    simp only [Bool.and_eq_true] at hc
    simpa using hc.1.1
   have h':List.lookup x ((n,NameKind.cell)::r.map fun (n,k)=>if (k == NameKind.free && env.scope.kind == .function && env.kindOf n == some .cell) then (n,NameKind.cell) else (n,k))=some k:=by
    have e:(match (n,k') with|(n,k)=>if (k == NameKind.free && env.scope.kind == .function && env.kindOf n == some .cell)=true then (n,NameKind.cell) else (n,k))=(n,NameKind.cell):=if_pos hc
    rw [e] at h;exact h
   rw [List.lookup_cons] at h' ⊢
   cases hx:x == n with
   | true=>rw [hx] at h';cases h';exact .inr ⟨by rw [hf],rfl⟩
   | false=>rw [hx] at h';exact ih h'
  ·have h':List.lookup x ((n,k')::r.map fun (n,k)=>if (k == NameKind.free && env.scope.kind == .function && env.kindOf n == some .cell) then (n,NameKind.cell) else (n,k))=some k:=by
    have e:(match (n,k') with|(n,k)=>if (k == NameKind.free && env.scope.kind == .function && env.kindOf n == some .cell)=true then (n,NameKind.cell) else (n,k))=(n,k'):=if_neg hc
    rw [e] at h;exact h
   rw [List.lookup_cons] at h' ⊢
   cases hx:x == n with
   | true=>rw [hx] at h';cases h';exact .inl rfl
   | false=>rw [hx] at h';exact ih h'
theorem uq{env:Env}:∀{names:List (Str×NameKind)} {x:Str},names.lookup x=some .free →
  (names.map fun (n,k)=>if (k == NameKind.free && env.scope.kind == .function && env.kindOf n == some .cell) then (n,NameKind.cell) else (n,k)).lookup x=some .free ∨
  (names.map fun (n,k)=>if (k == NameKind.free && env.scope.kind == .function && env.kindOf n == some .cell) then (n,NameKind.cell) else (n,k)).lookup x=some .cell
 | [],_,h=>by simp at h
 | (n,k')::r,x,h=>by
  have ih:=@uq env r x
  rw [List.map_cons]
  by_cases hc:(k' == NameKind.free && env.scope.kind == .function && env.kindOf n == some .cell)=true
  ·have e:(match (n,k') with|(n,k)=>if (k == NameKind.free && env.scope.kind == .function && env.kindOf n == some .cell)=true then (n,NameKind.cell) else (n,k))=(n,NameKind.cell):=if_pos hc
   rw [e]
   rw [List.lookup_cons] at h ⊢
   cases hx:x == n with
   | true=>exact .inr rfl
   | false=>rw [hx] at h;exact ih h
  ·have e:(match (n,k') with|(n,k)=>if (k == NameKind.free && env.scope.kind == .function && env.kindOf n == some .cell)=true then (n,NameKind.cell) else (n,k))=(n,k'):=if_neg hc
   rw [e]
   rw [List.lookup_cons] at h ⊢
   cases hx:x == n with
   | true=>rw [hx] at h;cases h;exact .inl rfl
   | false=>rw [hx] at h;exact ih h
section
variable {X:Cx} {pins:List (Addr×Obj)} {σ:St} {H:Hp} {s:Shared}
theorem HOk.track{P:Program}{w:World}{H:Hp}{h h':Heap}{D:Addr}{o:HO}(x:HOk P w H h)(hn:H D=none)(k:∀b u,H b≠none→h.get? b=some u→h'.get? b=some u)(new:xf P w (upd H D o) h' D o):HOk P w (upd H D o) h':=fun b u e=>by
 by_cases hb:b=D
 ·subst hb;rw [yj] at e;cases e;exact new
 ·rw [yc hb] at e
  refine (x b u e).stay (fun c v hc q=>k c v ?_ q) (fun c q=>by rw [yc (yB q hn)];exact q) fun c xs q=>by rw [yc (yB q hn)];exact q
  rcases hc with z|z
  ·rw [z,e];simp
  ·rw [z];simp
theorem V1{scope:Scope}{cl:List (Str×Addr)}{N:List Str}{ms:List (Option Nat)}{fp:List Addr}{s3:Shared}{D C:Addr}{h1:Heap}{tk:Nat}{m0:Str→Option Value} 
  (I:Inv X pins σ H s) (ok:CompOk X.env.scope X.N scope N ms) (hcl:∀x c,cl.lookup x=some c→X.env.cells.lookup x=some c) (hcl2:∀x,(x,NameKind.free)∈scope.names→∃c,cl.lookup x=some c)
  (hfp:∀b∈fp,vQ X pins H b) (hfo:∀b∈fp,b < s.heap.objs.size) (hD:D=s.heap.objs.size) (hs3:s3={ s with heap:=s.heap.push { cls:=.type "list",data:=.seq ([]:List Value).toArray } }) (hC:C=s3.heap.objs.size)
  (hns:h1.Ns C m0) (hk:∀b o,s3.heap.get? b=some o→h1.get? b=some o):Inv (yI X scope cl C N s3 H (D::fp)) [] (blk ms σ) H { s3 with heap:=h1,toks:=tk }:=by
 have up:∀b o,s.heap.get? b=some o→s3.heap.get? b=some o:=fun b o e=>by rw [hs3];exact Heap.get?_push_of_some _ e
 have up1:∀b o,s.heap.get? b=some o→h1.get? b=some o:=fun b o e=>hk b o (up b o e)
 have I3:Inv X pins σ H s3:=by rw [hs3];exact I.kept (t':=s.toks) fun b o e=>Heap.get?_push_of_some _ e
 have hDs:s3.heap.objs.size=s.heap.objs.size+1:=by rw [hs3];exact Heap.size_push ..
 have cellLt:∀x c,cl.lookup x=some c→c < s.heap.objs.size:=fun x c e=>let ⟨v,q⟩:=I.cell x c (hcl x c e);q.lt
 have exLt:∀b∈D::fp,b < s3.heap.objs.size:=fun b hb=>by
  rcases List.mem_cons.mp hb with q|q
  ·rw [q,hD,hDs];exact Nat.lt_succ_self _
  ·rw [hDs];exact Nat.lt_succ_of_lt (hfo b q)
 have exBase:∀b∈D::fp,∀o,X.base.get? b=some o→False:=fun b hb o e=>by
  rcases List.mem_cons.mp hb with q|q
  ·have:=Heap.lt_size e
   have h2:=Nat.le_trans I.ok.bsz I.sz
   rw [q,hD] at this
   exact absurd (Nat.lt_of_lt_of_le this h2) (Nat.lt_irrefl _)
  ·obtain ⟨_,_,_,z,_⟩:=hfp b q
   rcases z with z|z
   ·exact I.ok.noex b o e z
   ·exact absurd (Nat.lt_of_lt_of_le (Heap.lt_size e) (Nat.le_trans I.ok.bsz z)) (Nat.lt_irrefl _)
 refine ⟨⟨I.ok.mod,ok.kind,I.ok.glob,I.ok.blt,Nat.le_of_eq hC.symm,fun x y c a b=>I.ok.inj x y c (hcl x c a) (hcl y c b),fun x hx=>?_,fun x c e=>absurd e Bool.false_ne_true,I.ok.hd,I.ok.frames,.inl rfl,
  fun b hb=>⟨?_,fun x c e z=>?_⟩,fun b o e=>I3.bs b o e,Nat.le_trans I.ok.bsz I3.sz,fun b o e hb=>exBase b hb o e,fun b hb hf=>?_,I3.stack,I3.stkFree⟩,rfl,I3.bare,Un.kept hk,⟨m0,hns,fun i x v e1 e2 e3=>?_⟩,fun x c e=>?_,
  I3.hok.fresh (Nat.le_of_eq hC.symm),fun x c e=>I.freeC x c (hcl x c e),fun p hp=>(nomatch hp),I3.hok.kept hk,by simp [blk,ok.len,yI]⟩
 ·have fin:scope.names.lookup x=some .free→∃c,cl.lookup x=some c:=fun q=>hcl2 x (mem_of_lookup q)
  have no:scope.names.lookup x≠some .cell:=fun q=>ok.nocell _ (mem_of_lookup q) rfl
  rcases hx with hx|hx
  ·rcases uu (env:=X.env) (show (relabel scope X.env).names.lookup x=some .cell from hx) with q|⟨q,_⟩
   ·exact absurd q no
   ·exact fin q
  ·rcases uu (env:=X.env) (show (relabel scope X.env).names.lookup x=some .free from hx) with q|⟨q,_⟩
   ·exact fin q
   ·exact fin q
 ·have:=exLt b hb
  intro z
  have z':b=C:=z
  rw [z',hC] at this
  exact Nat.lt_irrefl _ this
 ·have e':cl.lookup x=some c:=e
  rcases List.mem_cons.mp hb with q|q
  ·have:=cellLt x c e'
   rw [z,q,hD] at this
   exact Nat.lt_irrefl _ this
  ·exact (hfp b q).2.2.2.2.1 x c (hcl x c e') z
 ·have hf':b∈frs X.stack:=hf
  rcases List.mem_cons.mp hb with q|q
  ·rcases List.mem_cons.mp (I.stkSub b hf') with z|z
   ·have:=I.lt
    rw [←z,q,hD] at this
    exact Nat.lt_irrefl _ this
   ·exact I.nofs (a:=b) (by rw [q,hD];exact Nat.le_refl _) z
  ·obtain ⟨_,n1,n2,_⟩:=hfp b q
   rcases List.mem_cons.mp (I.stkSub b hf') with z|z
   ·exact n1 z
   ·exact n2 z
 ·obtain ⟨j,q1,q2⟩:=VB e2
  obtain ⟨q3,q4⟩:=ok.sel i x j e1 q1
  have hm:(x,NameKind.free)∈scope.names:=mem_of_lookup q4
  obtain ⟨m,hn,hl⟩:=I.loc
  have kd:=ok.fr _ hm rfl
  have vis:Vis X.env.scope x:=kd.elim (fun z=>.inr (.inl z)) fun z=>.inr (.inr z)
  obtain ⟨u,r,l⟩:=hl j x v q3 q2 vis
  refine ⟨u,r,.inr ⟨?_,?_⟩⟩
  ·rcases uq (env:=X.env) q4 with z|z
   ·exact .inr z
   ·exact .inl z
  ·rcases l with ⟨hk',_⟩|⟨_,c,hc,hcell⟩
   ·have hk'':X.env.scope.names.lookup x=some .local:=hk'
    rcases kd with z|z
    ·rw [hk''] at z;cases z
    ·rw [hk''] at z;cases z
   ·obtain ⟨c',hc'⟩:=hcl2 x hm
    have:=hcl x c' hc'
    rw [hc] at this;cases this
    exact ⟨c,hc',hcell.keeps up1⟩
 ·obtain ⟨v,q⟩:=I.cell x c (hcl x c e)
  exact ⟨v,q.keeps up1⟩
theorem V2{scope:Scope}{cl:List (Str×Addr)}{N:List Str}{fp:List Addr}{s3 s':Shared}{D C:Addr}{pl:List (Addr×Obj)}{sg:St}{H':Hp}{its:List Value}{ys:List V}{n:Nat} 
  (I:Inv X pins σ H s) (hfp:∀b∈fp,vQ X pins H b) (hD:D=s.heap.objs.size) (hs3:s3={ s with heap:=s.heap.push { cls:=.type "list",data:=.seq ([]:List Value).toArray } })
  (I':Inv (yI X scope cl C N s3 H (D::fp)) pl sg H' s') (hDn:H' D=none) (hd:s'.heap.get? D=some { cls:=.type "list",data:=.seq its.toArray n }) (r:z6 ys its) (hz:ys.length≤sizeLine) :
  Inv X pins σ (upd H' D (.lst ys)) s':=by
 have up:∀b o,s.heap.get? b=some o→s3.heap.get? b=some o:=fun b o e=>by rw [hs3];exact Heap.get?_push_of_some _ e
 have neD:∀b o,s.heap.get? b=some o→b≠D:=fun b o e z=>by
  have:=Heap.lt_size e
  rw [z,hD] at this
  exact Nat.lt_irrefl _ this
 have U:Un (frs X.stack) (D::fp) H H' s3.heap s'.heap:=I'.base
 have HD:H D=none:=I.hok.fresh (Nat.le_of_eq hD.symm)
 have nin:∀b o,s.heap.get? b=some o→b ∉ fp→b ∉ D::fp:=fun b o e h z=>(List.mem_cons.mp z).elim (neD b o e) h
 refine I.call' (ch:=fp) (by rw [I'.os];show s3.os=s.os;rw [hs3]) ⟨fun b o e n h1 h2=>U.keep b o (up b o e) n h1 (nin b o e h2),fun b o e n h1 h2=>U.slot b o (up b o e) n h1 (nin b o e h2),
  fun b o e n h2=>by rw [yc (neD b o e)];exact U.free b o (up b o e) n (nin b o e h2),fun b o e h2=>U.there b o (up b o e) (nin b o e h2),fun b xs e=>by rw [yc (yB e HD)];exact U.tups b xs e,
  fun b o u e=>by rw [yc (yB e HD)];exact U.frzs b o u e,fun b ps e=>by rw [yc (yB e HD)];exact U.tbls b ps e⟩ ?_ I'.bare fun b hb=>?_
 ·exact HOk.track I'.hok hDn (fun _ _ _ q=>q) ⟨hz,its,n,r,hd⟩
 ·obtain ⟨_,n1,_,n2,n3,n4⟩:=hfp b hb
  exact ⟨n2,n1,n3,n4⟩
def Wk(σ σ2:St):Prop:=σ.length=σ2.length∧∀(i:Nat) v,σ[i]?=some (some v)→σ2[i]?=some (some v)
def J5(J:It)(g:TG)(tf:TT)(te:TE)(σ:St)(H:Hp)(Fin:List V→Hp→Prop):Prop :=
 ∃W:Nat→Nat→List V→Hp→Prop,(∃m,W 0 m [] H)∧∀i m ys H,W i m ys H→ys.length≤sizeLine ∧
  ((J.stop i H∧Fin ys H)∨(J.go i H∧∀x H',J.yld i H x H'→g x σ H' fun σ2 H2=>Wk σ σ2∧tf σ2 H2 fun b H3=>if b=true then te σ2 H3 fun y H4=>ys.length+1≤sizeLine∧∃m',m' < m∧W (i+1) m' (ys++[y]) H4 else ∃m',m' < m∧W (i+1) m' ys H3))
theorem W2{elt tg iter:Expr}{ifs:List Expr}{scope:Scope}{pos cpos:Pos}{use:Option (Value→Sem Unit)}{N:List Str}{ms:List (Option Nat)}{wi:TI}{g:TG}{tf:TT}{te:TE}{Q:Value→Shared→Prop}{Fin:List V→Hp→Prop} 
  (hc:X.calm=true) (ok:CompOk X.env.scope X.N scope N ms) (hi:PI X tg iter wi)
  (hb:∀cl C s H ex,PG (yI X scope cl C N s H ex) tg g∧PF (yI X scope cl C N s H ex) ifs tf∧PE (yI X scope cl C N s H ex) elt te)
  (hs:∀x,foldedSetIterable iter X.env x=pure x)
  (I:Inv X pins σ H s) (hw:wi σ H fun J H1=>J5 J g tf te (blk ms σ) H1 Fin)
  (fin:∀D C s' ys H' m,Inv X pins σ (upd H' D (.lst ys)) s'→H' D=none→Fin ys H'→s'.heap.Ns C m→vQ X pins (upd H' D (.lst ys)) C→compPost (model X.prog X.w) X.A X.xe use Q (.ref D) C (.ok .next) s') :
  wpAny (model X.prog X.w) X.A (comprehension (.ListComp elt [⟨tg,iter,ifs,0⟩] scope pos) scope X.env cpos (newList []) false (eval iter X.env) use) Q X.xe s:=by
 obtain ⟨cl,hclos,hcl,hcl2⟩:=V0 (scope:=scope) (env:=X.env) (fun y hy e=>by
  obtain ⟨c,hc⟩:=I.ok.has y.1 (ok.fr y hy e)
  rw [hc];rfl)
 refine wpAny_comprehension_free (use:=use) rfl hs hclos ok.kind ok.loc (thn (hi pins s σ H _ I hw) fun v s1 h1=>thn h1 fun itv s2 h2=>?_)
 obtain ⟨it,fp,tn,J,H2,e,I2,T,st2,f2,W,⟨m0,w0⟩,turn⟩:=h2
 subst e
 refine wpAny_newObj_type (wpAny_newFunctionEnv ok.nocell (by intro y hy;simp at hy) (fun h1 hns hsb=>?_) ok.kind)
 dsimp only at hns hsb ⊢
 generalize hs3:({ s2 with heap:=s2.heap.push { cls:=.type "list",dict:=none,data:=.seq ([]:List Value).toArray } }:Shared)=s3
 have hheap:s2.heap.push { cls:=.type "list",dict:=none,data:=.seq ([]:List Value).toArray }=s3.heap:=by rw [←hs3]
 rw [hheap] at hns hsb
 have hDs:s3.heap.objs.size=s2.heap.objs.size+1:=by rw [←hheap];exact Heap.size_push ..
 obtain ⟨D,hD⟩:∃D,D=s2.heap.objs.size:=⟨_,rfl⟩
 obtain ⟨C,hC⟩:∃C,C=s3.heap.objs.size:=⟨_,rfl⟩
 have hk:∀b o,s3.heap.get? b=some o→h1.get? b=some o:=fun b o e=>hsb.extBut b o (Nat.ne_of_lt (Heap.lt_size e)) (Heap.get?_push_of_some _ e)
 have up:∀b o,s2.heap.get? b=some o→s3.heap.get? b=some o:=fun b o e=>by rw [←hheap];exact Heap.get?_push_of_some _ e
 have hfo:∀b∈fp,b < s2.heap.objs.size:=fun b hb=>let ⟨o,e,_⟩:=T.obj _ _ st2 b hb;Heap.lt_size e
 have hDC:D≠C:=by rw [hD,hC,hDs];exact Nat.ne_of_lt (Nat.lt_succ_self _)
 have hDfp:D ∉ fp:=fun hm=>by have:=hfo D hm;rw [hD] at this;exact Nat.lt_irrefl _ this
 have hs3':s3={ s2 with heap:=s2.heap.push { cls:=.type "list",data:=.seq ([]:List Value).toArray } }:=hs3.symm
 have I3:Inv X pins σ H2 s3:=by rw [hs3'];exact I2.kept (t':=s2.toks) fun b o e=>Heap.get?_push_of_some _ e
 have en:∀tk,Inv (yI X scope cl C N s3 H2 (D::fp)) [] (blk ms σ) H2 { s3 with heap:=h1,toks:=tk }:=fun tk=>V1 I2 ok hcl hcl2 f2 hfo hD hs3' hC (by rw [hC];exact hns) hk
 have fpX:∀{pl:List (Addr×Obj)} {H':Hp},(∀b∈fp,H' b=none)→(∀p∈pl,p.1=D)→∀b∈fp,vQ (yI X scope cl C N s3 H2 (D::fp)) pl H' b:=fun {pl H'} hn hp b hb=>by
  have ok':=(en 0).ok
  refine ⟨hn b hb,(ok'.exf b (List.mem_cons_of_mem _ hb)).1,ok'.exfs b (List.mem_cons_of_mem _ hb),.inl (List.mem_cons_of_mem _ hb),(ok'.exf b (List.mem_cons_of_mem _ hb)).2,fun p hpm z=>?_⟩
  have hpm':p∈pl:=hpm
  rw [hp p hpm'] at z
  exact hDfp (z ▸ hb)
 have DX:∀{pl:List (Addr×Obj)} {sg:St} {H':Hp} {s':Shared} {o:Obj},Inv (yI X scope cl C N s3 H2 (D::fp)) pl sg H' s'→H' D=none→s'.heap.get? D=some o→(∀v,o.data≠.cell v)→Inv (yI X scope cl C N s3 H2 (D::fp)) [(D,o)] sg H' s':=fun {pl sg H' s' o} J' hn ho hd =>
  J'.pins_of fun p hp=>by
   obtain rfl:=List.mem_singleton.mp hp
   exact ⟨ho,hn,(J'.ok.exf D List.mem_cons_self).1,J'.ok.exfs D List.mem_cons_self,hd⟩
 have loop:∀s4:Shared,(∃tk,s4={ s3 with heap:=h1,toks:=tk }) →
   codeAny (model X.prog X.w) X.A (.compLoop (.ListComp elt [⟨tg,iter,ifs,0⟩] scope pos) 0 (.ref it) (.ref D) (compEnvC scope cl C X.env)) (compPost (model X.prog X.w) X.A X.xe use Q (.ref D) C) s4:=by
  rintro s4 ⟨tk,rfl⟩
  refine U6 (fun n s'=>∃i ys H' its nn,Inv (yI X scope cl C N s3 H2 (D::fp)) [] (blk ms σ) H' s'∧tn i s'.heap∧(∀b∈fp,H' b=none)∧H' D=none ∧
   s'.heap.get? D=some { cls:=.type "list",data:=.seq (its:List Value).toArray nn }∧z6 ys its∧W i n ys H') ?_ m0 ⟨0,[],H2,[],0,en tk,T.keep _ _ _ st2 fun b hb o e=>hk b o (up b o e),fun b hb=>(f2 b hb).1,I2.hok.fresh (Nat.le_of_eq hD.symm),hk _ _ ?_,.nil,w0⟩
  ·rintro n s' ⟨i,ys,H',its,nn,I',st',fr',dn',hd',rv',w'⟩
   obtain ⟨gh,hb2⟩:=hb cl C s3 H2 (D::fp)
   obtain ⟨tfh,teh⟩:=hb2
   obtain ⟨hz,alt⟩:=turn i n ys H' w'
   have nocell:∀v,(({ cls:=.type "list",data:=.seq its.toArray nn }:Obj)).data≠.cell v:=fun v z=>by
    have z':Data.seq its.toArray nn=Data.cell v:=z
    cases z'
   have ID:=DX I' dn' hd' nocell
   have fpI:=fpX (pl:=[(D,({ cls:=.type "list",data:=.seq its.toArray nn }:Obj))]) fr' (fun p hp=>by obtain rfl:=List.mem_singleton.mp hp;rfl)
   rcases alt with ⟨stop,qf⟩|⟨go,step⟩
   ·refine thn (T.done (yI X scope cl C N s3 H2 (D::fp)) rfl rfl rfl hc i _ s' _ H' _ ID fpI st' stop) fun r s5 ⟨hr,I5⟩=>?_
    subst hr
    have hd5:=(I5.pin (D,_) (List.mem_append_right _ (List.mem_singleton.mpr rfl))).1
    obtain ⟨m,hn5,_⟩:=I5.loc
    have Hc:(upd H' D (.lst ys)) C=none:=by rw [yc (Ne.symm hDC)];exact I5.free
    exact fin D C s5 ys H' m (V2 I2 f2 hD hs3' I5 dn' hd5 rv' hz) dn' qf hn5 (I3.fpOk (Nat.le_of_eq hC.symm) Hc)
   ·refine thn (T.item (yI X scope cl C N s3 H2 (D::fp)) rfl rfl rfl hc i _ s' _ H' _ ID fpI st' go) fun r s5 ⟨u,hr,h5⟩=>?_
    subst hr
    refine thn h5 fun _ s6 ⟨x,H6,I6,r6,y6,st6,fr6⟩=>?_
    have I6':=I6.pinned (fpX (pl:=[(D,({ cls:=.type "list",data:=.seq its.toArray nn }:Obj))]) fr6 (fun p hp=>by obtain rfl:=List.mem_singleton.mp hp;rfl)) (T.obj _ _ st6)
    refine thn (gh _ s6 _ H6 x u _ I6' r6 (step x H6 y6)) fun _ s7 ⟨sg7,H7,I7,wk7,q7⟩=>?_
    have back:∀{H9:Hp} {s9:Shared} {its':List Value} {ys':List V} {m' nn':Nat},Inv (yI X scope cl C N s3 H2 (D::fp)) ([(D,({ cls:=.type "list",data:=.seq its.toArray nn }:Obj))]++Yp fp s6.heap) sg7 H9 s9 →
      ∀h10:Heap,(∀b o,b≠D→s9.heap.get? b=some o→h10.get? b=some o)→h10.get? D=some { cls:=.type "list",data:=.seq its'.toArray nn' }→z6 ys' its'→m' < n→W (i+1) m' ys' H9 →
      ∃m,m < n∧∃i ys H' its nn,Inv (yI X scope cl C N s3 H2 (D::fp)) [] (blk ms σ) H' { s9 with heap:=h10 }∧tn i h10∧(∀b∈fp,H' b=none)∧H' D=none ∧
       h10.get? D=some { cls:=.type "list",data:=.seq (its:List Value).toArray nn }∧z6 ys its∧W i m ys H':=fun {H9 s9 its' ys' m' nn'} I9 h10 hb10 hd10 rv10 hm w9=>by
     have dn9:H9 D=none:=(I9.pin (D,_) (List.mem_append_right _ (List.mem_append_left _ (List.mem_singleton.mpr rfl)))).2.1
     have pk:∀b∈fp,∀o,s6.heap.get? b=some o→s9.heap.get? b=some o∧H9 b=none:=fun b hb o e =>
      let q:=I9.pin (b,o) (List.mem_append_right _ (List.mem_append_right _ (Z3 hb e)));⟨q.1,q.2.1⟩
     have I10:Inv (yI X scope cl C N s3 H2 (D::fp)) [] (blk ms σ) H9 s9:=(I9.pins_of (pins':=[]) fun p hp=>(nomatch hp)).weak wk7.1 wk7.2
     refine ⟨m',hm,i+1,ys',H9,its',nn',I10.turned (t':=s9.toks) hb10 dn9 (I10.ok.exf D List.mem_cons_self).1 (.inl List.mem_cons_self) (fun x c e=>(I10.ok.exf D List.mem_cons_self).2 x c e) (fun p hp=>(nomatch hp)),
      T.keep _ _ _ st6 fun b hb o e=>hb10 b o (fun z=>hDfp (z ▸ hb)) (pk b hb o e).1,fun b hb=>?_,dn9,hd10,rv10,w9⟩
     obtain ⟨o,e,_⟩:=T.obj _ _ st6 b hb
     exact (pk b hb o e).2
    refine thn (tfh _ s7 sg7 H7 _ I7 q7) fun b s8 ⟨H8,I8,q8⟩=>?_
    have hd8:s8.heap.get? D=some { cls:=.type "list",data:=.seq its.toArray nn }:=(I8.pin (D,_) (List.mem_append_right _ (List.mem_append_left _ (List.mem_singleton.mpr rfl)))).1
    cases b with
    | false =>
     obtain ⟨m',hm,w8⟩:=q8
     exact back I8 s8.heap (fun _ _ _ q=>q) hd8 rv' hm w8
    | true =>
     refine thn (teh _ s8 sg7 H8 _ I8 q8) fun u9 s9 ⟨y9,H9,I9,r9,hz9,m',hm,w9⟩=>?_
     have hd9:s9.heap.get? D=some { cls:=.type "list",data:=.seq its.toArray nn }:=(I9.pin (D,_) (List.mem_append_right _ (List.mem_append_left _ (List.mem_singleton.mpr rfl)))).1
     have hl:=rv'.length
     refine append_at (hsz:=by rw [List.size_toArray,←hl];exact hz) hd9 fun h10 hs10 hd10=>?_
     refine back I9 h10 (fun b o hb e=>(hs10.2 b hb).trans e) (its':=its++[u9]) (nn':=nn+1) (by rw [hd10,List.push_toArray]) (rv'.append (.cons r9 .nil)) hm w9
  ·rw [←hheap,hD]
   exact Heap.get?_push_size _ rfl
 subst hD
 subst hC
 subst hs3
 exact codeAny_compStart_list (loop _ ⟨_,rfl⟩) (T.self X.A 0 _ _ _ (T.keep _ _ _ st2 fun b hb o e=>hk b o (up b o e)) (loop _ ⟨_,rfl⟩))
def V3(wi:TI)(g:TG)(tf:TT)(te:TE)(ms:List (Option Nat)):TE:=fun σ H Q=>wi σ H fun J H1=>J5 J g tf te (blk ms σ) H1 fun ys H'=>∀p,H' p=none→Q (.ref p) (upd H' p (.lst ys))
theorem zaL{elt tg iter:Expr}{ifs:List Expr}{scope:Scope}{pos:Pos}{N:List Str}{ms:List (Option Nat)}{wi:TI}{g:TG}{tf:TT}{te:TE} 
  (hc:X.calm=true) (ok:CompOk X.env.scope X.N scope N ms) (hi:PI X tg iter wi)
  (hb:∀cl C s H ex,PG (yI X scope cl C N s H ex) tg g∧PF (yI X scope cl C N s H ex) ifs tf∧PE (yI X scope cl C N s H ex) elt te)
  (hs:∀x,foldedSetIterable iter X.env x=pure x:=by intro _;rfl):PE X (.ListComp elt [⟨tg,iter,ifs,0⟩] scope pos) (V3 wi g tf te ms):=by
 intro pins s σ H Q I hw
 rw [eval_ListComp]
 refine W2 (use:=none) hc ok hi hb hs I hw ?_
 intro D C s' ys H' m I' hn fin hns fp
 refine ⟨m,hns,fun h' sb=>?_⟩
 exact ⟨.ref D,_,I'.turned (t':=s'.toks) (fun b o hb e=>(sb.2 b hb).trans e) fp.1 fp.2.1 fp.2.2.2.1 fp.2.2.2.2.1 fp.2.2.2.2.2,rfl,fin D hn⟩
theorem VC{elt tg iter:Expr}{ifs:List Expr}{scope:Scope}{pos spos py:Pos}{N:List Str}{ms:List (Option Nat)}{wi:TI}{g:TG}{tf:TT}{te:TE}{i:Nat}{y:Str} 
  (hc:X.calm=true) (ok:CompOk X.env.scope X.N scope N ms) (hi:PI X tg iter wi)
  (hb:∀cl C s H ex,PG (yI X scope cl C N s H ex) tg g∧PF (yI X scope cl C N s H ex) ifs tf∧PE (yI X scope cl C N s H ex) elt te)
  (hN:X.N.Nodup) (hy:X.N[i]?=some y) (hx:Loc X.env.scope y)
  (hsw:swapsWith (.ListComp elt [⟨tg,iter,ifs,0⟩] scope pos) (some (.Name y py)) spos.line X.env=pure true)
  (hf:X.fn y=true∨X.env.scope.names.lookup y=some .local:=by first|exact .inl rfl|exact .inr rfl|assumption)
  (hs:∀x,foldedSetIterable iter X.env x=pure x:=by intro _;rfl):PS X (.Assign [.Name y py] (.ListComp elt [⟨tg,iter,ifs,0⟩] scope pos) spos) (WV (V3 wi g tf te ms) (Xn i)):=by
 intro pins s σ H Dn I hw
 rw [exec_Assign_Name_used _ _ _ _ hsw]
 refine wpAny_bind (wpAny_standAt (wpAny_bind ?_))
 show wpAny _ X.A (do let _ ←comprehension (.ListComp elt [⟨tg,iter,ifs,0⟩] scope pos) scope X.env _ (newList []) false (eval iter X.env) (some (assign (.Name y py) X.env))) _ _ s
 refine wpAny_bind (wpAny_mono (W2 (use:=some (assign (.Name y py) X.env)) (Q:=fun _ s'=>SP X pins Dn .next s') hc ok hi hb hs I hw ?_) (fun _ s' hq=>wpAny_pure (wpAny_pure hq)) fun _ _ e=>e)
 intro D C s' ys H' m I' hn fin hns fp
 show wpAny _ X.A (assign (.Name y py) X.env (.ref D)) _ _ s'
 refine wpAny_assign_Name (Wl I' hN hy hx (v:=.ref D) rfl (fun s2 I2 sb=>?_) hf)
 obtain ⟨a,sb,ha⟩:=sb
 have hne:C≠a:=by
  rcases ha with z|z
  ·rw [z];exact fp.2.1
  ·exact fun q=>fp.2.2.2.2.1 y a z q.symm
 refine ⟨m,hns.sameBut sb hne,fun h' sb'=>?_⟩
 exact ⟨_,_,I2.turned (t':=s2.toks) (fun b o hb e=>(sb'.2 b hb).trans e) fp.1 fp.2.1 fp.2.2.2.1 fp.2.2.2.2.1 fp.2.2.2.2.2,fin D hn⟩
def zem(K:PySem.W.Frag)(tl:TE):TI:=fun σ H R=>tl σ H fun x H1=>∃a,x=.ref a∧(((∃xs,SqL K H1 a xs)∧R (Itl K a) H1)∨((∃xs,SqT K H1 a xs)∧R (Itt K a) H1))
theorem zbL{tg l:Expr}{tl:TE}(hl:PE X l tl):PI X tg l (zem X.K tl):=by
 intro pins s σ H R I h
 refine thn (hl pins s σ H _ I h) fun v s1 ⟨x,H1,I1,r1,q1⟩=>?_
 obtain ⟨a,e,q1⟩:=q1
 subst e
 cases r1
 rcases q1 with ⟨⟨xs,hq⟩,q⟩|⟨⟨xs,hq⟩,q⟩
 ·obtain ⟨its,rv,p,hz⟩:=I1.list hq
  refine wpAny_pyIter_list p.isList ?_
  refine ⟨s1.heap.objs.size,[s1.heap.objs.size],_,_,H1,rfl,I1.kept (t':=s1.toks) fun b o e=>Heap.get?_push_of_some _ e,UV a _,⟨_,Heap.get?_push_size _ rfl,rfl,rfl⟩,fun b hb=>?_,q⟩
  have e:b=s1.heap.objs.size:=by simpa using hb
  subst e
  exact I1.fpOk (Nat.le_refl _) (I1.hok.fresh (Nat.le_refl _))
 ·obtain ⟨its,rv,p,hz⟩:=I1.tuple hq
  refine wpAny_pyIter_tuple (show s1.heap.IsTuple a its.toArray from p) ?_
  refine ⟨s1.heap.objs.size,[s1.heap.objs.size],_,_,H1,rfl,I1.kept (t':=s1.toks) fun b o e=>Heap.get?_push_of_some _ e,VS a _,⟨_,Heap.get?_push_size _ rfl,rfl,rfl⟩,fun b hb=>?_,q⟩
  have e:b=s1.heap.objs.size:=by simpa using hb
  subst e
  exact I1.fpOk (Nat.le_refl _) (I1.hok.fresh (Nat.le_refl _))
end
end L2
namespace L2
open PySem PySem.Spec PyProof.Rows
open PySem.AutoSeq1 (wpAny_loadPart')
section
variable {prog:Program} {w:World} {A:Around} {E:Value→Shared→Prop} {s:Shared}
theorem Y4{it t:Addr}{i:Nat}{items:Array Value}{x:Value}{Q:Value→Shared→Prop}(hit:s.heap.IsTupleIter it t i)(ht:s.heap.IsTuple t items)(hx:items[i]?=some x) 
  (hQ:∀h',h'.IsTupleIter it t (i+1)→Heap.SameBut it s.heap h'→Q x { s with heap:=h' }):wpAny (model prog w) A (Builtin.SmallTypes.nextOf (.ref it)) Q E s:=by
 obtain ⟨o,ho,hc,hd⟩:=id hit
 obtain ⟨ol,hol,_,nl,hdl⟩:=ht
 unfold Builtin.SmallTypes.nextOf
 refine wpAny_bind (wpAny_callSpecial?_slot (name:=Str.ofString "__next__") hit.typeIs F.slot_tuple_iterator_next
  (wpAny_call_entry F.slot_tuple_iterator_next hit.typeIs F.entry_tuple_iterator_next ?_ (F.args_tuple_iterator_next_1 _)))
 show wpAny _ _ (field (.ref it) 0 >>= _) _ _ s
 refine wpAny_bind (wpAny_field ho hd (x:=.ref t) rfl ?_)
 show wpAny _ _ (if (Value.ref t == Value.none)=true then _ else _) _ _ s
 rw [if_neg (show ¬((Value.ref t == Value.none)=true) from Bool.false_ne_true)]
 show wpAny _ _ (field (.ref it) 1 >>= _) _ _ s
 refine wpAny_bind (wpAny_field ho hd (x:=.int i 0) rfl ?_)
 show wpAny _ _ (seqItems? (.ref t) >>= _) _ _ s
 refine wpAny_bind (wpAny_seqItems hol hdl ?_)
 simp only [Int.toNat_natCast,hx]
 refine wpAny_bind (wpAny_setField ho hd (by simp) (wpAny_pure ⟨x,rfl,wpAny_pure (hQ _ ?_ (Heap.SameBut.update ..))⟩))
 exact ⟨_,Heap.get?_update_self _ ho (Obj.isFreed_of_fields (Obj.data_mapFields hd _)),(Obj.cls_mapFields ..).trans hc,by
  rw [Obj.data_mapFields hd];simp [rawInt]⟩
theorem u6{it t:Addr}{i:Nat}{items:Array Value}{Q:Value→Shared→Prop}(hh:A.handled=none) 
  (hit:s.heap.IsTupleIter it t i) (ht:s.heap.IsTuple t items) (hx:items[i]?=none)
  (hE:∀h' e,Heap.ExtBut it s.heap h'→(∃o,h'.get? e=some o∧o.cls=.type "StopIteration")→E (.ref e) { s with heap:=h' }) :
  wpAny (model prog w) A (Builtin.SmallTypes.nextOf (.ref it)) Q E s:=by
 obtain ⟨o,ho,hc,hd⟩:=id hit
 obtain ⟨ol,hol,_,nl,hdl⟩:=ht
 unfold Builtin.SmallTypes.nextOf
 refine wpAny_bind (wpAny_callSpecial?_slot (name:=Str.ofString "__next__") hit.typeIs F.slot_tuple_iterator_next
  (wpAny_call_entry F.slot_tuple_iterator_next hit.typeIs F.entry_tuple_iterator_next ?_ (F.args_tuple_iterator_next_1 _)))
 show wpAny _ _ (field (.ref it) 0 >>= _) _ _ s
 refine wpAny_bind (wpAny_field ho hd (x:=.ref t) rfl ?_)
 show wpAny _ _ (if (Value.ref t == Value.none)=true then _ else _) _ _ s
 rw [if_neg (show ¬((Value.ref t == Value.none)=true) from Bool.false_ne_true)]
 show wpAny _ _ (field (.ref it) 1 >>= _) _ _ s
 refine wpAny_bind (wpAny_field ho hd (x:=.int i 0) rfl ?_)
 show wpAny _ _ (seqItems? (.ref t) >>= _) _ _ s
 refine wpAny_bind (wpAny_seqItems hol hdl ?_)
 simp only [Int.toNat_natCast,hx]
 refine wpAny_bind (wpAny_rule (wpAny_bind (wpAny_setField ho hd (by simp) ?_)))
 show wpAny _ _ (newExc (.type "StopIteration") [] >>= _) _ _ _
 refine wpAny_bind ?_
 simp only [newExc,newTuple]
 refine wpAny_bind (wpAny_newObj_type ?_ (by size_fits))
 refine wpAny_bind (m:=firstArgMember _ _) (wpAny_of_eq (a:=Value.none) (by first|rfl|(simp only [firstArgMember];rfl)) ?_)
 refine wpAny_newObj_type ?_ (by size_fits)
 simp only [raiseNew]
 refine wpAny_bind (wpAny_handled ?_)
 first|rw [show A.in1.handled=none from hh]|rw [hh]
 refine wpAny_bind (wpAny_pure (wpAny_throw ?_))
 exact hE _ _ (((Heap.SameBut.update ..).extBut.push _).push _) ⟨_,Heap.get?_push_size _ rfl,rfl⟩
end
theorem Vr{prog:Program}{w:World}{A:Around}(hh:A.handled=none)(it l:Addr)(hne:l≠it)(items:Array Value):
  Draws prog w A it [it,l] items.size (fun i v=>items[i]?=some v) (fun i h=>h.IsTupleIter it l i∧h.IsTuple l items) where
 live:=fun _ _ st=>let ⟨o,ho,_⟩:=st.1;⟨o,ho⟩
 frame:=fun _ _ _ st hk=>⟨st.1.at fun o e=>hk it (by simp) o e,(by obtain ⟨o,e,r⟩:=st.2;exact ⟨o,hk l (by simp) o e,r⟩)⟩
 item:=fun i s Q E hi st hQ=>by
  refine Y4 st.1 st.2 (x:=items[i]) (by simp [hi]) fun h' hit' hs'=>?_
  exact hQ _ h' s.toks (by simp [hi]) ⟨hit',st.2.extBut hs'.extBut hne⟩ hs'
 done:=fun s Q E st hE=>u6 hh st.1 st.2 (by simp) hE
theorem Xt(l:Addr)(items:Array Value)(n:Nat)(dct:Option Addr)(sl:Array (Option Value)):
  Meets (Builtin.«enumerate.__new__» ⟨[.type "enumerate",.ref l],[]⟩) (fun _ R s=>s.heap.get? l=some { cls:=.type "tuple",dict:=dct,data:=.seq items n,slots:=sl } ∧
   R (.ok (.ret (.ref (s.heap.push { cls:=.type "tuple_iterator",data:=.fields #[.ref l,.int 0 0] }).objs.size)))
    { s with heap:=(s.heap.push { cls:=.type "tuple_iterator",data:=.fields #[.ref l,.int 0 0] }).push { cls:=.type "enumerate",data:=.fields #[.none,.bool false,.ref s.heap.objs.size,rawInt 0,.none,.none] } }) :=
 .of_wp fun prog w A R s h=>by
  obtain ⟨hp,g,d,tk,os⟩:=s;obtain ⟨hl,h⟩:=h
  have hsub:=sub_enumerate
  have hL:Heap.IsTuple (Shared.heap ⟨hp,g,d,tk,os⟩) l items:=⟨_,hl,rfl,n,rfl⟩
  wp_walk using wpAny_loadPart' hl
  refine wpAny_stack_any fun st=>wpAny_pure ?_
  split
  ·rename_i c _ _ _ _ _
   cases (c == Value.type "enumerate")
   ·wp_walk using wpAny_loadPart' hl,wpAny_pyIter_tuple hL
    exact ⟨_,rfl,h⟩
   ·wp_walk using wpAny_loadPart' hl,wpAny_pyIter_tuple hL
    exact ⟨_,rfl,h⟩
  ·wp_walk using wpAny_loadPart' hl,wpAny_pyIter_tuple hL
   exact ⟨_,rfl,h⟩
theorem Xu{prog:Program}{w:World}{A:Around}{E:Value→Shared→Prop}{s:Shared}{l:Addr}{items:Array Value}{Q:Value→Shared→Prop}(hL:s.heap.IsTuple l items) 
  (h:∀h',IsEnum h' (s.heap.objs.size+1) s.heap.objs.size 0 .none→h'.IsTupleIter s.heap.objs.size l 0→h'.objs.size=s.heap.objs.size+2 →
   (∀b o,s.heap.get? b=some o→h'.get? b=some o)→Q (.ref (s.heap.objs.size+1)) { s with heap:=h' }) :
  wpAny (model prog w) A (call (.type "enumerate") [.ref l]) Q E s:=by
 obtain ⟨⟨c,dct,dt,sl⟩,hl,hc,n,hd⟩:=hL
 replace hc:c=.type "tuple":=hc
 replace hd:dt=.seq items n:=hd
 subst hc hd
 refine callType_new F.called_enumerate (by decide) (F.typeCall_enumerate_1 _) (F.newCall_enumerate_1 _) (fun obj=>F.args_object_init_2 obj _) F.entry_enumerate_new
  (Xt l items n dct sl) ⟨hl,?_⟩
 have hz:(s.heap.push { cls:=.type "tuple_iterator",data:=.fields #[.ref l,.int 0 0] }).objs.size=s.heap.objs.size+1:=Heap.size_push ..
 show _∧_
 rw [hz]
 have he:IsEnum ((s.heap.push { cls:=.type "tuple_iterator",data:=.fields #[.ref l,.int 0 0] }).push
   { cls:=.type "enumerate",data:=.fields #[.none,.bool false,.ref s.heap.objs.size,rawInt 0,.none,.none] }) (s.heap.objs.size+1) s.heap.objs.size 0 .none:=by
  have:=Heap.get?_push_size (s.heap.push { cls:=.type "tuple_iterator",data:=.fields #[.ref l,.int 0 0] })
   (o:={ cls:=.type "enumerate",data:=.fields #[.none,.bool false,.ref s.heap.objs.size,rawInt 0,.none,.none] }) rfl
  rw [hz] at this;exact this
 refine ⟨⟨_,he,rfl⟩,h _ he ⟨_,Heap.get?_push_of_some _ (Heap.get?_push_size _ rfl),rfl,rfl⟩ (by rw [Heap.size_push,hz]) fun b o x=>Heap.get?_push_of_some _ (Heap.get?_push_of_some _ x)⟩
end L2
namespace L2
open PySem PySem.Spec PyProof.Rows
def Ite(rd:Hp→List V→Prop):It :=
 ⟨fun i H=>∃xs x,rd H xs∧xs[i]?=some x,fun i H x H'=>∃T v,H T=none∧H'=upd H T (.tup [.int i,v])∧x=.ref T∧∀xs,rd H xs→xs[i]?=some v,fun i H=>∃xs,rd H xs∧xs.length≤i⟩
section
variable {X:Cx} {pins:List (Addr×Obj)} {σ:St} {H:Hp} {s:Shared}
theorem U7{e it:Addr}{i:Nat}{v:V}{x:Value}{tk tk':Nat}{h':Heap}(I:Inv X pins σ H s)(he:vQ X pins H e)(hit:vQ X pins H it)(rv:yt v x) 
  (hT:h'.get? s.heap.objs.size=some { cls:=.type "tuple",data:=.seq #[.int i tk,x] }) (hk:∀b o,b≠e→b≠it→s.heap.get? b=some o→h'.get? b=some o) (th:∀b o,s.heap.get? b=some o→∃o',h'.get? b=some o') :
  Inv X pins σ (upd H s.heap.objs.size (.tup [.int i,v])) { s with heap:=h',toks:=tk' }:=by
 have hn:H s.heap.objs.size=none:=I.hok.fresh (Nat.le_refl _)
 have fT:vQ X pins H s.heap.objs.size:=I.fpOk (Nat.le_refl _) hn
 have ch:∀b∈[s.heap.objs.size,e,it],vQ X pins H b:=fun b hb=>by
  rcases List.mem_cons.mp hb with q|hb
  ·rw [q];exact fT
  ·rcases List.mem_cons.mp hb with q|hb
   ·rw [q];exact he
   ·rw [List.mem_singleton.mp hb];exact hit
 have ne:∀b,b ∉ [s.heap.objs.size,e,it]→b≠e∧b≠it:=fun b hb=>⟨fun z=>hb (by simp [z]),fun z=>hb (by simp [z])⟩
 have neT:∀b o,s.heap.get? b=some o→b≠s.heap.objs.size:=fun b o q=>Nat.ne_of_lt (Heap.lt_size q)
 refine I.step (g':=s.gens) (d':=s.drawn) (ch:=[s.heap.objs.size,e,it]) (fun b hb=>let ⟨_,q1,_,q2,q3,q4⟩:=ch b hb;⟨q2,q1,q3,q4⟩)
  (fun b o _ _ hc q _=>hk b o (ne b hc).1 (ne b hc).2 q) (fun b o _ _ hc q _=>⟨o.slots,hk b o (ne b hc).1 (ne b hc).2 q⟩) (fun b o hc q n=>by rw [yc (neT b o q)];exact n) (fun b o _ q=>th b o q)
  (fun b xs q=>by rw [yc (yB q hn)];exact q) (fun b o u q=>by rw [yc (yB q hn)];exact q) (fun b ps q=>⟨#[],by rw [yc (yB q hn),q];simp⟩) (fun m hm=>?_) ?_ I.bare
 ·obtain ⟨o,es,ep,ho,r⟩:=hm
  exact ⟨o,es,ep,hk _ o (Ne.symm he.2.1) (Ne.symm hit.2.1) ho,r⟩
 ·refine HOk.track I.hok hn (fun b u nb q=>hk b u (fun z=>nb (by rw [z];exact he.1)) (fun z=>nb (by rw [z];exact hit.1)) q) ?_
  exact ⟨by show 2≤sizeLine;decide,[.int i tk,x],.cons ⟨tk,rfl⟩ (.cons rv .nil),⟨_,hT,rfl,_,rfl⟩⟩
end
theorem V4{P:Program}{w:World}{K:PySem.W.Frag}{elts:List Expr}{k:Nat}{tp:Pos}(a it e:Addr)(hei:e≠it):
  Turn P w K (.Tuple elts k tp) (Ite fun H xs=>SqT K H a xs) [e,it] e (fun i h=>(∃old,IsEnum h e it i old)∧h.IsTupleIter it a i) where
 mem:=by simp
 obj:=fun i h st b hb=>by
  obtain ⟨⟨old,he⟩,o,e1,c,d⟩:=st
  rcases List.mem_cons.mp hb with q|hb
  ·subst q
   exact ⟨_,he,fun v z=>by
    have z':Data.fields _=Data.cell v:=z
    cases z'⟩
  ·rw [List.mem_singleton.mp hb]
   exact ⟨o,e1,fun v z=>by rw [d] at z;cases z⟩
 keep:=fun i h h' st k=>⟨let ⟨old,he⟩:=st.1;⟨old,k e (by simp) _ he⟩,st.2.at fun o q=>k it (by simp) o q⟩
 item:=by
  intro X hP hw hK hc i pins s σ H E I hf st hg
  subst hP hw hK
  obtain ⟨xs,x,hq,hx⟩:=hg
  obtain ⟨its,rv,p,hz⟩:=I.tuple hq
  obtain ⟨u,hu,ru⟩:=rv.get hx
  obtain ⟨⟨old,he⟩,hit⟩:=st
  have fe:=hf e (by simp)
  have fi:=hf it (by simp)
  have hai:a≠it:=fun z=>by
   obtain ⟨o,e1,c,_⟩:=p
   obtain ⟨o2,e2,c2,_⟩:=hit
   rw [z,e2] at e1;cases e1;rw [c2] at c;exact absurd c (by simp)
  have hae:e ∉ [it,a]:=fun hm=>by
   rcases List.mem_cons.mp hm with q|hm
   ·exact hei q
   ·have q:=List.mem_singleton.mp hm
    obtain ⟨o,e1,c,_⟩:=p
    rw [←q,he] at e1
    cases e1;simp at c
  refine wpAny_pyNext_enum_itemD (Vr (A:=X.A.in1) (I.ok.hd hc) it a hai its.toArray) he ⟨hit,p⟩ (by rw [List.size_toArray];exact (List.getElem?_eq_some_iff.mp hu).1) hei hae fun x' h' tk hP ho hs' hT hsz hk=>?_
  have hx':x'=u:=by
   have hP':its[i]?=some x':=by simpa using hP
   rw [hu] at hP';cases hP';rfl
  subst hx'
  refine ⟨_,rfl,wpAny_letOwnedTupleGo_enum ho fun h2 he2 hs2=>?_⟩
  have hk2:∀b o,b≠e→b≠it→s.heap.get? b=some o→h2.get? b=some o:=fun b o n1 n2 q=>(hs2.2 b n1).trans (hk b o n1 n2 q)
  have hel:e≠s.heap.objs.size:=Nat.ne_of_lt (Heap.lt_size he)
  have hit2:h2.IsTupleIter it a (i+1):=hs'.1.at fun o q=>(hs2.2 it (Ne.symm hei)).trans q
  have I2:=U7 (tk':=tk+1) (i:=i) (tk:=tk) (h':=h2) I fe fi ru ((hs2.2 _ (Ne.symm hel)).trans hT) hk2 (fun b o q=>by
   by_cases n1:b=e
   ·subst n1;exact ⟨_,he2⟩
   ·by_cases n2:b=it
    ·subst n2;obtain ⟨o',q',_⟩:=hit2;exact ⟨o',q'⟩
    ·exact ⟨o,hk2 b o n1 n2 q⟩)
  refine ⟨.ref s.heap.objs.size,_,I2,rfl,⟨_,x,I.hok.fresh (Nat.le_refl _),rfl,rfl,fun ys hy=>by rw [I.tuple_inj hy hq];exact hx⟩,⟨⟨x',by simpa using he2⟩,hit2⟩,fun b hb=>?_⟩
  have hb':vQ X pins H b:=hf b hb
  rw [yc (fun z=>?_)]
  ·exact hb'.1
  ·rcases List.mem_cons.mp hb with q|hb
   ·exact hel (q.symm.trans z)
   ·have q:=List.mem_singleton.mp hb
    obtain ⟨o,e1,_⟩:=hit
    exact Nat.ne_of_lt (Heap.lt_size e1) (q.symm.trans z)
 done:=by
  intro X hP hw hK hc i pins s σ H E I hf st hg
  subst hP hw hK
  obtain ⟨xs,hq,hx⟩:=hg
  obtain ⟨its,rv,p,hz⟩:=I.tuple hq
  obtain ⟨⟨old,he⟩,hit⟩:=st
  obtain ⟨f0,f1,f2,f3,f4,f5⟩:=hf it (by simp)
  have hl:=rv.length
  have hai:a≠it:=fun z=>by
   obtain ⟨o,e1,c,_⟩:=p
   obtain ⟨o2,e2,c2,_⟩:=hit
   rw [z,e2] at e1;cases e1;rw [c2] at c;exact absurd c (by simp)
  have hT:s.TypeIs (.ref e) "enumerate":=⟨_,he,rfl⟩
  unfold pyNext
  refine wpAny_bind (wpAny_attempt (wpAny_callSpecial?_slot (name:=Str.ofString "__next__") hT F.slot_enumerate_next
   (wpAny_call_entry F.slot_enumerate_next hT F.entry_enumerate_next ?_ (F.args_enumerate_next_1 _))))
  show wpAny _ _ (field (.ref e) 2 >>= _) _ _ _
  refine wpAny_bind (wpAny_field he rfl (x:=.ref it) rfl ?_)
  refine wpAny_bind (u6 (A:=X.A.in1) (I.ok.hd hc) hit (show s.heap.IsTuple a its.toArray from p) (by simp;omega) fun h' ex hx' ⟨o,ho,hcl⟩=>?_)
  refine wpAny_bind (wpAny_isInstance (T:="StopIteration") (b:=true) ⟨o,ho,hcl⟩ isSubtype_stop ?_)
  exact wpAny_pure ⟨rfl,I.turned (t':=s.toks) (fun b o hb q=>hx' b o hb q) f0 f1 f3 f4 f5⟩
 self:=fun _ _ _ _ _ st h=>let ⟨_,he⟩:=st.1;wpAny_pyIter_enum he h
section
variable {X:Cx}
def zen(K:PySem.W.Frag)(ta:TA):TI:=fun σ H R=>ta σ H fun vs H1=>∃a,vs=[.ref a]∧(∃xs,SqT K H1 a xs)∧R (Ite fun H xs=>SqT K H a xs) H1
theorem QX{a:Expr}{ta:TA}{p pos tp:Pos}{elts:List Expr}{k:Nat}(hg:Gl X "enumerate")(hm:X.mg "enumerate"=none)(ha:PA X [a] ta)(hs:starEach [a] X.env=[(false,eval a X.env)]:=by rfl):
  PI X (.Tuple elts k tp) (.Call (.Name "enumerate" p) [a] [] pos) (zen X.K ta):=by
 intro pins s σ H R I h
 refine Call_ (Yo I hg hm boot_enumerate (PyProof.Rows.callWith_type1 (thn (ha pos pins s σ H _ I h) fun us s1 ⟨vs,H1,I1,r1,q1⟩=>?_) hs rfl))
 obtain ⟨l,e,⟨xs,hq⟩,q⟩:=q1
 subst e
 cases r1 with
 | cons r rr =>
  cases rr
  cases r
  obtain ⟨its,rv,pt,hz⟩:=I1.tuple hq
  refine Xu (items:=its.toArray) pt fun h' he hit hsz hk=>?_
  refine wpAny_pyIter_enum he ?_
  have I2:Inv X pins σ H1 { s1 with heap:=h' }:=I1.kept (t':=s1.toks) hk
  refine ⟨s1.heap.objs.size+1,[s1.heap.objs.size+1,s1.heap.objs.size],_,_,H1,rfl,I2,V4 l s1.heap.objs.size (s1.heap.objs.size+1) (Nat.succ_ne_self _),⟨⟨_,he⟩,hit⟩,fun b hb=>?_,q⟩
  have hb':s1.heap.objs.size≤b:=by
   rcases List.mem_cons.mp hb with z|hb
   ·rw [z];exact Nat.le_succ _
   ·rw [List.mem_singleton.mp hb];exact Nat.le_refl _
  exact I1.fpOk hb' (I1.hok.fresh hb')
end
end L2
namespace DD
open PySem PySem.Spec L2
open PyProof.Rows hiding St
inductive D where
 | non|bl (b:Bool)|int (i:Int)|str (x:Str)|scr (ns:List Int)|tup (xs:List D)|lst (xs:List D)|dK (ks:List Key) (vs:List D)|dT (ks:List (List Key)) (vs:List D)|adr (a:Addr)|opq
mutual
def Is(K:PySem.W.Frag)(F:Hp):D→V→Prop
 | .non,v=>v=.non
 | .bl b,v=>v=.bl b
 | .int i,v=>v=.int i
 | .str x,v=>v=.str x
 | .scr ns,v=>∃a,v=.ref a∧SqL K F a (ns.map V.int)
 | .tup ds,v=>∃a vs,v=.ref a∧F a=some (.tup vs)∧Are K F ds vs
 | .lst ds,v=>∃a vs,v=.ref a∧F a=some (.lst vs)∧Are K F ds vs
 | .dK ks ds,v=>∃a ws,v=.ref a∧F a=some (.dK ws)∧ws.map Prod.fst=ks∧Are K F ds (ws.map Prod.snd)
 | .dT ks ds,v=>∃a ws,v=.ref a∧F a=some (.dT ws)∧ws.map Prod.fst=ks∧Are K F ds (ws.map Prod.snd)
 | .adr a,v=>v=.ref a
 | .opq,_=>True
def Are(K:PySem.W.Frag)(F:Hp):List D→List V→Prop
 | [],vs=>vs=[]
 | d::ds,vs=>∃v r,vs=v::r∧Is K F d v∧Are K F ds r
end
section
variable {K:PySem.W.Frag} {F F' H H':Hp}
mutual
theorem Is.mono(s:zV F F'):∀(d:D) {v:V},Is K F d v→Is K F' d v
 | .non,_,h=>by simpa [Is] using h
 | .bl _,_,h=>by simpa [Is] using h
 | .int _,_,h=>by simpa [Is] using h
 | .str _,_,h=>by simpa [Is] using h
 | .scr ns,_,h=>by
  simp only [Is] at h ⊢
  obtain ⟨a,e,hf⟩:=h
  exact ⟨a,e,s.seq hf⟩
 | .tup ds,_,h=>by
  simp only [Is] at h ⊢
  obtain ⟨a,vs,e,hf,r⟩:=h
  exact ⟨a,vs,e,s _ _ hf,Are.mono s ds r⟩
 | .lst ds,_,h=>by
  simp only [Is] at h ⊢
  obtain ⟨a,vs,e,hf,r⟩:=h
  exact ⟨a,vs,e,s _ _ hf,Are.mono s ds r⟩
 | .dK ks ds,_,h=>by
  simp only [Is] at h ⊢
  obtain ⟨a,ws,e,hf,q,r⟩:=h
  exact ⟨a,ws,e,s _ _ hf,q,Are.mono s ds r⟩
 | .dT ks ds,_,h=>by
  simp only [Is] at h ⊢
  obtain ⟨a,ws,e,hf,q,r⟩:=h
  exact ⟨a,ws,e,s _ _ hf,q,Are.mono s ds r⟩
 | .adr _,_,h=>by simpa [Is] using h
 | .opq,_,h=>by simpa [Is] using h
theorem Are.mono(s:zV F F'):∀(ds:List D) {vs:List V},Are K F ds vs→Are K F' ds vs
 | [],_,h=>by simpa [Are] using h
 | d::ds,_,h=>by
  simp only [Are] at h ⊢
  obtain ⟨v,r,e,h1,h2⟩:=h
  exact ⟨v,r,e,Is.mono s d h1,Are.mono s ds h2⟩
end
theorem Are.nil:Are K F [] []:=by simp [Are]
theorem Are.cons{d:D}{ds:List D}{v:V}{vs:List V}(h:Is K F d v)(r:Are K F ds vs):Are K F (d::ds) (v::vs):=by
 simp only [Are]
 exact ⟨v,vs,rfl,h,r⟩
theorem Are.inv{d:D}{ds:List D}{vs:List V}(h:Are K F (d::ds) vs):∃v r,vs=v::r∧Is K F d v∧Are K F ds r:=by
 simpa only [Are] using h
theorem Are.inv0{vs:List V}(h:Are K F [] vs):vs=[]:=by simpa only [Are] using h
theorem Are.length:∀{ds:List D} {vs:List V},Are K F ds vs→vs.length=ds.length
 | [],_,h=>by rw [h.inv0];rfl
 | d::ds,_,h=>by
  obtain ⟨v,r,e,_,q⟩:=h.inv
  rw [e,List.length_cons,List.length_cons,q.length]
theorem Are.get:∀{ds:List D} {vs:List V} {i:Nat} {d:D},Are K F ds vs→ds[i]?=some d→∃v,vs[i]?=some v∧Is K F d v
 | [],_,_,_,_,e=>by simp at e
 | x::ds,_,0,d,h,e=>by
  obtain ⟨v,r,e1,q,_⟩:=h.inv
  simp at e;subst e;subst e1
  exact ⟨v,rfl,q⟩
 | x::ds,_,i+1,d,h,e=>by
  obtain ⟨v,r,e1,_,q⟩:=h.inv
  subst e1
  obtain ⟨u,h1,h2⟩:=Are.get (i:=i) (d:=d) q (by simpa using e)
  exact ⟨u,by simpa using h1,h2⟩
theorem Are.append:∀{ds es:List D} {vs us:List V},Are K F ds vs→Are K F es us→Are K F (ds++es) (vs++us)
 | [],_,_,_,h,q=>by rw [h.inv0];exact q
 | d::ds,_,_,_,h,q=>by
  obtain ⟨v,r,e,h1,h2⟩:=h.inv
  subst e
  exact .cons h1 (Are.append h2 q)
theorem Are.drop:∀{ds:List D} {vs:List V} (n:Nat),Are K F ds vs→Are K F (ds.drop n) (vs.drop n)
 | _,_,0,h=>h
 | [],_,n+1,h=>by rw [h.inv0];exact .nil
 | d::ds,_,n+1,h=>by
  obtain ⟨v,r,e,_,h2⟩:=h.inv
  subst e
  exact Are.drop n h2
theorem Are.take:∀{ds:List D} {vs:List V} (n:Nat),Are K F ds vs→Are K F (ds.take n) (vs.take n)
 | _,_,0,h=>by rw [List.take_zero,List.take_zero];exact .nil
 | [],_,n+1,h=>by rw [h.inv0];exact .nil
 | d::ds,_,n+1,h=>by
  obtain ⟨v,r,e,h1,h2⟩:=h.inv
  subst e
  exact .cons h1 (Are.take n h2)
theorem Are.set{x:D}{u:V}(hx:Is K F x u):∀{ds:List D} {vs:List V} (n:Nat),Are K F ds vs→Are K F (ds.set n x) (vs.set n u)
 | [],_,_,h=>by rw [h.inv0];exact .nil
 | d::ds,_,0,h=>by
  obtain ⟨v,r,e,h1,h2⟩:=h.inv
  subst e
  exact .cons hx h2
 | d::ds,_,n+1,h=>by
  obtain ⟨v,r,e,h1,h2⟩:=h.inv
  subst e
  exact .cons h1 (Are.set hx n h2)
theorem QY(s:zV F F'){a:Addr}{xs:List V}(h:SqT K F a xs):SqT K F' a xs:=by
 rcases h with (h|⟨o,h⟩)|h
 ·exact .inl (.inl (s _ _ h))
 ·exact .inl (.inr ⟨o,s _ _ h⟩)
 ·exact .inr h
end
structure Ext (F H F' H':Hp):Prop where
 ff:zV F F'
 hh:zV H H'
 fh:zV F' H'
 new:∀b,F b=none→F' b≠none→H b=none
theorem Ext.refl{F H:Hp}(s:zV F H):Ext F H F H:=⟨zV.refl _,zV.refl _,s,fun _ h1 h2=>absurd h1 h2⟩
theorem Ext.trans{F H F1 H1 F2 H2:Hp}(a:Ext F H F1 H1)(b:Ext F1 H1 F2 H2):Ext F H F2 H2 :=
 ⟨a.ff.trans b.ff,a.hh.trans b.hh,b.fh,fun c h1 h2=>by
  by_cases q:F1 c=none
  ·exact a.hh.free (b.new c q h2)
  ·exact a.new c h1 q⟩
theorem yn{H:Hp}{p:Addr}(h:H p=none)(o:HO):zV H (upd H p o):=fun b u q=>by rw [yc (yB q h)];exact q
theorem U8{F H:Hp}{p:Addr}(s:zV F H)(o:HO):zV (upd F p o) (upd H p o):=fun b u q=>by
 by_cases e:b=p
 ·subst e;rw [yj] at q ⊢;exact q
 ·rw [yc e] at q ⊢;exact s _ _ q
theorem Ext.freed{F H F' H':Hp}(e:Ext F H F' H'){a:Addr}(h:F a=none)(n:H a≠none):F' a=none:=by
 cases z:F' a with
 | none=>rfl
 | some u=>exact absurd (e.new a h (by rw [z];simp)) n
theorem Ext.fix{F H:Hp}{p:Addr}(s:zV F H)(h:H p=none)(o:HO):Ext F H (upd F p o) (upd H p o) :=
 ⟨yn (s.free h) o,yn h o,U8 s o,fun b h1 h2=>by
  by_cases e:b=p
  ·subst e;exact h
  ·rw [yc e] at h2;exact absurd h1 h2⟩
theorem Ext.own{F H:Hp}{p:Addr}(s:zV F H)(h:H p=none)(o:HO):Ext F H F (upd H p o) :=
 ⟨zV.refl _,yn h o,fun b u q=>yn h o b u (s b u q),fun b h1 h2=>absurd h1 h2⟩
theorem Ext.turn{F0 H0 F H:Hp}{p:Addr}(e:Ext F0 H0 F H)(h0:H0 p=none)(hf:F p=none)(o:HO):Ext F0 H0 F (upd H p o) :=
 ⟨e.ff,fun b u q=>by rw [yc (yB q h0)];exact e.hh b u q,fun b u q=>by rw [yc (yB q hf)];exact e.fh b u q,e.new⟩
theorem Ext.freeze{F0 H0 F H:Hp}{p:Addr}{o:HO}(e:Ext F0 H0 F H)(h0:H0 p=none)(hf:F p=none)(hp:H p=some o):Ext F0 H0 (upd F p o) H :=
 ⟨fun b u q=>yn hf o b u (e.ff b u q),e.hh,fun b u q=>by
  by_cases z:b=p
  ·subst z;rw [yj] at q;rw [hp,q]
  ·rw [yc z] at q;exact e.fh b u q,fun b h1 h2=>by
  by_cases z:b=p
  ·subst z;exact h0
  ·rw [yc z] at h2;exact e.new b h1 h2⟩
inductive S where
 | un|v (d:D)|ol (ds:List D)|ot (kvs:List (List Key×D))|ok (kvs:List (Key×D))
abbrev G:=List S
def S.own:S→Bool
 | .un=>false|.v _=>false|_=>true
def u7{κ:Type}(K:PySem.W.Frag)(F:Hp):List (κ×D)→List (κ×V)→Prop:=Paired fun p q=>p.1=q.1∧Is K F p.2 q.2
theorem u7.mono{κ:Type}{K:PySem.W.Frag}{F F':Hp}(s:zV F F'){ps:List (κ×D)}{qs:List (κ×V)}(h:u7 K F ps qs):u7 K F' ps qs:=Paired.mapP h fun _ _ hh17'=>by obtain ⟨a,b⟩:=hh17';exact ⟨a,b.mono s⟩
def SIs(K:PySem.W.Frag)(H0 F H:Hp):S→Option V→Prop
 | .un,_=>True
 | .v d,o=>∃v,o=some v∧Is K F d v
 | .ol ds,o=>∃a vs,o=some (.ref a)∧H a=some (.lst vs)∧Are K F ds vs∧F a=none∧H0 a=none
 | .ot kvs,o=>∃a ws,o=some (.ref a)∧H a=some (.dT ws)∧u7 K F kvs ws∧F a=none∧H0 a=none
 | .ok kvs,o=>∃a ws,o=some (.ref a)∧H a=some (.dK ws)∧u7 K F kvs ws∧F a=none∧H0 a=none
structure EnvIs (K:PySem.W.Frag) (F0 H0 F H:Hp) (σ:St) (Γ:G):Prop where
 ext:Ext F0 H0 F H
 len:σ.length=Γ.length
 val:∀(i:Nat) s,Γ[i]?=some s→∃o,σ[i]?=some o∧SIs K H0 F H s o
 sep:∀(i j:Nat) s t a,i≠j→Γ[i]?=some s→Γ[j]?=some t→s.own=true→t.own=true→σ[i]?=some (some (.ref a))→σ[j]?=some (some (.ref a))→False
section
variable {K:PySem.W.Frag} {F0 H0 F H F' H':Hp} {σ:St} {Γ:G}
theorem SIs.ext{s:S}{o:Option V}(h:SIs K H0 F H s o)(e:Ext F H F' H'):SIs K H0 F' H' s o:=by
 cases s with
 | un=>trivial
 | v d=>obtain ⟨v,e1,q⟩:=h;exact ⟨v,e1,q.mono e.ff⟩
 | ol ds=>obtain ⟨a,vs,e1,q1,q2,q3,q4⟩:=h;exact ⟨a,vs,e1,e.hh _ _ q1,q2.mono e.ff,e.freed q3 (by rw [q1];simp),q4⟩
 | ot kvs=>obtain ⟨a,vs,e1,q1,q2,q3,q4⟩:=h;exact ⟨a,vs,e1,e.hh _ _ q1,q2.mono e.ff,e.freed q3 (by rw [q1];simp),q4⟩
 | ok kvs=>obtain ⟨a,vs,e1,q1,q2,q3,q4⟩:=h;exact ⟨a,vs,e1,e.hh _ _ q1,q2.mono e.ff,e.freed q3 (by rw [q1];simp),q4⟩
theorem EnvIs.grow(E:EnvIs K F0 H0 F H σ Γ)(e:Ext F H F' H'):EnvIs K F0 H0 F' H' σ Γ :=
 ⟨E.ext.trans e,E.len,fun i s h=>let ⟨o,h1,h2⟩:=E.val i s h;⟨o,h1,h2.ext e⟩,E.sep⟩
theorem EnvIs.fh(E:EnvIs K F0 H0 F H σ Γ):zV F H:=E.ext.fh
theorem EnvIs.put{i:Nat}{d:D}{v:V}(E:EnvIs K F0 H0 F H σ Γ)(h:Is K F d v):EnvIs K F0 H0 F H (σ.set i (some v)) (Γ.set i (.v d)):=by
 refine ⟨E.ext,by simpa using E.len,fun j s e=>?_,fun j k s t a hjk e1 e2 o1 o2 r1 r2=>?_⟩
 ·by_cases hj:j=i
  ·subst hj
   have hlt:j < Γ.length:=by
    have:=(List.getElem?_eq_some_iff.mp e).1;simpa using this
   rw [List.getElem?_set_self hlt] at e
   cases e
   exact ⟨some v,List.getElem?_set_self (by rw [E.len];exact hlt),v,rfl,h⟩
  ·rw [List.getElem?_set_ne (Ne.symm hj)] at e ⊢
   exact E.val j s e
 ·have no:∀(k:Nat) (t:S),(Γ.set i (.v d))[k]?=some t→t.own=true→k≠i:=fun k t e o z=>by
   subst z
   have hlt:k < Γ.length:=by
    have:=(List.getElem?_eq_some_iff.mp e).1;simpa using this
   rw [List.getElem?_set_self hlt] at e
   cases e;cases o
  have n1:=no j s e1 o1
  have n2:=no k t e2 o2
  rw [List.getElem?_set_ne (Ne.symm n1)] at e1 r1
  rw [List.getElem?_set_ne (Ne.symm n2)] at e2 r2
  exact E.sep j k s t a hjk e1 e2 o1 o2 r1 r2
theorem EnvIs.putOwn{i:Nat}{s0:S}{a:Addr}(E:EnvIs K F0 H0 F H σ Γ)(h:SIs K H0 F H s0 (some (.ref a)))(nw:∀(j:Nat) s,j≠i→Γ[j]?=some s→s.own=true→σ[j]?≠some (some (.ref a))):
  EnvIs K F0 H0 F H (σ.set i (some (.ref a))) (Γ.set i s0):=by
 refine ⟨E.ext,by simpa using E.len,fun j s e=>?_,fun j k s t b hjk e1 e2 o1 o2 r1 r2=>?_⟩
 ·by_cases hj:j=i
  ·subst hj
   have hlt:j < Γ.length:=by
    have:=(List.getElem?_eq_some_iff.mp e).1;simpa using this
   rw [List.getElem?_set_self hlt] at e
   cases e
   exact ⟨_,List.getElem?_set_self (by rw [E.len];exact hlt),h⟩
  ·rw [List.getElem?_set_ne (Ne.symm hj)] at e ⊢
   exact E.val j s e
 ·by_cases hj:j=i
  ·subst hj
   have hk:k≠j:=Ne.symm hjk
   have hlt:j < σ.length:=by
    have:=(List.getElem?_eq_some_iff.mp r1).1;simpa using this
   rw [List.getElem?_set_self hlt] at r1
   cases r1
   rw [List.getElem?_set_ne (Ne.symm hk)] at e2 r2
   exact nw k t hk e2 o2 r2
  ·by_cases hk:k=i
   ·subst hk
    have hlt:k < σ.length:=by
     have:=(List.getElem?_eq_some_iff.mp r2).1;simpa using this
    rw [List.getElem?_set_self hlt] at r2
    cases r2
    rw [List.getElem?_set_ne (Ne.symm hj)] at e1 r1
    exact nw j s hj e1 o1 r1
   ·rw [List.getElem?_set_ne (Ne.symm hj)] at e1 r1
    rw [List.getElem?_set_ne (Ne.symm hk)] at e2 r2
    exact E.sep j k s t b hjk e1 e2 o1 o2 r1 r2
end
inductive Ty where
 | non|bl|int|str|tup|lst
 deriving DecidableEq
def Ty.name:Ty→String
 | .non=>"NoneType"|.bl=>"bool"|.int=>"int"|.str=>"str"|.tup=>"tuple"|.lst=>"list"
inductive B where
 | d (d:D)|l (ds:List D)|c (ds:List D)|t (kvs:List (List Key×D))|k (kvs:List (Key×D))|ty (c:Ty)
def BIs(K:PySem.W.Frag)(F H:Hp):B→V→Prop
 | .d d,v=>Is K F d v
 | .l ds,v=>∃a vs,v=.ref a∧H a=some (.lst vs)∧Are K F ds vs
 | .c ds,v=>∃a vs,v=.ref a∧SqT K H a vs∧Are K F ds vs
 | .t kvs,v=>∃a ws,v=.ref a∧H a=some (.dT ws)∧u7 K F kvs ws
 | .k kvs,v=>∃a ws,v=.ref a∧H a=some (.dK ws)∧u7 K F kvs ws
 | .ty c,v=>v=.ty c.name
theorem BIs.ext{K:PySem.W.Frag}{F H F' H':Hp}{b:B}{v:V}(h:BIs K F H b v)(e:Ext F H F' H'):BIs K F' H' b v:=by
 cases b with
 | d d=>exact Is.mono e.ff d h
 | l ds=>obtain ⟨a,vs,e1,q,r⟩:=h;exact ⟨a,vs,e1,e.hh _ _ q,r.mono e.ff⟩
 | c ds=>obtain ⟨a,vs,e1,q,r⟩:=h;exact ⟨a,vs,e1,QY e.hh q,r.mono e.ff⟩
 | t kvs=>obtain ⟨a,ws,e1,q,r⟩:=h;exact ⟨a,ws,e1,e.hh _ _ q,r.mono e.ff⟩
 | k kvs=>obtain ⟨a,ws,e1,q,r⟩:=h;exact ⟨a,ws,e1,e.hh _ _ q,r.mono e.ff⟩
 | ty c=>exact h
def S.look:S→Option B
 | .un=>none
 | .v d=>some (.d d)
 | .ol ds=>some (.l ds)
 | .ot kvs=>some (.t kvs)
 | .ok kvs=>some (.k kvs)
def B.asD:B→Option D
 | .d x=>some x
 | _=>none
def dE(K:PySem.W.Frag)(f:G→Option B):TE:=fun σ H Q=>∃F0 H0 F Γ b,EnvIs K F0 H0 F H σ Γ∧f Γ=some b∧∀v F' H',Ext F H F' H'→BIs K F' H' b v→Q v H'
def dT(K:PySem.W.Frag)(f:G→Option Bool):TT:=fun σ H Q=>∃F0 H0 F Γ b,EnvIs K F0 H0 F H σ Γ∧f Γ=some b∧∀F' H',Ext F H F' H'→Q b H'
abbrev V5(K:PySem.W.Frag)(F H:Hp):List B→List V→Prop:=Paired (BIs K F H)
def dA(K:PySem.W.Frag)(f:G→Option (List B)):TA:=fun σ H Q=>∃F0 H0 F Γ ds,EnvIs K F0 H0 F H σ Γ∧f Γ=some ds∧∀vs F' H',Ext F H F' H'→V5 K F' H' ds vs→Q vs H'
def dL(K:PySem.W.Frag)(f:G→Option (List D)):TE:=fun σ H Q=>∃F0 H0 F Γ ds,EnvIs K F0 H0 F H σ Γ∧f Γ=some ds ∧
 ∀a vs F' H',Ext F H F' H'→H a=none→F' a=none→H' a=some (.lst vs)→Are K F' ds vs→Q (.ref a) H'
inductive Out where
 | nx (g:G)|rt (d:D)|bk (g:G)|ct (g:G)
def WC(K:PySem.W.Frag)(F0 H0 Fs:Hp)(E:Ends):Out→Prop
 | .nx g=>∀σ F H,EnvIs K F0 H0 F H σ g→zV Fs F→E.nx σ H
 | .bk g=>∀σ F H,EnvIs K F0 H0 F H σ g→zV Fs F→E.bk σ H
 | .ct g=>∀σ F H,EnvIs K F0 H0 F H σ g→zV Fs F→E.ct σ H
 | .rt d=>∀v F H,Ext F0 H0 F H→Is K F d v→E.rt v H
theorem WC.mono{K:PySem.W.Frag}{F0 H0 Fs Ft:Hp}{E:Ends}{o:Out}(h:WC K F0 H0 Fs E o)(s:zV Fs Ft):WC K F0 H0 Ft E o:=by
 cases o with
 | nx g=>exact fun σ F H En z=>h σ F H En (s.trans z)
 | bk g=>exact fun σ F H En z=>h σ F H En (s.trans z)
 | ct g=>exact fun σ F H En z=>h σ F H En (s.trans z)
 | rt d=>exact h
def dS(K:PySem.W.Frag)(f:G→Option Out):TS:=fun E σ H=>∃F0 H0 F Γ o,EnvIs K F0 H0 F H σ Γ∧f Γ=some o∧WC K F0 H0 F E o
def EE(X:Cx)(e:Expr)(f:G→Option B):Prop:=PE X e (dE X.K f)
def ET(X:Cx)(e:Expr)(f:G→Option Bool):Prop:=PT X e (dT X.K f)
def EW(X:Cx)(e:Expr)(f:G→Option Bool):Prop:=PW X e (dT X.K f)
def EA(X:Cx)(es:List Expr)(f:G→Option (List B)):Prop:=PA X es (dA X.K f)
def EL(X:Cx)(e:Expr)(f:G→Option (List D)):Prop:=PE X e (dL X.K f)
def SD(X:Cx)(st:Stmt)(f:G→Option Out):Prop:=PS X st (dS X.K f)
def SDs(X:Cx)(st:List Stmt)(f:G→Option Out):Prop:=PSs X st (dS X.K f)
section
variable {X:Cx}
theorem yo{e:Expr}{t t':TE}(h:PE X e t)(w:∀σ H Q,t' σ H Q→t σ H Q):PE X e t':=fun pins s σ H Q I q=>h pins s σ H Q I (w σ H Q q)
theorem X0{e:Expr}{t t':TT}(h:PT X e t)(w:∀σ H Q,t' σ H Q→t σ H Q):PT X e t':=fun pins s σ H Q I q=>h pins s σ H Q I (w σ H Q q)
theorem zaM{e:Expr}{t t':TT}(h:PW X e t)(w:∀σ H Q,t' σ H Q→t σ H Q):PW X e t':=fun wh pins s σ H Q I q=>h wh pins s σ H Q I (w σ H Q q)
theorem VD{e:List Expr}{t t':TA}(h:PA X e t)(w:∀σ H Q,t' σ H Q→t σ H Q):PA X e t':=fun p pins s σ H Q I q=>h p pins s σ H Q I (w σ H Q q)
theorem xb{st:Stmt}{t t':TS}(h:PS X st t)(w:∀E σ H,t' E σ H→t E σ H):PS X st t':=fun pins s σ H E I q=>h pins s σ H E I (w E σ H q)
theorem Z4{st:List Stmt}{t t':TS}(h:PSs X st t)(w:∀E σ H,t' E σ H→t E σ H):PSs X st t':=fun pins s σ H E I q=>h pins s σ H E I (w E σ H q)
theorem VE{e:Expr}{t t':TG}(h:PG X e t)(w:∀v σ H Q,t' v σ H Q→t v σ H Q):PG X e t':=fun pins s σ H v u Q I r q=>h pins s σ H v u Q I r (w v σ H Q q)
def zd(i:Nat):G→Option B:=fun Γ=>Γ[i]?.bind S.look
theorem zc{i:Nat}{x:Str}{pos:Pos}(h:PE X (.Name x pos) (Y9 i)):EE X (.Name x pos) (zd i):=yo h fun σ H Q hh18'=>by
 obtain ⟨F0,H0,F,Γ,b,E,e,q⟩:=hh18'
 unfold zd at e
 cases z:Γ[i]? with
 | none=>rw [z] at e;cases e
 | some s =>
  rw [z] at e
  have e':s.look=some b:=e
  obtain ⟨o,h1,h2⟩:=E.val i s z
  cases s with
  | un=>cases e'
  | v d=>cases e';obtain ⟨v,rfl,r⟩:=h2;exact ⟨v,h1,q v F H (.refl E.fh) r⟩
  | ol ds=>cases e';obtain ⟨a,vs,rfl,r1,r2,_⟩:=h2;exact ⟨_,h1,q _ F H (.refl E.fh) ⟨a,vs,rfl,r1,r2⟩⟩
  | ot kvs=>cases e';obtain ⟨a,vs,rfl,r1,r2,_⟩:=h2;exact ⟨_,h1,q _ F H (.refl E.fh) ⟨a,vs,rfl,r1,r2⟩⟩
  | ok kvs=>cases e';obtain ⟨a,vs,rfl,r1,r2,_⟩:=h2;exact ⟨_,h1,q _ F H (.refl E.fh) ⟨a,vs,rfl,r1,r2⟩⟩
def xC(d:D):G→Option B:=fun _=>some (.d d)
theorem ZB{e:Expr}{v:V}{d:D}(h:PE X e (tC v))(r:∀F,Is X.K F d v):EE X e (xC d):=yo h fun σ H Q hh19'=>by
 obtain ⟨F0,H0,F,Γ,b,E,e,q⟩:=hh19'
 cases e
 exact q v F H (.refl E.fh) (r F)
theorem zf{i j pos}:EE X (.Constant (.int i) j pos) (xC (.int i)):=ZB zbi fun F=>by simp [Is]
theorem yD{i j pos}:EE X (.Constant (.bool i) j pos) (xC (.bl i)):=ZB zcV fun F=>by simp [Is]
theorem yN{i j pos}:EE X (.Constant (.str i) j pos) (xC (.str i)):=ZB US fun F=>by simp [Is]
theorem xO{j pos}:EE X (.Constant .none j pos) (xC .non):=ZB zbj fun F=>by simp [Is]
theorem uY{x:Str}{i:Int}{t:Tok}{pos:Pos}(hg:Gl X x)(hm:X.mg x=some (.int i t))(hd:(x == ("__debug__":Str))=false:=by decide):EE X (.Name x pos) (xC (.int i)):=ZB (zO hg hm (v:=.int i) ⟨t,rfl⟩ hd) fun F=>by simp [Is]
end
section
variable {X:Cx} {a b c e:Expr} {f g h:G→Option B} {pos:Pos}
def OpB(K:PySem.W.Frag)(r:R2)(m:B→B→Option D):Prop:=∀F H x y v u d Q,zV F H→BIs K F H x v→BIs K F H y u→m x y=some d→(∀w F' H',Ext F H F' H'→Is K F' d w→Q w H')→r v u H Q
def x2(m:B→B→Option D)(f g:G→Option B):G→Option B:=fun Γ=>(f Γ).bind fun x=>(g Γ).bind fun y=>(m x y).map B.d
theorem uZ{m:B→B→Option D}{Γ:G}{z:B}(e:x2 m f g Γ=some z):∃x y d,f Γ=some x∧g Γ=some y∧m x y=some d∧z=.d d:=by
 unfold x2 at e
 cases hx:f Γ with
 | none=>rw [hx] at e;cases e
 | some x =>
  cases hy:g Γ with
  | none=>rw [hx,hy] at e;cases e
  | some y =>
   rw [hx,hy] at e
   cases hm:m x y with
   | none=>simp [hm] at e
   | some d=>simp [hm] at e;exact ⟨x,y,d,rfl,rfl,hm,e.symm⟩
theorem zj{op:Operator}{r:R2}{m:B→B→Option D}(ho:OpR X (binaryOp op) r)(hm:OpB X.K r m)(ha:EE X a f)(hb:EE X b g):EE X (.BinOp a op b pos) (x2 m f g) :=
 yo (zc2 ho ha hb) fun σ H Q hh20'=>by
  obtain ⟨F0,H0,F,Γ,z,E,e,q⟩:=hh20'
  obtain ⟨x,y,d,hx,hy,hd,rfl⟩:=uZ e
  exact ⟨F0,H0,F,Γ,x,E,hx,fun v F1 H1 e1 r1=>⟨F0,H0,F1,Γ,y,E.grow e1,hy,fun u F2 H2 e2 r2=>hm F2 H2 x y v u d Q e2.fh (r1.ext e2) r2 hd fun w F' H' e3 r3=>q w F' H' ((e1.trans e2).trans e3) r3⟩⟩
theorem v5{op:CmpOp}{r:R2}{m:B→B→Option D}(ho:OpR X (compareOp op) r)(hm:OpB X.K r m)(ha:EE X a f)(hb:EE X b g)(hk:behindInMarks op b=false):EE X (.Compare a [op] [b] pos) (x2 m f g) :=
 yo (zaz ho ha hb hk) fun σ H Q hh21'=>by
  obtain ⟨F0,H0,F,Γ,z,E,e,q⟩:=hh21'
  obtain ⟨x,y,d,hx,hy,hd,rfl⟩:=uZ e
  exact ⟨F0,H0,F,Γ,x,E,hx,fun v F1 H1 e1 r1=>⟨F0,H0,F1,Γ,y,E.grow e1,hy,fun u F2 H2 e2 r2=>hm F2 H2 x y v u d Q e2.fh (r1.ext e2) r2 hd fun w F' H' e3 r3=>q w F' H' ((e1.trans e2).trans e3) r3⟩⟩
def B.tst:B→Option Bool
 | .d (.bl b)=>some b
 | _=>none
def xT(f:G→Option B):G→Option Bool:=fun Γ=>(f Γ).bind B.tst
theorem X1{Γ:G}{z:Bool}(e:xT f Γ=some z):f Γ=some (.d (.bl z)):=by
 unfold xT at e
 cases hx:f Γ with
 | none=>rw [hx] at e;cases e
 | some x =>
  rw [hx] at e
  have e':x.tst=some z:=e
  unfold B.tst at e'
  split at e'
  ·cases e';rfl
  ·cases e'
theorem zA{op:CmpOp}{r:R2}{m:B→B→Option D}(ho:OpR X (compareOp op) r)(hm:OpB X.K r m)(ha:EE X a f)(hb:EE X b g)(hk:behindInMarks op b=false):ET X (.Compare a [op] [b] pos) (xT (x2 m f g)) :=
 X0 (zaA ho ha hb hk) fun σ H Q hh22'=>by
  obtain ⟨F0,H0,F,Γ,z,E,e,q⟩:=hh22'
  obtain ⟨x,y,d,hx,hy,hd,hz⟩:=uZ (X1 e)
  cases hz
  exact ⟨F0,H0,F,Γ,x,E,hx,fun v F1 H1 e1 r1=>⟨F0,H0,F1,Γ,y,E.grow e1,hy,fun u F2 H2 e2 r2=>hm F2 H2 x y v u _ _ e2.fh (r1.ext e2) r2 hd fun w F' H' e3 r3=>⟨z,by simpa [Is] using r3,q F' H' ((e1.trans e2).trans e3)⟩⟩⟩
theorem yq(ha:EE X a f)(he:∀whole,isTrue a X.env whole=(do let v ←whole;standAt a.pos;holding [v] (truthy v)):=by intro _;rfl):ET X a (xT f) :=
 X0 (zbk ha he) fun σ H Q ⟨F0,H0,F,Γ,z,E,e,q⟩=>⟨F0,H0,F,Γ,_,E,X1 e,fun v F1 H1 e1 r1=>⟨z,by
  have r1':Is X.K F1 (.bl z) v:=r1
  simpa [Is] using r1',q F1 H1 e1⟩⟩
variable {tf tg:G→Option Bool} {rest:List Expr}
def xOr(f g:G→Option Bool):G→Option Bool:=fun Γ=>(f Γ).bind fun x=>if x=true then some true else g Γ
def yP(f:G→Option Bool):G→Option Bool:=fun Γ=>(f Γ).map (!·)
theorem bind_some{α β:Type}{o:Option α}{k:α→Option β}{z:β}(e:o.bind k=some z):∃x,o=some x∧k x=some z:=by
 cases o with
 | none=>cases e
 | some x=>exact ⟨x,rfl,e⟩
theorem wL(ha:ET X a tf):EW X (.BoolOp .Or [a] pos) tf:=zbl ha
theorem wr(ha:ET X a tf)(hb:EW X (.BoolOp .Or (b::rest) pos) tg):EW X (.BoolOp .Or (a::b::rest) pos) (xOr tf tg) :=
 zaM (zcW ha hb) fun σ H Q hh23'=>by
  obtain ⟨F0,H0,F,Γ,z,E,e,q⟩:=hh23'
  obtain ⟨x,hx,e⟩:=bind_some e
  refine ⟨F0,H0,F,Γ,x,E,hx,fun F1 H1 e1=>?_⟩
  cases x with
  | true=>cases e;exact q F1 H1 e1
  | false=>exact ⟨F0,H0,F1,Γ,z,E.grow e1,e,fun F2 H2 e2=>q F2 H2 (e1.trans e2)⟩
theorem t_w(h:EW X e tf):ET X e tf:=PW.pt h
theorem xa(ha:ET X a tf):ET X (.UnaryOp .Not a pos) (yP tf) :=
 X0 (zbm ha) fun σ H Q hh24'=>by
  obtain ⟨F0,H0,F,Γ,z,E,e,q⟩:=hh24'
  unfold yP at e
  cases hx:tf Γ with
  | none=>rw [hx] at e;cases e
  | some x=>rw [hx] at e;cases e;exact ⟨F0,H0,F,Γ,x,E,hx,fun F1 H1 e1=>q F1 H1 e1⟩
def Z5(f g:G→Option B):G→Option B:=fun Γ=>(xT f Γ).bind fun x=>if x=true then g Γ else some (.d (.bl false))
theorem zc9{K:PySem.W.Frag}{F H:Hp}{b:Bool}{v:V}(h:BIs K F H (.d (.bl b)) v):v=.bl b:=by
 have h':Is K F (.bl b) v:=h
 simpa [Is] using h'
theorem V6{K:PySem.W.Frag}{F H:Hp}{b:Bool}:BIs K F H (.d (.bl b)) (.bl b):=by
 show Is K F (.bl b) (.bl b)
 simp [Is]
theorem Xv{op}(ha:EE X a f):EE X (.BoolOp op [a] pos) f:=zbn ha
theorem Xw(ha:EE X a f)(hb:EE X (.BoolOp .And (b::rest) pos) g):EE X (.BoolOp .And (a::b::rest) pos) (Z5 f g) :=
 yo (zbo ha hb) fun σ H Q hh25'=>by
  obtain ⟨F0,H0,F,Γ,z,E,e,q⟩:=hh25'
  obtain ⟨x,hx,e⟩:=bind_some e
  refine ⟨F0,H0,F,Γ,_,E,X1 hx,fun v F1 H1 e1 r1=>⟨x,zc9 r1,?_⟩⟩
  cases x with
  | true=>exact ⟨F0,H0,F1,Γ,z,E.grow e1,e,fun v F2 H2 e2 r2=>q v F2 H2 (e1.trans e2) r2⟩
  | false=>cases e;exact q _ F1 H1 e1 V6
def xIf(t:G→Option Bool)(f g:G→Option B):G→Option B:=fun Γ=>(t Γ).bind fun x=>if x=true then f Γ else g Γ
theorem QZ(hc:ET X c tf)(ha:EE X a f)(hb:EE X b g):EE X (.IfExp c a b pos) (xIf tf f g) :=
 yo (QK hc ha hb) fun σ H Q hh26'=>by
  obtain ⟨F0,H0,F,Γ,z,E,e,q⟩:=hh26'
  obtain ⟨x,hx,e⟩:=bind_some e
  refine ⟨F0,H0,F,Γ,x,E,hx,fun F1 H1 e1=>?_⟩
  cases x with
  | true=>exact ⟨F0,H0,F1,Γ,z,E.grow e1,e,fun v F2 H2 e2 r2=>q v F2 H2 (e1.trans e2) r2⟩
  | false=>exact ⟨F0,H0,F1,Γ,z,E.grow e1,e,fun v F2 H2 e2 r2=>q v F2 H2 (e1.trans e2) r2⟩
def x3(m m':B→B→Option D)(f g h:G→Option B):G→Option B:=fun Γ=>(f Γ).bind fun x=>(g Γ).bind fun y=>((m x y).bind fun z=>B.tst (.d z)).bind fun k =>
 if k=true then (h Γ).bind fun w=>(m' y w).map B.d else some (.d (.bl false))
theorem Q0{d:D}{k:Bool}(e:B.tst (.d d)=some k):d=.bl k:=by
 unfold B.tst at e
 split at e
 ·rename_i q;cases q;cases e;rfl
 ·cases e
theorem zda{r r':R2}{m m':B→B→Option D}{σ:St}{H:Hp}{Q:VK}(hm:OpB X.K r m)(hm':OpB X.K r' m'):dE X.K (x3 m m' f g h) σ H Q→UY r r' (dE X.K f) (dE X.K g) (dE X.K h) σ H Q:=fun hh27'=>by
 obtain ⟨F0,H0,F,Γ,z,E,e,q⟩:=hh27'
 obtain ⟨x,hx,e⟩:=bind_some e
 obtain ⟨y,hy,e⟩:=bind_some e
 obtain ⟨k,hk,e⟩:=bind_some e
 obtain ⟨d,hd,hk⟩:=bind_some hk
 have hd':=Q0 hk
 subst hd'
 refine ⟨F0,H0,F,Γ,x,E,hx,fun v F1 H1 e1 r1=>⟨F0,H0,F1,Γ,y,E.grow e1,hy,fun u F2 H2 e2 r2=>hm F2 H2 x y v u _ _ e2.fh (r1.ext e2) r2 hd fun w F3 H3 e3 r3=>⟨k,by simpa [Is] using r3,?_⟩⟩⟩
 cases k with
 | false=>cases e;exact q _ F3 H3 ((e1.trans e2).trans e3) V6
 | true =>
  obtain ⟨w',hw,e⟩:=bind_some e
  cases hq:m' y w' with
  | none=>simp [hq] at e
  | some d' =>
   simp [hq] at e;subst e
   exact ⟨F0,H0,F3,Γ,w',((E.grow e1).grow e2).grow e3,hw,fun v' F4 H4 e4 r4=>hm' F4 H4 y w' u v' d' Q e4.fh ((r2.ext e3).ext e4) r4 hq fun w2 F5 H5 e5 r5=>q w2 F5 H5 ((((e1.trans e2).trans e3).trans e4).trans e5) r5⟩
theorem VF{op op':CmpOp}{r r':R2}{m m':B→B→Option D}(ho:OpR X (compareOp op) r)(hm:OpB X.K r m)(ho':OpR X (compareOp op') r')(hm':OpB X.K r' m')(ha:EE X a f)(hb:EE X b g)(hc:EE X c h) 
 (hk:lastMarks [op,op'] [b,c]=false:=by with_unfolding_all rfl):EE X (.Compare a [op,op'] [b,c] pos) (x3 m m' f g h):=yo (QQ ho ho' ha hb hc hk) fun σ H Q q=>zda hm hm' q
variable {es:List Expr} {fs:G→Option (List B)}
def zg:G→Option (List B):=fun _=>some []
def zb(f:G→Option B)(fs:G→Option (List B)):G→Option (List B):=fun Γ=>(f Γ).bind fun x=>(fs Γ).map fun xs=>x::xs
theorem ze:EA X [] zg:=VD yx fun σ H Q ⟨F0,H0,F,Γ,z,E,e,q⟩=>by cases e;exact q [] F H (.refl E.fh) .nil
theorem za(ha:EE X e f)(hr:EA X es fs)(hs:starEach (e::es) X.env=(false,eval e X.env)::starEach es X.env:=by rfl):EA X (e::es) (zb f fs) :=
 VD (yf ha hr hs) fun σ H Q hh28'=>by
  obtain ⟨F0,H0,F,Γ,z,E,e,q⟩:=hh28'
  obtain ⟨x,hx,e⟩:=bind_some e
  cases hy:fs Γ with
  | none=>rw [hy] at e;cases e
  | some xs =>
   rw [hy] at e;cases e
   exact ⟨F0,H0,F,Γ,x,E,hx,fun v F1 H1 e1 r1=>⟨F0,H0,F1,Γ,xs,E.grow e1,hy,fun vs F2 H2 e2 r2=>q (v::vs) F2 H2 (e1.trans e2) (.cons (r1.ext e2) r2)⟩⟩
def vn:List B→Option (List D)
 | []=>some []
 | b::r=>b.asD.bind fun d=>(vn r).map fun ds=>d::ds
theorem vo{K:PySem.W.Frag}{F H:Hp}:∀{bs:List B} {vs:List V} {ds:List D},vn bs=some ds→V5 K F H bs vs→Are K F ds vs:=fun {bs}=>by
 induction bs with
 | nil=>intro vs ds e h;cases e;cases h;exact .nil
 | cons b r ih =>
  intro vs ds e h
  cases h with
  | cons h q =>
   obtain ⟨d,hd,e⟩:=bind_some e
   cases hr:vn r with
   | none=>rw [hr] at e;cases e
   | some ds =>
    rw [hr] at e;cases e
    cases b with
    | d d'=>cases hd;exact .cons h (ih hr q)
    | _=>cases hd
def zt(fs:G→Option (List B)):G→Option B:=fun Γ=>((fs Γ).bind vn).bind fun ds=>if ds.length≤sizeLine then some (.d (.tup ds)) else none
theorem zl{k}(h:EA X es fs):EE X (.Tuple es k pos) (zt fs):=yo (zbz h) fun σ H Q hh29'=>by
 obtain ⟨F0,H0,F,Γ,z,E,e,q⟩:=hh29'
 obtain ⟨ds,hd,e⟩:=bind_some e
 obtain ⟨bs,hb,hd⟩:=bind_some hd
 by_cases hz:ds.length≤sizeLine
 ·rw [if_pos hz] at e;cases e
  refine ⟨F0,H0,F,Γ,bs,E,hb,fun vs F1 H1 e1 r1=>⟨by rw [(vo hd r1).length];exact hz,fun p hp=>q _ (upd F1 p (.tup vs)) _ (e1.trans (.fix e1.fh hp _)) ?_⟩⟩
  show Is _ _ (.tup ds) _
  simp only [Is]
  exact ⟨p,vs,rfl,yj,(vo hd r1).mono (yn (e1.fh.free hp) _)⟩
 ·rw [if_neg hz] at e;cases e
def xL(f:G→Option (List D)):G→Option B:=fun Γ=>(f Γ).map fun ds=>.d (.lst ds)
theorem z0{fl:G→Option (List D)}(h:EL X e fl):EE X e (xL fl):=yo h fun σ H Q hh30'=>by
 obtain ⟨F0,H0,F,Γ,z,E,e,q⟩:=hh30'
 unfold xL at e
 cases hx:fl Γ with
 | none=>rw [hx] at e;cases e
 | some ds =>
  rw [hx] at e;cases e
  refine ⟨F0,H0,F,Γ,ds,E,hx,fun a vs F1 H1 e1 hn hf hh r1=>q _ (upd F1 a (.lst vs)) H1 ?_ ?_⟩
  ·exact (Ext.freeze e1 hn hf hh)
  ·show Is _ _ (.lst ds) _
   simp only [Is]
   exact ⟨a,vs,rfl,yj,r1.mono (yn hf _)⟩
def zY(fs:G→Option (List B)):G→Option (List D):=fun Γ=>((fs Γ).bind vn).bind fun ds=>if ds.length≤sizeLine then some ds else none
theorem z4(h:EA X es fs):EL X (.List es pos) (zY fs):=yo (zbA h) fun σ H Q hh31'=>by
 obtain ⟨F0,H0,F,Γ,z,E,e,q⟩:=hh31'
 obtain ⟨ds,hd,e⟩:=bind_some e
 obtain ⟨bs,hb,hd⟩:=bind_some hd
 by_cases hz:ds.length≤sizeLine
 ·rw [if_pos hz] at e;cases e
  refine ⟨F0,H0,F,Γ,bs,E,hb,fun vs F1 H1 e1 r1=>⟨by rw [(vo hd r1).length];exact hz,fun p hp=>q p vs F1 _ (e1.trans (.own e1.fh hp _)) (e1.hh.free hp) (e1.fh.free hp) yj (vo hd r1)⟩⟩
 ·rw [if_neg hz] at e;cases e
end
section
variable {K:PySem.W.Frag} {F H F' H':Hp}
theorem Xb:∀(ns:List Int),Are K F (ns.map D.int) (ns.map V.int)
 | []=>.nil
 | n::r=>.cons (by simp [Is]) (Xb r)
def B.seq:B→Option (List D)
 | .d (.tup ds)=>some ds
 | .d (.lst ds)=>some ds
 | .d (.scr ns)=>some (ns.map D.int)
 | .l ds=>some ds
 | .c ds=>some ds
 | _=>none
theorem Xx{b:B}{ds:List D}{v:V}(s:zV F H)(e:b.seq=some ds)(h:BIs K F H b v):∃a vs,v=.ref a∧(SqL K H a vs∨SqT K H a vs)∧Are K F ds vs:=by
 cases b with
 | d d =>
  have h':Is K F d v:=h
  cases d with
  | tup xs=>cases e;simp only [Is] at h';obtain ⟨a,vs,e1,hf,r⟩:=h';exact ⟨a,vs,e1,.inr (SqT.of (s _ _ hf)),r⟩
  | lst xs=>cases e;simp only [Is] at h';obtain ⟨a,vs,e1,hf,r⟩:=h';exact ⟨a,vs,e1,.inl (SqL.of (s _ _ hf)),r⟩
  | scr ns=>cases e;simp only [Is] at h';obtain ⟨a,e1,hf⟩:=h';exact ⟨a,_,e1,.inl (s.seq hf),Xb ns⟩
  | _=>cases e
 | l xs=>cases e;obtain ⟨a,vs,e1,hf,r⟩:=h;exact ⟨a,vs,e1,.inl (SqL.of hf),r⟩
 | c xs=>cases e;obtain ⟨a,vs,e1,hf,r⟩:=h;exact ⟨a,vs,e1,.inr hf,r⟩
 | _=>cases e
def B.lst:B→Option (List D)
 | .d (.lst ds)=>some ds
 | .l ds=>some ds
 | _=>none
theorem v6{b:B}{ds:List D}{v:V}(s:zV F H)(e:b.lst=some ds)(h:BIs K F H b v):∃a vs,v=.ref a∧H a=some (.lst vs)∧Are K F ds vs:=by
 cases b with
 | d d =>
  have h':Is K F d v:=h
  cases d with
  | lst xs=>cases e;simp only [Is] at h';obtain ⟨a,vs,e1,hf,r⟩:=h';exact ⟨a,vs,e1,s _ _ hf,r⟩
  | _=>cases e
 | l xs=>cases e;obtain ⟨a,vs,e1,hf,r⟩:=h;exact ⟨a,vs,e1,hf,r⟩
 | _=>cases e
def B.int:B→Option Int
 | .d (.int i)=>some i
 | _=>none
theorem v7{b:B}{i:Int}{v:V}(e:b.int=some i)(h:BIs K F H b v):v=.int i:=by
 cases b with
 | d d =>
  have h':Is K F d v:=h
  cases d with
  | int j=>cases e;simpa [Is] using h'
  | _=>cases e
 | _=>cases e
theorem wX{i:Int}:Is K F (.int i) (.int i):=by simp [Is]
theorem uJ{i:Bool}:Is K F (.bl i) (.bl i):=by simp [Is]
theorem zbM{ds:List D}{vs:List V}{i:Int}{d:D}(r:Are K F ds vs)(e:atI ds i=some d):∃v,atI vs i=some v∧Is K F d v:=by
 unfold atI at e ⊢
 rw [r.length]
 obtain ⟨j,hj,e⟩:=bind_some e
 obtain ⟨v,h1,h2⟩:=r.get e
 exact ⟨v,by rw [hj];exact h1,h2⟩
def mI(p:Int→Int→Bool)(g:Int→Int→D):B→B→Option D:=fun x y=>x.int.bind fun i=>y.int.bind fun j=>if p i j then some (g i j) else none
theorem VG{p:Int→Int→Bool}{g:Int→Int→D}{x y:B}{d:D}(e:mI p g x y=some d):∃i j,x.int=some i∧y.int=some j∧p i j=true∧d=g i j:=by
 obtain ⟨i,hi,e⟩:=bind_some e
 obtain ⟨j,hj,e⟩:=bind_some e
 by_cases hp:p i j=true
 ·rw [if_pos hp] at e;cases e;exact ⟨i,j,hi,hj,hp,rfl⟩
 ·rw [if_neg hp] at e;cases e
theorem Yq{g:Int→Int→V}{gd:Int→Int→D}(hg:∀F i j,Is K F (gd i j) (g i j)):OpB K (rI0 g) (mI (fun _ _=>true) gd):=fun F H x y v u d Q s hx hy e q=>by
 obtain ⟨i,j,h1,h2,_,rfl⟩:=VG e
 exact ⟨i,j,v7 h1 hx,v7 h2 hy,q _ F H (.refl s) (hg F i j)⟩
theorem WD{C:Int→Int→Prop}{p:Int→Int→Bool}{g:Int→Int→V}{gd:Int→Int→D}(hp:∀i j,p i j=true→C i j)(hg:∀F i j,Is K F (gd i j) (g i j)):OpB K (rI C g) (mI p gd):=fun F H x y v u d Q s hx hy e q=>by
 obtain ⟨i,j,h1,h2,h3,rfl⟩:=VG e
 exact ⟨i,j,v7 h1 hx,v7 h2 hy,hp i j h3,q _ F H (.refl s) (hg F i j)⟩
def Xy:=mI (fun _ _=>true) fun i j=>.int (i+j)
def X2:=mI (fun _ _=>true) fun i j=>.int (i - j)
def xz(i:Int):Bool:=decide (-(2 ^ 64) < i) && decide (i < 2 ^ 64)
def uM:=mI (fun i j=>xz i || xz j) fun i j=>.int (i * j)
def zZ:=mI (fun _ j=>decide (0 < j)) fun i j=>.int (i % j)
def wC:=mI (fun _ j=>decide (0 < j) && decide (j < 1073741824)) fun i j=>.int (i / j)
def mLt:=mI (fun _ _=>true) fun i j=>.bl (decide (i < j))
def mLe:=mI (fun _ _=>true) fun i j=>.bl (decide (i≤j))
def mGt:=mI (fun _ _=>true) fun i j=>.bl (decide (j < i))
theorem zaN:OpB K (rI0 fun i j=>.int (i+j)) Xy:=Yq fun F i j=>wX
theorem Xz:OpB K (rI0 fun i j=>.int (i - j)) X2:=Yq fun F i j=>wX
theorem v9:OpB K (rI VU fun i j=>.int (i * j)) uM:=WD (fun i j h=>by
 simp only [Bool.or_eq_true,xz,Bool.and_eq_true,decide_eq_true_eq] at h
 exact h) fun F i j=>wX
theorem zR:OpB K (rI (fun _ j=>0 < j) fun i j=>.int (i % j)) zZ:=WD (fun i j h=>of_decide_eq_true h) fun F i j=>wX
theorem ua:OpB K (rI zbv fun i j=>.int (i / j)) wC:=WD (fun i j h=>by
 simp only [Bool.and_eq_true,decide_eq_true_eq] at h
 exact h) fun F i j=>wX
theorem V7:OpB K (rI0 fun i j=>.bl (decide (i < j))) mLt:=Yq fun F i j=>uJ
theorem WE:OpB K (rI0 fun i j=>.bl (decide (i≤j))) mLe:=Yq fun F i j=>uJ
theorem J6:OpB K (rI0 fun i j=>.bl (decide (j < i))) mGt:=Yq fun F i j=>uJ
def mOr(m n:B→B→Option D):B→B→Option D:=fun x y=>(m x y).or (n x y)
theorem OpB.or{r r':R2}{m n:B→B→Option D}(h:OpB K r m)(h':OpB K r' n):OpB K (fun x y H Q=>r x y H Q∨r' x y H Q) (mOr m n):=fun F H x y v u d Q s hx hy e q=>by
 unfold mOr at e
 cases hm:m x y with
 | some z=>rw [hm] at e;cases e;exact .inl (h F H x y v u _ Q s hx hy hm q)
 | none=>rw [hm] at e;exact .inr (h' F H x y v u _ Q s hx hy (by simpa using e) q)
def YM:B→B→Option D
 | .d (.tup a),.d (.tup b)=>if a.length+b.length≤sizeLine then some (.tup (a++b)) else none
 | _,_=>none
def XA:B→B→Option D:=fun x y=>x.lst.bind fun a=>y.lst.bind fun b=>if a.length+b.length≤sizeLine then some (.lst (a++b)) else none
theorem zaO:OpB K VZ XA:=fun F H x y v u d Q s hx hy e q=>by
 obtain ⟨a,ha,e⟩:=bind_some e
 obtain ⟨b,hb,e⟩:=bind_some e
 obtain ⟨p,vs,rfl,hp,r1⟩:=v6 s ha hx
 obtain ⟨p2,us,rfl,hp2,r2⟩:=v6 s hb hy
 by_cases hz:a.length+b.length≤sizeLine
 ·rw [if_pos hz] at e;cases e
  refine ⟨p,p2,vs,us,rfl,rfl,hp,hp2,by rw [r1.length,r2.length];exact hz,fun l hl=>q _ (upd F l (.lst (vs++us))) _ (.fix s hl _) ?_⟩
  simp only [Is]
  exact ⟨l,_,rfl,yj,(r1.append r2).mono (yn (s.free hl) _)⟩
 ·rw [if_neg hz] at e;cases e
def mIx:B→B→Option D:=fun x y=>x.seq.bind fun ds=>y.int.bind fun i=>atI ds i
theorem zdb:OpB K (fun x y H Q=>zbF K x y H Q∨zbG K x y H Q) mIx:=fun F H x y v u d Q s hx hy e q=>by
 obtain ⟨ds,hd,e⟩:=bind_some e
 obtain ⟨i,hi,e⟩:=bind_some e
 obtain ⟨a,vs,rfl,hs,r⟩:=Xx s hd hx
 obtain ⟨w,hw,hq⟩:=zbM r e
 have hu:=v7 hi hy
 subst hu
 rcases hs with hs|hs
 ·exact .inl ⟨a,vs,i,w,rfl,rfl,hs,hw,q w F H (.refl s) hq⟩
 ·exact .inr ⟨a,vs,i,w,rfl,rfl,hs,hw,q w F H (.refl s) hq⟩
end
section
variable {X:Cx} {a b c e:Expr} {f g h:G→Option B} {pos:Pos} {es:List Expr} {fs:G→Option (List B)}
theorem zJ(ha:EE X a f)(hb:EE X b g)(hs:YL b):EE X (.Subscript a b pos) (x2 mIx f g) :=
 yo (J4 (Vx.or U3) ha hb hs) fun σ H Q hh32'=>by
  obtain ⟨F0,H0,F,Γ,z,E,e,q⟩:=hh32'
  obtain ⟨x,y,d,hx,hy,hd,rfl⟩:=uZ e
  exact ⟨F0,H0,F,Γ,x,E,hx,fun v F1 H1 e1 r1=>⟨F0,H0,F1,Γ,y,E.grow e1,hy,fun u F2 H2 e2 r2=>zdb F2 H2 x y v u d Q e2.fh (r1.ext e2) r2 hd fun w F' H' e3 r3=>q w F' H' ((e1.trans e2).trans e3) r3⟩⟩
def Zm(K:PySem.W.Frag)(r:List V→Hp→VK→Prop)(m:List B→Option D):Prop:=∀F H bs vs d Q,zV F H→V5 K F H bs vs→m bs=some d→(∀w F' H',Ext F H F' H'→Is K F' d w→Q w H')→r vs H Q
def zW(m:List B→Option D)(fs:G→Option (List B)):G→Option B:=fun Γ=>(fs Γ).bind fun bs=>(m bs).map B.d
theorem map_some{α β:Type}{o:Option α}{k:α→β}{z:β}(e:o.map k=some z):∃x,o=some x∧z=k x:=by
 cases o with
 | none=>cases e
 | some x=>cases e;exact ⟨x,rfl,rfl⟩
theorem W3{m:List B→Option D}{r:List V→Hp→VK→Prop}{σ:St}{H:Hp}{Q:VK}(hm:Zm X.K r m):dE X.K (zW m fs) σ H Q→tCB r (dA X.K fs) σ H Q:=fun hh33'=>by
 obtain ⟨F0,H0,F,Γ,z,E,e,q⟩:=hh33'
 obtain ⟨bs,hb,e⟩:=bind_some e
 obtain ⟨d,hd,rfl⟩:=map_some e
 exact ⟨F0,H0,F,Γ,bs,E,hb,fun vs F1 H1 e1 r1=>hm F1 H1 bs vs d Q e1.fh r1 hd fun w F' H' e2 r2=>q w F' H' (e1.trans e2) r2⟩
theorem z9{id:String}{x:Str}{p:Pos}{r:List V→Hp→VK→Prop}{m:List B→Option D}(hc:uD X (.builtin id) r)(hm':Zm X.K r m)(hg:Gl X x)(hm:X.mg x=none)(hv:bootBuiltins x=some (.builtin id))(ha:EA X (e::es) fs) 
 (hn:x≠"__name__":=by decide) (hdb:(x == ("__debug__":Str))=false:=by decide) (he:starEach (e::es) X.env=(false,eval e X.env)::starEach es X.env:=by rfl) (hpl:(backTo pos (starEach es X.env)).any (·.1)=false:=by rfl) :
 EE X (.Call (.Name x p) (e::es) [] pos) (zW m fs):=yo (W0 hc hg hm hv ha hn hdb he hpl) fun σ H Q q=>W3 hm' q
theorem yO{T:String}{x:Str}{p:Pos}{r:List V→Hp→VK→Prop}{m:List B→Option D}(hc:uD X (.type T) r)(hm':Zm X.K r m)(hg:Gl X x)(hm:X.mg x=none)(hv:bootBuiltins x=some (.type T))(ha:EA X (e::es) fs) 
 (hn:x≠"__name__":=by decide) (hdb:(x == ("__debug__":Str))=false:=by decide) (he:starEach (e::es) X.env=(false,eval e X.env)::starEach es X.env:=by rfl) (hpl:(backTo pos (starEach es X.env)).any (·.1)=false:=by rfl) :
 EE X (.Call (.Name x p) (e::es) [] pos) (zW m fs):=yo (U2 hc hg hm hv ha hn hdb he hpl) fun σ H Q q=>W3 hm' q
theorem Zn{K:PySem.W.Frag}{F H:Hp}{b:B}{vs:List V}(h:V5 K F H [b] vs):∃v,vs=[v]∧BIs K F H b v:=by
 cases h with
 | cons p q=>cases q;exact ⟨_,rfl,p⟩
def x9:List B→Option D
 | [b]=>b.seq.map fun ds=>.int ds.length
 | _=>none
theorem y0{K:PySem.W.Frag}:Zm K (fun xs H Q=>∃p ys,xs=[.ref p]∧(SqL K H p ys∨SqT K H p ys)∧Q (.int ys.length) H) x9:=fun F H bs vs d Q s h e q=>by
 match bs,e,h with
 | [b],e,h =>
  obtain ⟨v,rfl,hb⟩:=Zn h
  obtain ⟨ds,hd,rfl⟩:=map_some e
  obtain ⟨a,ys,rfl,hs,r⟩:=Xx s hd hb
  refine ⟨a,ys,rfl,hs,q _ F H (.refl s) ?_⟩
  rw [r.length];exact wX
def vE:List B→Option D:=fun bs=>match bs with
 | [.d (.tup ds)]=>some (.tup ds)
 | [.d (.lst ds)]=>some (.tup ds)
 | [.l ds]=>some (.tup ds)
 | _=>none
theorem xA{K : PySem.W.Frag}: Zm K (fun xs H Q => ∃ p ys, xs = [.ref p] ∧ ((SqL K H p ys ∧ ∀ l, H l = none → Q (.ref l) (upd H l (.tup ys))) ∨ (SqT K H p ys ∧ Q (.ref p) H))) vE := fun F H bs vs d Q s h e q => by
  have lst : ∀ {a : Addr} {ys : List V} {ds : List D}, H a = some (.lst ys) → Are K F ds ys → (∀ w F' H', Ext F H F' H' → Is K F' (.tup ds) w → Q w H') → ∀ l, H l = none → Q (.ref l) (upd H l (.tup ys)) := fun {a ys ds} ha r q l hl => q _ (upd F l (.tup ys)) _ (.fix s hl _) (by
    simp only [Is]
    exact ⟨l, ys, rfl, yj, r.mono (yn (s.free hl) _)⟩)
  have key : ∃ b, bs = [b] := by
    rcases bs with _ | ⟨b, _ | ⟨_, _⟩⟩
    · cases e
    · exact ⟨b, rfl⟩
    · cases b <;> (try (rename_i w; cases w)) <;> cases e
  obtain ⟨b, rfl⟩ := key
  cases b with
  | d w =>
   cases w with
   | tup ds =>
    cases e
    obtain ⟨v, rfl, hb⟩ := Zn h
    have hb' : Is K F (.tup ds) v := hb
    have hb2 := hb'
    simp only [Is] at hb'
    obtain ⟨a, ys, rfl, hf, r⟩ := hb'
    exact ⟨a, ys, rfl, .inr ⟨SqT.of (s _ _ hf), q _ F H (.refl s) hb2⟩⟩
   | lst ds =>
    cases e
    obtain ⟨v, rfl, hb⟩ := Zn h
    obtain ⟨a, ys, rfl, hf, r⟩ := v6 (b := .d (.lst ds)) s rfl hb
    exact ⟨a, ys, rfl, .inl ⟨SqL.of hf, lst hf r q⟩⟩
   | _ => cases e
  | l ds =>
    cases e
    obtain ⟨v, rfl, hb⟩ := Zn h
    obtain ⟨a, ys, rfl, hf, r⟩ := v6 (b := .l ds) s rfl hb
    exact ⟨a, ys, rfl, .inl ⟨SqL.of hf, lst hf r q⟩⟩
  | _ => cases e
def spD(K:PySem.W.Frag)(m:List D→Option D):Sp:=fun vs H Q _=>∃F ds d,zV F H∧Are K F ds vs∧m ds=some d∧∀v F' H',Ext F H F' H'→Is K F' d v→Q v H'
def xFn(m:List D→Option D)(fs:G→Option (List B)):G→Option B:=fun Γ=>((fs Γ).bind vn).bind fun ds=>(m ds).map B.d
theorem zbN{k:Nat}{x:Str}{p:Pos}{m:List D→Option D}{fa:Addr}{fd:FuncData}{ps:List Str}(Fn:FnOk X.prog X.w X.K X.mg X.base CX0 k fa fd ps (spD X.K m))(hr:Room k X.A)(hg:Gl X x)(hm:X.mg x=some (.ref fa))(hk:PySem.W.keepIn X.K (.ref fa)=true)(hb:v2 X.K fd ps []) 
  (ha:EA X (e::es) fs) (hdb:(x == ("__debug__":Str))=false:=by decide) (he:starEach (e::es) X.env=(false,eval e X.env)::starEach es X.env:=by rfl) (hpl:(backTo pos (starEach es X.env)).any (·.1)=false:=by rfl) :
  EE X (.Call (.Name x p) (e::es) [] pos) (xFn m fs) :=
 yo (zaC (E:=E0) (dvs:=[]) (ds:=[]) Fn hr hg hm hk hb .nil zc8 ha hdb he hpl) fun σ H Q hh34'=>by
  obtain ⟨F0,H0,F,Γ,z,E,e,q⟩:=hh34'
  obtain ⟨ds,hd,e⟩:=bind_some e
  obtain ⟨bs,hb',hd⟩:=bind_some hd
  obtain ⟨d,hm',rfl⟩:=map_some e
  refine ⟨F0,H0,F,Γ,bs,E,hb',fun vs F1 H1 e1 r1=>?_⟩
  have r2:=vo hd r1
  exact ⟨F1,ds,d,e1.fh,by rw [List.append_nil];exact r2,hm',fun v F' H' e2 r3=>q v F' H' (e1.trans e2) r3⟩
end
section
variable {X:Cx} {a b c e:Expr} {f g h:G→Option B} {pos:Pos} {es:List Expr} {fs:G→Option (List B)} {tf:G→Option Bool}
def zD:G→Option Out:=fun Γ=>some (.nx Γ)
def zu(f g:G→Option Out):G→Option Out:=fun Γ=>(f Γ).bind fun o=>match o with
 | .nx Γ'=>g Γ'
 | o=>some o
theorem zB:SDs X [] zD:=Z4 zav fun E σ H ⟨F0,H0,F,Γ,o,En,e,q⟩=>by cases e;exact q σ F H En (zV.refl _)
theorem zi{st:Stmt}{rest:List Stmt}{f g:G→Option Out}(h1:SD X st f)(h2:SDs X rest g):SDs X (st::rest) (zu f g) :=
 Z4 (Z2 h1 h2) fun E σ H hh35'=>by
  obtain ⟨F0,H0,F,Γ,o,En,e,q⟩:=hh35'
  obtain ⟨o1,h1,e⟩:=bind_some e
  cases o1 with
  | nx g1=>exact ⟨F0,H0,F,Γ,_,En,h1,fun σ1 F1 H1 E1 z=>⟨F0,H0,F1,g1,o,E1,e,q.mono z⟩⟩
  | rt d=>cases e;exact ⟨F0,H0,F,Γ,_,En,h1,q⟩
  | bk g1=>cases e;exact ⟨F0,H0,F,Γ,_,En,h1,q⟩
  | ct g1=>cases e;exact ⟨F0,H0,F,Γ,_,En,h1,q⟩
theorem zk{st:Stmt}{f:G→Option Out}(h1:SD X st f):SDs X [st] f:=zaw h1
def zL(f:G→Option B):G→Option Out:=fun Γ=>(f Γ).bind fun b=>b.asD.map Out.rt
theorem uv{b:B}{d:D}(e:b.asD=some d):b=.d d:=by
 cases b with
 | d x=>cases e;rfl
 | _=>cases e
theorem zH(he:EE X e f):SD X (.Return (some e) pos) (zL f):=xb (UT he) fun E σ H hh36'=>by
 obtain ⟨F0,H0,F,Γ,o,En,e,q⟩:=hh36'
 obtain ⟨b,hb,e⟩:=bind_some e
 obtain ⟨d,hd,rfl⟩:=map_some e
 have:=uv hd;subst this
 exact ⟨F0,H0,F,Γ,_,En,hb,fun v F1 H1 e1 r1=>q v F1 H1 (En.ext.trans e1) r1⟩
def sIf(t:G→Option Bool)(f g:G→Option Out):G→Option Out:=fun Γ=>(t Γ).bind fun x=>if x=true then f Γ else g Γ
theorem zU{p q:List Stmt}{f g:G→Option Out}(hc:ET X c tf)(ha:SDs X p f)(hb:SDs X q g):SD X (.If c p q pos) (sIf tf f g):=xb (J0 hc ha hb) fun E σ H hh37'=>by
 obtain ⟨F0,H0,F,Γ,o,En,e,q⟩:=hh37'
 obtain ⟨x,hx,e⟩:=bind_some e
 refine ⟨F0,H0,F,Γ,x,En,hx,fun F1 H1 e1=>?_⟩
 cases x with
 | true=>exact ⟨F0,H0,F1,Γ,o,En.grow e1,e,q.mono e1.ff⟩
 | false=>exact ⟨F0,H0,F1,Γ,o,En.grow e1,e,q.mono e1.ff⟩
def sNo:G→Option Out:=fun _=>none
theorem yJ{st:Stmt}:SD X st sNo:=fun _ _ _ _ _ _ ⟨_,_,_,_,_,_,e,_⟩=>by cases e
def xg(f:G→Option B):G→Option Out:=fun Γ=>(f Γ).map fun _=>.nx Γ
theorem y1(he:EE X e f)(hs:swapsWith e none pos.line X.env=pure false:=by rfl):SD X (.Expr e pos) (xg f):=xb (YK he hs) fun E σ H hh38'=>by
 obtain ⟨F0,H0,F,Γ,o,En,e,q⟩:=hh38'
 obtain ⟨b,hb,rfl⟩:=map_some e
 exact ⟨F0,H0,F,Γ,b,En,hb,fun v F1 H1 e1 r1=>q σ F1 H1 (En.grow e1) e1.ff⟩
def ya(i:Nat)(f:G→Option B):G→Option Out:=fun Γ=>(f Γ).bind fun b=>b.asD.map fun d=>.nx (Γ.set i (.v d))
theorem VH{i:Nat}{E:Ends}{σ:St}{H:Hp}:dS X.K (ya i f) E σ H→WV (dE X.K f) (Xn i) E σ H:=fun hh39'=>by
 obtain ⟨F0,H0,F,Γ,o,En,e,q⟩:=hh39'
 obtain ⟨b,hb,e⟩:=bind_some e
 obtain ⟨d,hd,rfl⟩:=map_some e
 have:=uv hd;subst this
 exact ⟨F0,H0,F,Γ,_,En,hb,fun v F1 H1 e1 r1=>q _ F1 H1 ((En.grow e1).put r1) e1.ff⟩
theorem zX{i:Nat}{x:Str}{p:Pos}(hN:X.N.Nodup)(hi:X.N[i]?=some x)(hx:Loc X.env.scope x)(he:EE X e f)(hs:swapsWith e (some (.Name x p)) pos.line X.env=pure false:=by rfl)(hf:X.fn x=true∨X.env.scope.names.lookup x=some .local:=by first|exact .inl rfl|exact .inr rfl|assumption):
 SD X (.Assign [.Name x p] e pos) (ya i f):=xb (WW hN hi hx he hs hf) fun E σ H q=>VH q
def x0(i:Nat)(f:G→Option (List D)):G→Option Out:=fun Γ=>(f Γ).map fun ds=>.nx (Γ.set i (.ol ds))
theorem VI{i:Nat}{fl:G→Option (List D)}{E:Ends}{σ:St}{H:Hp}:dS X.K (x0 i fl) E σ H→WV (dL X.K fl) (Xn i) E σ H:=fun hh40'=>by
 obtain ⟨F0,H0,F,Γ,o,En,e,q⟩:=hh40'
 obtain ⟨ds,hb,rfl⟩:=map_some e
 refine ⟨F0,H0,F,Γ,_,En,hb,fun a vs F1 H1 e1 hn hf hh r1=>q _ F1 H1 ((En.grow e1).putOwn ⟨a,vs,rfl,hh,r1,hf,En.ext.hh.free hn⟩ fun j s hj hs ho z=>?_) e1.ff⟩
 obtain ⟨o,h1,h2⟩:=En.val j s hs
 rw [z] at h1;cases h1
 cases s with
 | un=>cases ho
 | v d=>cases ho
 | ol ds=>obtain ⟨a',vs,e',q1,_⟩:=h2;cases e';rw [hn] at q1;cases q1
 | ot kvs=>obtain ⟨a',vs,e',q1,_⟩:=h2;cases e';rw [hn] at q1;cases q1
 | ok kvs=>obtain ⟨a',vs,e',q1,_⟩:=h2;cases e';rw [hn] at q1;cases q1
theorem vA{i:Nat}{x:Str}{p:Pos}{fl:G→Option (List D)}(hN:X.N.Nodup)(hi:X.N[i]?=some x)(hx:Loc X.env.scope x)(he:EL X e fl)(hs:swapsWith e (some (.Name x p)) pos.line X.env=pure false:=by rfl)(hf:X.fn x=true∨X.env.scope.names.lookup x=some .local:=by first|exact .inl rfl|exact .inr rfl|assumption):
 SD X (.Assign [.Name x p] e pos) (x0 i fl):=xb (WW hN hi hx he hs hf) fun E σ H q=>VI q
def U9(is:List Nat)(σ σ':St):Prop:=σ.length=σ'.length∧∀j,j ∉ is→σ'[j]?=σ[j]?
def dGs(K:PySem.W.Frag)(is:List Nat)(f:D→G→Option G):TG:=fun v σ H Q=>∃F0 H0 F Γ d g,EnvIs K F0 H0 F H σ Γ∧Is K F d v∧f d Γ=some g∧∀σ',EnvIs K F0 H0 F H σ' g→U9 is σ σ'→Q σ' H
def GN(X:Cx)(e:Expr)(is:List Nat)(f:D→G→Option G):Prop:=PG X e (dGs X.K is f)
def yu(i:Nat):D→G→Option G:=fun d Γ=>some (Γ.set i (.v d))
theorem yy{i:Nat}{x:Str}(hN:X.N.Nodup)(hi:X.N[i]?=some x)(hx:Loc X.env.scope x)(hf:X.fn x=true∨X.env.scope.names.lookup x=some .local:=by first|exact .inl rfl|exact .inr rfl|assumption):GN X (.Name x pos) [i] (yu i) :=
 VE (zax hN hi hx hf) fun v σ H Q hh41'=>by
  obtain ⟨F0,H0,F,Γ,d,g,En,r,e,q⟩:=hh41'
  cases e
  exact q _ (En.put r) ⟨by simp,fun j hj=>List.getElem?_set_ne (fun z=>hj (by simp [z]))⟩
def dGl(K:PySem.W.Frag)(is:List Nat)(f:List D→G→Option G):TGs:=fun vs σ H Q=>∃F0 H0 F Γ ds g,EnvIs K F0 H0 F H σ Γ∧Are K F ds vs∧f ds Γ=some g∧∀σ',EnvIs K F0 H0 F H σ' g→U9 is σ σ'→Q σ' H
def GL(X:Cx)(es:List Expr)(is:List Nat)(f:List D→G→Option G):Prop:=PGs X es (dGl X.K is f)
def uP:List D→G→Option G:=fun ds Γ=>match ds with
 | []=>some Γ
 | _=>none
def xJ(f:D→G→Option G)(g:List D→G→Option G):List D→G→Option G:=fun ds Γ=>match ds with
 | d::r=>(f d Γ).bind fun Γ'=>g r Γ'
 | []=>none
theorem Yr:GL X [] [] uP:=fun pins s σ H vs us Q I r ⟨F0,H0,F,Γ,ds,g,En,ra,e,q⟩=>zay pins s σ H vs us Q I r (by
 cases ds with
 | nil=>cases e;exact ⟨ra.inv0,q _ En ⟨rfl,fun _ _=>rfl⟩⟩
 | cons d r=>cases e)
theorem wD{is js:List Nat}{t:D→G→Option G}{u:List D→G→Option G}(h1:GN X e is t)(h2:GL X es js u)(hs:(assignEach (e::es) X.env).map (·.2)=assign e X.env::(assignEach es X.env).map (·.2):=by rfl):GL X (e::es) (is++js) (xJ t u) :=
 fun pins s σ H vs us Q I r ⟨F0,H0,F,Γ,ds,g,En,ra,e,q⟩=>QM h1 h2 hs pins s σ H vs us Q I r (by
  cases ds with
  | nil=>cases e
  | cons d rd =>
   obtain ⟨g1,hg1,e⟩:=bind_some e
   obtain ⟨v,rv,rfl,r1,r2⟩:=ra.inv
   refine ⟨v,rv,rfl,F0,H0,F,Γ,d,g1,En,r1,hg1,fun σ1 E1 b1=>⟨F0,H0,F,g1,rd,g,E1,r2,e,fun σ2 E2 b2=>q σ2 E2 ⟨b1.1.trans b2.1,fun j hj=>?_⟩⟩⟩
   rw [b2.2 j fun z=>hj (List.mem_append_right _ z),b1.2 j fun z=>hj (List.mem_append_left _ z)])
def uE(n:Nat)(u:List D→G→Option G):D→G→Option G:=fun d Γ=>match d with
 | .tup ds=>if ds.length=n then u ds Γ else none
 | _=>none
theorem XB{is:List Nat}{k n:Nat}{u:List D→G→Option G}(hc:X.calm=true)(h:GL X es is u)(hn:(assignEach es X.env).length=n:=by rfl)(hst:(assignEach es X.env).findIdx? (·.1)=none:=by rfl):GN X (.Tuple es k pos) is (uE n u) :=
 VE (zbr hc h hn hst) fun v σ H Q hh42'=>by
  obtain ⟨F0,H0,F,Γ,d,g,En,r,e,q⟩:=hh42'
  cases d with
  | tup ds =>
   have r':=r
   simp only [Is] at r'
   obtain ⟨a,vs,rfl,hf,ra⟩:=r'
   unfold uE at e
   by_cases hl:ds.length=n
   ·simp only [hl,if_true] at e
    exact ⟨a,vs,rfl,SqT.of (En.fh _ _ hf),by rw [ra.length];exact hl,F0,H0,F,Γ,ds,g,En,ra,e,q⟩
   ·simp only [hl,if_false] at e;cases e
  | _=>cases e
def V8(t:D→G→Option G)(f:G→Option B):G→Option Out:=fun Γ=>(f Γ).bind fun b=>b.asD.bind fun d=>(t d Γ).map .nx
theorem J7{tg:Expr}{is:List Nat}{t:D→G→Option G}(he:EE X e f)(hg:GN X tg is t)(hs:swapsWithSole [tg] e pos.line X.env=pure false:=by rfl)(hw:swappedStores [tg] e X.env=pure none:=by rfl) 
  (h1:(assignEach [tg] X.env).map (·.2)=[assign tg X.env]:=by rfl):SD X (.Assign [tg] e pos) (V8 t f):=xb (UU he hg hs hw h1) fun E σ H ⟨F0,H0,F,Γ,o,En,e,q⟩=>by
 obtain ⟨b,hb,e⟩:=bind_some e
 obtain ⟨d,hd,e⟩:=bind_some e
 obtain ⟨g,hg,rfl⟩:=map_some e
 have:=uv hd;subst this
 exact ⟨F0,H0,F,Γ,_,En,hb,fun v F1 H1 e1 r1=>⟨F0,H0,F1,Γ,d,g,En.grow e1,r1,hg,fun σ' E' _=>q σ' F1 H1 E' e1.ff⟩⟩
def Q1(i:Nat)(Γ:G):G:=match Γ[i]? with
 | some (.ol ds)=>Γ.set i (.v (.lst ds))
 | some (.ok kvs)=>Γ.set i (.v (.dK (kvs.map Prod.fst) (kvs.map Prod.snd)))
 | some (.ot kvs)=>Γ.set i (.v (.dT (kvs.map Prod.fst) (kvs.map Prod.snd)))
 | _=>Γ
theorem EnvIs.frzA{K:PySem.W.Frag}{F0 H0 F H:Hp}{σ:St}{Γ:G}{i:Nat}{a:Addr}{ho:HO}{s:S}{d:D}(E:EnvIs K F0 H0 F H σ Γ)(hi:Γ[i]?=some s)(own:s.own=true)(h1:σ[i]?=some (some (.ref a)))(h2:H a=some ho)(h4:F a=none)(h5:H0 a=none)(hd:Is K (upd F a ho) d (.ref a)):
  EnvIs K F0 H0 (upd F a ho) H σ (Γ.set i (.v d)):=by
 have hlt:i < Γ.length:=(List.getElem?_eq_some_iff.mp hi).1
 have ex:Ext F0 H0 (upd F a ho) H:=E.ext.freeze h5 h4 h2
 have sm:zV F (upd F a ho):=yn h4 _
 refine ⟨ex,by simpa using E.len,fun j s' e=>?_,fun j k s' t b hjk e1 e2 o1 o2 r1 r2=>?_⟩
 ·by_cases hj:j=i
  ·subst hj
   rw [List.getElem?_set_self hlt] at e
   cases e
   exact ⟨_,h1,.ref a,rfl,hd⟩
  ·rw [List.getElem?_set_ne (Ne.symm hj)] at e
   obtain ⟨o,q1,q2⟩:=E.val j s' e
   refine ⟨o,q1,?_⟩
   have ne:∀b,s'.own=true→σ[j]?=some (some (.ref b))→b≠a:=fun b so sb z=>by
    subst z
    exact E.sep j i s' _ b hj e hi so own sb h1
   cases s' with
   | un=>trivial
   | v d=>obtain ⟨v,e1,q⟩:=q2;exact ⟨v,e1,q.mono sm⟩
   | ol ds'=>obtain ⟨b,vs',rfl,p1,p2,p3,p4⟩:=q2;exact ⟨b,vs',rfl,p1,p2.mono sm,by rw [yc (ne b rfl q1)];exact p3,p4⟩
   | ot ds'=>obtain ⟨b,vs',rfl,p1,p2,p3,p4⟩:=q2;exact ⟨b,vs',rfl,p1,p2.mono sm,by rw [yc (ne b rfl q1)];exact p3,p4⟩
   | ok ds'=>obtain ⟨b,vs',rfl,p1,p2,p3,p4⟩:=q2;exact ⟨b,vs',rfl,p1,p2.mono sm,by rw [yc (ne b rfl q1)];exact p3,p4⟩
 ·have no:∀(k:Nat) (t:S),(Γ.set i (.v d))[k]?=some t→t.own=true→Γ[k]?=some t:=fun k t e o=>by
   by_cases z:k=i
   ·subst z
    rw [List.getElem?_set_self hlt] at e
    cases e;cases o
   ·rw [List.getElem?_set_ne (Ne.symm z)] at e;exact e
  exact E.sep j k s' t b hjk (no j s' e1 o1) (no k t e2 o2) o1 o2 r1 r2
theorem u7.keys{κ:Type}{K:PySem.W.Frag}{F:Hp}:∀{ps:List (κ×D)} {qs:List (κ×V)},u7 K F ps qs→qs.map Prod.fst=ps.map Prod.fst∧Are K F (ps.map Prod.snd) (qs.map Prod.snd):=fun h=>by
 induction h with
 | nil=>exact ⟨rfl,.nil⟩
 | cons h r ih =>
  obtain ⟨a,b⟩:=h
  obtain ⟨h1,h2⟩:=ih
  exact ⟨by rw [List.map_cons,List.map_cons,h1,a],.cons b h2⟩
theorem EnvIs.frz{K:PySem.W.Frag}{F0 H0 F H:Hp}{σ:St}{Γ:G}{i:Nat}(E:EnvIs K F0 H0 F H σ Γ):∃F',EnvIs K F0 H0 F' H σ (Q1 i Γ)∧zV F F':=by
 unfold Q1
 split
 ·rename_i ds hi
  obtain ⟨o,h1,a,vs,rfl,h2,h3,h4,h5⟩:=E.val i _ hi
  exact ⟨_,E.frzA hi rfl h1 h2 h4 h5 (by simp only [Is];exact ⟨a,vs,rfl,yj,h3.mono (yn h4 _)⟩),yn h4 _⟩
 ·rename_i ds hi
  obtain ⟨o,h1,a,vs,rfl,h2,h3,h4,h5⟩:=E.val i _ hi
  obtain ⟨k1,k2⟩:=u7.keys (h3.mono (yn h4 (.dK vs)))
  exact ⟨_,E.frzA hi rfl h1 h2 h4 h5 (by simp only [Is];exact ⟨a,vs,rfl,yj,k1,k2⟩),yn h4 _⟩
 ·rename_i ds hi
  obtain ⟨o,h1,a,vs,rfl,h2,h3,h4,h5⟩:=E.val i _ hi
  obtain ⟨k1,k2⟩:=u7.keys (h3.mono (yn h4 (.dT vs)))
  exact ⟨_,E.frzA hi rfl h1 h2 h4 h5 (by simp only [Is];exact ⟨a,vs,rfl,yj,k1,k2⟩),yn h4 _⟩
 ·exact ⟨F,E,zV.refl _⟩
def zbO(i:Nat)(f:G→Option Out):G→Option Out:=fun Γ=>f (Q1 i Γ)
theorem zbP{i:Nat}{st:List Stmt}{f:G→Option Out}(h:SDs X st f):SDs X st (zbO i f):=Z4 h fun E σ H hh43'=>by
 obtain ⟨F0,H0,F,Γ,o,En,e,q⟩:=hh43'
 obtain ⟨F',En',z⟩:=En.frz (i:=i)
 exact ⟨F0,H0,F',_,o,En',e,q.mono z⟩
end
section
variable {X:Cx} {a b c e tg iter elt:Expr} {f g h:G→Option B} {pos:Pos} {es:List Expr} {fs:G→Option (List B)} {tf:G→Option Bool}
def zbQ(K:PySem.W.Frag)(J:It)(F:Hp)(ds:List D):Prop:=∀(i:Nat) F2 H2,zV F F2→zV F2 H2 →
 (∀d,ds[i]?=some d→J.go i H2∧∀x H',J.yld i H2 x H'→∃F3,Ext F2 H2 F3 H'∧Is K F3 d x)∧(ds.length≤i→J.stop i H2)
def zdc(K:PySem.W.Frag)(J:It)(F H:Hp)(ds:List D):Prop:=∀(i:Nat) F2 H2,Ext F H F2 H2 →
 (∀d,ds[i]?=some d→J.go i H2∧∀x H',J.yld i H2 x H'→∃F3,Ext F2 H2 F3 H'∧Is K F3 d x)∧(ds.length≤i→J.stop i H2)
def dI(K:PySem.W.Frag)(f:G→Option (List D)):TI:=fun σ H R=>∃F0 H0 F Γ ds,EnvIs K F0 H0 F H σ Γ∧f Γ=some ds∧∀J F' H',Ext F H F' H'→zbQ K J F' ds→R J H'
def dIc(K:PySem.W.Frag)(f:G→Option (List D)):TI:=fun σ H R=>∃F0 H0 F Γ ds,EnvIs K F0 H0 F H σ Γ∧f Γ=some ds∧∀J F' H',Ext F H F' H'→zdc K J F' H' ds→R J H'
def EI(X:Cx)(tg iter:Expr)(f:G→Option (List D)):Prop:=PI X tg iter (dI X.K f)
def EC(X:Cx)(tg iter:Expr)(f:G→Option (List D)):Prop:=PI X tg iter (dIc X.K f)
theorem YN{t t':TI}(h:PI X tg iter t)(w:∀σ H R,t' σ H R→t σ H R):PI X tg iter t':=fun pins s σ H R I q=>h pins s σ H R I (w σ H R q)
theorem vF{fl:G→Option (List D)}(h:EI X tg iter fl):EC X tg iter fl:=YN h fun σ H R ⟨F0,H0,F,Γ,ds,En,e,q⟩ =>
 ⟨F0,H0,F,Γ,ds,En,e,fun J F1 H1 e1 it=>q J F1 H1 e1 fun i F2 H2 e2=>it i F2 H2 e2.ff e2.fh⟩
theorem Qa{K:PySem.W.Frag}{F:Hp}{a:Addr}{vs:List V}{ds:List D}(h:∀H2,zV F H2→SqL K H2 a vs)(inj:True)(r:Are K F ds vs):∀(i:Nat) F2 H2,zV F F2→zV F2 H2 →
  (∀d,ds[i]?=some d→(Itl K a).go i H2∧∀x H',(Itl K a).yld i H2 x H'→∃F3,Ext F2 H2 F3 H'∧Is K F3 d x)∧(ds.length≤i→(Itl K a).stop i H2):=fun i F2 H2 s1 s2=>by
 have hq:=h H2 (s1.trans s2)
 refine ⟨fun d hd=>?_,fun hl=>⟨vs,hq,by rw [r.length];exact hl⟩⟩
 obtain ⟨v,hv,hi⟩:=r.get hd
 refine ⟨⟨vs,v,hq,hv⟩,fun x H' y=>?_⟩
 obtain ⟨rfl,y⟩:=y
 have:=y vs hq
 rw [hv] at this;cases this
 exact ⟨F2,.refl s2,hi.mono s1⟩
theorem zbR{K:PySem.W.Frag}{F:Hp}{a:Addr}{vs:List V}{ds:List D}(h:∀H2,zV F H2→SqT K H2 a vs)(r:Are K F ds vs):∀(i:Nat) F2 H2,zV F F2→zV F2 H2 →
  (∀d,ds[i]?=some d→(Itt K a).go i H2∧∀x H',(Itt K a).yld i H2 x H'→∃F3,Ext F2 H2 F3 H'∧Is K F3 d x)∧(ds.length≤i→(Itt K a).stop i H2):=fun i F2 H2 s1 s2=>by
 have hq:=h H2 (s1.trans s2)
 refine ⟨fun d hd=>?_,fun hl=>⟨vs,hq,by rw [r.length];exact hl⟩⟩
 obtain ⟨v,hv,hi⟩:=r.get hd
 refine ⟨⟨vs,v,hq,hv⟩,fun x H' y=>?_⟩
 obtain ⟨rfl,y⟩:=y
 have:=y vs hq
 rw [hv] at this;cases this
 exact ⟨F2,.refl s2,hi.mono s1⟩
def B.fix:B→Option (List D)
 | .d (.tup ds)=>some ds
 | .d (.lst ds)=>some ds
 | .d (.scr ns)=>some (ns.map D.int)
 | _=>none
def ub(f:G→Option B):G→Option (List D):=fun Γ=>(f Γ).bind B.fix
theorem vN(ha:EE X iter f):EI X tg iter (ub f):=YN (zbL ha) fun σ H R hh44'=>by
 obtain ⟨F0,H0,F,Γ,ds,En,e,q⟩:=hh44'
 obtain ⟨b,hb,e⟩:=bind_some e
 refine ⟨F0,H0,F,Γ,b,En,hb,fun v F1 H1 e1 r1=>?_⟩
 cases b with
 | d d =>
  have r':Is X.K F1 d v:=r1
  cases d with
  | tup xs =>
   cases e
   simp only [Is] at r'
   obtain ⟨a,vs,rfl,hf,r⟩:=r'
   exact ⟨a,rfl,.inr ⟨⟨vs,SqT.of (e1.fh _ _ hf)⟩,q _ F1 H1 e1 (zbR (fun H2 s=>SqT.of (s _ _ hf)) r)⟩⟩
  | lst xs =>
   cases e
   simp only [Is] at r'
   obtain ⟨a,vs,rfl,hf,r⟩:=r'
   exact ⟨a,rfl,.inl ⟨⟨vs,SqL.of (e1.fh _ _ hf)⟩,q _ F1 H1 e1 (Qa (fun H2 s=>SqL.of (s _ _ hf)) trivial r)⟩⟩
  | scr ns =>
   cases e
   simp only [Is] at r'
   obtain ⟨a,rfl,hf⟩:=r'
   exact ⟨a,rfl,.inl ⟨⟨_,e1.fh.seq hf⟩,q _ F1 H1 e1 (Qa (fun H2 s=>s.seq hf) trivial (Xb ns))⟩⟩
  | _=>cases e
 | _=>cases e
def xh(lo:Int)(n:Nat):List D:=(List.range n).map fun (k:Nat)=>D.int (lo+(k:Int))
theorem zbS{K:PySem.W.Frag}{F:Hp}(lo:Int)(n:Nat):zbQ K (Itr lo n) F (xh lo n):=fun i F2 H2 s1 s2=>by
 refine ⟨fun d hd=>?_,fun hl=>by
  have hl':=hl
  simp only [xh,List.length_map,List.length_range] at hl'
  exact hl'⟩
 have hlt:i < n:=by
  have:=(List.getElem?_eq_some_iff.mp hd).1
  simpa [xh] using this
 refine ⟨hlt,fun x H' y=>?_⟩
 obtain ⟨rfl,rfl⟩:=y
 refine ⟨F2,.refl s2,?_⟩
 have:d=.int (lo+i):=by
  simp [xh,List.getElem?_map,List.getElem?_range hlt] at hd
  exact hd.symm
 subst this
 exact wX
def xR1(fs:G→Option (List B)):G→Option (List D):=fun Γ=>(fs Γ).bind fun bs=>match bs with
 | [b]=>b.int.bind fun j=>if -(2 ^ 62)≤j∧j < 2 ^ 62 then some (xh 0 j.toNat) else none
 | _=>none
theorem uw{p:Pos}(hg:Gl X "range")(hm:X.mg "range"=none)(ha:EA X [a] fs)(hs:starEach [a] X.env=[(false,eval a X.env)]:=by rfl):EI X tg (.Call (.Name "range" p) [a] [] pos) (xR1 fs) :=
 YN (UW hg hm ha hs) fun σ H R hh45'=>by
  obtain ⟨F0,H0,F,Γ,ds,En,e,q⟩:=hh45'
  obtain ⟨bs,hb,e⟩:=bind_some e
  refine ⟨F0,H0,F,Γ,bs,En,hb,fun vs F1 H1 e1 r1=>?_⟩
  match bs,e,r1 with
  | [b],e,r1 =>
   obtain ⟨v,rfl,hv⟩:=Zn r1
   obtain ⟨j,hj,e⟩:=bind_some e
   have:=v7 hj hv
   subst this
   by_cases hz:-(2 ^ 62)≤j∧j < 2 ^ 62
   ·rw [if_pos hz] at e;cases e
    exact ⟨j,rfl,hz.1,hz.2,q _ F1 H1 e1 (zbS 0 _)⟩
   ·rw [if_neg hz] at e;cases e
def Z6(t:D→G→Option G)(fb:G→Option Out):List D→G→Option Out
 | [],Γ=>some (.nx Γ)
 | d::r,Γ=>(t d Γ).bind fun Γ1=>(fb Γ1).bind fun o=>match o with
  | .nx Γ2=>Z6 t fb r Γ2
  | .ct Γ2=>Z6 t fb r Γ2
  | .bk Γ2=>some (.nx Γ2)
  | .rt d=>some (.rt d)
def Xc(it:G→Option (List D))(t:D→G→Option G)(fb:G→Option Out):G→Option Out:=fun Γ=>(it Γ).bind fun ds=>Z6 t fb ds Γ
theorem XC{is:List Nat}{it:G→Option (List D)}{t:D→G→Option G}{fb:G→Option Out}{body:List Stmt}(hp:PassesOwn (model X.prog X.w) X.A X.env X.xe)(hc:X.calm=true)(hi:EI X tg iter it)(hg:GN X tg is t)(hb:SDs X body fb) 
  (hs:∀x,foldedSetIterable iter X.env x=pure x:=by intro _;rfl):SD X (.For tg iter body [] pos) (Xc it t fb):=xb (zbt hp hc hi hg hb hs) fun E σ H ⟨F0,H0,F,Γ,o,En,e,q⟩=>by
 obtain ⟨ds,hd,e⟩:=bind_some e
 refine ⟨F0,H0,F,Γ,ds,En,hd,fun J F1 H1 e1 itr=>?_⟩
 refine ⟨fun i m σ H=>m=ds.length - i∧i≤ds.length∧∃F2 Γ2,EnvIs X.K F0 H0 F2 H σ Γ2∧zV F1 F2∧Z6 t fb (ds.drop i) Γ2=some o,⟨ds.length,by simp,Nat.zero_le _,F1,Γ,En.grow e1,zV.refl _,by simpa using e⟩,?_⟩
 rintro i m σ2 H2 ⟨rfl,hi,F2,Γ2,E2,s2,e2⟩
 obtain ⟨go,stop⟩:=itr i F2 H2 s2 E2.fh
 by_cases hlt:i < ds.length
 ·obtain ⟨g1,g2⟩:=go ds[i] (by simp [hlt])
  rw [List.drop_eq_getElem_cons hlt] at e2
  obtain ⟨Γ3,h3,e2⟩:=bind_some e2
  obtain ⟨o1,h4,e2⟩:=bind_some e2
  refine .inr ⟨g1,fun σ' H'=>∃F3 Γ3,EnvIs X.K F0 H0 F3 H' σ' Γ3∧zV F1 F3∧Z6 t fb (ds.drop (i+1)) Γ3=some o,fun σ' H' hh46'=>(by obtain ⟨F3,Γ3,p1,p2,p3⟩:=hh46';exact ⟨ds.length - (i+1),by omega,rfl,hlt,F3,Γ3,p1,p2,p3⟩),fun x H' y=>?_⟩
  obtain ⟨F3,ex,hx⟩:=g2 x H' y
  refine ⟨F0,H0,F3,Γ2,ds[i],Γ3,E2.grow ex,hx,h3,fun σ3 E3 _=>⟨F0,H0,F3,Γ3,o1,E3,h4,?_⟩⟩
  have s3:=s2.trans ex.ff
  cases o1 with
  | nx g=>exact fun σ4 F4 H4 E4 z=>⟨F4,g,E4,s3.trans z,e2⟩
  | ct g=>exact fun σ4 F4 H4 E4 z=>⟨F4,g,E4,s3.trans z,e2⟩
  | bk g=>cases e2;exact fun σ4 F4 H4 E4 z=>q σ4 F4 H4 E4 ((e1.ff.trans s3).trans z)
  | rt d=>cases e2;exact q
 ·have:i=ds.length:=by omega
  subst this
  rw [List.drop_length] at e2
  cases e2
  exact .inl ⟨stop (Nat.le_refl _),q σ2 F2 H2 E2 (e1.ff.trans s2)⟩
def EF(X:Cx)(ifs:List Expr)(f:G→Option Bool):Prop:=PF X ifs (dT X.K f)
def yQ:G→Option Bool:=fun _=>some true
theorem wu:EF X [] yQ:=fun pins s σ H Q I hh47'=>by obtain ⟨F0,H0,F,Γ,b,En,e,q⟩:=hh47';exact zbK pins s σ H Q I (by cases e;exact q F H (.refl En.fh))
def wa(ms:List (Option Nat))(Γ:G):G:=ms.map fun m=>match m with
 | none=>S.un
 | some j=>(Γ[j]?).getD S.un
theorem Xd{ms:List (Option Nat)}{Γ:G}{i:Nat}{s:S}(h:(wa ms Γ)[i]?=some s):s=S.un∨∃j,ms[i]?=some (some j)∧Γ[j]?=some s:=by
 unfold wa at h
 rw [List.getElem?_map] at h
 cases e:ms[i]? with
 | none=>rw [e] at h;cases h
 | some m =>
  rw [e] at h
  cases m with
  | none=>cases h;exact .inl rfl
  | some j =>
   simp only [Option.map_some,Option.some.injEq] at h
   cases q:Γ[j]? with
   | none=>rw [q] at h;exact .inl h.symm
   | some z=>rw [q] at h;simp at h;subst h;exact .inr ⟨j,rfl,q⟩
theorem EnvIs.blk{K:PySem.W.Frag}{F0 H0 F H:Hp}{σ:St}{Γ:G}{ms:List (Option Nat)}(E:EnvIs K F0 H0 F H σ Γ)(nd:∀(i k j:Nat),ms[i]?=some (some j)→ms[k]?=some (some j)→i=k):EnvIs K F0 H0 F H (L2.blk ms σ) (wa ms Γ):=by
 have get:∀(i j:Nat),ms[i]?=some (some j)→(L2.blk ms σ)[i]?=some ((σ[j]?).join):=fun i j e=>by
  unfold L2.blk
  rw [List.getElem?_map,e]
  rfl
 refine ⟨E.ext,by simp [L2.blk,wa],fun i s e=>?_,fun i k s t a hik e1 e2 o1 o2 r1 r2=>?_⟩
 ·have hlt:i < ms.length:=by
   have:=(List.getElem?_eq_some_iff.mp e).1
   simpa [wa] using this
  rcases Xd e with rfl|⟨j,h1,h2⟩
  ·refine ⟨((L2.blk ms σ)[i]?).join,?_,trivial⟩
   have:i < (L2.blk ms σ).length:=by simpa [L2.blk] using hlt
   rw [List.getElem?_eq_getElem this];rfl
  ·obtain ⟨o,h3,h4⟩:=E.val j s h2
   refine ⟨o,?_,h4⟩
   rw [get i j h1,h3];rfl
 ·rcases Xd e1 with rfl|⟨j,h1,h2⟩
  ·cases o1
  ·rcases Xd e2 with rfl|⟨j',h1',h2'⟩
   ·cases o2
   ·have hjj:j≠j':=fun z=>hik (nd i k j h1 (z ▸ h1'))
    have q1:σ[j]?=some (some (.ref a)):=by
     rw [get i j h1] at r1
     cases z:σ[j]? with
     | none=>rw [z] at r1;cases r1
     | some u=>rw [z] at r1;simp at r1;rw [r1]
    have q2:σ[j']?=some (some (.ref a)):=by
     rw [get k j' h1'] at r2
     cases z:σ[j']? with
     | none=>rw [z] at r2;cases r2
     | some u=>rw [z] at r2;simp at r2;rw [r2]
    exact E.sep j j' s t a hjj h2 h2' o1 o2 q1 q2
def Z7(t:D→G→Option G)(cond:G→Option Bool)(el:G→Option B)(Γ:G):List D→Option (List D)
 | []=>some []
 | d::r=>(t d Γ).bind fun Γ1=>(cond Γ1).bind fun b=>if b=true then (el Γ1).bind fun y=>y.asD.bind fun z=>(Z7 t cond el Γ r).map fun zs=>z::zs else Z7 t cond el Γ r
def xH(src:G→Option (List D))(ms:List (Option Nat))(t:D→G→Option G)(cond:G→Option Bool)(el:G→Option B):G→Option (List D):=fun Γ=>(src Γ).bind fun ds=>if ds.length≤sizeLine then Z7 t cond el (wa ms Γ) ds else none
structure Blk (X:Cx) (scope:Scope) (N:List Str) (tg:Expr) (ifs:List Expr) (elt:Expr) (is:List Nat) (t:D→G→Option G) (cond:G→Option Bool) (el:G→Option B):Prop where
 go:∀cl C s H ex,GN (yI X scope cl C N s H ex) tg is t∧EF (yI X scope cl C N s H ex) ifs cond∧EE (yI X scope cl C N s H ex) elt el
theorem X3{src:G→Option (List D)}{ms:List (Option Nat)}{is:List Nat}{t:D→G→Option G}{cond:G→Option Bool}{el:G→Option B}{K:PySem.W.Frag}{σ:St}{H:Hp}{Q:VK} 
  (nd:∀(i k j:Nat),ms[i]?=some (some j)→ms[k]?=some (some j)→i=k) (fr:∀j∈is,∀k,ms[j]?≠some (some k)):dL K (xH src ms t cond el) σ H Q→V3 (dIc K src) (dGs K is t) (dT K cond) (dE K el) ms σ H Q:=fun ⟨F0,H0,F,Γ,ys,En,e,q⟩=>by
 obtain ⟨ds,hd,e⟩:=bind_some e
 by_cases hz:ds.length≤sizeLine
 ·rw [if_pos hz] at e
  refine ⟨F0,H0,F,Γ,ds,En,hd,fun J F1 H1 e1 itr=>?_⟩
  refine ⟨fun i m vs H2=>m=ds.length - i∧i≤ds.length∧vs.length≤i∧∃F2 dn rest,Ext F1 H1 F2 H2∧Are K F2 dn vs∧Z7 t cond el (wa ms Γ) (ds.drop i)=some rest∧ys=dn++rest,⟨ds.length,by simp,Nat.zero_le _,Nat.le_refl _,F1,[],ys,.refl e1.fh,.nil,by simpa using e,rfl⟩,?_⟩
  rintro i m vs H2 ⟨rfl,hi,hvi,F2,dn,rest,e2,r2,h2,rfl⟩
  obtain ⟨go,stop⟩:=itr i F2 H2 e2
  refine ⟨Nat.le_trans hvi (Nat.le_trans hi hz),?_⟩
  by_cases hlt:i < ds.length
  ·obtain ⟨g1,g2⟩:=go ds[i] (by simp [hlt])
   rw [List.drop_eq_getElem_cons hlt] at h2
   obtain ⟨Γ3,h3,h2⟩:=bind_some h2
   obtain ⟨b,h4,h2⟩:=bind_some h2
   refine .inr ⟨g1,fun x H' y=>?_⟩
   obtain ⟨F3,ex,hx⟩:=g2 x H' y
   have E3:EnvIs K F0 H0 F3 H' (L2.blk ms σ) (wa ms Γ):=(((En.grow e1).grow e2).grow ex).blk nd
   refine ⟨F0,H0,F3,wa ms Γ,ds[i],Γ3,E3,hx,h3,fun σ4 E4 bs=>⟨⟨bs.1,fun j v hj=>?_⟩,F0,H0,F3,Γ3,b,E4,h4,fun F5 H5 e5=>?_⟩⟩
   ·rw [bs.2 j fun hm=>?_]
    ·exact hj
    ·obtain ⟨k,hk,_⟩:=VB hj
     exact fr j hm k hk
   ·have ex5:=(e2.trans ex).trans e5
    cases b with
    | false=>exact ⟨ds.length - (i+1),by omega,rfl,hlt,by omega,F5,dn,rest,ex5,r2.mono (ex.ff.trans e5.ff),h2,rfl⟩
    | true =>
     obtain ⟨yb,h6,h2⟩:=bind_some h2
     obtain ⟨z,h7,h2⟩:=bind_some h2
     obtain ⟨zs,h8,rfl⟩:=map_some h2
     have:=uv h7;subst this
     refine ⟨F0,H0,F5,Γ3,_,E4.grow e5,h6,fun v F6 H6 e6 r6=>⟨by omega,ds.length - (i+1),by omega,rfl,hlt,by rw [List.length_append,List.length_singleton];omega,F6,dn++[z],zs,ex5.trans e6,?_,h8,by rw [List.append_assoc];rfl⟩⟩
     exact (r2.mono ((ex.ff.trans e5.ff).trans e6.ff)).append (.cons r6 .nil)
  ·have:i=ds.length:=by omega
   subst this
   rw [List.drop_length] at h2
   cases h2
   refine .inl ⟨stop (Nat.le_refl _),fun p hp=>q p vs F2 _ ((e1.trans e2).trans (.own e2.fh hp _)) ((e1.hh.trans e2.hh).free hp) (e2.fh.free hp) yj ?_⟩
   rw [List.append_nil];exact r2
 ·rw [if_neg hz] at e;cases e
theorem wE{ifs:List Expr}{scope:Scope}{N:List Str}{src:G→Option (List D)}{ms:List (Option Nat)}{is:List Nat}{t:D→G→Option G}{cond:G→Option Bool}{el:G→Option B} 
 (hc:X.calm=true) (ok:CompOk X.env.scope X.N scope N ms) (hi:EC X tg iter src) (hb:Blk X scope N tg ifs elt is t cond el) (nd:∀(i k j:Nat),ms[i]?=some (some j)→ms[k]?=some (some j)→i=k) (fr:∀j∈is,∀k,ms[j]?≠some (some k))
 (hs:∀x,foldedSetIterable iter X.env x=pure x:=by intro _;rfl):EL X (.ListComp elt [⟨tg,iter,ifs,0⟩] scope pos) (xH src ms t cond el):=yo (zaL (g:=dGs X.K is t) (tf:=dT X.K cond) (te:=dE X.K el) hc ok hi hb.go hs) fun σ H Q q=>X3 nd fr q
theorem zbT{ifs:List Expr}{scope:Scope}{N:List Str}{src:G→Option (List D)}{ms:List (Option Nat)}{is:List Nat}{t:D→G→Option G}{cond:G→Option Bool}{el:G→Option B}{i:Nat}{y:Str}{py spos:Pos} 
  (hc:X.calm=true) (ok:CompOk X.env.scope X.N scope N ms) (hi:EC X tg iter src) (hb:Blk X scope N tg ifs elt is t cond el) (nd:∀(i k j:Nat),ms[i]?=some (some j)→ms[k]?=some (some j)→i=k) (fr:∀j∈is,∀k,ms[j]?≠some (some k))
  (hN:X.N.Nodup) (hy:X.N[i]?=some y) (hx:Loc X.env.scope y) (hsw:swapsWith (.ListComp elt [⟨tg,iter,ifs,0⟩] scope pos) (some (.Name y py)) spos.line X.env=pure true)
  (hf:X.fn y=true∨X.env.scope.names.lookup y=some .local:=by first|exact .inl rfl|exact .inr rfl|assumption)
  (hs:∀x,foldedSetIterable iter X.env x=pure x:=by intro _;rfl):SD X (.Assign [.Name y py] (.ListComp elt [⟨tg,iter,ifs,0⟩] scope pos) spos) (x0 i (xH src ms t cond el)) :=
 xb (VC (g:=dGs X.K is t) (tf:=dT X.K cond) (te:=dE X.K el) hc ok hi hb.go hN hy hx hsw hf hs) fun E σ H q=>by
  have q':=VI (X:=X) q
  exact X3 nd fr q'
end
end DD
namespace DD
open PySem PySem.Spec L2
open PyProof.Rows hiding St
open PySem.SeqAt (shaped compareEq_shaped compareNe_shaped canLay_of_shaped room_of_shaped eqAt_reads)
section
variable {X:Cx} {pins:List (Addr×Obj)} {σ:St} {F H:Hp} {s:Shared}
def W4:Str:=⟨#[2000000]⟩
theorem YO:PyData.strOk W4=false:=by decide +kernel
mutual
def toP:D→PyData
 | .non=>.none
 | .bl b=>.bool b
 | .int i=>.int i
 | .str x=>.str x
 | .scr ns=>.list (ns.map PyData.int)
 | .tup xs=>.tuple (toPs xs)
 | .lst xs=>.list (toPs xs)
 | .dK _ _=>.str W4
 | .dT _ _=>.str W4
 | .adr _=>.str W4
 | .opq=>.str W4
def toPs:List D→List PyData
 | []=>[]
 | x::xs=>toP x::toPs xs
end
theorem Xe:∀xs:List D,toPs xs=xs.map toP
 | []=>rfl
 | x::xs=>by rw [toPs,Xe xs,List.map_cons]
theorem XD{h:Heap}:∀{ns:List Int} {us:List Value},z6 (ns.map V.int) us→∃as,ReadsAll h us (ns.map PyData.int) as
 | [],_,.nil=>⟨_,.nil⟩
 | n::r,_,.cons ⟨t,e⟩ q=>by
  subst e
  obtain ⟨as,ha⟩:=XD q
  exact ⟨_,.cons (.int n t) ha⟩
mutual
theorem VJ(I:Inv X pins σ H s)(sm:zV F H):∀(d:D) {v:V} {u:Value},Is X.K F d v→yt v u→(toP d).canLay0=true→∃as,Reads s.heap u (toP d) as
 | .non,_,_,h,r,_=>by simp only [Is] at h;subst h;cases r;exact ⟨_,.none⟩
 | .bl b,_,_,h,r,_=>by simp only [Is] at h;subst h;cases r;exact ⟨_,.bool b⟩
 | .int i,_,_,h,r,_=>by simp only [Is] at h;subst h;obtain ⟨t,rfl⟩:=r;exact ⟨_,.int i t⟩
 | .str i,_,_,h,r,_=>by simp only [Is] at h;subst h;obtain ⟨t,rfl⟩:=r;exact ⟨_,.str i t⟩
 | .scr ns,_,_,h,r,_=>by
  simp only [Is] at h
  obtain ⟨a,rfl,hs⟩:=h
  cases r
  obtain ⟨its,rv,⟨o,n,e,hc,_,hd⟩,_⟩:=I.list (sm.seq hs)
  obtain ⟨as,ha⟩:=XD (h:=s.heap) rv
  exact ⟨_,.list e hc hd (by simpa using ha)⟩
 | .tup ds,_,_,h,r,c=>by
  simp only [Is] at h
  obtain ⟨a,vs,rfl,hf,ra⟩:=h
  cases r
  obtain ⟨its,rv,⟨o,e,hc,n,hd⟩,_⟩:=I.tuple (SqT.of (K:=X.K) (sm _ _ hf))
  obtain ⟨as,ha⟩:=reads_Ds I sm ds ra rv (by simpa [toP,PyData.canLay0] using c)
  exact ⟨_,.tuple e hc hd (by simpa using ha)⟩
 | .dK _ _,_,_,_,_,c=>by rw [toP,PyData.canLay0,YO] at c;cases c
 | .dT _ _,_,_,_,_,c=>by rw [toP,PyData.canLay0,YO] at c;cases c
 | .adr _,_,_,_,_,c=>by rw [toP,PyData.canLay0,YO] at c;cases c
 | .opq,_,_,_,_,c=>by rw [toP,PyData.canLay0,YO] at c;cases c
 | .lst ds,_,_,h,r,c=>by
  simp only [Is] at h
  obtain ⟨a,vs,rfl,hf,ra⟩:=h
  cases r
  obtain ⟨its,rv,⟨o,n,e,hc,_,hd⟩,_⟩:=I.list (SqL.of (K:=X.K) (sm _ _ hf))
  obtain ⟨as,ha⟩:=reads_Ds I sm ds ra rv (by simpa [toP,PyData.canLay0] using c)
  exact ⟨_,.list e hc hd (by simpa using ha)⟩
theorem reads_Ds(I:Inv X pins σ H s)(sm:zV F H):∀(ds:List D) {vs:List V} {us:List Value},Are X.K F ds vs→z6 vs us→PyData.canLayAll0 (toPs ds)=true→∃as,ReadsAll s.heap us (toPs ds) as
 | [],_,_,h,r,_=>by rw [h.inv0] at r;cases r;exact ⟨_,.nil⟩
 | d::ds,_,_,h,r,c=>by
  have c':(toP d).canLay0=true∧PyData.canLayAll0 (toPs ds)=true:=by simpa [toPs,PyData.canLayAll0] using c
  obtain ⟨v,vs,rfl,h1,h2⟩:=h.inv
  cases r with
  | cons r1 r2 =>
   obtain ⟨as,ha⟩:=VJ I sm d h1 r1 c'.1
   obtain ⟨bs,hb⟩:=reads_Ds I sm ds h2 r2 c'.2
   exact ⟨_,.cons ha hb⟩
end
def Zs:B→Option PyData
 | .d d=>some (toP d)
 | .l ds=>some (.list (toPs ds))
 | .c ds=>some (.tuple (toPs ds))
 | _=>none
theorem vX{b:B}{p:PyData}{v:V}{u:Value}(I:Inv X pins σ H s)(sm:zV F H)(e:Zs b=some p)(h:BIs X.K F H b v)(r:yt v u)(c:p.canLay0=true):∃as,Reads s.heap u p as:=by
 cases b with
 | d d=>cases e;exact VJ I sm d h r c
 | l ds =>
  cases e
  obtain ⟨a,vs,rfl,hf,ra⟩:=h
  cases r
  obtain ⟨its,rv,⟨o,n,e,hc,_,hd⟩,_⟩:=I.list (SqL.of (K:=X.K) hf)
  obtain ⟨as,ha⟩:=reads_Ds I sm ds ra rv (by simpa [PyData.canLay0] using c)
  exact ⟨_,.list e hc hd (by simpa using ha)⟩
 | c ds =>
  cases e
  obtain ⟨a,vs,rfl,hf,ra⟩:=h
  cases r
  obtain ⟨its,rv,⟨o,e,hc,n,hd⟩,_⟩:=I.tuple hf
  obtain ⟨as,ha⟩:=reads_Ds I sm ds ra rv (by simpa [PyData.canLay0] using c)
  exact ⟨_,.tuple e hc hd (by simpa using ha)⟩
 | _=>cases e
theorem Xf:∀{ps:List PyData},(∀p∈ps,shaped p=true)→PyData.canLayAll0 ps=true
 | [],_=>rfl
 | p::r,h=>by
  have h1:=canLay_of_shaped (h p List.mem_cons_self)
  have h2:=Xf fun q hq=>h q (List.mem_cons_of_mem _ hq)
  simp [PyData.canLayAll0,h1,h2]
def RP(K:PySem.W.Frag)(H:Hp)(v:V)(p:PyData):Prop:=∃F b,zV F H∧Zs b=some p∧BIs K F H b v
def Q2(K:PySem.W.Frag)(neg:Bool):R2:=fun x y H Q=>∃p q,RP K H x p∧RP K H y q∧shaped p=true∧shaped q=true∧Q (.bl (if neg then !PyData.eqv p q else PyData.eqv p q)) H
theorem zw(hu:X.A.units+64 < cLine):OpR X (compareOp .Eq) (Q2 X.K false):=by
 rintro pins s σ H x y v u Q I rx ry ⟨p,q,⟨F,b,sm,e,h⟩,⟨F',b',sm',e',h'⟩,sp,sq,hq⟩
 obtain ⟨as,ra⟩:=vX I sm e h rx (canLay_of_shaped sp)
 obtain ⟨bs,rb⟩:=vX I sm' e' h' ry (canLay_of_shaped sq)
 exact compareEq_shaped ra rb sp sq hu ⟨.bl _,H,I,rfl,hq⟩
theorem xX(hu:X.A.units+64 < cLine):OpR X (compareOp .NotEq) (Q2 X.K true):=by
 rintro pins s σ H x y v u Q I rx ry ⟨p,q,⟨F,b,sm,e,h⟩,⟨F',b',sm',e',h'⟩,sp,sq,hq⟩
 obtain ⟨as,ra⟩:=vX I sm e h rx (canLay_of_shaped sp)
 obtain ⟨bs,rb⟩:=vX I sm' e' h' ry (canLay_of_shaped sq)
 exact compareNe_shaped ra rb sp sq hu ⟨.bl _,H,I,rfl,hq⟩
def mEq(neg:Bool):B→B→Option D:=fun x y=>(Zs x).bind fun p=>(Zs y).bind fun q=>if shaped p=true∧shaped q=true then some (.bl (if neg then !PyData.eqv p q else PyData.eqv p q)) else none
theorem zy{K:PySem.W.Frag}{neg:Bool}:OpB K (Q2 K neg) (mEq neg):=fun F H x y v u d Q sm hx hy e q=>by
 obtain ⟨p,hp,e⟩:=bind_some e
 obtain ⟨p',hp',e⟩:=bind_some e
 by_cases hz:shaped p=true∧shaped p'=true
 ·rw [if_pos hz] at e;cases e
  exact ⟨p,p',⟨F,x,sm,hp,hx⟩,⟨F,y,sm,hp',hy⟩,hz.1,hz.2,q _ F H (.refl sm) uJ⟩
 ·rw [if_neg hz] at e;cases e
open Classical in
noncomputable def eqR (h:Heap) (q:PyData) (u:Value):Bool:=if z:∃p,(∃as,Reads h u p as)∧p.canLay0=true then PyData.eqv z.choose q else false
theorem W5{h:Heap}{q p:PyData}{u:Value}{as:List Addr}(r:Reads h u p as)(c:p.canLay0=true):eqR h q u=PyData.eqv p q:=by
 have z:∃p,(∃as,Reads h u p as)∧p.canLay0=true:=⟨p,⟨as,r⟩,c⟩
 unfold eqR
 rw [dif_pos z]
 obtain ⟨⟨bs,r2⟩,c2⟩:=z.choose_spec
 rw [SeqAt.Reads.unique _ _ _ _ _ c2 r2 r]
theorem YQ{h:Heap}{q:PyData}:∀{ps:List PyData} {us:List Value} {as:List Addr},ReadsAll h us ps as→(∀p∈ps,shaped p=true)→us.any (eqR h q)=ps.any fun p=>PyData.eqv p q:=fun {ps}=>by
 induction ps with
 | nil=>intro us as r _;cases r;rfl
 | cons p ps ih =>
  intro us as r c
  cases r with
  | cons r t=>rw [List.any_cons,List.any_cons,W5 r (canLay_of_shaped (c p List.mem_cons_self)),ih t fun p' hp=>c p' (List.mem_cons_of_mem _ hp)]
theorem ZC{A:Around}{s:Shared}{q:PyData}{v:Value}{bs:List Addr}(rq:Reads s.heap v q bs)(sq:shaped q=true)(hu:A.units+64 < cLine):∀{ps:List PyData} {us:List Value} {as:List Addr},ReadsAll s.heap us ps as→(∀p∈ps,shaped p=true)→∀u∈us,SeqAt.EqAt A s u v (eqR s.heap q u):=fun {ps}=>by
 induction ps with
 | nil=>intro us as r _ u hm;cases r;exact nomatch hm
 | cons p ps ih =>
  intro us as r c u hm
  cases r with
  | cons r t =>
   rcases List.mem_cons.mp hm with rfl|hm
   ·have sp:=c p List.mem_cons_self
    rw [W5 r (canLay_of_shaped sp)]
    exact eqAt_reads _ _ _ _ _ _ _ _ r rq (canLay_of_shaped sp) (canLay_of_shaped sq) (room_of_shaped sp hu)
   ·exact ih t (fun p' hp=>c p' (List.mem_cons_of_mem _ hp)) u hm
def RPs(K:PySem.W.Frag)(H:Hp)(a:Addr)(ps:List PyData):Prop:=∃F ds vs,zV F H∧(SqL K H a vs∨SqT K H a vs)∧Are K F ds vs∧ps=toPs ds
def Q3(K:PySem.W.Frag)(neg:Bool):R2:=fun x y H Q=>∃q a ps,RP K H x q∧y=.ref a∧RPs K H a ps∧shaped q=true∧(∀p∈ps,shaped p=true)∧Q (.bl (if neg then !ps.any (fun p=>PyData.eqv p q) else ps.any fun p=>PyData.eqv p q)) H
theorem Qb(hu:X.A.units+128 < cLine):OpR X (compareOp .In) (Q3 X.K false):=by
 rintro pins s σ H x y v u Q I rx ry ⟨q,a,ps,⟨F,b,sm,e,h⟩,ey,⟨F',ds,vs,sm',hs,ra,eps⟩,sq,sp,hq⟩
 subst ey
 subst eps
 cases ry
 have hu1:X.A.in1.units+64 < cLine:=by show X.A.units+1+64 < cLine;omega
 obtain ⟨bs,rb⟩:=vX I sm e h rx (canLay_of_shaped sq)
 rcases hs with hs|hs
 ·obtain ⟨its,rv,pl,hz⟩:=I.list hs
  obtain ⟨as,rs⟩:=reads_Ds I sm' ds ra rv (Xf sp)
  refine SeqAt.in_listAt (eqR s.heap q) pl.isList (fun w hw=>ZC rb sq hu1 rs sp w (by simpa using hw)) ⟨.bl _,H,I,rfl,?_⟩
  rw [show its.toArray.any (eqR s.heap q)=its.any (eqR s.heap q) by simp,YQ rs sp]
  exact hq
 ·obtain ⟨its,rv,pl,hz⟩:=I.tuple hs
  obtain ⟨as,rs⟩:=reads_Ds I sm' ds ra rv (Xf sp)
  refine SeqAt.in_tupleAt (eqR s.heap q) pl (fun w hw=>ZC rb sq hu1 rs sp w (by simpa using hw)) ⟨.bl _,H,I,rfl,?_⟩
  rw [show its.toArray.any (eqR s.heap q)=its.any (eqR s.heap q) by simp,YQ rs sp]
  exact hq
theorem zaP(hu:X.A.units+128 < cLine):OpR X (compareOp .NotIn) (Q3 X.K true):=by
 rintro pins s σ H x y v u Q I rx ry ⟨q,a,ps,⟨F,b,sm,e,h⟩,ey,⟨F',ds,vs,sm',hs,ra,eps⟩,sq,sp,hq⟩
 subst ey
 subst eps
 cases ry
 have hu1:X.A.in1.units+64 < cLine:=by show X.A.units+1+64 < cLine;omega
 obtain ⟨bs,rb⟩:=vX I sm e h rx (canLay_of_shaped sq)
 rcases hs with hs|hs
 ·obtain ⟨its,rv,pl,hz⟩:=I.list hs
  obtain ⟨as,rs⟩:=reads_Ds I sm' ds ra rv (Xf sp)
  refine SeqAt.notIn_listAt (eqR s.heap q) pl.isList (fun w hw=>ZC rb sq hu1 rs sp w (by simpa using hw)) ⟨.bl _,H,I,rfl,?_⟩
  rw [show its.toArray.any (eqR s.heap q)=its.any (eqR s.heap q) by simp,YQ rs sp]
  exact hq
 ·obtain ⟨its,rv,pl,hz⟩:=I.tuple hs
  obtain ⟨as,rs⟩:=reads_Ds I sm' ds ra rv (Xf sp)
  refine SeqAt.notIn_tupleAt (eqR s.heap q) pl (fun w hw=>ZC rb sq hu1 rs sp w (by simpa using hw)) ⟨.bl _,H,I,rfl,?_⟩
  rw [show its.toArray.any (eqR s.heap q)=its.any (eqR s.heap q) by simp,YQ rs sp]
  exact hq
def mIn(neg:Bool):B→B→Option D:=fun x y=>(Zs x).bind fun q=>y.seq.bind fun ds=>if shaped q=true∧(toPs ds).all shaped=true then some (.bl (if neg then !(toPs ds).any (fun p=>PyData.eqv p q) else (toPs ds).any fun p=>PyData.eqv p q)) else none
theorem V9{K:PySem.W.Frag}{neg:Bool}:OpB K (Q3 K neg) (mIn neg):=fun F H x y v u d Q sm hx hy e q=>by
 obtain ⟨p,hp,e⟩:=bind_some e
 obtain ⟨ds,hd,e⟩:=bind_some e
 by_cases hz:shaped p=true∧(toPs ds).all shaped=true
 ·rw [if_pos hz] at e;cases e
  obtain ⟨a,vs,rfl,hs,ra⟩:=Xx sm hd hy
  exact ⟨p,a,toPs ds,⟨F,x,sm,hp,hx⟩,rfl,⟨F,ds,vs,sm,hs,ra,rfl⟩,hz.1,fun p hp=>List.all_eq_true.mp hz.2 p hp,q _ F H (.refl sm) uJ⟩
 ·rw [if_neg hz] at e;cases e
theorem wY(hc:X.calm=true):uD X (.builtin "all") (fun xs H Q=>∃p bs,xs=[.ref p]∧SqL X.K H p ((bs:List Bool).map V.bl)∧Q (.bl (bs.all id)) H):=by
 intro pins s σ H xs us Q I r h
 obtain ⟨p,bs,rfl,hq,q⟩:=h
 obtain ⟨u,rfl,rx⟩:=WB r
 cases rx
 obtain ⟨its,rv,pl,hz⟩:=I.list hq
 have hl:its.length=bs.length:=by rw [←rv.length,List.length_map]
 have get:∀(i:Nat) (b:Bool),bs[i]?=some b→its[i]?=some (.bool b):=fun i b e=>by
  obtain ⟨u,h1,h2⟩:=rv.get (i:=i) (x:=.bl b) (by rw [List.getElem?_map,e];rfl)
  cases h2
  exact h1
 have hp:p < s.heap.objs.size:=by obtain ⟨o,n,e,_⟩:=pl;exact Heap.lt_size e
 refine call_all_walk (wpAny_pyIter_list pl.isList ?_)
 refine ⟨s.heap.objs.size,_,_,its.toArray.size,_,_,fun i=>bs.getD i true,rfl,Walks.list (A:=X.A.in1) (I.ok.hd hc) s.heap.objs.size p (Nat.ne_of_lt hp) its.toArray,⟨⟨_,Heap.get?_push_size _ rfl,rfl,rfl⟩,pl.isList.push _⟩,fun i v s' Q' E' hP hQ=>?_,fun h' tk hk=>?_⟩
 ·have hP':its[i]?=some v:=by simpa using hP
  have hlt:i < bs.length:=by rw [←hl];exact (List.getElem?_eq_some_iff.mp hP').1
  have:=get i bs[i] (by simp [hlt])
  rw [hP'] at this;cases this
  have e:bs.getD i true=bs[i]:=by simp [List.getD,hlt]
  refine wpAny_truthy_bool ?_
  rw [←e];exact hQ
 ·have I':Inv X pins σ H { s with heap:=h',toks:=tk }:=I.kept fun b o e=>hk b o (by simpa using Nat.ne_of_lt (Heap.lt_size e)) (Heap.get?_push_of_some _ e)
  have e:(List.range its.toArray.size).all (fun i=>bs.getD i true)=bs.all id:=by
   rw [List.size_toArray,hl,Bool.eq_iff_iff]
   simp only [List.all_eq_true,List.mem_range,id]
   constructor
   ·intro z b hb
    obtain ⟨i,hi,rfl⟩:=List.mem_iff_getElem.mp hb
    have:=z i hi
    simpa [List.getD,hi] using this
   ·intro z i hi
    have:=z bs[i] (List.getElem_mem hi)
    simpa [List.getD,hi] using this
  rw [e]
  exact ⟨.bl _,H,I',rfl,q⟩
def vB:List D→Option (List Bool)
 | []=>some []
 | .bl b::r=>(vB r).map fun bs=>b::bs
 | _::_=>none
theorem Wt{K:PySem.W.Frag}{F:Hp}:∀{ds:List D} {bs:List Bool} {vs:List V},vB ds=some bs→Are K F ds vs→vs=bs.map V.bl
 | [],_,_,e,h=>by cases e;rw [h.inv0];rfl
 | d::r,_,_,e,h=>by
  obtain ⟨v,vs,rfl,h1,h2⟩:=h.inv
  cases d with
  | bl b =>
   obtain ⟨bs,hb,rfl⟩:=map_some (show (vB r).map _=some _ from e)
   simp only [Is] at h1
   rw [h1,Wt hb h2];rfl
  | _=>cases e
def Ys:List B→Option D
 | [b]=>b.lst.bind fun ds=>(vB ds).map fun bs=>.bl (bs.all id)
 | _=>none
theorem ZD{K:PySem.W.Frag}:Zm K (fun xs H Q=>∃p bs,xs=[.ref p]∧SqL K H p ((bs:List Bool).map V.bl)∧Q (.bl (bs.all id)) H) Ys:=fun F H bs vs d Q sm h e q=>by
 match bs,e,h with
 | [b],e,h =>
  obtain ⟨v,rfl,hb⟩:=Zn h
  obtain ⟨ds,hd,e⟩:=bind_some e
  obtain ⟨bs,hb2,rfl⟩:=map_some e
  obtain ⟨a,ys,rfl,hs,r⟩:=v6 sm hd hb
  have:=Wt hb2 r
  subst this
  exact ⟨a,bs,rfl,SqL.of hs,q _ F H (.refl sm) uJ⟩
end
end DD
namespace DD
open PySem PySem.Spec L2
open PyProof.Rows hiding St
section
variable {X:Cx} {pins:List (Addr×Obj)} {σ:St} {F H:Hp} {s:Shared} {a b c e tg iter elt:Expr} {f g h:G→Option B} {pos:Pos} {es:List Expr} {fs:G→Option (List B)} {tf:G→Option Bool}
def isi(t c:Ty):Bool:=decide (t=c) || (decide (t=.bl) && decide (c=.int))
theorem zaQ(K:PySem.W.Frag)(t c:Ty):PySem.W.kitOne K (.type t.name) (.type c.name)=some (isi t c):=by
 cases t <;> cases c <;> rfl
def D.tyOf:D→Option Ty
 | .non=>some .non
 | .bl _=>some .bl
 | .int _=>some .int
 | .str _=>some .str
 | .tup _=>some .tup
 | .lst _=>some .lst
 | .scr _=>none
 | .dK _ _=>none
 | .dT _ _=>none
 | .adr _=>none
 | .opq=>none
theorem zaR{K:PySem.W.Frag}{d:D}{t:Ty}{v:V}(sm:zV F H)(e:d.tyOf=some t)(h:Is K F d v):TyOf K H v (.type t.name):=by
 cases d with
 | non=>cases e;simp only [Is] at h;subst h;exact .non
 | bl b=>cases e;simp only [Is] at h;subst h;exact .bl b
 | int b=>cases e;simp only [Is] at h;subst h;exact .int b
 | str b=>cases e;simp only [Is] at h;subst h;exact .str b
 | scr ns=>cases e
 | dK _ _=>cases e
 | dT _ _=>cases e
 | adr _=>cases e
 | opq=>cases e
 | tup ds=>cases e;simp only [Is] at h;obtain ⟨p,vs,rfl,hf,_⟩:=h;exact .tup (sm _ _ hf)
 | lst ds=>cases e;simp only [Is] at h;obtain ⟨p,vs,rfl,hf,_⟩:=h;exact .lst (sm _ _ hf)
theorem wM:uD X (.builtin "isinstance") (fun xs H Q=>∃x t c,xs=[x,.ty (Ty.name c)]∧TyOf X.K H x (.type (Ty.name t))∧Q (.bl (isi t c)) H):=by
 intro pins s σ H xs us Q I r h
 obtain ⟨x,t,c,rfl,ty,q⟩:=h
 cases r with
 | cons r1 r2 =>
  cases r2 with
  | cons r2 r3 =>
   cases r3
   cases r2
   exact U0 I r1 ty (zaQ _ _ _) fun tk=>⟨.bl _,H,I.tok tk,rfl,q⟩
def u8:List B→Option D
 | [.d x,.ty c]=>x.tyOf.map fun t=>.bl (isi t c)
 | [.l _,.ty c]=>some (.bl (isi .lst c))
 | _=>none
theorem uc{K:PySem.W.Frag}:Zm K (fun xs H Q=>∃x t c,xs=[x,.ty (Ty.name c)]∧TyOf K H x (.type (Ty.name t))∧Q (.bl (isi t c)) H) u8:=fun F H bs vs d Q sm h e q=>by
 match bs,e,h with
 | [.d x,.ty c],e,h =>
  obtain ⟨t,ht,rfl⟩:=map_some e
  cases h with
  | cons h1 h2 =>
   cases h2 with
   | cons h2 h3 =>
    cases h3
    cases h2
    exact ⟨_,t,c,rfl,zaR sm ht h1,q _ F H (.refl sm) uJ⟩
 | [.l ds,.ty c],e,h =>
  cases e
  cases h with
  | cons h1 h2 =>
   cases h2 with
   | cons h2 h3 =>
    cases h3
    cases h2
    obtain ⟨p,ws,rfl,hf,_⟩:=h1
    exact ⟨_,.lst,c,rfl,.lst hf,q _ F H (.refl sm) uJ⟩
def xTy(c:Ty):G→Option B:=fun _=>some (.ty c)
theorem Z8{x:Str}(c:Ty){p:Pos}(hg:Gl X x)(hm:X.mg x=none)(hv:bootBuiltins x=some (.type c.name))(hn:x≠"__name__":=by decide)(hd:(x == ("__debug__":Str))=false:=by decide):EE X (.Name x p) (xTy c) :=
 yo (ut (v:=.ty c.name) hg hm hv rfl hn hd) fun σ H Q ⟨F0,H0,F,Γ,z,E,e,q⟩=>by cases e;exact q _ F H (.refl E.fh) rfl
theorem EnvIs.change{K:PySem.W.Frag}{F0 H0 F H:Hp}{σ:St}{Γ:G}{i:Nat}{s1 s0:S}{p:Addr}{o:HO}(E:EnvIs K F0 H0 F H σ Γ)(hi:Γ[i]?=some s1)(ho:s1.own=true)(hs:σ[i]?=some (some (.ref p)))(h0:H0 p=none)(hf:F p=none) 
  (h:SIs K H0 F (upd H p o) s0 (some (.ref p))):EnvIs K F0 H0 F (upd H p o) σ (Γ.set i s0):=by
 have hlt:i < Γ.length:=(List.getElem?_eq_some_iff.mp hi).1
 have ownRef:∀(j:Nat) s,Γ[j]?=some s→s.own=true→∃q,σ[j]?=some (some (.ref q)):=fun j s e so=>by
  obtain ⟨o',h1,h2⟩:=E.val j s e
  cases s with
  | un=>cases so
  | v d=>cases so
  | ol ds=>obtain ⟨q,_,rfl,_⟩:=h2;exact ⟨q,h1⟩
  | ot ds=>obtain ⟨q,_,rfl,_⟩:=h2;exact ⟨q,h1⟩
  | ok ds=>obtain ⟨q,_,rfl,_⟩:=h2;exact ⟨q,h1⟩
 refine ⟨E.ext.turn h0 hf o,by simpa using E.len,fun j s e=>?_,fun j k s t b hjk e1 e2 o1 o2 r1 r2=>?_⟩
 ·by_cases hj:j=i
  ·subst hj
   rw [List.getElem?_set_self hlt] at e
   cases e
   exact ⟨_,hs,h⟩
  ·rw [List.getElem?_set_ne (Ne.symm hj)] at e
   obtain ⟨o',h1,h2⟩:=E.val j s e
   refine ⟨o',h1,?_⟩
   have ne:∀q,s.own=true→σ[j]?=some (some (.ref q))→q≠p:=fun q so sq z=>by
    subst z
    exact E.sep j i s s1 q hj e hi so ho sq hs
   cases s with
   | un=>trivial
   | v d=>exact h2
   | ol ds=>obtain ⟨q,vs,rfl,p1,p2,p3,p4⟩:=h2;exact ⟨q,vs,rfl,by rw [yc (ne q rfl h1)];exact p1,p2,p3,p4⟩
   | ot ds=>obtain ⟨q,vs,rfl,p1,p2,p3,p4⟩:=h2;exact ⟨q,vs,rfl,by rw [yc (ne q rfl h1)];exact p1,p2,p3,p4⟩
   | ok ds=>obtain ⟨q,vs,rfl,p1,p2,p3,p4⟩:=h2;exact ⟨q,vs,rfl,by rw [yc (ne q rfl h1)];exact p1,p2,p3,p4⟩
 ·have old:∀(k:Nat) (t:S),(Γ.set i s0)[k]?=some t→t.own=true→∃t',Γ[k]?=some t'∧t'.own=true:=fun k t e o=>by
   by_cases z:k=i
   ·subst z;exact ⟨s1,hi,ho⟩
   ·rw [List.getElem?_set_ne (Ne.symm z)] at e;exact ⟨t,e,o⟩
  obtain ⟨s',e1',o1'⟩:=old j s e1 o1
  obtain ⟨t',e2',o2'⟩:=old k t e2 o2
  exact E.sep j k s' t' b hjk e1' e2' o1' o2' r1 r2
def wN(Γ:G)(i:Nat):Option (List D):=match Γ[i]? with
 | some (.ol ds)=>some ds
 | _=>none
theorem Yt{Γ:G}{i:Nat}{ds:List D}(e:wN Γ i=some ds):Γ[i]?=some (.ol ds):=by
 unfold wN at e
 split at e
 ·rename_i q;cases e;exact q
 ·cases e
def Yu(i:Nat)(f:G→Option B):G→Option Out:=fun Γ=>(wN Γ i).bind fun ds=>(f Γ).bind fun b=>b.asD.bind fun d=>if ds.length < sizeLine then some (.nx (Γ.set i (.ol (ds++[d])))) else none
theorem XE{i:Nat}{x:Str}{px apos cpos:Pos} 
  (hsw:swapsWith (.Call (.Attribute (.Name x px) "append" apos) [e] [] cpos) none pos.line X.env=pure false:=by rfl)
  (h1:PE X (.Call (.Attribute (.Name x px) "append" apos) [e] [] cpos) (tBM X.K "list" Vy (Y9 i) (Xq (dE X.K f) WX))) :
  SD X (.Expr (.Call (.Attribute (.Name x px) "append" apos) [e] [] cpos) pos) (Yu i f):=xb (YK h1 hsw) fun E σ H ⟨F0,H0,F,Γ,o,En,e,q⟩=>by
 obtain ⟨ds,hd,e⟩:=bind_some e
 obtain ⟨b,hb,e⟩:=bind_some e
 obtain ⟨d,hd2,e3⟩:=bind_some e
 have:=uv hd2;subst this
 have hi:=Yt hd
 by_cases hz:ds.length < sizeLine
 ·rw [if_pos hz] at e3;cases e3
  obtain ⟨o,h1,p,vs,rfl,h2,h3,h4,h5⟩:=En.val i _ hi
  refine ⟨.ref p,h1,.inl ⟨rfl,vs,SqL.of h2⟩,F0,H0,F,Γ,_,En,hb,fun v F1 H1 e1 r1=>⟨p,vs,v,rfl,rfl,e1.hh _ _ h2,by rw [h3.length];exact hz,?_⟩⟩
  have hf1:F1 p=none:=e1.freed h4 (by rw [h2];simp)
  refine q σ F1 _ ((En.grow e1).change (s1:=.ol ds) hi rfl h1 h5 hf1 ⟨p,vs++[v],rfl,yj,(h3.mono e1.ff).append (.cons r1 .nil),hf1,h5⟩) e1.ff
 ·rw [if_neg hz] at e3;cases e3
def vp(i:Nat)(f:G→Option B):G→Option Out:=fun Γ=>(wN Γ i).bind fun ds=>(f Γ).bind fun b=>b.lst.bind fun es=>if ds.length+es.length≤sizeLine then some (.nx (Γ.set i (.ol (ds++es)))) else none
theorem Zo{i:Nat}{x:Str}{px apos cpos:Pos} 
  (hsw:swapsWith (.Call (.Attribute (.Name x px) "extend" apos) [e] [] cpos) none pos.line X.env=pure false:=by rfl)
  (h1:PE X (.Call (.Attribute (.Name x px) "extend" apos) [e] [] cpos) (tBM X.K "list" Vz (Y9 i) (Xq (dE X.K f) WX))) :
  SD X (.Expr (.Call (.Attribute (.Name x px) "extend" apos) [e] [] cpos) pos) (vp i f):=xb (YK h1 hsw) fun E σ H ⟨F0,H0,F,Γ,o,En,e,q⟩=>by
 obtain ⟨ds,hd,e⟩:=bind_some e
 obtain ⟨b,hb,e⟩:=bind_some e
 obtain ⟨es,he,e⟩:=bind_some e
 have hi:=Yt hd
 by_cases hz:ds.length+es.length≤sizeLine
 ·rw [if_pos hz] at e;cases e
  obtain ⟨o,h1,p,vs,rfl,h2,h3,h4,h5⟩:=En.val i _ hi
  refine ⟨.ref p,h1,.inl ⟨rfl,vs,SqL.of h2⟩,F0,H0,F,Γ,_,En,hb,fun v F1 H1 e1 r1=>?_⟩
  obtain ⟨l,us,rfl,hl,ru⟩:=v6 e1.fh he r1
  refine ⟨p,l,vs,us,rfl,rfl,e1.hh _ _ h2,hl,by rw [h3.length,ru.length];exact hz,?_⟩
  have hf1:F1 p=none:=e1.freed h4 (by rw [h2];simp)
  refine q σ F1 _ ((En.grow e1).change (s1:=.ol ds) hi rfl h1 h5 hf1 ⟨p,vs++us,rfl,yj,(h3.mono e1.ff).append ru,hf1,h5⟩) e1.ff
 ·rw [if_neg hz] at e;cases e
def zh(n:Nat)(ds:List D):G:=ds.map S.v++List.replicate (n - ds.length) S.un
def mir(np n:Nat)(f:G→Option Out):List D→Option D:=fun ds=>if ds.length=np then match f (zh n ds) with
 | some (.rt d)=>some d
 | some (.nx _)=>some .non
 | _=>none else none
theorem Xg{K:PySem.W.Frag}{F H:Hp}{N:List Str}{ds:List D}{vs:List V}(sm:zV F H)(r:Are K F ds vs):EnvIs K F H F H (L2.v3 N vs) (zh N.length ds):=by
 have hl:=r.length
 refine ⟨.refl sm,by simp [L2.v3,zh,hl],fun i s e=>?_,fun i j s t p hij e1 e2 o1 o2 _ _=>?_⟩
 ·unfold zh at e
  unfold L2.v3
  by_cases hi:i < ds.length
  ·rw [List.getElem?_append_left (by simpa using hi),List.getElem?_map] at e
   rw [List.getElem?_append_left (by simpa [hl] using hi),List.getElem?_map]
   obtain ⟨d,hd,rfl⟩:=map_some e
   obtain ⟨v,hv,hq⟩:=r.get hd
   exact ⟨some v,by rw [hv];rfl,v,rfl,hq⟩
  ·rw [List.getElem?_append_right (by simpa using hi),List.getElem?_replicate] at e
   rw [List.getElem?_append_right (by simpa [hl] using hi),List.getElem?_replicate]
   simp only [List.length_map] at e ⊢
   split at e
   ·rename_i hlt
    cases e
    exact ⟨none,by rw [if_pos (by rw [hl];exact hlt)],trivial⟩
   ·cases e
 ·have no:∀(k:Nat) (t:S),(zh N.length ds)[k]?=some t→t.own=false:=fun k t e=>by
   have hm:=List.mem_of_getElem? e
   unfold zh at hm
   rcases List.mem_append.mp hm with hm|hm
   ·obtain ⟨d,_,rfl⟩:=List.mem_map.mp hm;rfl
   ·rw [(List.mem_replicate.mp hm).2];rfl
  rw [no i s e1] at o1;cases o1
structure Callee (P:Program) (w:World) (K:PySem.W.Frag) (mg:Str→Option Value) (base:Heap) (k:Nat) (x:Str) (m:List D→Option D):Prop where
 ex:∃fa fd ps,FnOk P w K mg base CX0 k fa fd ps (spD K m)∧mg x=some (.ref fa)∧PySem.W.keepIn K (.ref fa)=true∧v2 K fd ps []
theorem z8{P:Program}{w:World}{K:PySem.W.Frag}{mg:Str→Option Value}{base:Heap}{k:Nat}{x:Str}{st:Stmt}{fa:Addr}{fd:FuncData}{N ps:List Str}{f:G→Option Out}(Fn:Fun K x x st fa fd)(hm:mg x=some (.ref fa))(S:FnScope N ps (zr st))(hb:v2 K fd ps []) 
  (body:∀(cdv:Value) (A:Around) (outer:List Env) (s:Shared) (H:Hp) (E:XK),Room k (A.deeper (envOfC x (zr st) s.heap.objs.size fa cdv))→SDs (w4 CX0 P w K mg base N x (zr st) fa cdv A outer s H E).nox (vz st) f) :
  Callee P w K mg base (k+1) x (mir ps.length N.length f):=by
 refine ⟨fa,fd,ps,Fn.ok S (fun vs H Q E ⟨F,ds,d,sm,r,e,q⟩=>?_) (fun cdv A outer s H vs Q E hr ⟨F,ds,d,sm,r,e,q⟩=>⟨_,body cdv A outer s H E hr,?_⟩),hm,Fn.kp,hb⟩
 ·unfold mir at e
  split at e
  ·rename_i h;rw [r.length];exact h
  ·cases e
 ·unfold mir at e
  split at e
  ·cases ho:f (zh N.length ds) with
   | none=>rw [ho] at e;cases e
   | some o =>
    rw [ho] at e
    refine ⟨F,H,F,zh N.length ds,o,Xg sm r,ho,?_⟩
    cases o with
    | rt d'=>cases e;exact fun v F' H' ex hv=>q v F' H' ex hv
    | nx g=>cases e;exact fun σ' F' H' En z=>q _ F' H' En.ext (by simp [Is])
    | bk g=>cases e
    | ct g=>cases e
  ·cases e
theorem zq{k k':Nat}{x:Str}{p:Pos}{m:List D→Option D}(C:Callee X.prog X.w X.K X.mg X.base k x m)(hr:Room k' X.A)(hk:k≤k')(hg:Gl X x) 
  (ha:EA X (e::es) fs) (hdb:(x == ("__debug__":Str))=false:=by decide) (he:starEach (e::es) X.env=(false,eval e X.env)::starEach es X.env:=by rfl) (hpl:(backTo pos (starEach es X.env)).any (·.1)=false:=by rfl) :
  EE X (.Call (.Name x p) (e::es) [] pos) (xFn m fs):=by
 obtain ⟨fa,fd,ps,Fn,hm,hkp,hb⟩:=C.ex
 exact zbN Fn (hr.mono hk) hg hm hkp hb ha hdb he hpl
def vi(ds:List D):List D:=(List.range ds.length).map fun (k:Nat)=>D.tup [.int (k:Int),ds.getD k .non]
def xEn(fs:G→Option (List B)):G→Option (List D):=fun Γ=>(fs Γ).bind fun bs=>match bs with
 | [.d (.tup ds)]=>some (vi ds)
 | _=>none
theorem X4{p tp:Pos}{elts:List Expr}{k:Nat}(hg:Gl X "enumerate")(hm:X.mg "enumerate"=none)(ha:EA X [a] fs)(hs:starEach [a] X.env=[(false,eval a X.env)]:=by rfl):
  EI X (.Tuple elts k tp) (.Call (.Name "enumerate" p) [a] [] pos) (xEn fs):=YN (QX hg hm ha hs) fun σ H R ⟨F0,H0,F,Γ,ds,En,e,q⟩=>by
 obtain ⟨bs,hb,e⟩:=bind_some e
 refine ⟨F0,H0,F,Γ,bs,En,hb,fun vs F1 H1 e1 r1=>?_⟩
 match bs,e,r1 with
 | [.d (.tup ds)],e,r1 =>
  cases e
  obtain ⟨v,rfl,hv⟩:=Zn r1
  have hv':Is X.K F1 (.tup ds) v:=hv
  simp only [Is] at hv'
  obtain ⟨l,us,rfl,hf,ra⟩:=hv'
  refine ⟨l,rfl,⟨us,SqT.of (e1.fh _ _ hf)⟩,q _ F1 H1 e1 fun i F2 H2 s1 s2=>?_⟩
  have hq:SqT X.K H2 l us:=SqT.of (s2 _ _ (s1 _ _ hf))
  refine ⟨fun d hd=>?_,fun hl=>⟨us,hq,by rw [ra.length];simpa [vi] using hl⟩⟩
  have hlt:i < ds.length:=by
   have:=(List.getElem?_eq_some_iff.mp hd).1
   simpa [vi] using this
  obtain ⟨u,hu,hi⟩:=ra.get (i:=i) (d:=ds[i]) (by simp [hlt])
  have hd':d=.tup [.int (i:Int),ds[i]]:=by
   have:(vi ds)[i]?=some (.tup [.int (i:Int),ds[i]]):=by
    simp [vi,List.getElem?_map,List.getElem?_range hlt,List.getD,hlt]
   rw [this] at hd;cases hd;rfl
  subst hd'
  refine ⟨⟨us,u,hq,hu⟩,fun x H' y=>?_⟩
  obtain ⟨T,v,hT,rfl,rfl,y⟩:=y
  have:=y us hq
  rw [hu] at this;cases this
  refine ⟨upd F2 T (.tup [.int i,u]),.fix s2 hT _,?_⟩
  simp only [Is]
  exact ⟨T,_,rfl,yj,.cons wX (.cons (hi.mono (s1.trans (yn (s2.free hT) _))) .nil)⟩
end
section
variable {X:Cx} {pins:List (Addr×Obj)} {σ:St} {F H:Hp} {s:Shared} {a b c e tg iter elt:Expr} {f g h:G→Option B} {pos:Pos} {es:List Expr} {fs:G→Option (List B)} {tf:G→Option Bool}
theorem zbU{K:PySem.W.Frag}{fl:G→Option (List D)}{σ:St}{H:Hp}{Q:VK}:dE K (xL fl) σ H Q→dL K fl σ H Q:=fun hh48'=>by
 obtain ⟨F0,H0,F,Γ,z,E,e,q⟩:=hh48'
 unfold xL at e
 cases hx:fl Γ with
 | none=>rw [hx] at e;cases e
 | some ds =>
  rw [hx] at e;cases e
  refine ⟨F0,H0,F,Γ,ds,E,hx,fun a vs F1 H1 e1 hn hf hh r1=>q _ (upd F1 a (.lst vs)) H1 ?_ ?_⟩
  ·exact (Ext.freeze e1 hn hf hh)
  ·show Is _ _ (.lst ds) _
   simp only [Is]
   exact ⟨a,vs,rfl,yj,r1.mono (yn hf _)⟩
theorem Qc{ifs:List Expr}{scope:Scope}{N:List Str}{src:G→Option (List D)}{ms:List (Option Nat)}{is:List Nat}{t:D→G→Option G}{cond:G→Option Bool}{el:G→Option B}{i:Nat}{y:Str}{py spos:Pos} 
  (hc:X.calm=true) (ok:CompOk X.env.scope X.N scope N ms) (hi:EC X tg iter src) (hb:Blk X scope N tg ifs elt is t cond el) (nd:∀(i k j:Nat),ms[i]?=some (some j)→ms[k]?=some (some j)→i=k) (fr:∀j∈is,∀k,ms[j]?≠some (some k))
  (hN:X.N.Nodup) (hy:X.N[i]?=some y) (hx:Loc X.env.scope y) (hsw:swapsWith (.ListComp elt [⟨tg,iter,ifs,0⟩] scope pos) (some (.Name y py)) spos.line X.env=pure true:=by rfl)
  (hf:X.fn y=true∨X.env.scope.names.lookup y=some .local:=by first|exact .inl rfl|exact .inr rfl|assumption)
  (hs:∀x,foldedSetIterable iter X.env x=pure x:=by intro _;rfl):SD X (.Assign [.Name y py] (.ListComp elt [⟨tg,iter,ifs,0⟩] scope pos) spos) (ya i (xL (xH src ms t cond el))) :=
 xb (VC (g:=dGs X.K is t) (tf:=dT X.K cond) (te:=dE X.K el) hc ok hi hb.go hN hy hx hsw hf hs) fun E σ H q=>by
  have q':=VH (X:=X) q
  exact X3 nd fr (zbU q')
def zdd(ms:List (Option Nat)):Bool:=(List.range ms.length).all fun i=>(List.range ms.length).all fun k=>decide (i=k) || decide (ms[i]?=some none) || decide (ms[i]?≠ms[k]?)
theorem wv{ms:List (Option Nat)}(h:zdd ms=true)(i k j:Nat)(e1:ms[i]?=some (some j))(e2:ms[k]?=some (some j)):i=k:=by
 have l1:=(List.getElem?_eq_some_iff.mp e1).1
 have l2:=(List.getElem?_eq_some_iff.mp e2).1
 have q:=List.all_eq_true.mp (List.all_eq_true.mp h i (List.mem_range.mpr l1)) k (List.mem_range.mpr l2)
 simp only [Bool.or_eq_true,decide_eq_true_eq] at q
 rcases q with (q|q)|q
 ·exact q
 ·rw [e1] at q;cases q
 ·exact absurd (e1.trans e2.symm) q
def zde(is:List Nat)(ms:List (Option Nat)):Bool:=is.all fun j=>decide (ms[j]?=some none)
theorem ww{is:List Nat}{ms:List (Option Nat)}(h:zde is ms=true)(j:Nat)(hj:j∈is)(k:Nat):ms[j]?≠some (some k):=fun e=>by
 have q:=of_decide_eq_true (List.all_eq_true.mp h j hj)
 rw [e] at q;cases q
theorem zbV{P:Program}{w:World}{K:PySem.W.Frag}{mg:Str→Option Value}{base:Heap}{k:Nat}{x:Str}{st:Stmt}{fa:Addr}{fd:FuncData}{N ps:List Str}{f:G→Option Out}(Fn:Fun K x x st fa fd)(S:FnScope N ps (zr st)) 
  (body:∀(cdv:Value) (A:Around) (outer:List Env) (s:Shared) (H:Hp) (E:XK),Room k (A.deeper (envOfC x (zr st) s.heap.objs.size fa cdv))→SDs (w4 CX0 P w K mg base N x (zr st) fa cdv A outer s H E).nox (vz st) f) :
  FnOk P w K mg base CX0 (k+1) fa fd ps (spD K (mir ps.length N.length f)):=by
 refine Fn.ok S (fun vs H Q E ⟨F,ds,d,sm,r,e,q⟩=>?_) (fun cdv A outer s H vs Q E hr ⟨F,ds,d,sm,r,e,q⟩=>⟨_,body cdv A outer s H E hr,?_⟩)
 ·unfold mir at e
  split at e
  ·rename_i h;rw [r.length];exact h
  ·cases e
 ·unfold mir at e
  split at e
  ·cases ho:f (zh N.length ds) with
   | none=>rw [ho] at e;cases e
   | some o =>
    rw [ho] at e
    refine ⟨F,H,F,zh N.length ds,o,Xg sm r,ho,?_⟩
    cases o with
    | rt d'=>cases e;exact fun v F' H' ex hv=>q v F' H' ex hv
    | nx g=>cases e;exact fun σ' F' H' En z=>q _ F' H' En.ext (by simp [Is])
    | bk g=>cases e
    | ct g=>cases e
  ·cases e
theorem zbW{K:PySem.W.Frag}{m:List D→Option D}{H:Hp}{p:Addr}{ns:List Int}(hS:SqL K H p (ns.map V.int))(h:m [.scr ns]=some (.bl true)):spD K m [.ref p] H (fun v _=>v=.bl true) fun _ _ _=>False :=
 ⟨H,[.scr ns],.bl true,zV.refl _,.cons (by simp only [Is];exact ⟨p,rfl,hS⟩) .nil,h,fun v F' H' _ r=>by simpa [Is] using r⟩
structure GlobT (K:PySem.W.Frag) (mg:Str→Option Value) (x:Str) (ds:List D):Prop where
 ex:∃p vs,mg x=some (.ref p)∧(∀H,SqT K H p vs)∧∀F,Are K F ds vs
theorem XF{K:PySem.W.Frag}{mg:Str→Option Value}{x:Str}{p:Addr}{dd:Option Addr}{its:Array Value}{n:Nat}{sl:Array (Option Value)}(xs:List Str)(hm:mg x=some (.ref p))(hl:K.lookup p=some ⟨.type "tuple",dd,.seq its n,sl⟩)(hz:its.size≤sizeLine)(hv:z6 (xs.map V.str) its.toList):GlobT K mg x (xs.map D.str) :=
 ⟨p,xs.map V.str,hm,fun H=>.inr ⟨_,its,n,hl,rfl,rfl,hz,hv⟩,fun F=>by
  induction xs with
  | nil=>exact .nil
  | cons y r ih=>exact .cons (by simp [Is]) (by
   have:∀zs:List Str,Are K F (zs.map D.str) (zs.map V.str):=fun zs=>by
    induction zs with
    | nil=>exact .nil
    | cons a b ih2=>exact .cons (by simp [Is]) ih2
   exact this r)⟩
def xG(ds:List D):G→Option B:=fun _=>some (.c ds)
theorem VL{x:Str}{ds:List D}{p:Pos}(T:GlobT X.K X.mg x ds)(hg:Gl X x)(hd:(x == ("__debug__":Str))=false:=by decide):EE X (.Name x p) (xG ds):=by
 obtain ⟨q,vs,hm,h1,h2⟩:=T.ex
 exact yo (zO (v:=.ref q) hg hm rfl hd) fun σ H Q ⟨F0,H0,F,Γ,z,E,e,k⟩=>by cases e;exact k _ F H (.refl E.fh) ⟨q,vs,rfl,h1 H,h2 F⟩
theorem xB{k:Nat}{A:Around}(r:Room k A):A.units+128 < cLine:=by have:=r.un;omega
def w5(f:G→Option B):G→Option B:=fun Γ=>(f Γ).bind fun b=>b.int.map fun i=>.d (.int (-i))
theorem wx(ha:EE X a f):EE X (.UnaryOp .USub a pos) (w5 f):=yo (zc3 zby ha) fun σ H Q hh49'=>by
 obtain ⟨F0,H0,F,Γ,z,E,e,q⟩:=hh49'
 obtain ⟨x,hx,e⟩:=bind_some e
 obtain ⟨i,hi,rfl⟩:=map_some e
 exact ⟨F0,H0,F,Γ,x,E,hx,fun v F1 H1 e1 r1=>⟨i,v7 hi r1,q _ F1 H1 e1 (wX (K:=X.K) (F:=F1))⟩⟩
theorem Q4:OpR X (binaryOp .Add) (fun x y H Q=>∃p q ys,x=.ref p∧y=.ref q∧SqT X.K H p []∧SqT X.K H q ys∧Q (.ref q) H):=by
 intro pins s σ H x y v u Q I rx ry h
 obtain ⟨p,q,ys,rfl,rfl,hp,hq,k⟩:=h
 cases rx
 cases ry
 obtain ⟨its,r1,p1,_⟩:=I.tuple hp
 obtain ⟨its2,r2,p2,_⟩:=I.tuple hq
 cases r1
 obtain ⟨⟨cls,dd,data,sl⟩,ho,hc,n,hd⟩:=id p1
 obtain ⟨⟨cls2,dd2,data2,sl2⟩,ho2,hc2,n2,hd2⟩:=id p2
 simp only at hc hd hc2 hd2
 subst hc hd hc2 hd2
 exact concat_meets ⟨_,ho,rfl⟩ ⟨_,ho2,rfl⟩ noFill_tuple_add seq_tuple_add PySem.F.slot_tuple_add PySem.F.entry_tuple_add (PySem.F.args_tuple_add_2 _ _)
  (tuple_addW0 p q #[] its2.toArray n n2 dd dd2 sl sl2 rfl) ⟨ho,ho2,⟨.ref q,H,I,rfl,k⟩⟩
def XG(K:PySem.W.Frag):R2:=fun x y H Q=>J3 K x y H Q∨(∃p q ys,x=.ref p∧y=.ref q∧SqT K H p []∧SqT K H q ys∧Q (.ref q) H)
theorem Q5:OpR X (binaryOp .Add) (XG X.K):=zaG.or Q4
theorem zaS{K:PySem.W.Frag}:OpB K (XG K) YM:=fun F H x y v u d Q sm hx hy e q=>by
 have key:∃a b,x=.d (.tup a)∧y=.d (.tup b):=by
  cases x with
  | d w =>
   cases w with
   | tup a =>
    cases y with
    | d w=>cases w with
     | tup b=>exact ⟨a,b,rfl,rfl⟩
     | _=>cases e
    | _=>cases e
   | _=>cases e
  | _=>cases e
 obtain ⟨a,b,rfl,rfl⟩:=key
 ·unfold YM at e
  simp only at e
  by_cases hz:a.length+b.length≤sizeLine
  ·rw [if_pos hz] at e;cases e
   have hx':Is K F (.tup a) v:=hx
   have hy':Is K F (.tup b) u:=hy
   have hx2:=hx'
   have hy2:=hy'
   simp only [Is] at hx' hy'
   obtain ⟨p,vs,rfl,hp,r1⟩:=hx'
   obtain ⟨p2,us,rfl,hp2,r2⟩:=hy'
   by_cases ha:a=[]
   ·subst ha
    have:=r1.inv0;subst this
    exact .inr ⟨p,p2,us,rfl,rfl,SqT.of (sm _ _ hp),SqT.of (sm _ _ hp2),q _ F H (.refl sm) hy2⟩
   ·have hv:vs≠[]:=fun z=>ha (by have:=r1.length;rw [z] at this;exact List.length_eq_zero_iff.mp this.symm)
    refine .inl ⟨p,p2,vs,us,rfl,rfl,SqT.of (sm _ _ hp),SqT.of (sm _ _ hp2),hv,by rw [r1.length,r2.length];exact hz,fun z=>?_,fun z l hl=>q _ (upd F l (.tup (vs++us))) _ (.fix sm hl _) ?_⟩
    ·subst z
     have hb:b=[]:=List.length_eq_zero_iff.mp (by rw [←r2.length];rfl)
     subst hb
     rw [List.append_nil] at q
     exact q _ F H (.refl sm) hx2
    ·simp only [Is]
     exact ⟨l,_,rfl,yj,(r1.append r2).mono (yn (sm.free hl) _)⟩
  ·rw [if_neg hz] at e;cases e
def zP:=mOr Xy (mOr YM XA)
theorem zm:OpR X (binaryOp .Add) (fun x y H Q=>rI0 (fun i j=>.int (i+j)) x y H Q∨(XG X.K x y H Q∨VZ x y H Q)):=zbx.or (Q5.or zbJ)
theorem zn{K:PySem.W.Frag}:OpB K (fun x y H Q=>rI0 (fun i j=>.int (i+j)) x y H Q∨(XG K x y H Q∨VZ x y H Q)) zP:=zaN.or (zaS.or zaO)
end
end DD
namespace L2
open PySem PySem.Spec PyProof.Rows
section
variable {κ:Type} [DecidableEq κ]
end
section
variable {P:Program} {w:World} {H:Hp} {h:Heap} {a:Addr}
end
section
variable {X:Cx} {pins:List (Addr×Obj)} {σ:St} {H:Hp} {s:Shared} {a:Addr} {y v:V} {u r:Value} {o:Option V} {A:Around} {E:Value→Shared→Prop}
end
section
variable {X:Cx} {pins:List (Addr×Obj)} {σ:St} {H:Hp} {s:Shared} {a:Addr} {kvs:List (Key×V)} {k:Key} {u:Value} {A:Around} {E:Value→Shared→Prop}
end
section
variable {X:Cx} {o i e value:Expr} {pos pos' tpos:Pos} {td ty tv:TE}
end
section
variable {X:Cx} {pos:Pos}
end
section
variable {X:Cx} {pins:List (Addr×Obj)} {σ:St} {H:Hp} {s:Shared} {a:Addr} {y d:V} {u r:Value} {o:Option V} {A:Around} {E:Value→Shared→Prop}
end
section
variable {X:Cx} {o e f:Expr} {apos cpos:Pos} {td ty tx:TE}
end
section
variable {X:Cx} {pins:List (Addr×Obj)} {σ:St} {H:Hp} {s:Shared} {a:Addr} {kvs:List (Key×V)} {A:Around} {E:Value→Shared→Prop}
end
section
variable {X:Cx} {pins:List (Addr×Obj)} {σ:St} {H:Hp} {s:Shared} {a:Addr} {y:V} {u:Value} {A:Around} {E:Value→Shared→Prop}
end
end L2
namespace L2
open PySem PySem.Spec PyProof.Rows
section
variable {X:Cx}
end
section
variable {κ:Type} [DecidableEq κ]
end
end L2
namespace DD
open PySem PySem.Spec L2
open PyProof.Rows hiding St
section
variable {K:PySem.W.Frag} {F H:Hp}
end
section
variable {X:Cx} {a b c e:Expr} {f g h:G→Option B} {pos:Pos} {es:List Expr} {fs:G→Option (List B)}
end
end DD
namespace DD
open PySem PySem.Spec L2
open PyProof.Rows hiding St
open PySem.SeqAt (shaped compareEq_shaped compareNe_shaped canLay_of_shaped room_of_shaped eqAt_reads)
section
variable {X:Cx} {a b c e:Expr} {f g h:G→Option B} {pos:Pos} {es:List Expr} {fs:G→Option (List B)}
def dO(K:PySem.W.Frag)(f:G→Option (Option Int)):TO:=fun σ H Q=>∃F0 H0 F Γ z,EnvIs K F0 H0 F H σ Γ∧f Γ=some z∧∀F' H',Ext F H F' H'→Q z H'
def EO(X:Cx)(e:Option Expr)(f:G→Option (Option Int)):Prop:=PO X e (dO X.K f)
def Yv:G→Option (Option Int):=fun _=>some none
def xP(f:G→Option B):G→Option (Option Int):=fun Γ=>(f Γ).bind fun b=>b.int.map some
theorem VM{o:Option Expr}{t t':TO}(h:PO X o t)(w:∀σ H Q,t' σ H Q→t σ H Q):PO X o t':=fun pins s σ H Q I q=>h pins s σ H Q I (w σ H Q q)
theorem ZE:EO X none Yv:=VM zaE fun σ H Q ⟨F0,H0,F,Γ,z,E,e,q⟩=>by cases e;exact q F H (.refl E.fh)
theorem uK(h:EE X e f):EO X (some e) (xP f):=VM (zaF h) fun σ H Q hh50'=>by
 obtain ⟨F0,H0,F,Γ,z,E,e,q⟩:=hh50'
 obtain ⟨x,hx,e⟩:=bind_some e
 obtain ⟨i,hi,rfl⟩:=map_some e
 exact ⟨F0,H0,F,Γ,x,E,hx,fun v F1 H1 e1 r1=>⟨i,v7 hi r1,q F1 H1 e1⟩⟩
def Yw(ds:List D)(lo hi:Option Int):List D:=(ds.drop (HT.sIx ds.length 0 lo)).take (HT.sIx ds.length ds.length hi - HT.sIx ds.length 0 lo)
def ZF(ds:List D)(lo hi:Option Int):Bool:=decide (HT.sIx ds.length 0 lo=0) && decide (HT.sIx ds.length ds.length hi=ds.length)
def slB:B→Option Int→Option Int→Option D
 | .d (.tup ds),lo,hi=>if ZF ds lo hi=true then none else some (.tup (Yw ds lo hi))
 | .d (.lst ds),lo,hi=>some (.lst (Yw ds lo hi))
 | .l ds,lo,hi=>some (.lst (Yw ds lo hi))
 | _,_,_=>none
def xSl(f:G→Option B)(fl fh:G→Option (Option Int)):G→Option B:=fun Γ=>(f Γ).bind fun x=>(fl Γ).bind fun lo=>(fh Γ).bind fun hi=>(slB x lo hi).map B.d
theorem VN{K:PySem.W.Frag}{F:Hp}{ds:List D}{vs:List V}{lo hi:Option Int}(r:Are K F ds vs):Are K F (Yw ds lo hi) (Zq vs lo hi):=by
 unfold Yw Zq
 rw [r.length]
 exact (r.drop _).take _
theorem Xh{lo hi:Option Expr}{fl fh:G→Option (Option Int)}{p2:Pos}(he:EE X e f)(hl:EO X lo fl)(hh:EO X hi fh):EE X (.Subscript e (.Slice lo hi none p2) pos) (xSl f fl fh) :=
 yo (QS (zaH.or zbE) he hl hh) fun σ H Q hh51'=>by
  obtain ⟨F0,H0,F,Γ,z,E,e,q⟩:=hh51'
  obtain ⟨x,hx,e⟩:=bind_some e
  obtain ⟨l,hl,e⟩:=bind_some e
  obtain ⟨u,hu,e⟩:=bind_some e
  obtain ⟨d,hd,rfl⟩:=map_some e
  refine ⟨F0,H0,F,Γ,x,E,hx,fun v F1 H1 e1 r1=>⟨F0,H0,F1,Γ,l,E.grow e1,hl,fun F2 H2 e2=>⟨F0,H0,F2,Γ,u,(E.grow e1).grow e2,hu,fun F3 H3 e3=>?_⟩⟩⟩
  have r3:BIs X.K F3 H3 x v:=(r1.ext e2).ext e3
  have e123:=(e1.trans e2).trans e3
  have lst:∀{ds:List D},x.lst=some ds→d=.lst (Yw ds l u)→(zbH X.K v l u H3 Q∨zbD X.K v l u H3 Q):=fun {ds} h1 h2=>by
   obtain ⟨p,vs,rfl,hp,ra⟩:=v6 e3.fh h1 r3
   refine .inl ⟨p,vs,rfl,SqL.of hp,fun q' hq'=>q _ (upd F3 q' (.lst (Zq vs l u))) _ (e123.trans (.fix e3.fh hq' _)) ?_⟩
   subst h2
   show Is _ _ (.lst _) _
   simp only [Is]
   exact ⟨q',_,rfl,yj,(VN ra).mono (yn (e3.fh.free hq') _)⟩
  cases x with
  | d w =>
   cases w with
   | tup ds =>
    unfold slB at hd
    simp only at hd
    by_cases hw:ZF ds l u=true
    ·rw [if_pos hw] at hd;cases hd
    ·rw [if_neg hw] at hd;cases hd
     have r3':Is X.K F3 (.tup ds) v:=r3
     simp only [Is] at r3'
     obtain ⟨p,vs,rfl,hp,ra⟩:=r3'
     refine .inr ⟨p,vs,rfl,SqT.of (e3.fh _ _ hp),fun hz=>hw ?_,fun q' hq'=>q _ (upd F3 q' (.tup (Zq vs l u))) _ (e123.trans (.fix e3.fh hq' _)) ?_⟩
     ·unfold ZF
      rw [ra.length] at hz
      rw [decide_eq_true hz.1,decide_eq_true hz.2];rfl
     ·show Is _ _ (.tup _) _
      simp only [Is]
      exact ⟨q',_,rfl,yj,(VN ra).mono (yn (e3.fh.free hq') _)⟩
   | lst ds=>exact lst rfl (by cases hd;rfl)
   | _=>cases hd
  | l ds=>exact lst rfl (by cases hd;rfl)
  | _=>cases hd
def wo:B→B→Option D:=fun x y=>x.lst.bind fun ds=>(Zs y).bind fun q=>if shaped q=true∧(toPs ds).all shaped=true then ((toPs ds).findIdx? fun p=>PyData.eqv p q).map fun (j:Nat)=>.int (j:Int) else none
def Qd(K:PySem.W.Frag):V→List V→Hp→VK→Prop:=fun x vs H Q=>∃F l ds ws y q j,x=.ref l∧vs=[y]∧zV F H∧H l=some (.lst ws)∧Are K F ds ws∧RP K H y q∧shaped q=true∧(∀p∈toPs ds,shaped p=true)∧(toPs ds).findIdx? (fun p=>PyData.eqv p q)=some j∧Q (.int (j:Nat)) H
theorem X5{h:Heap}{q:PyData}:∀{ps:List PyData} {us:List Value} {as:List Addr},ReadsAll h us ps as→(∀p∈ps,shaped p=true)→us.length=ps.length∧∀(i:Nat) (h1:i < us.length) (h2:i < ps.length),eqR h q us[i]=PyData.eqv ps[i] q
 | [],_,_,.nil,_=>⟨rfl,fun i h1=>absurd h1 (by simp)⟩
 | p::ps,_,_,.cons r t,c=>by
  obtain ⟨h1,h2⟩:=X5 (q:=q) t fun p' hp=>c p' (List.mem_cons_of_mem _ hp)
  refine ⟨by simp [h1],fun i a b=>?_⟩
  cases i with
  | zero=>exact W5 r (canLay_of_shaped (c p List.mem_cons_self))
  | succ i=>exact h2 i (by simpa using a) (by simpa using b)
theorem ux(hu:X.A.units+128 < cLine):MtM X "list.index" (Qd X.K):=by
 rintro pins s σ H x vs v us Q I rx rv ⟨F,l,ds,ws,y,q,j,ex,ey,sm,hl,ra,⟨F',b,sm',e,hb⟩,sq,sp,hj,hq⟩
 subst ex
 subst ey
 cases rx
 obtain ⟨u,rfl,ru⟩:=rv.one
 have hu1:X.A.in1.units+64 < cLine:=by show X.A.units+1+64 < cLine;omega
 obtain ⟨z,its,n,r,hlen,eo⟩:=I.lstM hl
 obtain ⟨bs,rb⟩:=vX I sm' e hb ru (canLay_of_shaped sq)
 obtain ⟨as,rs⟩:=reads_Ds I sm ds ra r (Xf sp)
 obtain ⟨g1,g2⟩:=X5 (q:=q) rs sp
 obtain ⟨hjlt,hjt,hjn⟩:=List.findIdx?_eq_some_iff_getElem.mp hj
 have hjl:j < its.length:=by omega
 rw [sizeLine_eq] at z
 refine call_meets PySem.F.slot_list_index ⟨_,eo,rfl⟩ PySem.F.entry_list_index (PySem.F.args_list_index_2 _ _)
  (SeqAt.list_indexAt l its.toArray n none #[] u (eqR s.heap q) j (by simpa using hjl) (by omega) (by simp;rw [g2 j hjl hjlt];exact hjt) (fun m hm hlt=>by
   have hm':m < its.length:=by simpa using hm
   simp
   rw [g2 m hm' (by omega)]
   have:=hjn m hlt
   simpa using this)) ⟨eo,fun y hy=>?_,?_⟩
 ·exact ZC rb sq hu1 rs sp y (by simpa using hy)
 ·exact ⟨.int j,H,I.tok _,⟨_,rfl⟩,hq⟩
theorem u0{apos cpos:Pos}(h1:PE X (.Call (.Attribute a "index" apos) [e] [] cpos) (tBM X.K "list" (Qd X.K) (dE X.K f) (Xq (dE X.K g) WX))):EE X (.Call (.Attribute a "index" apos) [e] [] cpos) (x2 wo f g) :=
 yo h1 fun σ H Q hh52'=>by
  obtain ⟨F0,H0,F,Γ,z,E,e,q⟩:=hh52'
  obtain ⟨x,y,d,hx,hy,hd,rfl⟩:=uZ e
  obtain ⟨ds,hds,hd1⟩:=bind_some hd
  obtain ⟨p,hp,hd2⟩:=bind_some hd1
  by_cases hz:shaped p=true∧(toPs ds).all shaped=true
  ·rw [if_pos hz] at hd2
   obtain ⟨j,hj,rfl⟩:=map_some hd2
   refine ⟨F0,H0,F,Γ,x,E,hx,fun v F1 H1 e1 r1=>?_⟩
   obtain ⟨l,ws,rfl,hl,ra⟩:=v6 e1.fh hds r1
   refine ⟨.inl ⟨rfl,ws,SqL.of hl⟩,F0,H0,F1,Γ,y,E.grow e1,hy,fun u F2 H2 e2 r2=>?_⟩
   exact ⟨F2,l,ds,ws,u,p,j,rfl,rfl,e2.fh,e2.hh _ _ hl,ra.mono e2.ff,⟨F2,y,e2.fh,hp,r2⟩,hz.1,fun p hp=>List.all_eq_true.mp hz.2 p hp,hj,q _ F2 H2 (e1.trans e2) (wX (K:=X.K) (F:=F2))⟩
  ·rw [if_neg hz] at hd2;cases hd2
end
end DD
namespace HT
open PySem PyProof.Rows
open PySem.SeqAt
open PySem.AutoSeq1 (wpAny_loadPart')
open PySem.MeetsSeq PySem.MeetsSeq2 PySem.MeetsSeq3
end HT
namespace L2
open PySem PySem.Spec PyProof.Rows
section
variable {X:Cx}
end
end L2
namespace DD
open PySem PySem.Spec L2
open PyProof.Rows hiding St
open PySem.SeqAt (shaped compareEq_shaped compareNe_shaped canLay_of_shaped room_of_shaped eqAt_reads)
section
variable {X:Cx} {pins:List (Addr×Obj)} {σ:St} {F H:Hp} {s:Shared}
end
section
variable {X:Cx} {a b c e f':Expr} {f g h:G→Option B} {pos:Pos} {es:List Expr} {fs:G→Option (List B)}
end
end DD
namespace L2
open PySem PySem.Spec PyProof.Rows
theorem xf.ex{P:Program}{w:World}{H:Hp}{h:Heap}{a:Addr}{o:HO}(x:xf P w H h a o):∃ob,h.get? a=some ob:=by
 cases o with
 | lst xs=>obtain ⟨_,_,_,_,e⟩:=x;exact ⟨_,e⟩
 | tup xs=>obtain ⟨_,_,_,o,e,_⟩:=x;exact ⟨_,e⟩
 | dK kvs=>obtain ⟨_,_,_,_,o,_,_,e,_⟩:=x;exact ⟨_,e⟩
 | dT kvs=>obtain ⟨_,_,_,_,o,_,_,e,_⟩:=x;exact ⟨_,e⟩
 | set S n=>obtain ⟨o,_,_,_,e,_⟩:=x;exact ⟨_,e⟩
 | ins C dx fs=>obtain ⟨_,_,_,e,_⟩:=x;exact ⟨_,e⟩
 | own y=>obtain ⟨_,e⟩:=x;exact ⟨_,e⟩
 | xd fs=>obtain ⟨_,⟨_,_,_,e,_⟩,_⟩:=x;exact ⟨_,e⟩
 | rng lo hi=>obtain ⟨_,_,_,e⟩:=x;exact ⟨_,e⟩
 | frz ob u=>obtain ⟨e,_⟩:=x;exact ⟨_,e⟩
 | tbl ps=>exact ⟨_,(show h.get? a=some _ from x)⟩
 | met f y=>exact ⟨_,(show h.get? a=some _ from x)⟩
 | ext φ=>obtain ⟨_,⟨_,e⟩,_⟩:=x;exact ⟨_,e⟩
structure FlyS (P:Program) (w:World) (C:Addr) (outer:List Env) (H:Hp) (s:Shared) (e:Value) (s':Shared) (a:Addr) (H':Hp) (B:Heap) (a0:Value):Prop where
 ee:e=.ref a
 same:zV H H'
 os:s'.os=s.os
 bare:AllBare s'.gens
 un:Un (frs outer) [] H H' s.heap s'.heap
 hok:HOk P w H' s'.heap
 fly:Heap.FlyingW B outer a (.ref C) a0 s'.heap
 old:∀b o,s.heap.get? b=some o→H b=none→b ∉ frs outer→B.get? b=some o
 trk:∀b u o,H' b=some u→s'.heap.get? b=some o→B.get? b=some o
def Fly(P:Program)(w:World)(C:Addr):CXT:=fun outer H s _ e s'=>∃a H' B a0,FlyS P w C outer H s e s' a H' B a0
section
variable {P:Program} {w:World} {K:PySem.W.Frag} {mg:Str→Option Value} {base:Heap} {N:List Str} {qual:Str} {scope:Scope} {f C:Addr} {cdv:Value} {A:Around} {outer:List Env} {s₀:Shared} {H₀:Hp} {E:XK}
theorem Qe{pins:List (Addr×Obj)}{σ:St}{H:Hp}{s:Shared}{h₁:Heap}{e:Addr}{vs:List Value}(I:Inv (w4 (Fly P w C) P w K mg base N qual scope f cdv A outer s₀ H₀ E) pins σ H s)(hs:zV H₀ H)(hx:Heap.MadeExcOf s.heap h₁ e (.ref C) vs):
  (w4 (Fly P w C) P w K mg base N qual scope f cdv A outer s₀ H₀ E).xe (.ref e) { s with heap:=h₁ }:=by
 show wpAny (model P w) (A.deeper (envOfC qual scope s₀.heap.objs.size f cdv)) (leaving (envOfC qual scope s₀.heap.objs.size f cdv) (.ref e)) _ _ { s with heap:=h₁ }
 have stk:s.heap.FunFrames base (envOfC qual scope s₀.heap.objs.size f cdv::outer):=I.stack
 have frm:(A.deeper (envOfC qual scope s₀.heap.objs.size f cdv)).frames=some (envOfC qual scope s₀.heap.objs.size f cdv::outer):=I.ok.frames
 have free:∀b∈frs (envOfC qual scope s₀.heap.objs.size f cdv::outer),H b=none:=I.stkFree
 generalize hfr:frs (envOfC qual scope s₀.heap.objs.size f cdv::outer)=fr at free
 have hin:∀env∈(envOfC qual scope s₀.heap.objs.size f cdv::outer),∀b,env.frame=some b→b∈fr:=fun env he b hb=>by rw [←hfr];exact List.mem_filterMap.mpr ⟨env,he,hb⟩
 have sub:∀b∈fr,b=s₀.heap.objs.size∨b∈frs outer:=fun b hb=>by
  rw [←hfr] at hb
  obtain ⟨env,he,hf⟩:=List.mem_filterMap.mp hb
  rcases List.mem_cons.mp he with rfl|he
  ·exact .inl (Option.some.inj hf).symm
  ·exact .inr (List.mem_filterMap.mpr ⟨env,he,hf⟩)
 have nin:∀b o,s₀.heap.get? b=some o→b ∉ frs outer→b ∉ fr:=fun b o q hb z=>by
  rcases sub b z with z|z
  ·exact absurd (Heap.lt_size q) (by rw [z];exact Nat.lt_irrefl _)
  ·exact hb z
 refine wpAny_leaves_madeW (base:=PySem.W.hideAll s.heap fr) (h:=s.heap) frm rfl (fun b o q=>PySem.W.of_hideAll _ q) (PySem.W.funFrames_hide stk hin) hx fun h' t x1 x2 x3 x4=>?_
 have stay:∀b o,b ∉ fr→s.heap.get? b=some o→h'.get? b=some o:=fun b o hb q=>x1.1 b o (PySem.W.hideAll_get _ q hb)
 have slots:∀b o,b∈fr→s.heap.get? b=some o→∃sl,h'.get? b=some { o with slots:=sl }:=fun b o hb q=>by
  have hm:b∈(envOfC qual scope s₀.heap.objs.size f cdv::outer).filterMap (·.frame):=by rw [←hfr] at hb;exact hb
  obtain ⟨_,o',ho',hnf⟩:=stk.mem hm
  rw [q] at ho';cases ho'
  exact x4 b o (hx.keeps b o q) hnf
 have base0:Un (frs outer) [] H₀ H s₀.heap s.heap:=I.base
 refine ⟨e,H,PySem.W.hideAll s.heap fr,.ref t,rfl,hs,I.os,I.bare,⟨fun b o q n hb hx'=>?_,fun b o q n hb hx'=>?_,fun b o q n hx'=>base0.free b o q n hx',fun b o q hx'=>?_,base0.tups,base0.frzs,base0.tbls⟩,fun b u hbu=>?_,x1,fun b o q n hb=>?_,fun b u o hbu q=>?_⟩
 ·exact stay b o (nin b o q hb) (base0.keep b o q n hb hx')
 ·obtain ⟨sl,e1⟩:=base0.slot b o q n hb hx'
  by_cases hf:b∈fr
  ·obtain ⟨sl',e2⟩:=slots b _ hf e1
   exact ⟨sl',e2⟩
  ·exact ⟨sl,stay b _ hf e1⟩
 ·obtain ⟨o',e1⟩:=base0.there b o q hx'
  by_cases hf:b∈fr
  ·obtain ⟨sl',e2⟩:=slots b _ hf e1
   exact ⟨_,e2⟩
  ·exact ⟨o',stay b _ hf e1⟩
 ·refine (I.hok b u hbu).stay (fun c v hc q=>stay c v (fun z=>?_) q) (fun _ q=>q) fun _ _ q=>q
  have:=free c z
  rcases hc with rfl|hc
  ·rw [hbu] at this;cases this
  ·rw [hc] at this;cases this
 ·exact PySem.W.hideAll_get _ (base0.keep b o q n hb (by simp)) (nin b o q hb)
 ·have nf:b ∉ fr:=fun z=>by rw [free b z] at hbu;cases hbu
  obtain ⟨o₁,h1⟩:=(I.hok b u hbu).ex
  have:=stay b o₁ nf h1
  rw [q] at this;cases this
  exact PySem.W.hideAll_get _ h1 nf
end
section
variable {X:Cx} {pins:List (Addr×Obj)} {σ:St} {H:Hp} {s s':Shared} {C a:Addr} {e:Value} {H':Hp} {B h:Heap} {a0:Value}
theorem X6{t':Nat}(I:Inv X pins σ H s)(S:FlyS X.prog X.w C X.stack H s e s' a H' B a0)(hB:B.StaysIn h)(hS:s'.heap.UpToSlots h):Inv X pins σ H' { s' with heap:=h,toks:=t' }:=by
 have stay:∀b o,s.heap.get? b=some o→H b=none→b ∉ frs X.stack→h.get? b=some o:=fun b o q n hb=>hB b o (S.old b o q n hb)
 have slots:∀b o,s.heap.get? b=some o→H b=none→b∈frs X.stack→∃sl,h.get? b=some { o with slots:=sl }:=fun b o q n hb=>by
  obtain ⟨sl,e1⟩:=S.un.slot b o q n hb (by simp)
  obtain ⟨_,o',ho',hnf⟩:=I.stack.mem hb
  rw [q] at ho';cases ho'
  obtain ⟨sl',e2⟩:=hS b _ e1 hnf
  exact ⟨sl',e2⟩
 have tk:∀b u o,H' b=some u→s'.heap.get? b=some o→h.get? b=some o:=fun b u o q1 q2=>hB b o (S.trk b u o q1 q2)
 refine I.call' (s':={ s' with heap:=h,toks:=t' }) (ch:=[]) S.os ⟨fun b o q n hb _=>stay b o q n hb,fun b o q n hb _=>slots b o q n hb,S.un.free,fun b o q hx=>?_,S.un.tups,S.un.frzs,S.un.tbls⟩ (fun b u hbu=>?_) S.bare (fun b z=>absurd z (by simp))
 ·cases n:H b with
  | none =>
   by_cases hb:b∈frs X.stack
   ·obtain ⟨sl,e1⟩:=slots b o q n hb;exact ⟨_,e1⟩
   ·exact ⟨o,stay b o q n hb⟩
  | some u =>
   obtain ⟨o',e1⟩:=S.un.there b o q hx
   exact ⟨o',tk b u o' (S.same b u n) e1⟩
 ·refine (S.hok b u hbu).stay (fun c v hc q=>?_) (fun _ q=>q) fun _ _ q=>q
  rcases hc with rfl|hc
  ·exact tk c u v hbu q
  ·exact tk c _ v hc q
end
end L2
namespace L2
open PySem PySem.Spec PyProof.Rows
theorem zaT{K:PySem.W.Frag}{h:Heap}{C:Addr}{bmB:List Value}{newId:String}(X:K.In h)(q:PySem.W.excIn K C bmB newId=true):
  ∃bm N nm q bs hdct sn sub ab col dd k0 k1 k2 k3 k5 mN,h.get? C=some (excClassObj nm q C N bs bm hdct sn sub ab col dd k0 k1 k2 k3 k5 newId)∧h.Ns N mN∧mN "__init__"=none∧OwnTail h bmB bm:=by
 unfold PySem.W.excIn at q
 split at q
 ·rename_i dd cd sl ho
  split at q
  ·rename_i C' bm k0 k1 k2 k3 n k5 hm hs
   simp only [Bool.and_eq_true,beq_iff_eq,Bool.not_eq_true'] at q
   obtain ⟨⟨⟨⟨⟨rfl,rfl⟩,hdel⟩,ht⟩,hok⟩,hni⟩:=q
   obtain ⟨nm,bs,mro,ns,qn,hd,sn,sub,ab,col,del⟩:=cd
   dsimp only at hm hdel hok hni
   subst hm hdel
   have hsl:sl=#[k0,k1,k2,k3,some (.builtin n),k5]:=by
    obtain ⟨l⟩:=sl
    simp only at hs
    rw [hs]
   subst hsl
   exact ⟨bm,ns,nm,qn,bs,hd,sn,sub,ab,col,dd,k0,k1,k2,k3,k5,_,X _ _ ho,.of_isNs (PySem.W.isNs_of_in X hok),PySem.W.nsMap_none_of_in X hok hni,PySem.W.tail_of_in X ht⟩
  ·cases q
 ·cases q
section
variable {P:Program} {w:World} {K:PySem.W.Frag} {mg:Str→Option Value} {base:Heap} {N:List Str} {qual:Str} {scope:Scope} {f C:Addr} {cdv:Value} {A:Around} {outer:List Env} {s₀:Shared} {H₀:Hp} {E:XK}
theorem Q6{B newId initId:String}{bmB:List Value}{x:Str}{msg:Str}{j:Nat}{np apos cpos pos:Pos}(FB:ExcBaseFacts B newId initId bmB)(hq:PySem.W.excIn K C bmB newId=true) 
  (hg:Gl (w4 (Fly P w C) P w K mg base N qual scope f cdv A outer s₀ H₀ E) x) (hm:mg x=some (.ref C)) (hd:(x == ("__debug__":Str))=false:=by decide) :
  PS (w4 (Fly P w C) P w K mg base N qual scope f cdv A outer s₀ H₀ E) (.Raise (some (.Call (.Name x np) [.Constant (.str msg) j apos] [] cpos)) none pos) (fun _ _ H=>zV H₀ H):=by
 intro pins s σ H D I hs
 obtain ⟨bm,NN,nm,q,bs,hdct,sn,sub,ab,col,dd,k0,k1,k2,k3,k5,mN,hC,hN,hni,T⟩:=zaT I.ok.mod.kin hq
 refine wpAny_Raise_call_subT (C:=C) (nm:=nm) (q:=q) (N:=NN) (bs:=bs) (bm:=bm) (hdct:=hdct) (sn:=sn) (sub:=sub) (ab:=ab) (col:=col) (dd:=dd) (k0:=k0) (k1:=k1) (k2:=k2) (k3:=k3) (k5:=k5)
  FB (mN:=mN) (T.hasType FB.hasBase) (I.ok.hd rfl) rfl hni (ur I hg hm ⟨rfl,?_⟩ hd)
 have hp:=(yf (X:=w4 (Fly P w C) P w K mg base N qual scope f cdv A outer s₀ H₀ E) (US (x:=msg) (j:=j) (pos:=apos)) yx) cpos pins s σ H (fun vs H1=>H1=H∧vs.length≤sizeLine) I (show _ from ⟨rfl,by show 1≤sizeLine;decide⟩)
 refine Calls.evalArgs_plain (wpAny_mono hp (fun us s₂ ⟨vs,H1,I1,r,h1,h2⟩=>?_) fun _ _ y=>y)
 subst h1
 exact ⟨rfl,by rw [←r.length];exact h2,I1.bk _ _ hC,hN.keeps I1.bk,T.keeps I1.bk,fun h' e hm=>Qe I1 hs hm⟩
end
abbrev Cx.marked(X:Cx)(a:Addr)(oe:Obj):Cx:={ X with A:=X.A.mark (some (.ref a)),calm:=false,pn:=(a,oe)::X.pn,xe:=fun _ _=>False }
theorem Cx.Ok.marked{X:Cx}(ok:X.Ok)(a:Addr)(oe:Obj):(X.marked a oe).Ok :=
 ⟨ok.mod,ok.kind,ok.glob,ok.blt,ok.above,ok.inj,ok.has,ok.cab,(fun z=>by cases z),ok.frames,ok.stk,ok.exf,ok.bs,ok.bsz,ok.noex,ok.exfs,ok.funs,ok.frf⟩
section
variable {X:Cx} {pins:List (Addr×Obj)} {σ:St} {H:Hp} {s:Shared}
theorem Inv.marked{a:Addr}{oe:Obj}(I:Inv X pins σ H s)(h1:s.heap.get? a=some oe)(h2:H a=none)(h3:a≠X.env.locals)(h4:a ∉ X.fs)(h5:∀v,oe.data≠.cell v):Inv (X.marked a oe) pins σ H s :=
 ⟨I.ok.marked a oe,I.os,I.bare,I.base,I.loc,I.cell,I.free,I.freeC,fun p hp=>by
  rcases List.mem_cons.mp (show p∈(a,oe)::(X.pn++pins) from hp) with rfl|hp
  ·exact ⟨h1,h2,h3,h4,h5⟩
  ·exact I.pin p hp,I.hok,I.len⟩
theorem Inv.unmarked{a:Addr}{oe:Obj}(I:Inv (X.marked a oe) pins σ H s)(hok:X.Ok):Inv X pins σ H s :=
 ⟨hok,I.os,I.bare,I.base,I.loc,I.cell,I.free,I.freeC,fun p hp=>I.pin p (List.mem_cons_of_mem _ hp),I.hok,I.len⟩
theorem Inv.forget{h':Heap}{t':Nat}{m:Str→Option Value}(I:Inv X pins σ H s)(hs:Heap.SameBut X.env.locals s.heap h')(hn:h'.Ns X.env.locals m):Inv X pins (List.replicate σ.length none) H { s with heap:=h',toks:=t' }:=by
 have keep:∀b o,b≠X.env.locals→s.heap.get? b=some o→h'.get? b=some o:=fun b o hb q=>(hs.2 b hb).trans q
 have neL:∀b o,X.s₀.heap.get? b=some o→b≠X.env.locals:=fun b o e=>Nat.ne_of_lt (Nat.lt_of_lt_of_le (Heap.lt_size e) I.ok.above)
 refine ⟨I.ok,I.os,I.bare,⟨fun b o e n hb hx=>keep b o (neL b o e) (I.base.keep b o e n hb hx),fun b o e n hb hx=>?_,I.base.free,fun b o e hx=>?_,I.base.tups,I.base.frzs,I.base.tbls⟩,⟨m,hn,fun i x v _ e2 _=>?_⟩,fun x c e=>?_,I.free,I.freeC,fun p hp=>?_,fun b u hbu=>?_,?_⟩
 ·obtain ⟨sl,e1⟩:=I.base.slot b o e n hb hx
  exact ⟨sl,keep b _ (neL b o e) e1⟩
 ·obtain ⟨o',e1⟩:=I.base.there b o e hx
  exact ⟨o',keep b o' (neL b o e) e1⟩
 ·rw [List.getElem?_replicate] at e2
  split at e2 <;> cases e2
 ·obtain ⟨v,o,ho,hd⟩:=I.cell x c e
  exact ⟨v,o,keep c o (I.cne x c e) ho,hd⟩
 ·obtain ⟨e,n,ne,nf,d⟩:=I.pin p hp
  exact ⟨keep p.1 p.2 ne e,n,ne,nf,d⟩
 ·refine (I.hok b u hbu).stay (fun c v hc q=>keep c v (fun z=>?_) q) (fun _ q=>q) fun _ _ q=>q
  have:=I.free
  rcases hc with rfl|hc
  ·rw [←z,hbu] at this;cases this
  ·rw [←z,hc] at this;cases this
 ·rw [List.length_replicate];exact I.len
end
end L2
namespace DD
open PySem PySem.Spec L2
open PyProof.Rows hiding St
def spX(K:PySem.W.Frag)(m:List D→Bool):Sp:=fun vs H _ _=>∃F ds,zV F H∧Are K F ds vs∧m ds=true
section
variable {X:Cx}
end
end DD
namespace L2
open PySem PySem.Spec PyProof.Rows PySem.W
section
variable {prog:Program} {w:World} {A:Around} {E:Value→Shared→Prop} {K:PySem.W.Frag} {h:Heap} {g:Array GenState} {d:Drawn} {t:Nat} {os:OsState} {a C:Addr} {oe:Obj}
structure ExcK (K:PySem.W.Frag) (C:Addr):Prop where
 ga:PySem.W.findIn K (.ref C) "__getattribute__"=some (some (.builtin "BaseException.__getattribute__"))
 gn:PySem.W.findIn K (.ref C) "__getattr__"=some none
 ca:PySem.W.findIn K (.ref C) "__class__"=some (some (.builtin "object.__class__"))
 cg:PySem.W.specialIn K (.builtin "object.__class__") "__get__"=some (some (.builtin "getset_descriptor.__get__"))
 tk:PySem.W.takesIn K (.builtin "object.__class__")=some true
 mo:PySem.W.mroIn K C (.type "object")=some true
 sb:PySem.W.subIn K (.ref C) (.type "BaseException")=some true
 cl:(PySem.W.clsIn K C).isSome=true
structure TyAt (h:Heap) (a C:Addr):Prop where
 ex:∃o:Obj,h.get? a=some o∧o.cls=.ref C
theorem TyAt.type{M:Model}(I:TyAt h a C):Looks M h (typeOf (.ref a)) (.ref C):=by
 obtain ⟨o,h1,h2⟩:=I.ex
 exact h2 ▸ (Looks.ld h1).andThen .now
theorem Q7{M:Model}(X:K.In h)(k:ExcK K C):Looks M h (Builtin.ObjectAttr.find (.ref a) (.ref C) "__class__") (.bind (.builtin "getset_descriptor.__get__") (.builtin "object.__class__")):=by
 have L1:=PySem.W.looks_findIn (M:=M) X k.ca
 have L2:Looks M h (Builtin.ObjectAttr.getOf (some (.builtin "object.__class__"))) (some (.builtin "getset_descriptor.__get__")):=PySem.W.looks_specialIn X k.cg
 have L3:=PySem.W.looks_takesIn (M:=M) X k.tk
 refine L1.andThen (L2.andThen ?_)
 exact (show Looks M h (Builtin.ObjectAttr.dataDescriptor? (some (.builtin "object.__class__")) (some (.builtin "getset_descriptor.__get__"))) (some (.builtin "getset_descriptor.__get__",.builtin "object.__class__")) from L3.andThen .now).andThen (Looks.tag .now)
theorem zaU{R:Result→Shared→Prop}{tp:Value}(X:K.In h)(I:TyAt h a C)(hm:PySem.W.mroIn K C (.type "object")=some true) 
  (hq:R (.ok (.ret (.ref C))) ⟨h,g,d,t,os⟩):codeAny (model prog w) A (.call (.builtin "getset_descriptor.__get__") ⟨[.builtin "object.__class__",.ref a,tp],[]⟩) R ⟨h,g,d,t,os⟩:=by
 have L0:=I.type (M:=model prog w)
 have L1:=looks_mroIn (M:=model prog w) X hm
 refine codeAny_call_builtin KF.slot_gs.plain KF.entry_gs (KF.slot_gs.check _ _ _ _ _ _ _ _ KF.type_class (KF.args_gs _ _ _) ?_)
 unfold Builtin.«getset_descriptor.__get__» Builtin.Getset_descriptor.descrGet
 rw [dga_obj]
 refine wpAny_bind (wpAny_pure ?_)
 unfold Builtin.Getset_descriptor.descrGetter Builtin.Getset_descriptor.descrCheckInstance Builtin.Getset_descriptor.descrNameAndClass isInstance
 simp only [KF.owner_class]
 repeat lk
 refine ⟨Code.quiet_builtin _ (by decide +kernel),codeAny_builtin KF.entry_class ?_⟩
 unfold Builtin.«object.__class__» shownTypeOf
 repeat lk
 exact hq
theorem Qf{tk:Tok}{Q:Fin→Shared→Prop}(X:K.In h)(I:TyAt h a C)(k:ExcK K C)(hq:Q (.done (.ret (.ref C))) ⟨h,g,d,t,os⟩):
  wpAny (model prog w) A (Builtin.«object.__getattribute__» ⟨[.ref a,.str "__class__" tk],[]⟩) Q E ⟨h,g,d,t,os⟩:=by
 have L0:=I.type (M:=model prog w)
 have L1:=Q7 (a:=a) (M:=model prog w) X k
 have C1:∀(R:Result→Shared→Prop),R (.ok (.ret (.ref C))) ⟨h,g,d,t,os⟩→codeAny (model prog w) A (.call (.builtin "getset_descriptor.__get__") ⟨[.builtin "object.__class__",.ref a,.ref C],[]⟩) R ⟨h,g,d,t,os⟩:=fun R hR=>zaU X I k.mo hR
 unfold Builtin.«object.__getattribute__»
 repeat (any_goals (first|assumption|(with_reducible refine L0.at ?_)|(with_reducible refine L1.at ?_)|wp_step))
 exact C1 _ (wpAny_pure hq)
theorem Qg{M:Model}{nameV:Value}{Q:Unit→Shared→Prop}(X:K.In h)(I:TyAt h a C)(k:ExcK K C)(hq:Q () ⟨h,g,d,t,os⟩):wpAny M A (checkBuiltinCall "BaseException.__getattribute__" ⟨[.ref a,nameV],[]⟩) Q E ⟨h,g,d,t,os⟩:=by
 have hk:builtinKind "BaseException.__getattribute__"=some .slot:=by decide +kernel
 have hsplit:splitId "BaseException.__getattribute__"=some ("BaseException","__getattribute__"):=by decide +kernel
 have ha:=F.args_bexc_ga (.ref a) nameV
 have L0:=I.type (M:=M)
 have L2:Looks M h (isSubtype (.ref C) (.type "BaseException")) true:=PySem.W.looks_subIn X k.sb
 simp only [checkBuiltinCall,hk,hsplit]
 refine wpAny_bind ?_
 ·unfold isInstance
  repeat (first|(with_reducible refine L0.at ?_)|(with_reducible refine L2.at ?_)|wp_step)
  exact hq
theorem Q8{tk:Tok}{R:Result→Shared→Prop}(X:K.In h)(I:TyAt h a C)(k:ExcK K C)(hq:R (.ok (.ret (.ref C))) ⟨h,g,d,t,os⟩):
  codeAny (model prog w) A (.call (.builtin "BaseException.__getattribute__") ⟨[.ref a,.str "__class__" tk],[]⟩) R ⟨h,g,d,t,os⟩ :=
 codeAny_call_builtin PySem.F.attr_ValueError.ga.plain F.entry_bexc_ga (Qg X I k (Qf X I k hq))
theorem Qh{Q:Option Value→Shared→Prop}(X:K.In h)(I:TyAt h a C)(k:ExcK K C)(hq:Q (some (.ref C)) ⟨h,g,d,t+1,os⟩):
  wpAny (model prog w) A (getAttr? (.ref a) "__class__") Q E ⟨h,g,d,t,os⟩:=by
 have f3:=PySem.F.attr_ValueError.ga.bind (.ref a)
 have L0:=I.type (M:=model prog w)
 have L1:=PySem.W.looks_findIn (M:=model prog w) X k.ga
 have L2:=PySem.W.looks_findIn (M:=model prog w) X k.gn
 have hx2:(Value.builtin "BaseException.__getattribute__" == Value.builtin "object.__getattribute__")=false:=by decide +kernel
 have hx1:(onTheHeap (Value.ref C) && Value.builtin "BaseException.__getattribute__" == Value.builtin "object.__getattribute__")=false:=by rw [hx2];rfl
 unfold getAttr? getAttrBy?
 refine wpAny_bind (wpAny_mkText (wpAny_bind (wpAny_attempt ?_)))
 unfold getAttrBy
 refine wpAny_holding (wpAny_bind (L0.at (wpAny_bind (L1.at ?_))))
 dsimp only
 rw [hx1,if_neg Bool.false_ne_true]
 unfold getAttrByItsOwn
 repeat (any_goals (first|assumption|(with_reducible refine L0.at ?_)|(with_reducible refine L1.at ?_)|(with_reducible refine L2.at ?_)|wp_step))
 exact Q8 X I k (PySem.W.handed_on rfl (wpAny_pure hq))
theorem Q9(k:ExcK K C):PySem.W.KitX K (.ref a) (.ref C) (fun h=>TyAt h a C) where
 ty:=fun _ _ _ I=>I.type
 it:=fun _ _ X _=>by
  obtain ⟨cdD,hcD⟩:=Option.isSome_iff_exists.mp k.cl
  unfold PySem.W.clsIn at hcD
  split at hcD
  ·rename_i c' d' cd' sl' ho
   intro A' Q' E' s' k q
   unfold isType loadHead
   exact wpAny_bind (wpAny_loadPart (k _ _ (X _ _ ho)) (wpAny_pure q))
  ·cases hcD
 ne:=fun h tp dd its n sl X htp=>by
  obtain ⟨cdD,hcD⟩:=Option.isSome_iff_exists.mp k.cl
  refine Bool.eq_false_iff.mpr fun q=>?_
  have e:C=tp:=Value.ref.inj (beq_iff_eq.mp q)
  subst e
  unfold PySem.W.clsIn at hcD
  split at hcD
  ·rename_i c' d' cd' sl' ho
   have z:=(X _ _ ho).symm.trans htp
   cases z
  ·cases hcD
 ca:=fun {_ _ _ _ _ s} X I q=>by
  obtain ⟨h,g,d,t,os⟩:=s
  exact Qh X I k q
end
section
variable {X:Cx}
def zeo(K:PySem.W.Frag)(a C:Addr):List V→Hp→VK→Prop:=fun xs H Q=>∃c u b,xs=[.ref a,c]∧(∀u',yt c u'→u'=u)∧PySem.W.kitOne K (.ref C) u=some b∧Q (.bl b) H
theorem Ja{a C:Addr}{oe:Obj}(k:ExcK X.K C)(hp:(a,oe)∈X.pn)(hc:oe.cls=.ref C):uD X (.builtin "isinstance") (zeo X.K a C):=by
 rintro pins s σ H xs us Q I r ⟨c,u,b,e,hu,hk,q⟩
 subst e
 cases r with
 | cons r1 r2 =>
  cases r2 with
  | cons r2 r3 =>
   cases r3
   cases r1
   have:=hu _ r2
   subst this
   obtain ⟨h1,_⟩:=I.pin (a,oe) (List.mem_append_left _ hp)
   exact PySem.W.kia_one (Q9 k) I.kIn ⟨oe,h1,hc⟩ hk (fun z=>nomatch z) fun tk=>⟨.bl b,H,I.tok tk,rfl,q⟩
end
end L2
namespace L2
open PySem PySem.Spec PyProof.Rows
theorem Ua(l:Addr)(items:Array Value)(n:Nat)(dd:Option Addr)(sl:Array (Option Value))(x:Int)(u:Tok)(h1:¬items.isEmpty=true)(h2:2≤x)(h3:x < 2 ^ 63)(h4:items.size * x.toNat≤sizeLine):
  Meets (Builtin.«tuple.__mul__» ⟨[.ref l,.int x u],[]⟩) (fun _ R s=>s.heap.get? l=some { cls:=.type "tuple",dict:=dd,data:=.seq items n,slots:=sl }∧R (.ok (.ret (Value.ref s.heap.objs.size))) { s with heap:=s.heap.push { cls:=Value.type "tuple",data:=Data.seq (List.foldl (fun x1 x2=>x1++x2) #[] (List.replicate x.toNat items)) },toks:=s.toks }) :=
 .of_wp fun prog w A R s h=>by
  obtain ⟨hp,g,d,tk,os⟩:=s;obtain ⟨hl,h⟩:=h
  have f1:=AutoSeq1.idx_int
  have c1:(decide (x < -(2 ^ 63)) || decide (x ≥ 2 ^ 63))=false:=by simp;omega
  have c2:(items.isEmpty || x == 1)=false:=by
   have:(x == 1)=false:=by simp;omega
   rw [this];simpa using h1
  have c3:(decide (x≤0) || items.isEmpty)=false:=by
   have:decide (x≤0)=false:=by simp;omega
   rw [this];simpa using h1
  have hx:((items.size:Int) * x)=((items.size * x.toNat:Nat):Int):=by
   rw [Int.natCast_mul,Int.toNat_of_nonneg (by omega)]
  have hle:(sizeLine:Nat)≤(2 ^ 63 - 1) / 8:=by decide
  have c4:¬((items.size:Int) * x > (2 ^ 63 - 1) / 8):=by rw [hx];omega
  wp_walk using wpAny_loadPart' hl
  rw [if_neg (by rw [c1];exact Bool.false_ne_true)]
  wp_walk using wpAny_loadPart' hl
  rw [if_neg (by rw [c2];exact Bool.false_ne_true)]
  wp_walk using wpAny_loadPart' hl
  rw [if_neg (by rw [c3];exact Bool.false_ne_true)]
  wp_walk using wpAny_loadPart' hl
  rw [if_neg c4]
  have c5:Builtin.Tuple.tupleTooMany (items.size * x)=false:=by
   unfold Builtin.Tuple.tupleTooMany
   rw [hx]
   exact decide_eq_false (by omega)
  have hsz:(List.foldl (fun x1 x2=>x1++x2) #[] (List.replicate x.toNat items)).size≤sizeLine:=by
   rw [AutoListH.size_joined,Nat.mul_comm];simpa using h4
  wp_walk using wpAny_loadPart' hl
  rw [if_neg (by rw [c5];exact Bool.false_ne_true)]
  wp_walk using wpAny_loadPart' hl
  exact ⟨_,rfl,h⟩
theorem Za:fillsNumberSlot (.type "tuple") "mul"=pure false :=
 PySem.fillsNumberSlot_seq (id:="tuple.__mul__") (r:=some (.builtin "tuple.__rmul__")) F.slot_tuple_mul.lookup (by decide +kernel) F.slot_tuple_rmul.lookup (by decide +kernel)
theorem Yx:seqRepeat? (.type "tuple")=pure (some (.builtin "tuple.__mul__")):=by
 unfold seqRepeat?
 rw [PySem.seqSlot_of (T:="tuple") (name:="__mul__") (id:="tuple.__mul__") F.slot_tuple_mul.lookup (by decide +kernel),PySem.seqSlot_of (T:="tuple") (name:="__rmul__") (id:="tuple.__rmul__") F.slot_tuple_rmul.lookup (by decide +kernel)]
 rfl
theorem ZG(a:Int)(t:Tok)(l:Addr)(items:Array Value)(n:Nat)(dd:Option Addr)(sl:Array (Option Value)):
  Meets (Builtin.«int.__rmul__» ⟨[.int a t,.ref l],[]⟩) (fun _ R s=>s.heap.get? l=some { cls:=.type "tuple",dict:=dd,data:=.seq items n,slots:=sl }∧R (.ok (.ret Value.notImplemented)) s) :=
 .of_wp fun prog w A R s h=>by obtain ⟨hp,g,d,tk,os⟩:=s;obtain ⟨hl,h⟩:=h;wp_walk using wpAny_loadPart' hl;exact ⟨_,rfl,h⟩
section
variable {X:Cx}
def WF(K:PySem.W.Frag):R2:=fun x y H Q=>∃l k xs,x=.ref l∧y=.int k∧SqT K H l xs∧xs≠[]∧2≤k∧k < 2 ^ 63∧xs.length * k.toNat≤sizeLine ∧
 ∀p,H p=none→Q (.ref p) (upd H p (.tup (List.replicate k.toNat xs).flatten))
theorem vY:OpR X (binaryOp .Mult) (WF X.K):=by
 intro pins s σ H x y v u Q I rx ry h
 obtain ⟨l,k,xs,rfl,rfl,hH,hne,h1,h2,hz,q⟩:=h
 cases rx
 obtain ⟨t,rfl⟩:=ry
 obtain ⟨its,r,p1,_⟩:=I.tuple hH
 have hlen:=r.length
 obtain ⟨⟨cls,dd,data,sl⟩,e,hc,n,hd⟩:=id p1
 simp only at hc hd
 subst hc hd
 have hne':¬its.toArray.isEmpty=true:=fun z=>hne (by
  have:its=[]:=by simpa using z
  rw [this] at hlen;exact List.length_eq_zero_iff.mp hlen)
 have hz':its.toArray.size * k.toNat≤sizeLine:=by rw [List.size_toArray,←hlen];exact hz
 have hnew:List.foldl (fun x1 x2=>x1++x2) #[] (List.replicate k.toNat its.toArray)=(List.replicate k.toNat its).flatten.toArray:=by
  have:=Wr its k.toNat []
  rw [List.nil_append] at this
  exact this
 refine wpAny_binaryOp_repeat_ref (T:="tuple") (U:="int") (by decide) ⟨_,e,rfl⟩ (fun s'=>typeIs_int s' k t) Za F.fills_int_mul F.slot_int_rmul Yx F.slot_int_index.lookup
  (call_meets F.slot_int_rmul (typeIs_int s k t) F.entry_int_rmul (F.args_int_rmul_2 _ _) (ZG k t l its.toArray n dd sl)
   ⟨e,rfl,⟨_,e,rfl⟩,call_meets F.slot_tuple_mul ⟨_,e,rfl⟩ F.entry_tuple_mul (F.args_tuple_mul_2 _ _) (Ua l its.toArray n dd sl k t hne' h1 h2 hz') ⟨e,?_⟩⟩)
 rw [hnew]
 have hz2:(List.replicate k.toNat xs).flatten.length≤sizeLine:=by rw [zaI,Nat.mul_comm];exact hz
 have I2:Inv X pins σ (upd H s.heap.objs.size (.tup (List.replicate k.toNat xs).flatten)) { s with heap:=s.heap.push { cls:=.type "tuple",data:=.seq (List.replicate k.toNat its).flatten.toArray } } :=
  I.laid (t':=s.toks) (fun b o e=>Heap.get?_push_of_some _ e) (Nat.le_refl _) (show xf X.prog X.w _ _ _ (.tup _) from ⟨hz2,_,r.rep k.toNat,IsTup.new _ _⟩)
 exact ⟨.ref s.heap.objs.size,_,I2,rfl,q _ (I.hok.fresh (Nat.le_refl _))⟩
end
end L2
namespace DD
open PySem PySem.Spec L2
open PyProof.Rows hiding St
section
variable {K:PySem.W.Frag} {F H:Hp} {X:Cx}
theorem VO{ds:List D}{vs:List V}(r:Are K F ds vs):∀n:Nat,Are K F (List.replicate n ds).flatten (List.replicate n vs).flatten
 | 0=>.nil
 | n+1=>by
  rw [List.replicate_succ,List.flatten_cons,List.replicate_succ,List.flatten_cons]
  exact r.append (VO r n)
def ud:B→B→Option D
 | .d (.tup ds),.d (.int k)=>if ds≠[]∧2≤k∧k < 2 ^ 62∧ds.length * k.toNat≤sizeLine then some (.tup (List.replicate k.toNat ds).flatten) else none
 | _,_=>none
theorem vZ:OpB K (WF K) ud:=fun F H x y v u d Q sm hx hy e q=>by
 match x,y,e,hx,hy with
 | .d (.tup a),.d (.int k),e,hx,hy =>
  unfold ud at e
  simp only at e
  by_cases hz:a≠[]∧2≤k∧k < 2 ^ 62∧a.length * k.toNat≤sizeLine
  ·rw [if_pos hz] at e;cases e
   obtain ⟨h1,h2,h3,h4⟩:=hz
   have hx':Is K F (.tup a) v:=hx
   have hy':Is K F (.int k) u:=hy
   simp only [Is] at hx' hy'
   obtain ⟨p,vs,rfl,hp,r1⟩:=hx'
   subst hy'
   refine ⟨p,k,vs,rfl,rfl,SqT.of (sm _ _ hp),fun z=>h1 ?_,h2,by omega,by rw [r1.length];exact h4,fun l hl=>q _ (upd F l (.tup (List.replicate k.toNat vs).flatten)) _ (.fix sm hl _) ?_⟩
   ·have:=r1.length;rw [z] at this;exact List.length_eq_zero_iff.mp this.symm
   ·simp only [Is]
    exact ⟨l,_,rfl,yj,(VO r1 _).mono (yn (sm.free hl) _)⟩
  ·rw [if_neg hz] at e;cases e
def Yy:=mI (fun i j=>decide (0≤j) && decide (j≤1000) && decide (-1000 < i) && decide (i < 1000)) fun i j=>.int (i ^ j.toNat)
theorem ZH:OpB K (rI zbw fun i j=>.int (i ^ j.toNat)) Yy:=WD (fun i j h=>by
 simp only [Bool.and_eq_true,decide_eq_true_eq] at h
 exact ⟨h.1.1.1,by omega,by omega⟩) fun F i j=>wX
def YR:List B→Option D:=fun bs=>match bs with
 | [b]=>b.seq.map D.lst
 | _=>none
theorem YS:Zm K (fun xs H Q=>∃p ys,xs=[.ref p]∧(SqL K H p ys∨SqT K H p ys)∧∀l,H l=none→Q (.ref l) (upd H l (.lst ys))) YR:=fun F H bs vs d Q s h e q=>by
 match bs,e,h with
 | [b],e,h =>
  obtain ⟨v,rfl,hb⟩:=Zn h
  obtain ⟨ds,hd,rfl⟩:=map_some e
  obtain ⟨a,ys,rfl,hs,r⟩:=Xx s hd hb
  refine ⟨a,ys,rfl,hs,fun l hl=>q _ (upd F l (.lst ys)) _ (.fix s hl _) ?_⟩
  simp only [Is]
  exact ⟨l,ys,rfl,yj,r.mono (yn (s.free hl) _)⟩
end
end DD
namespace DD
open PySem PySem.Spec L2
open PyProof.Rows hiding St
section
variable {X:Cx}
def zbX(j:Nat)(a:Addr)(b:Bool):TE:=fun σ H Q=>σ[j]?=some (some (.ref a))∧Q (.bl b) H
theorem yk{a C:Addr}{oe:Obj}{j:Nat}{n y:Str}{c:V}{u:Value}{b:Bool}{p1 p2 p3 q:Pos}(k:ExcK X.K C)(hp:(a,oe)∈X.pn)(hc:oe.cls=.ref C)(hv:PE X (.Name n p1) (Y9 j))(gi:Gl X "isinstance")(mi:X.mg "isinstance"=none) 
  (hy:PE X (.Name y p3) (tC c)) (hu:∀u',yt c u'→u'=u) (ht:PySem.W.kitOne X.K (.ref C) u=some b) :
  PE X (.Call (.Name "isinstance" p2) [.Name n p1,.Name y p3] [] q) (zbX j a b) :=
 yo (W0 (Ja k hp hc) gi mi boot_isinstance (yf hv (yf hy yx))) fun σ H Q hh53'=>by obtain ⟨h1,h2⟩:=hh53';exact ⟨.ref a,h1,c,u,b,rfl,hu,ht,h2⟩
structure ErrC (K:PySem.W.Frag) (mg:Str→Option Value) (x:Str) (C:Addr):Prop where
 nm:mg x=some (.ref C)
 ex:PySem.W.excIn K C [.type "ValueError",.type "Exception",.type "BaseException",.type "object"] "ValueError.__new__"=true
 kt:PySem.W.ktsIn K C "BaseException"=true
 ek:ExcK K C
theorem X7{K:PySem.W.Frag}{mg:Str→Option Value}{x:Str}{C:Addr}(nm:mg x=some (.ref C))(ex:PySem.W.excIn K C [.type "ValueError",.type "Exception",.type "BaseException",.type "object"] "ValueError.__new__"=true) 
  (kt:PySem.W.ktsIn K C "BaseException"=true) (ga:PySem.W.findIn K (.ref C) "__getattribute__"=some (some (.builtin "BaseException.__getattribute__"))) (gn:PySem.W.findIn K (.ref C) "__getattr__"=some none)
  (ca:PySem.W.findIn K (.ref C) "__class__"=some (some (.builtin "object.__class__"))) (cg:PySem.W.specialIn K (.builtin "object.__class__") "__get__"=some (some (.builtin "getset_descriptor.__get__")))
  (tk:PySem.W.takesIn K (.builtin "object.__class__")=some true) (mo:PySem.W.mroIn K C (.type "object")=some true) (sb:PySem.W.subIn K (.ref C) (.type "BaseException")=some true):ErrC K mg x C :=
 ⟨nm,ex,kt,ga,gn,ca,cg,tk,mo,sb,by
  cases h:PySem.W.clsIn K C with
  | none=>unfold PySem.W.mroIn at mo;rw [h] at mo;cases mo
  | some c=>rfl⟩
structure Refuser (P:Program) (w:World) (K:PySem.W.Frag) (mg:Str→Option Value) (base:Heap) (k:Nat) (x:Str) (C:Addr) (m:List D→Bool):Prop where
 ex:∃fa fd ps,FnOk P w K mg base (Fly P w C) k fa fd ps (spX K m)∧mg x=some (.ref fa)∧PySem.W.keepIn K (.ref fa)=true∧v2 K fd ps []
end
end DD
namespace L2
open PySem PySem.Spec PyProof.Rows
section
variable {X:Cx}
end
end L2
namespace DD
open PySem PySem.Spec L2
open PyProof.Rows hiding St
section
variable {X:Cx} {K:PySem.W.Frag} {a e:Expr} {f g:G→Option B}
end
end DD
namespace L2
open PySem PySem.Spec PyProof.Rows
section
variable {X:Cx}
end
end L2
namespace DD
open PySem PySem.Spec L2
open PyProof.Rows hiding St
section
variable {X:Cx} {K:PySem.W.Frag} {a e:Expr} {f g:G→Option B}
end
end DD
namespace L2
open PySem PySem.Spec PyProof.Rows
theorem Vs(l:Addr)(items:Array Value)(n:Nat)(dd:Option Addr)(sl:Array (Option Value))(u:Tok):
  Meets (Builtin.«tuple.__mul__» ⟨[.ref l,.int 1 u],[]⟩) (fun _ R s=>s.heap.get? l=some { cls:=.type "tuple",dict:=dd,data:=.seq items n,slots:=sl }∧R (.ok (.ret (Value.ref l))) s) :=
 .of_wp fun prog w A R s h=>by
  obtain ⟨hp,g,d,tk,os⟩:=s;obtain ⟨hl,h⟩:=h
  have f1:=AutoSeq1.idx_int
  have c1:(decide ((1:Int) < -(2 ^ 63)) || decide ((1:Int) ≥ 2 ^ 63))=false:=by decide
  have c2:(items.isEmpty || (1:Int) == 1)=true:=by simp
  wp_walk using wpAny_loadPart' hl
  first
   | rw [if_neg (by rw [c1];exact Bool.false_ne_true)]
   | skip
  wp_walk using wpAny_loadPart' hl
  first
   | rw [if_pos c2]
   | skip
  wp_walk using wpAny_loadPart' hl
  exact ⟨_,rfl,h⟩
section
variable {X:Cx}
def XH(K:PySem.W.Frag):R2:=fun x y H Q=>∃l xs,x=.ref l∧y=.int 1∧SqT K H l xs∧Q (.ref l) H
theorem Jb:OpR X (binaryOp .Mult) (XH X.K):=by
 intro pins s σ H x y v u Q I rx ry h
 obtain ⟨l,xs,rfl,rfl,hH,q⟩:=h
 cases rx
 obtain ⟨t,rfl⟩:=ry
 obtain ⟨its,r,p1,_⟩:=I.tuple hH
 obtain ⟨⟨cls,dd,data,sl⟩,e,hc,n,hd⟩:=id p1
 simp only at hc hd
 subst hc hd
 refine wpAny_binaryOp_repeat_ref (T:="tuple") (U:="int") (by decide) ⟨_,e,rfl⟩ (fun s'=>typeIs_int s' 1 t) Za F.fills_int_mul F.slot_int_rmul Yx F.slot_int_index.lookup
  (call_meets F.slot_int_rmul (typeIs_int s 1 t) F.entry_int_rmul (F.args_int_rmul_2 _ _) (ZG 1 t l its.toArray n dd sl)
   ⟨e,rfl,⟨_,e,rfl⟩,call_meets F.slot_tuple_mul ⟨_,e,rfl⟩ F.entry_tuple_mul (F.args_tuple_mul_2 _ _) (Vs l its.toArray n dd sl t) ⟨e,?_⟩⟩)
 exact ⟨.ref l,H,I,rfl,q⟩
end
end L2
namespace DD
open PySem PySem.Spec L2
open PyProof.Rows hiding St
section
variable {K:PySem.W.Frag} {F H:Hp} {X:Cx}
def XI:B→B→Option D
 | .d (.tup ds),.d (.int k)=>if k=1 then some (.tup ds) else none
 | _,_=>none
theorem Jc:OpB K (XH K) XI:=fun F H x y v u d Q sm hx hy e q=>by
 match x,y,e,hx,hy with
 | .d (.tup a),.d (.int k),e,hx,hy =>
  unfold XI at e
  simp only at e
  by_cases hz:k=1
  ·rw [if_pos hz] at e;cases e
   have hx':Is K F (.tup a) v:=hx
   have hx2:=hx'
   have hy':Is K F (.int k) u:=hy
   simp only [Is] at hx' hy'
   obtain ⟨p,vs,rfl,hp,r1⟩:=hx'
   subst hy' hz
   exact ⟨p,vs,rfl,rfl,SqT.of (sm _ _ hp),q _ F H (.refl sm) hx2⟩
  ·rw [if_neg hz] at e;cases e
def xm:=mOr XI ud
theorem yR:OpR X (binaryOp .Mult) (fun x y H Q=>XH X.K x y H Q∨WF X.K x y H Q):=Jb.or vY
theorem yS:OpB K (fun x y H Q=>XH K x y H Q∨WF K x y H Q) xm:=Jc.or vZ
end
end DD
namespace DD
open PySem PySem.Spec L2
open PyProof.Rows hiding St
section
variable {X:Cx} {a b tg:Expr} {fs:G→Option (List B)} {pos:Pos}
end
end DD
namespace L2
open PySem PySem.Spec PyProof.Rows
section
variable {X:Cx} {pins:List (Addr×Obj)} {σ:St} {H:Hp} {s:Shared}
end
section
variable {X:Cx}
end
end L2
namespace DD
open PySem PySem.Spec L2
open PyProof.Rows hiding St
section
variable {X:Cx} {a b:Expr} {fs:G→Option (List B)} {pos:Pos}
end
end DD
namespace DN
open PySem PySem.Spec L2
open PyProof.Rows hiding St
section
variable {prog:Program} {w:World} {A:Around} {E:Value→Shared→Prop} {s:Shared}
end
end DN
namespace L2
open PySem PySem.Spec PyProof.Rows
section
variable {X:Cx}
end
end L2
namespace DD
open PySem PySem.Spec L2
open PyProof.Rows hiding St
section
variable {X:Cx} {e:Expr} {fs:G→Option (List B)} {pos:Pos}
end
end DD
namespace DD
open PySem PySem.Spec L2
open PyProof.Rows hiding St
section
variable {X:Cx} {a b c e:Expr} {f g h:G→Option B} {pos:Pos} {es:List Expr} {fs:G→Option (List B)}
def J8(i:Nat)(fi fv:G→Option B):G→Option Out:=fun Γ=>(wN Γ i).bind fun ds=>(fv Γ).bind fun bv=>bv.asD.bind fun v=>(fi Γ).bind fun bi=>bi.int.bind fun k=>(ixN ds.length k).map fun j=>.nx (Γ.set i (.ol (ds.set j v)))
theorem zbY{i:Nat}{x:Str}{ix value:Expr}{fi fv:G→Option B}{px ppos:Pos}(ho:PE X (.Name x px) (Y9 i))(hi:EE X ix fi)(hv:EE X value fv) 
  (ha:∀v,assign (.Subscript (.Name x px) ix ppos) X.env v=(do
   let ov ←holding [v] (eval (.Name x px) X.env)
   let iv ←holding [v,ov] (eval ix X.env)
   standAt ppos
   holding [v,ov,iv] (setItem ov iv v)
   release [v,ov,iv] []):=by intro _;rfl)
  (hs:swapsWithSole [.Subscript (.Name x px) ix ppos] value pos.line X.env=pure false:=by rfl) (hw:swappedStores [.Subscript (.Name x px) ix ppos] value X.env=pure none:=by rfl)
  (h1:(assignEach [.Subscript (.Name x px) ix ppos] X.env).map (·.2)=[assign (.Subscript (.Name x px) ix ppos) X.env]:=by rfl) :
  SD X (.Assign [.Subscript (.Name x px) ix ppos] value pos) (J8 i fi fv):=xb (UU hv (zbs ho hi QT ha) hs hw h1) fun E σ H ⟨F0,H0,F,Γ,o,En,e,q⟩=>by
 obtain ⟨ds,hd,e⟩:=bind_some e
 obtain ⟨bv,hbv,e⟩:=bind_some e
 obtain ⟨v,hv,e⟩:=bind_some e
 obtain ⟨bi,hbi,e⟩:=bind_some e
 obtain ⟨k,hk,e⟩:=bind_some e
 obtain ⟨j,hj,rfl⟩:=map_some e
 have:=uv hv;subst this
 have hi:=Yt hd
 refine ⟨F0,H0,F,Γ,_,En,hbv,fun w F1 H1 e1 r1=>?_⟩
 obtain ⟨o,h1,p,vs,rfl,h2,h3,h4,h5⟩:=En.val i _ hi
 refine ⟨_,h1,F0,H0,F1,Γ,_,En.grow e1,hbi,fun u F2 H2 e2 r2=>?_⟩
 have hf1:F1 p=none:=e1.freed h4 (by rw [h2];simp)
 have h21:=e1.hh _ _ h2
 have hf2:F2 p=none:=e2.freed hf1 (by rw [h21];simp)
 have hu:=v7 hk r2
 subst hu
 refine ⟨p,vs,k,j,rfl,rfl,e2.hh _ _ h21,by rw [h3.length];exact hj,?_⟩
 exact q σ F2 _ (((En.grow e1).grow e2).change (s1:=.ol ds) hi rfl h1 h5 hf2 ⟨p,vs.set j w,rfl,yj,((h3.mono e1.ff).mono e2.ff).set (Is.mono e2.ff _ r1) j,hf2,h5⟩) (e1.ff.trans e2.ff)
end
def ins(x:Int):List Int→List Int
 | []=>[x]
 | y::r=>if x≤y then x::y::r else y::ins x r
section
variable {K:PySem.W.Frag} {F H:Hp}
end
section
variable {X:Cx} {a b c e:Expr} {f g h:G→Option B} {pos:Pos} {es:List Expr} {fs:G→Option (List B)}
end
section
variable {X:Cx} {a b c:Expr} {f g h:G→Option B} {pos:Pos}
end
end DD
namespace L2
open PySem PySem.Spec PyProof.Rows
section
variable {X:Cx}
end
end L2
namespace DD
open PySem PySem.Spec L2
open PyProof.Rows hiding St
section
variable {X:Cx} {K:PySem.W.Frag} {e a b tg iter:Expr} {f g:G→Option B} {pos:Pos}
end
end DD
namespace DD
open PySem L2
open PySem.SeqAt (shaped)
section
variable {Γ:G}
@[simp] theorem Qi {i}:zd i Γ=Γ[i]?.bind S.look:=id rfl
@[simp] theorem Jd {d}:S.look (.v d)=some (.d d):=id rfl
@[simp] theorem zdV {d}:S.look (.ol d)=some (.l d):=id rfl
@[simp] theorem zep {d}:xC d Γ=some (.d d):=id rfl
def ap2(m:B→B→Option D):Option B→Option B→Option B
 | some x,some y=>(m x y).map B.d
 | _,_=>none
@[simp] theorem zeq {m x y}:ap2 m (some x) (some y)=(m x y).map B.d:=id rfl
@[simp] theorem zer {m f g}:x2 m f g Γ=ap2 m (f Γ) (g Γ):=by unfold x2 ap2;cases f Γ <;> cases g Γ <;> rfl
@[simp] theorem zfH {b}:B.tst (.d (.bl b))=some b:=id rfl
def Je:Option B→Option Bool:=fun o=>o.bind B.tst
@[simp] theorem zdW {b}:Je (some (.d (.bl b)))=some b:=id rfl
@[simp] theorem zga {f}:xT f Γ=Je (f Γ):=id rfl
def orO(o:Option Bool)(g:G→Option Bool)(Γ:G):Option Bool:=o.bind fun x=>if x=true then some true else g Γ
@[simp] theorem zfI {g}:orO (some true) g Γ=some true:=id rfl
@[simp] theorem zfJ {g}:orO (some false) g Γ=g Γ:=id rfl
@[simp] theorem zfK {f g}:xOr f g Γ=orO (f Γ) g Γ:=id rfl
@[simp] theorem zeX {f}:yP f Γ=(f Γ).map (!·):=id rfl
def Jf(o:Option Bool)(g:G→Option B)(Γ:G):Option B:=o.bind fun x=>if x=true then g Γ else some (.d (.bl false))
@[simp] theorem zeY {g}:Jf (some true) g Γ=g Γ:=id rfl
@[simp] theorem zeZ {g}:Jf (some false) g Γ=some (.d (.bl false)):=id rfl
@[simp] theorem zeM {f g}:Z5 f g Γ=Jf (Je (f Γ)) g Γ:=id rfl
def ch3(m m':B→B→Option D)(h:G→Option B)(Γ:G):Option B→Option B→Option B
 | some x,some y=>((m x y).bind fun z=>B.tst (.d z)).bind fun k=>if k=true then ap2 m' (some y) (h Γ) else some (.d (.bl false))
 | _,_=>none
@[simp] theorem zgb {m m' f g h}:x3 m m' f g h Γ=ch3 m m' h Γ (f Γ) (g Γ):=by
 unfold x3 ch3
 cases f Γ with
 | none=>rfl
 | some x =>
  cases g Γ with
  | none=>rfl
  | some y =>
   simp only [Option.bind_some]
   congr 1;funext k
   cases h Γ <;> rfl
@[simp] theorem Qj:zg Γ=some []:=id rfl
def Ub:Option B→Option (List B)→Option (List B)
 | some x,some xs=>some (x::xs)
 | _,_=>none
@[simp] theorem Uc {x xs}:Ub (some x) (some xs)=some (x::xs):=id rfl
@[simp] theorem u4 {f fs}:zb f fs Γ=Ub (f Γ) (fs Γ):=by unfold zb Ub;cases f Γ <;> cases fs Γ <;> rfl
@[simp] theorem zdf {d}:B.asD (.d d)=some d:=id rfl
@[simp] theorem zaV:vn []=some []:=id rfl
@[simp] theorem zbZ {d r}:vn (.d d::r)=(vn r).map (d::·):=id rfl
def zb0(o:Option (List D)):Option B:=o.bind fun ds=>if ds.length≤sizeLine then some (.d (.tup ds)) else none
@[simp] theorem zdX {ds}:zb0 (some ds)=if ds.length≤sizeLine then some (.d (.tup ds)) else none:=id rfl
def dsO(o:Option (List B)):Option (List D):=o.bind vn
@[simp] theorem Jg {bs}:dsO (some bs)=vn bs:=id rfl
@[simp] theorem ze0 {fs}:zt fs Γ=zb0 (dsO (fs Γ)):=id rfl
@[simp] theorem zgc {f}:xL f Γ=(f Γ).map fun ds=>.d (.lst ds):=id rfl
def zb1(o:Option (List D)):Option (List D):=o.bind fun ds=>if ds.length≤sizeLine then some ds else none
@[simp] theorem zdY {ds}:zb1 (some ds)=if ds.length≤sizeLine then some ds else none:=id rfl
@[simp] theorem ze1 {fs}:zY fs Γ=zb1 (dsO (fs Γ)):=id rfl
def J9(m:List B→Option D)(o:Option (List B)):Option B:=o.bind fun bs=>(m bs).map B.d
@[simp] theorem zdg {m bs}:J9 m (some bs)=(m bs).map B.d:=id rfl
@[simp] theorem zeN {m fs}:zW m fs Γ=J9 m (fs Γ):=id rfl
def fnO(m:List D→Option D)(o:Option (List D)):Option B:=o.bind fun bs=>(m bs).map B.d
@[simp] theorem Jh {m ds}:fnO m (some ds)=(m ds).map B.d:=id rfl
@[simp] theorem Ud {m fs}:xFn m fs Γ=fnO m (dsO (fs Γ)):=id rfl
@[simp] theorem zfL {c}:xTy c Γ=some (.ty c):=id rfl
@[simp] theorem zgd {c}:xG c Γ=some (.c c):=id rfl
def zb2(o:Option B):Option B:=o.bind fun b=>b.int.map fun i=>.d (.int (-i))
@[simp] theorem zdZ {i}:zb2 (some (.d (.int i)))=some (.d (.int (-i))):=id rfl
@[simp] theorem ze2 {f}:w5 f Γ=zb2 (f Γ):=id rfl
@[simp] theorem zfM {i}:B.int (.d (.int i))=some i:=id rfl
def zb3(o:Option B):Option (List D):=o.bind B.fix
@[simp] theorem zes {ds}:zb3 (some (.d (.tup ds)))=some ds:=id rfl
@[simp] theorem ze3 {f}:ub f Γ=zb3 (f Γ):=id rfl
@[simp] theorem zeO:zD Γ=some (.nx Γ):=id rfl
def WG(o:Option Out)(g:G→Option Out):Option Out:=o.bind fun o=>match o with
 | .nx Γ'=>g Γ'
 | o=>some o
@[simp] theorem zet {g Γ'}:WG (some (.nx Γ')) g=g Γ':=id rfl
@[simp] theorem zeu {g d}:WG (some (.rt d)) g=some (.rt d):=id rfl
@[simp] theorem zb4 {f g}:zu f g Γ=WG (f Γ) g:=id rfl
def Ue(o:Option B):Option Out:=o.bind fun b=>b.asD.map Out.rt
@[simp] theorem zd0 {d}:Ue (some (.d d))=some (.rt d):=id rfl
@[simp] theorem ze4 {f}:zL f Γ=Ue (f Γ):=id rfl
def ifO(o:Option Bool)(f g:G→Option Out)(Γ:G):Option Out:=o.bind fun x=>if x=true then f Γ else g Γ
@[simp] theorem zfN {f g}:ifO (some true) f g Γ=f Γ:=id rfl
@[simp] theorem zfO {f g}:ifO (some false) f g Γ=g Γ:=id rfl
@[simp] theorem zfP {t f g}:sIf t f g Γ=ifO (t Γ) f g Γ:=id rfl
@[simp] theorem zfQ:sNo Γ=none:=id rfl
def zaa(o:Option B)(Γ:G):Option Out:=o.map fun _=>.nx Γ
@[simp] theorem zdh {b}:zaa (some b) Γ=some (.nx Γ):=id rfl
@[simp] theorem zeP {f}:xg f Γ=zaa (f Γ) Γ:=id rfl
def zb5(i:Nat)(o:Option B)(Γ:G):Option Out:=o.bind fun b=>b.asD.map fun d=>.nx (Γ.set i (.v d))
@[simp] theorem zd1 {i d}:zb5 i (some (.d d)) Γ=some (.nx (Γ.set i (.v d))):=id rfl
@[simp] theorem zb6 {i f}:ya i f Γ=zb5 i (f Γ) Γ:=id rfl
def zb7(i:Nat)(o:Option (List D))(Γ:G):Option Out:=o.map fun ds=>.nx (Γ.set i (.ol ds))
@[simp] theorem zd2 {i ds}:zb7 i (some ds) Γ=some (.nx (Γ.set i (.ol ds))):=id rfl
@[simp] theorem ze5 {i f}:x0 i f Γ=zb7 i (f Γ) Γ:=id rfl
@[simp] theorem ze6 {i d}:yu i d Γ=some (Γ.set i (.v d)):=id rfl
def Ji(i:Nat):Option (List D)→Option B→G→Option Out
 | some ds,some (.d d),Γ=>if ds.length < sizeLine then some (.nx (Γ.set i (.ol (ds++[d])))) else none
 | _,_,_=>none
@[simp] theorem zd3 {i ds d}:Ji i (some ds) (some (.d d)) Γ=if ds.length < sizeLine then some (.nx (Γ.set i (.ol (ds++[d])))) else none:=id rfl
@[simp] theorem ze7 {i f}:Yu i f Γ=Ji i (wN Γ i) (f Γ) Γ:=by
 unfold Yu Ji
 cases wN Γ i with
 | none=>rfl
 | some ds =>
  cases f Γ with
  | none=>rfl
  | some b=>cases b <;> rfl
def Jj(i:Nat):Option (List D)→Option (List D)→G→Option Out
 | some ds,some es,Γ=>if ds.length+es.length≤sizeLine then some (.nx (Γ.set i (.ol (ds++es)))) else none
 | _,_,_=>none
@[simp] theorem zd4 {i ds es}:Jj i (some ds) (some es) Γ=if ds.length+es.length≤sizeLine then some (.nx (Γ.set i (.ol (ds++es)))) else none:=id rfl
def lsO(o:Option B):Option (List D):=o.bind B.lst
@[simp] theorem zfR {ds}:lsO (some (.d (.lst ds)))=some ds:=id rfl
@[simp] theorem ze8 {i f}:vp i f Γ=Jj i (wN Γ i) (lsO (f Γ)) Γ:=by
 unfold vp Jj lsO
 cases wN Γ i with
 | none=>rfl
 | some ds =>
  cases f Γ with
  | none=>rfl
  | some b =>
   simp only [Option.bind_some]
   cases b.lst <;> rfl
@[simp] theorem zfS {ds}:B.lst (.d (.lst ds))=some ds:=id rfl
def zb8(o:Option (List D))(t:D→G→Option G)(fb:G→Option Out)(Γ:G):Option Out:=o.bind fun ds=>Z6 t fb ds Γ
@[simp] theorem Qk {ds t fb}:zb8 (some ds) t fb Γ=Z6 t fb ds Γ:=id rfl
@[simp] theorem ze9 {it t fb}:Xc it t fb Γ=zb8 (it Γ) t fb Γ:=id rfl
def XJ(o:Option (List D))(ms:List (Option Nat))(t:D→G→Option G)(cond:G→Option Bool)(el:G→Option B)(Γ:G):Option (List D):=o.bind fun ds=>if ds.length≤sizeLine then Z7 t cond el (wa ms Γ) ds else none
@[simp] theorem zeQ {src ms t cond el}:xH src ms t cond el Γ=XJ (src Γ) ms t cond el Γ:=id rfl
@[simp] theorem szv:sizeLine=16777216:=id rfl
@[simp] theorem zfT {i j}:zP (.d (.int i)) (.d (.int j))=some (.int (i+j)):=id rfl
@[simp] theorem zfa {a b:List D}:zP (.d (.tup a)) (.d (.tup b))=if a.length+b.length≤sizeLine then some (.tup (a++b)) else none:=by
 unfold zP mOr Xy mI YM XA
 by_cases h:a.length+b.length≤sizeLine <;> simp [h,B.int,B.lst]
@[simp] theorem zfb {a b:List D}:zP (.d (.lst a)) (.d (.lst b))=if a.length+b.length≤sizeLine then some (.lst (a++b)) else none:=by
 unfold zP mOr Xy mI YM XA
 by_cases h:a.length+b.length≤sizeLine <;> simp [h,B.int,B.lst]
@[simp] theorem zeR {a b:List D}:zP (.l a) (.d (.lst b))=if a.length+b.length≤sizeLine then some (.lst (a++b)) else none:=by
 unfold zP mOr Xy mI YM XA
 by_cases h:a.length+b.length≤sizeLine <;> simp [h,B.int,B.lst]
@[simp] theorem zfU {i j}:X2 (.d (.int i)) (.d (.int j))=some (.int (i - j)):=id rfl
theorem uF{i j}(h:xz i=true∨xz j=true):uM (.d (.int i)) (.d (.int j))=some (.int (i * j)):=by
 unfold uM mI
 simp [h]
theorem uQ{i j:Int}(h:0 < j):zZ (.d (.int i)) (.d (.int j))=some (.int (i % j)):=by
 unfold zZ mI
 simp [h]
theorem Uf{i j:Int}(h:0 < j)(h2:j < 1073741824):wC (.d (.int i)) (.d (.int j))=some (.int (i / j)):=by
 unfold wC mI
 simp [h,h2]
@[simp] theorem zge {i j}:mLt (.d (.int i)) (.d (.int j))=some (.bl (decide (i < j))):=id rfl
@[simp] theorem zgf {i j}:mLe (.d (.int i)) (.d (.int j))=some (.bl (decide (i≤j))):=id rfl
@[simp] theorem zgg {i j}:mGt (.d (.int i)) (.d (.int j))=some (.bl (decide (j < i))):=id rfl
@[simp] theorem zfV {n:Bool} {i j:Int}:mEq n (.d (.int i)) (.d (.int j))=some (.bl (if n then !decide (i=j) else decide (i=j))):=by
 have h:∀i:Int,shaped (.int i)=true:=fun i=>by simp [shaped,PyData.canLay0,PyData.depth]
 unfold mEq
 simp [Zs,toP,h,PyData.eqv,Bool.beq_eq_decide_eq]
@[simp] theorem zfc {ds}:B.seq (.d (.tup ds))=some ds:=id rfl
@[simp] theorem zfd {ds}:B.seq (.d (.lst ds))=some ds:=id rfl
@[simp] theorem zfe {ns}:B.seq (.d (.scr ns))=some (ns.map D.int):=id rfl
@[simp] theorem zgh {x:B} {i:Int}:mIx x (.d (.int i))=x.seq.bind fun ds=>atI ds i:=id rfl
theorem xQ{α:Type}{xs:List α}{k:Nat}:atI xs (k:Int)=xs[k]?:=by
 unfold atI ixN
 by_cases h:k < xs.length
 ·simp [h]
 ·simp [h]
theorem Jk{α:Type}{xs:List α}{k:Nat}:atI xs ((k:Int)+1)=xs[k+1]?:=xQ (k:=k+1)
@[simp] theorem zfW {α:Type} {xs:List α}:atI xs 0=xs[0]?:=xQ (k:=0)
@[simp] theorem zfX {α:Type} {xs:List α}:atI xs 1=xs[1]?:=xQ (k:=1)
@[simp] theorem zfY {α:Type} {xs:List α}:atI xs 2=xs[2]?:=xQ (k:=2)
@[simp] theorem zfZ {b}:x9 [b]=b.seq.map fun ds=>.int ds.length:=id rfl
@[simp] theorem zff {ds}:vE [.d (.lst ds)]=some (.tup ds):=id rfl
@[simp] theorem zfg {ds}:vE [.l ds]=some (.tup ds):=id rfl
@[simp] theorem zf0 {x c}:u8 [.d x,.ty c]=x.tyOf.map fun t=>.bl (isi t c):=id rfl
@[simp] theorem zfh:D.tyOf .non=some .non:=id rfl
@[simp] theorem zf1 {b}:D.tyOf (.bl b)=some .bl:=id rfl
@[simp] theorem zfi {b}:D.tyOf (.int b)=some .int:=id rfl
@[simp] theorem zfj {b}:D.tyOf (.str b)=some .str:=id rfl
@[simp] theorem zfk {b}:D.tyOf (.tup b)=some .tup:=id rfl
@[simp] theorem zfl {b}:D.tyOf (.lst b)=some .lst:=id rfl
@[simp] theorem zf2 {b}:Ys [b]=b.lst.bind fun ds=>(vB ds).map fun bs=>.bl (bs.all id):=id rfl
def enO(o:Option (List B)):Option (List D):=o.bind fun bs=>match bs with
 | [.d (.tup ds)]=>some (vi ds)
 | _=>none
@[simp] theorem zev {ds}:enO (some [.d (.tup ds)])=some (vi ds):=id rfl
@[simp] theorem zf3 {fs}:xEn fs Γ=enO (fs Γ):=id rfl
def zb9(t:D→G→Option G)(o:Option B)(Γ:G):Option Out:=o.bind fun b=>b.asD.bind fun d=>(t d Γ).map .nx
@[simp] theorem zd5 {t d}:zb9 t (some (.d d)) Γ=(t d Γ).map .nx:=id rfl
@[simp] theorem zfm {t f}:V8 t f Γ=zb9 t (f Γ) Γ:=id rfl
def slO(o:Option B)(l h:Option (Option Int)):Option B:=o.bind fun x=>l.bind fun lo=>h.bind fun hi=>(slB x lo hi).map B.d
@[simp] theorem zew {x lo hi}:slO (some x) (some lo) (some hi)=(slB x lo hi).map B.d:=id rfl
@[simp] theorem zf4 {f l h}:xSl f l h Γ=slO (f Γ) (l Γ) (h Γ):=id rfl
@[simp] theorem zfn:Yv Γ=some none:=id rfl
def pO(o:Option B):Option (Option Int):=o.bind fun b=>b.int.map some
@[simp] theorem zeS {i}:pO (some (.d (.int i)))=some (some i):=id rfl
@[simp] theorem zgi {f}:xP f Γ=pO (f Γ):=id rfl
@[simp] theorem zfo {n u ds}:uE n u (.tup ds) Γ=if ds.length=n then u ds Γ else none:=id rfl
@[simp] theorem zeT:uP [] Γ=some Γ:=id rfl
@[simp] theorem zex {f g d r}:xJ f g (d::r) Γ=(f d Γ).bind fun Γ'=>g r Γ':=id rfl
def Ug(j:Int):Bool:=decide (-(2 ^ 62)≤j) && decide (j < 2 ^ 62)
def r1I(j:Int):Option (List D):=if Ug j=true then some (xh 0 j.toNat) else none
def r1O(o:Option (List B)):Option (List D):=o.bind fun bs=>match bs with
 | [b]=>b.int.bind r1I
 | _=>none
@[simp] theorem zey {j}:r1O (some [.d (.int j)])=r1I j:=id rfl
theorem zca(j:Int):(if -(2 ^ 62)≤j∧j < 2 ^ 62 then some (xh 0 j.toNat) else none)=r1I j:=by
 unfold r1I Ug
 by_cases h:-(2 ^ 62)≤j∧j < 2 ^ 62
 ·rw [if_pos h,if_pos (by rw [decide_eq_true h.1,decide_eq_true h.2];rfl)]
 ·rw [if_neg h,if_neg fun z=>h (by rw [Bool.and_eq_true,decide_eq_true_eq,decide_eq_true_eq] at z;exact z)]
@[simp] theorem zf5 {fs}:xR1 fs Γ=r1O (fs Γ):=by
 unfold xR1 r1O
 cases fs Γ with
 | none=>rfl
 | some bs =>
  rw [Option.bind_some,Option.bind_some]
  match bs with
  | []=>rfl
  | [b]=>exact congrArg b.int.bind (funext zca)
  | _::_::_=>rfl
theorem ZI{n:Nat}(h:n < 1000000):r1I (n:Int)=some (xh 0 n):=by
 have e1:-(2 ^ 62)≤(n:Int):=by omega
 have e2:(n:Int) < 2 ^ 62:=by omega
 have e:Ug (n:Int)=true:=by unfold Ug;rw [decide_eq_true e1,decide_eq_true e2];rfl
 unfold r1I
 rw [if_pos e,Int.toNat_natCast]
theorem Ql{h:G→Option B}{i j k:Int}(hh:h Γ=some (.d (.int k))):ch3 mLe mLe h Γ (some (.d (.int i))) (some (.d (.int j)))=some (.d (.bl (decide (i≤j∧j≤k)))):=by
 unfold ch3
 rw [hh]
 by_cases h1:i≤j <;> by_cases h2:j≤k <;> simp [h1,h2]
theorem Wu{α:Type}(p:α→Bool):∀xs:List α,vB (xs.map fun x=>D.bl (p x))=some (xs.map p)
 | []=>rfl
 | x::r=>by
  rw [List.map_cons]
  show (vB _).map _=_
  rw [Wu p r];rfl
theorem Z9:∀(xs:List D),(∀x∈xs,x=.bl true)→(vB xs).map (fun bs=>D.bl (bs.all id))=some (.bl true)
 | [],_=>rfl
 | x::r,h=>by
  have hx:=h x List.mem_cons_self
  subst hx
  have:=Z9 r fun y hy=>h y (List.mem_cons_of_mem _ hy)
  show ((vB r).map _).map _=_
  cases e:vB r with
  | none=>rw [e] at this;cases this
  | some bs=>rw [e] at this;simpa using this
theorem zS{np n:Nat}{f:G→Option Out}{ds:List D}{d:D}(h:ds.length=np)(e:f (zh n ds)=some (.rt d)):mir np n f ds=some d:=by unfold mir;rw [if_pos h,e]
end
structure OkD (n:Nat) (d:D):Prop where
 lay:(toP d).canLay0=true
 dep:(toP d).depth≤n
structure OkDs (n:Nat) (ds:List D):Prop where
 lay:PyData.canLayAll0 (toPs ds)=true
 dep:PyData.depthAll (toPs ds)≤n
theorem X8{n:Nat}:∀{ds:List D},(∀d∈ds,OkD n d)→OkDs n ds
 | [],_=>⟨rfl,Nat.zero_le _⟩
 | d::r,h=>by
  have h1:=h d List.mem_cons_self
  have h2:=X8 fun x hx=>h x (List.mem_cons_of_mem _ hx)
  refine ⟨?_,?_⟩
  ·rw [toPs,PyData.canLayAll0,h1.lay,h2.lay];rfl
  ·rw [toPs,PyData.depthAll];exact Nat.max_le.mpr ⟨h1.dep,h2.dep⟩
theorem OkD.int{n:Nat}{i:Int}:OkD n (.int i):=⟨by simp [toP,PyData.canLay0],by simp [toP,PyData.depth]⟩
theorem OkD.str{n:Nat}{x:Str}(h:PyData.strOk x=true):OkD n (.str x):=⟨by simp [toP,PyData.canLay0,h],by simp [toP,PyData.depth]⟩
theorem OkD.tup{n:Nat}{ds:List D}(h:∀d∈ds,OkD n d):OkD (n+1) (.tup ds):=by
 have:=X8 h
 exact ⟨by rw [toP,PyData.canLay0];exact this.lay,by rw [toP,PyData.depth];exact Nat.succ_le_succ this.dep⟩
theorem OkD.lst{n:Nat}{ds:List D}(h:∀d∈ds,OkD n d):OkD (n+1) (.lst ds):=by
 have:=X8 h
 exact ⟨by rw [toP,PyData.canLay0];exact this.lay,by rw [toP,PyData.depth];exact Nat.succ_le_succ this.dep⟩
theorem OkD.scr{n:Nat}{ns:List Int}:OkD (n+1) (.scr ns):=by
 have h:∀ns:List Int,PyData.canLayAll0 (ns.map PyData.int)=true∧PyData.depthAll (ns.map PyData.int)=0:=fun ns=>by
  induction ns with
  | nil=>exact ⟨rfl,rfl⟩
  | cons a r ih=>simp [PyData.canLayAll0,PyData.depthAll,PyData.canLay0,PyData.depth,ih]
 exact ⟨by rw [toP,PyData.canLay0];exact (h ns).1,by rw [toP,PyData.depth,(h ns).2];omega⟩
theorem OkD.shp{n:Nat}{d:D}(h:OkD n d)(k:n≤64:=by decide):shaped (toP d)=true:=by
 unfold shaped
 rw [h.lay,decide_eq_true (Nat.le_trans h.dep k)];rfl
mutual
theorem Xi:∀d:D,PyData.eqv (toP d) (toP d)=true
 | .non=>by simp [toP,PyData.eqv]
 | .bl b=>by simp [toP,PyData.eqv]
 | .int i=>by simp [toP,PyData.eqv]
 | .str x=>by simp [toP,PyData.eqv]
 | .scr ns=>by
  rw [toP,PyData.eqv]
  induction ns with
  | nil=>rfl
  | cons a r ih=>simp [PyData.eqvAll,PyData.eqv,ih]
 | .tup ds=>by rw [toP,PyData.eqv];exact eqvAll_refl ds
 | .lst ds=>by rw [toP,PyData.eqv];exact eqvAll_refl ds
 | .dK _ _=>by simp [toP,PyData.eqv]
 | .dT _ _=>by simp [toP,PyData.eqv]
 | .adr _=>by simp [toP,PyData.eqv]
 | .opq=>by simp [toP,PyData.eqv]
theorem eqvAll_refl:∀ds:List D,PyData.eqvAll (toPs ds) (toPs ds)=true
 | []=>rfl
 | d::r=>by rw [toPs,PyData.eqvAll,Xi d,eqvAll_refl r];rfl
end
theorem zab{n:Nat}{neg:Bool}{x y:D}(hx:OkD n x)(hy:OkD n y)(k:n≤64:=by decide):mEq neg (.d x) (.d y)=some (.bl (if neg then !PyData.eqv (toP x) (toP y) else PyData.eqv (toP x) (toP y))):=by
 unfold mEq
 simp [Zs,hx.shp k,hy.shp k]
theorem VP{ns:List Int}:mEq false (.d (.scr ns)) (.d (.lst []))=some (.bl (decide (ns=[]))):=by
 rw [zab (n:=1) OkD.scr (OkD.lst (by simp))]
 cases ns <;> simp [toP,toPs,PyData.eqv,PyData.eqvAll]
theorem zcb{n:Nat}{neg:Bool}{x:D}{b:B}{ds:List D}(hx:OkD n x)(hb:b.seq=some ds)(hd:∀d∈ds,OkD n d)(k:n≤64:=by decide):mIn neg (.d x) b=some (.bl (if neg then !(ds.any fun d=>PyData.eqv (toP d) (toP x)) else ds.any fun d=>PyData.eqv (toP d) (toP x))):=by
 have h1:(toPs ds).all shaped=true:=by
  rw [Xe,List.all_eq_true]
  intro p hp
  obtain ⟨d,hd',rfl⟩:=List.mem_map.mp hp
  exact (hd d hd').shp k
 have h2:∀q,(toPs ds).any (fun p=>PyData.eqv p q)=ds.any fun d=>PyData.eqv (toP d) q:=fun q=>by
  rw [Xe,List.any_map];rfl
 unfold mIn
 simp only [Zs,Option.bind_some,hb,hx.shp k,h1,h2,and_self,if_true]
theorem X9{t:D→G→Option G}{fb:G→Option Out}:∀(ds:List D) (I:Nat→G→Prop) (Γ:G),I 0 Γ→(∀k Γ (h:k < ds.length),I k Γ→∃g1 g2,t ds[k] Γ=some g1∧fb g1=some (.nx g2)∧I (k+1) g2)→∃g,Z6 t fb ds Γ=some (.nx g)∧I ds.length g
 | [],I,Γ,h0,_=>⟨Γ,rfl,h0⟩
 | d::r,I,Γ,h0,hs=>by
  obtain ⟨g1,g2,h1,h2,h3⟩:=hs 0 Γ (by simp) h0
  obtain ⟨g,h4,h5⟩:=X9 (t:=t) (fb:=fb) r (fun k=>I (k+1)) g2 h3 fun k Γ h hi=>hs (k+1) Γ (by simpa using h) hi
  refine ⟨g,?_,h5⟩
  unfold Z6
  rw [show t d Γ=some g1 from h1,Option.bind_some,h2]
  exact h4
theorem W6{β:Type}(enc:β→D){t:D→G→Option G}{cond:G→Option Bool}{el:G→Option B}{Γ:G}:∀(ds:List D) (R:Nat→β→Prop),(∀k (h:k < ds.length),∃g y,t ds[k] Γ=some g∧cond g=some true∧el g=some (.d (enc y))∧R k y) →
  ∃ys:List β,Z7 t cond el Γ ds=some (ys.map enc)∧ys.length=ds.length∧∀k (h:k < ys.length),R k ys[k]
 | [],R,_=>⟨[],rfl,rfl,fun k h=>absurd h (by simp)⟩
 | d::r,R,hs=>by
  obtain ⟨g,y,h1,h2,h3,h4⟩:=hs 0 (by simp)
  obtain ⟨ys,e,hl,hr⟩:=W6 enc (t:=t) (cond:=cond) (el:=el) (Γ:=Γ) r (fun k=>R (k+1)) fun k h=>hs (k+1) (by simpa using h)
  refine ⟨y::ys,?_,by simp [hl],fun k h=>?_⟩
  ·unfold Z7
   rw [show t d Γ=some g from h1,Option.bind_some,h2,Option.bind_some,if_pos rfl,h3,Option.bind_some,zdf,Option.bind_some,e]
   rfl
  ·cases k with
   | zero=>exact h4
   | succ k=>exact hr k (by simpa using h)
theorem Zb{β:Type}(enc:β→D){t:D→G→Option G}{cond:G→Option Bool}{el:G→Option B}{Γ:G}{ms:List (Option Nat)}{ds:List D}(R:Nat→β→Prop)(hl:ds.length≤16777216)(hs:∀k (h:k < ds.length),∃g y,t ds[k] (wa ms Γ)=some g∧cond g=some true∧el g=some (.d (enc y))∧R k y):
  ∃ys:List β,XJ (some ds) ms t cond el Γ=some (ys.map enc)∧ys.length=ds.length∧∀k (h:k < ys.length),R k ys[k]:=by
 obtain ⟨ys,e,h⟩:=W6 enc ds R hs
 exact ⟨ys,by unfold XJ;rw [Option.bind_some,if_pos (show ds.length≤sizeLine from hl),e],h⟩
@[simp] theorem Uh {lo:Int} {n:Nat}:(xh lo n).length=n:=by simp [xh]
@[simp] theorem zdi {lo:Int} {n k:Nat} {h:k < (xh lo n).length}:(xh lo n)[k]=.int (lo+k):=by simp [xh]
@[simp] theorem zd6 {ds:List D}:(vi ds).length=ds.length:=by simp [vi]
@[simp] theorem zd7 {ds:List D} {k:Nat} {h:k < (vi ds).length}:(vi ds)[k]=.tup [.int k,ds[k]'(by simpa using h)]:=by
 have:k < ds.length:=by simpa using h
 simp [vi,List.getD_eq_getElem?_getD,this]
theorem uy{β:Type}(enc:β→D){t:D→G→Option G}{cond:G→Option Bool}{el:G→Option B}{Γ:G}{ms:List (Option Nat)}{ds:List D}(zs:List β)(hz:zs.length=ds.length)(hl:ds.length≤16777216)(hs:∀k (h:k < ds.length),∃g,t ds[k] (wa ms Γ)=some g∧cond g=some true∧el g=some (.d (enc (zs[k]'(by rw [hz];exact h))))):
  XJ (some ds) ms t cond el Γ=some (zs.map enc):=by
 obtain ⟨ys,h1,h2,h3⟩:=Zb enc (t:=t) (cond:=cond) (el:=el) (Γ:=Γ) (ms:=ms) (ds:=ds) (fun k y=>∃h:k < zs.length,y=zs[k]) hl fun k h=>by
  obtain ⟨g,a,b,c⟩:=hs k h
  exact ⟨g,_,a,b,c,by rw [hz];exact h,rfl⟩
 have:ys=zs:=List.ext_getElem (by rw [h2,hz]) fun k a b=>(h3 k a).2
 rw [h1,this]
end DD
namespace Pu
section
variable {α:Type} (f:α→Option α)
def go:Nat→α→Option α
 | 0,a=>some a
 | k+1,a=>(f a).bind (go k)
end
section
variable {α ρ:Type} (f:α→Sum ρ α)
variable {f} {rd:ρ}
end
inductive Mv (τ:Type) where
 | fin (s:τ)|go (r:Nat) (right:Bool)
section
variable {τ:Type} (mv:Nat→Nat→Mv τ) (rd:τ)
end
end Pu
namespace HT
open PySem PySem.Spec PyProof.Rows
section
variable {prog:Program} {w:World} {A:Around} {E:Value→Shared→Prop} {s:Shared}
end
end HT
namespace L2
open PySem PySem.Spec PyProof.Rows
section
variable {X:Cx} {e st:Expr} {te:TE} {ts:TO} {pos p2:Pos}
end
end L2
namespace DD
open PySem PySem.Spec L2
open PyProof.Rows hiding St
section
variable {X:Cx} {e st:Expr} {f:G→Option B} {fs:G→Option (Option Int)} {pos p2:Pos}
end
end DD
namespace L2
open PySem PySem.Spec PyProof.Rows
section
variable {prog:Program} {w:World} {A:Around} {E:Value→Shared→Prop} {s:Shared}
end
end L2
namespace L2
open PySem PySem.Spec PyProof.Rows
section
variable {prog:Program} {w:World} {A:Around} {E:Value→Shared→Prop} {s:Shared}
end
end L2
namespace L2
open PySem PySem.Spec PyProof.Rows
section
variable {X:Cx}
end
end L2
namespace L2
open PySem PySem.Spec DD
open PyProof.Rows hiding St
end L2
namespace DD
open PySem PySem.Spec L2
open PyProof.Rows hiding St
section
variable {X:Cx} {a b tg iter:Expr} {fs:G→Option (List B)} {pos:Pos}
end
end DD
namespace L2
open PySem PySem.Spec PyProof.Rows
section
variable {prog:Program} {w:World} {A:Around} {E:Value→Shared→Prop} {s:Shared}
end
section
variable {X:Cx} {pos:Pos}
end
end L2
namespace DD
open PySem PySem.Spec L2
open PyProof.Rows hiding St
section
variable {X:Cx} {es:List Expr} {pos:Pos}
end
end DD
namespace L2
open PySem PySem.Spec PyProof.Rows
section
variable {M:Model} {A:Around} {E:Value→Shared→Prop} {s:Shared}
theorem Ui{B:Heap}{env:Env}{outer:List Env}{L a:Addr}{cls a0 v:Value}{Q:Unit→Shared→Prop}(hfr:A.frames=some (env::outer))(hf:env.frame=some L) 
  (hB:B.StaysIn s.heap) (hn:B.get? a=none) (hF:s.heap.FunFrames B (env::outer)) (ht:s.heap.TracedAtW B a cls a0 v)
  (hQ:∀h',Heap.FlyingW B outer a cls a0 h'→s.heap.UpToSlots h'→Q () { s with heap:=h' }):wpAny M A (leaving env (.ref a)) Q E s:=by
 cases hv:(v == rawInt L) with
 | true =>
  have e:v=rawInt L:=by simpa using hv
  subst e
  unfold leaving
  refine wpAny_bind (wpAny_noteFrame_againW hf ht ?_)
  refine wpAny_landsW (show Heap.HeldW B (env::outer) a cls a0 L s.heap from ⟨hB,hn,hF,ht⟩) fun h' fl sm=>?_
  obtain ⟨k1,k2,⟨_,_,k3⟩,k4⟩:=fl
  exact hQ h' ⟨k1,k2,k3,k4⟩ sm
 | false =>
  obtain ⟨oe,vs,T,oT,ts,he,⟨hc,h0⟩,hd,h1,hnT,hTe,hT,hdT,h3⟩:=ht
  subst hc
  unfold leaving noteFrame
  simp only [hf]
  refine wpAny_bind (wpAny_bind (wpAny_field he hd h1 ?_))
  rw [if_pos (show (Value.ref T != Value.none)=true by simp)]
  refine wpAny_bind (wpAny_field hT hdT h3 ?_)
  rw [if_neg (by rw [hv];exact Bool.false_ne_true)]
  refine wpAny_bind (wpAny_setField hT hdT (Array.getElem?_eq_some_iff.mp h3).1 ?_)
  have oth:∀b,b≠T→(s.heap.update T (Obj.mapFields (·.setIfInBounds 3 Value.none))).get? b=s.heap.get? b:=fun b hb=>Heap.get?_update_other s.heap _ (Ne.symm hb)
  have nrec:∀b o,s.heap.get? b=some o→(∀vs,o.data≠.fields vs)→b≠T:=fun b o hb hnf q=>by
   rw [q,hT] at hb
   cases hb
   exact hnf ts hdT
  refine wpAny_newEntryW hfr (hF.of_keeps fun b o hb hnf=>⟨o,(oth b (nrec b o hb hnf)).trans hb,rfl⟩) hf ((oth a (Ne.symm hTe)).trans he) (fun b o hbo=>(oth b fun q=>by rw [q,hnT] at hbo;cases hbo).trans (hB b o hbo)) hn hd (Array.getElem?_eq_some_iff.mp h1).1 h0 fun h' ⟨x1,x2,x3,x4⟩=>?_
  obtain ⟨_,_,x2⟩:=x2
  exact hQ h' ⟨x1,hn,x2,x3⟩ fun b o hb hnf=>x4 b o ((oth b (nrec b o hb hnf)).trans hb) hnf
end
structure FlyX (X:Cx) (C:Addr) (s':Shared) (a:Addr) (H':Hp) (B:Heap) (a0 v:Value):Prop where
 same:zV X.H₀ H'
 os:s'.os=X.s₀.os
 bare:AllBare s'.gens
 un:Un X.fs X.ex X.H₀ H' X.s₀.heap s'.heap
 hok:HOk X.prog X.w H' s'.heap
 stays:B.StaysIn s'.heap
 nb:B.get? a=none
 frm:s'.heap.FunFrames B X.stack
 trc:s'.heap.TracedAtW B a (.ref C) a0 v
 old:∀b o,X.s₀.heap.get? b=some o→X.H₀ b=none→b ∉ X.fs→b ∉ X.ex→B.get? b=some o
 trk:∀b u o,H' b=some u→s'.heap.get? b=some o→B.get? b=some o
 loc:∃m,s'.heap.Ns X.env.locals m
 nloc:H' X.env.locals=none
def Flx(X:Cx)(C:Addr)(e:Value)(s':Shared):Prop:=∃a H' B a0 v,e=.ref a∧FlyX X C s' a H' B a0 v
def XR(X:Cx)(C:Addr):Prop:=∀(e:Value) (s':Shared),Flx X C e s'→X.xe e s'
section
variable {X:Cx} {pins:List (Addr×Obj)} {σ:St} {H:Hp} {s s':Shared} {C a:Addr} {e:Value}
theorem Inv.nostk(I:Inv X pins σ H s){b:Addr}{o:Obj}(q:X.s₀.heap.get? b=some o)(hb:b ∉ X.fs):b ∉ frs X.stack:=fun z=>by
 rcases I.ok.stk with h|⟨h,hf⟩
 ·rw [h] at z;exact hb z
 ·rw [h] at z
  obtain ⟨en,he,hf'⟩:=List.mem_filterMap.mp z
  rcases List.mem_cons.mp he with rfl|he
  ·rw [hf] at hf'
   have e1:X.env.locals=b:=Option.some.inj hf'
   have h1:=Heap.lt_size q
   rw [←e1] at h1
   exact Nat.lt_irrefl _ (Nat.lt_of_lt_of_le h1 I.ok.above)
  ·exact hb (List.mem_filterMap.mpr ⟨en,he,hf'⟩)
theorem Qm{E':XK}(I:Inv X pins σ H s)(hs:zV X.H₀ H)(hf:Fly X.prog X.w C X.stack H s E' e s'):Flx X C e s':=by
 obtain ⟨a,H',B,a0,S⟩:=hf
 have I':=X6 (t':=s'.toks) I S S.fly.1 (Heap.UpToSlots.refl _)
 obtain ⟨m,hn,_⟩:=I'.loc
 refine ⟨a,H',B,a0,.none,S.ee,hs.trans S.same,I'.os,S.bare,I'.base,S.hok,S.fly.1,S.fly.2.1,S.fly.2.2.1,S.fly.2.2.2.at,fun b o q n h1 h2=>?_,S.trk,⟨m,hn⟩,I'.free⟩
 exact S.old b o (I.base.keep b o q n h1 h2) (I.base.free b o q n h2) (I.nostk q h1)
theorem FlyX.up{H':Hp}{B h':Heap}{a0 v:Value}(S:FlyX X C s' a H' B a0 v)(ok:X.Ok)(hB:B.StaysIn h')(sm:∀b∈X.fs,∀o,s'.heap.get? b=some o→(∀vs,o.data≠.fields vs)→∃sl,h'.get? b=some { o with slots:=sl }):
  Un X.fs X.ex X.H₀ H' X.s₀.heap h'∧HOk X.prog X.w H' h'∧∀b u o,H' b=some u→h'.get? b=some o→B.get? b=some o:=by
 have sub:∀b∈X.fs,b∈frs X.stack:=fun b hb=>by
  rcases ok.stk with h|⟨h,_⟩
  ·rw [h];exact hb
  ·rw [h]
   obtain ⟨en,he,hf⟩:=List.mem_filterMap.mp hb
   exact List.mem_filterMap.mpr ⟨en,List.mem_cons_of_mem _ he,hf⟩
 have slot:∀b o,X.s₀.heap.get? b=some o→X.H₀ b=none→b∈X.fs→b ∉ X.ex→∃sl,h'.get? b=some { o with slots:=sl }:=fun b o q n h1 h2=>by
  obtain ⟨sl,e1⟩:=S.un.slot b o q n h1 h2
  obtain ⟨_,o',ho',hnf⟩:=S.frm.mem (sub b h1)
  rw [e1] at ho';cases ho'
  obtain ⟨sl',e2⟩:=sm b h1 _ e1 hnf
  exact ⟨sl',e2⟩
 have tk:∀b u o,H' b=some u→s'.heap.get? b=some o→h'.get? b=some o:=fun b u o q1 q2=>hB b o (S.trk b u o q1 q2)
 refine ⟨⟨fun b o q n h1 h2=>hB b o (S.old b o q n h1 h2),slot,S.un.free,fun b o q hx=>?_,S.un.tups,S.un.frzs,S.un.tbls⟩,fun b u hbu=>?_,fun b u o hbu q=>?_⟩
 ·cases n:X.H₀ b with
  | none =>
   by_cases hb:b∈X.fs
   ·obtain ⟨sl,e1⟩:=slot b o q n hb hx;exact ⟨_,e1⟩
   ·exact ⟨o,hB b o (S.old b o q n hb hx)⟩
  | some u =>
   obtain ⟨o',e1⟩:=S.un.there b o q hx
   exact ⟨o',tk b u o' (S.same b u n) e1⟩
 ·refine (S.hok b u hbu).stay (fun c v hc q=>?_) (fun _ q=>q) fun _ _ q=>q
  rcases hc with rfl|hc
  ·exact tk c u v hbu q
  ·exact tk c _ v hc q
 ·obtain ⟨o₁,h1⟩:=(S.hok b u hbu).ex
  have h2:=S.trk b u o₁ hbu h1
  have h3:=hB b o₁ h2
  rw [h3] at q;cases q
  exact h2
end
section
variable {P:Program} {w:World} {K:PySem.W.Frag} {mg:Str→Option Value} {base:Heap} {N:List Str} {qual:Str} {scope:Scope} {f C:Addr} {cdv:Value} {A:Around} {outer:List Env} {s₀:Shared} {H₀:Hp} {E:XK}
theorem zK(ok:(w4 (Fly P w C) P w K mg base N qual scope f cdv A outer s₀ H₀ E).Ok):XR (w4 (Fly P w C) P w K mg base N qual scope f cdv A outer s₀ H₀ E) C:=fun e s' hh54'=>by
 obtain ⟨a,H',B,a0,v,he,S⟩:=hh54'
 subst he
 show wpAny (model P w) (A.deeper (envOfC qual scope s₀.heap.objs.size f cdv)) (leaving (envOfC qual scope s₀.heap.objs.size f cdv) (.ref a)) _ _ s'
 have frm:(A.deeper (envOfC qual scope s₀.heap.objs.size f cdv)).frames=some (envOfC qual scope s₀.heap.objs.size f cdv::outer):=ok.frames
 refine Ui frm rfl S.stays S.nb S.frm S.trc fun h' fl sm=>?_
 obtain ⟨u1,u2,u3⟩:=S.up ok fl.1 fun b _ o q hnf=>sm b o q hnf
 exact ⟨a,H',B,a0,rfl,S.same,S.os,S.bare,u1,u2,fl,fun b o q n hb=>S.old b o q n hb (by intro z;cases z),u3⟩
end
section
variable {X:Cx} {C:Addr} {H0:Hp}
theorem PS.nox{st:Stmt}{t:TS}(h:PS X.nox st t):PS X st t:=fun pins s σ H D I hw =>
 wpAny_mono (h pins s σ H D (I.wish _) hw) (fun _ _ q=>q.unwish) fun _ _ z=>False.elim z
theorem PA.nox{es:List Expr}{t:TA}(h:PA X.nox es t):PA X es t:=fun pos pins s σ H Q I hw =>
 wpAny_mono (h pos pins s σ H Q (I.wish _) hw) (fun _ _ hh55'=>(by obtain ⟨v,H',I',r,q⟩:=hh55';exact ⟨v,H',I'.unwish,r,q⟩)) fun _ _ z=>False.elim z
end
end L2
namespace DD
open PySem PySem.Spec L2
open PyProof.Rows hiding St
section
variable {X:Cx} {C:Addr} {e:Expr} {es:List Expr} {fs:G→Option (List B)} {x x1 x2:G→Bool} {f:G→Option Out} {pos:Pos}
def dR(K:PySem.W.Frag)(H0:Hp)(x:G→Bool)(σ:St)(H:Hp):Prop:=∃F0 F Γ,EnvIs K F0 H0 F H σ Γ∧x Γ=true
def dRe(X:Cx)(x:G→Bool)(σ:St)(H:Hp):Prop:=∃F0 H0 F Γ,EnvIs X.K F0 H0 F H σ Γ∧zV X.H₀ H∧x Γ=true
theorem dR.re{X:Cx}{x:G→Bool}{σ:St}{H:Hp}:dR X.K X.H₀ x σ H→dRe X x σ H:=fun hh56'=>by obtain ⟨F0,F,Γ,En,hy⟩:=hh56';exact ⟨F0,X.H₀,F,Γ,En,En.ext.hh,hy⟩
def RE(X:Cx)(e:Expr)(x:G→Bool):Prop:=PE X e fun σ H _=>dRe X x σ H
def RS(X:Cx)(s:Stmt)(x:G→Bool):Prop:=PS X s fun _ σ H=>dR X.K X.H₀ x σ H
def RSs(X:Cx)(s:List Stmt)(x:G→Bool):Prop:=PSs X s fun _ σ H=>dR X.K X.H₀ x σ H
def yNo:G→Bool:=fun _=>false
def Ya:G→Bool:=fun _=>true
def zI(m:List D→Bool)(fs:G→Option (List B)):G→Bool:=fun Γ=>match (fs Γ).bind vn with
 | some ds=>m ds
 | none=>false
theorem zF{k k':Nat}{n:Str}{p:Pos}{m:List D→Bool}(hx:X.Ok→XR X C)(R:Refuser X.prog X.w X.K X.mg X.base k n C m)(hr:Room k' X.A)(hk:k≤k')(hg:Gl X n)(ha:EA X.nox (e::es) fs) 
  (hdb:(n == ("__debug__":Str))=false:=by decide) (he:starEach (e::es) X.env=(false,eval e X.env)::starEach es X.env:=by rfl) (hpl:(backTo pos (starEach es X.env)).any (·.1)=false:=by rfl) :
  RE X (.Call (.Name n p) (e::es) [] pos) (zI m fs):=by
 obtain ⟨fa,fd,ps,Fn,hm,hkp,hb⟩:=R.ex
 rintro pins s σ H Q I ⟨F0,H0,F,Γ,En,hsm,hy⟩
 unfold zI at hy
 cases hds:(fs Γ).bind vn with
 | none=>rw [hds] at hy;cases hy
 | some ds =>
  rw [hds] at hy
  have hy':m ds=true:=hy
  obtain ⟨bs,hbs,hds'⟩:=bind_some hds
  refine wpAny_Call_Name_kw (ur I hg hm ?_ hdb)
  refine PySem.W.callWith_K (h₀:=X.base) I.ok.mod.kin hkp (thn ((PA.nox ha) pos pins s σ H (fun vs H1=>∃F1,zV F1 H1∧Are X.K F1 ds vs∧zV X.H₀ H1) I ⟨F0,H0,F,Γ,bs,En,hbs,fun vs F1 H1 e1 r1=>⟨F1,e1.fh,vo hds' r1,hsm.trans e1.hh⟩⟩) fun us s1 ⟨vs,H1,I1,r,F1,sm,ra,hs⟩=>⟨I1.kIn,?_⟩) he hpl
  have hl:(us++[]).length=ps.length:=by
   rw [List.append_nil,←r.length]
   exact (hr.mono hk |> fun _=>Fn.len vs H1 (fun _ _=>False) (fun _ _ _=>True) ⟨F1,ds,sm,ra,hy'⟩)
  refine wpAny_call (codeAny_mono (Fn.run X.A X.stack s1 H1 ⟨us,[]⟩ (us++[]) vs (fun _ _=>False) (fun _ _ _=>True) (hr.mono hk) I1.env0 (hb s1 us I1.kIn hl) (by rw [List.append_nil];exact r) ⟨F1,ds,sm,ra,hy'⟩) fun rr s' hq=>?_)
  cases rr with
  | ok fl =>
   cases fl with
   | ret u=>obtain ⟨_,_,_,_,_,_,_,z⟩:=hq;exact z.elim
   | next=>exact False.elim hq
   | brk=>exact False.elim hq
   | cont=>exact False.elim hq
  | error ee=>exact hx I1.ok ee s' (Qm (E':=fun _ _ _=>True) I1 hs hq)
theorem YT{i:Nat}{y:Str}{p:Pos}(hN:X.N.Nodup)(hi:X.N[i]?=some y)(hx:Loc X.env.scope y)(he:RE X e x)(hs:swapsWith e (some (.Name y p)) pos.line X.env=pure false:=by rfl)(hf:X.fn y=true∨X.env.scope.names.lookup y=some .local:=by first|exact .inl rfl|exact .inr rfl|assumption):
 RS X (.Assign [.Name y p] e pos) x:=xb (WW hN hi hx he hs hf) fun E σ H q=>q.re
theorem ye(he:RE X e x):RS X (.Return (some e) pos) x:=xb (UT he) fun E σ H q=>q.re
def zM(x1:G→Bool)(f:G→Option Out)(x2:G→Bool):G→Bool:=fun Γ=>x1 Γ || match f Γ with
 | some (.nx g)=>x2 g
 | _=>false
theorem zG{st:Stmt}{rest:List Stmt}(h1:SD X.nox st f)(h2:RSs X rest x2):RSs X (st::rest) (zM yNo f x2) :=
 Z4 (Z2 (PS.nox h1) h2) fun E σ H hh57'=>by
  obtain ⟨F0,F,Γ,En,hy⟩:=hh57'
  unfold zM yNo at hy
  rw [Bool.false_or] at hy
  split at hy
  ·rename_i g hg
   exact ⟨F0,X.H₀,F,Γ,_,En,hg,fun σ1 F1 H1 E1 z=>⟨F0,F1,g,E1,hy⟩⟩
  ·cases hy
theorem yw{st:Stmt}{rest:List Stmt}(h0:RS X st x1)(h1:SD X.nox st f)(h2:RSs X rest x2):RSs X (st::rest) (zM x1 f x2):=fun pins s σ H D I hh58'=>by
 obtain ⟨F0,F,Γ,En,hy⟩:=hh58'
 cases h:x1 Γ with
 | true=>exact (Z2 h0 (Wm (X:=X))) pins s σ H D I ⟨F0,F,Γ,En,h⟩
 | false =>
  refine zG h1 h2 pins s σ H D I ⟨F0,F,Γ,En,?_⟩
  unfold zM at hy ⊢
  rw [h] at hy
  exact hy
theorem zv{st:Stmt}{rest:List Stmt}(h0:RS X st x1):RSs X (st::rest) x1:=fun pins s σ H D I ⟨F0,F,Γ,En,hy⟩ =>
 (Z2 h0 (Wm (X:=X))) pins s σ H D I ⟨F0,F,Γ,En,hy⟩
def yIf(t:G→Option Bool)(x1 x2:G→Bool):G→Bool:=fun Γ=>match t Γ with
 | some true=>x1 Γ
 | some false=>x2 Γ
 | none=>false
theorem y2{c:Expr}{a b:List Stmt}{t:G→Option Bool}(hc:ET X.nox c t)(ha:RSs X a x1)(hb:RSs X b x2):RS X (.If c a b pos) (yIf t x1 x2) :=
 xb (J0 (PT.nox hc) ha hb) fun E σ H hh59'=>by
  obtain ⟨F0,F,Γ,En,hy⟩:=hh59'
  unfold yIf at hy
  cases h:t Γ with
  | none=>rw [h] at hy;cases hy
  | some b =>
   rw [h] at hy
   refine ⟨F0,X.H₀,F,Γ,b,En,h,fun F1 H1 e1=>?_⟩
   cases b with
   | true=>exact ⟨F0,F1,Γ,En.grow e1,hy⟩
   | false=>exact ⟨F0,F1,Γ,En.grow e1,hy⟩
end
section
variable {P:Program} {w:World} {K:PySem.W.Frag} {mg:Str→Option Value} {base:Heap} {N:List Str} {qual:Str} {scope:Scope} {f C:Addr} {cdv:Value} {A:Around} {outer:List Env} {s₀:Shared} {H₀:Hp} {E:XK}
theorem uz{cx msg:Str}{j:Nat}{np apos cpos pos:Pos}(EC:ErrC K mg cx C)(hg:Gl (w4 (Fly P w C) P w K mg base N qual scope f cdv A outer s₀ H₀ E) cx)(hd:(cx == ("__debug__":Str))=false:=by decide):
  RS (w4 (Fly P w C) P w K mg base N qual scope f cdv A outer s₀ H₀ E) (.Raise (some (.Call (.Name cx np) [.Constant (.str msg) j apos] [] cpos)) none pos) Ya :=
 xb (Q6 PySem.F.excBase_ValueError EC.ex hg EC.nm hd) fun D σ H hh60'=>by obtain ⟨F0,F,Γ,En,_⟩:=hh60';exact En.ext.hh
end
def z5(np n:Nat)(x:G→Bool):List D→Bool:=fun ds=>decide (ds.length=np) && x (zh n ds)
theorem zp{P:Program}{w:World}{K:PySem.W.Frag}{mg:Str→Option Value}{base:Heap}{k:Nat}{n:Str}{st:Stmt}{fa C:Addr}{fd:FuncData}{N ps:List Str}{x:G→Bool} 
  (Fn:Fun K n n st fa fd) (hx:mg n=some (.ref fa)) (S:FnScope N ps (zr st)) (hb:v2 K fd ps [])
  (body:∀(cdv:Value) (A:Around) (outer:List Env) (s:Shared) (H:Hp) (E:XK),Room k (A.deeper (envOfC n (zr st) s.heap.objs.size fa cdv))→RSs (w4 (Fly P w C) P w K mg base N n (zr st) fa cdv A outer s H E) (vz st) x) :
  Refuser P w K mg base (k+1) n C (z5 ps.length N.length x):=by
 obtain ⟨oc,od,kV,doc,pm,an,cdv,ct,osl,rfl,lk,hcd⟩:=Fn.ex
 refine ⟨fa,_,ps,J2 lk hcd S (fun vs H Q E ⟨F,ds,sm,r,e⟩=>?_) (fun A outer s H vs Q E hr ⟨F,ds,sm,r,e⟩=>⟨_,body cdv A outer s H E hr,?_⟩),hx,Fn.kp,hb⟩
 ·unfold z5 at e
  rw [Bool.and_eq_true,decide_eq_true_eq] at e
  rw [r.length];exact e.1
 ·unfold z5 at e
  rw [Bool.and_eq_true] at e
  exact ⟨F,F,zh N.length ds,Xg sm r,e.2⟩
end DD
namespace L2
open PySem PySem.Spec PyProof.Rows
section
variable {M:Model} {A:Around} {E:Value→Shared→Prop} {s:Shared}
end
section
variable {X:Cx} {pins:List (Addr×Obj)} {σ:St} {H2:Hp} {s2 s3:Shared} {Ce D C:Addr} {scope:Scope} {cl:List (Str×Addr)} {N:List Str} {fp:List Addr} {use:Option (Value→Sem Unit)} {Q:Value→Shared→Prop} {acc:Value}
end
section
variable {X:Cx} {pins:List (Addr×Obj)} {σ:St} {H:Hp} {s:Shared}
end
end L2
namespace L2
open PySem PySem.Spec PyProof.Rows
end L2
namespace DD
open PySem PySem.Spec L2
open PyProof.Rows hiding St
section
variable {X:Cx} {Ce:Addr} {elt tg iter:Expr} {pos:Pos}
end
end DD
namespace L2
open PySem PySem.Spec PyProof.Rows
section
variable {X:Cx} {pins:List (Addr×Obj)} {σ:St} {H:Hp} {s:Shared} {M:Model} {A:Around} {E:Value→Shared→Prop}
end
end L2
namespace DD
open PySem PySem.Spec L2
open PyProof.Rows hiding St
section
variable {X:Cx}
end
end DD
namespace DD
open PySem PySem.Spec L2
theorem yC{X:Cx}{sts:List Stmt}:RSs X sts yNo:=fun pins s σ H D I ⟨F0,F,Γ,En,hy⟩=>by cases hy
end DD
namespace DD
open PySem PySem.Spec L2
end DD
namespace L2
open PySem PySem.Spec PyProof.Rows DD
section
variable {X:Cx} {e:Expr} {x:G→Bool} {pos:Pos}
theorem xr(he:RE X e x)(hs:swapsWith e none pos.line X.env=pure false:=by rfl):RS X (.Expr e pos) x:=xb (YK he hs) fun E σ H q=>q.re
end
end L2
namespace PySem
section
variable {M:Model} {A:Around} {E:Value→Shared→Prop}
theorem Qn{nm q nm' q':Str}{C N B N':Addr}{bs bm bs' bm':List Value}{hdct hdct':Bool}{sn sn':List Str}{sub sub':List Value}{ab ab':Bool}{col col':Option Bool}{dd dd':Option Addr}{k0 k1 k2 k3 k5 l0 l1 l2 l3 l5:Option Value}{newId newId':String} 
  {h:Heap} {g:Array GenState} {d:Drawn} {t:Nat} {os:OsState} {e:Addr} {oe:Obj} {Q:Bool→Shared→Prop}
  (hC:h.get? C=some (excClassObj nm q C N bs bm hdct sn sub ab col dd k0 k1 k2 k3 k5 newId)) (hB:h.get? B=some (excClassObj nm' q' B N' bs' bm' hdct' sn' sub' ab' col' dd' l0 l1 l2 l3 l5 newId'))
  (he:h.get? e=some oe) (hcls:oe.cls=.ref C) (hbase:bm'.contains (.type "BaseException")=true) (hsub:bm.contains (.ref B)=true)
  (hq:Q true ⟨h,g,d,t,os⟩):wpAny M A (excMatches (.ref e) (.ref B)) Q E ⟨h,g,d,t,os⟩:=by
 have hcB:(Value.ref B::bm').contains (.type "BaseException")=true:=by rw [List.contains_cons,hbase,Bool.or_true]
 have hcC:(Value.ref C::bm).contains (.ref B)=true:=by rw [List.contains_cons,hsub,Bool.or_true]
 have f:=tc_notTuple
 unfold excMatches
 repeat (first|(with_reducible refine wpAny_loadPart_at he ?_;rw [hcls])|with_reducible refine wpAny_loadPart_at hB ?_|(with_reducible refine wpAny_isSubtype_exc hB ?_;rw [hcB])|(with_reducible refine wpAny_isSubtype_exc hC ?_;rw [hcC])|wp_step)
 exact hq
end
end PySem
namespace DD
open PySem PySem.Spec L2
open PyProof.Rows hiding St
section
variable {X:Cx}
def zE(j:Nat)(a:Addr)(b:Bool):G→Option B:=fun Γ=>match Γ[j]? with
 | some (.v (.adr a'))=>if a'=a then some (.d (.bl b)) else none
 | _=>none
theorem yd{j:Nat}{a:Addr}{b:Bool}{e:Expr}(h:PE X e (zbX j a b)):EE X e (zE j a b):=yo h fun σ H Q hh61'=>by
 obtain ⟨F0,H0,F,Γ,z,En,e,q⟩:=hh61'
 unfold zE at e
 split at e
 ·rename_i a' hj
  split at e
  ·rename_i ea
   subst ea
   cases e
   obtain ⟨o,h1,v,rfl,h2⟩:=En.val j _ hj
   have h2':Is X.K F (.adr a') v:=h2
   simp only [Is] at h2'
   subst h2'
   exact ⟨h1,q _ F H (.refl En.fh) V6⟩
  ·cases e
 ·cases e
open Classical in
noncomputable def uG (j:Nat) (m:List D→Bool) (fs:G→Option (List B)) (hb:Addr→G→Option Out):G→Option Out:=fun Γ=>match (fs Γ).bind vn with
 | some ds=>if m ds=true then (if h:∃d,∀a,hb a (Γ.set j (.v (.adr a)))=some (.rt d) then some (.rt h.choose) else none) else none
 | none=>none
theorem uA{j:Nat}{m:List D→Bool}{fs:G→Option (List B)}{hb:Addr→G→Option Out}{Γ:G}{ds:List D}{d:D}(h1:(fs Γ).bind vn=some ds)(h2:m ds=true)(h3:∀a,hb a (Γ.set j (.v (.adr a)))=some (.rt d)):uG j m fs hb Γ=some (.rt d):=by
 have he:∃d,∀a,hb a (Γ.set j (.v (.adr a)))=some (.rt d):=⟨d,h3⟩
 unfold uG
 rw [h1]
 show (if m ds=true then _ else _)=_
 rw [if_pos h2,dif_pos he]
 have:=he.choose_spec 0
 rw [h3 0] at this
 injection this with this
 injection this with this
 rw [←this]
open Classical in
noncomputable def Zc (f g:G→Option Out):G→Option Out:=fun Γ=>if g Γ=some (.rt (.bl true)) then g Γ else f Γ
theorem XL{st:Stmt}{f g:G→Option Out}(h1:SD X st f)(h2:SD X st g):SD X st (Zc f g):=fun pins s σ H E I hh62'=>by
 obtain ⟨F0,H0,F,Γ,o,En,e,q⟩:=hh62'
 unfold Zc at e
 split at e
 ·exact h2 pins s σ H E I ⟨F0,H0,F,Γ,o,En,e,q⟩
 ·exact h1 pins s σ H E I ⟨F0,H0,F,Γ,o,En,e,q⟩
theorem wb{f g:G→Option Out}{Γ:G}(h:g Γ=some (.rt (.bl true))):Zc f g Γ=some (.rt (.bl true)):=by
 unfold Zc
 rw [if_pos h,h]
theorem Yz{f g:G→Option Out}{Γ:G}(h:f Γ=some (.rt (.bl true))):Zc f g Γ=some (.rt (.bl true)):=by
 unfold Zc
 split
 ·assumption
 ·exact h
theorem zcc{K:PySem.W.Frag}{h:Heap}{C B N:Addr}{nm q:Str}{bs bm:List Value}{hdct:Bool}{sn:List Str}{sub:List Value}{ab:Bool}{col:Option Bool}{dd:Option Addr}{k0 k1 k2 k3 k5:Option Value}{newId:String}(x:K.In h)(hC:h.get? C=some (excClassObj nm q C N bs bm hdct sn sub ab col dd k0 k1 k2 k3 k5 newId))(hm:PySem.W.mroIn K C (.ref B)=some true)(hne:C≠B):bm.contains (.ref B)=true:=by
 obtain ⟨cd,a,b⟩:=Option.bind_eq_some_iff.mp hm
 unfold PySem.W.clsIn at a
 split at a
 ·rename_i ho
  cases a
  have:=x _ _ ho
  rw [hC] at this
  injection this with this
  injection this with _ _ e _
  injection e with e
  subst e
  split at b
  ·cases b
  ·injection b with b
   rw [List.contains_cons] at b
   have:(Value.ref B == Value.ref C)=false:=by simpa using fun z=>hne z.symm
   rwa [this,Bool.false_or] at b
 ·cases a
theorem ZJ{C Cb:Addr}{k k':Nat}{m:List D→Bool}{fx cx nx:Str}{j:Nat}{e1:Expr}{es:List Expr}{fs:G→Option (List B)}{b1:Stmt}{body:List Stmt}{hb:Addr→G→Option Out}{p1 cpos epos np hpos pos:Pos} 
  (hst:X.stack=X.env::X.outer) (hfrm:X.env.frame=some X.env.locals)
  (R:Refuser X.prog X.w X.K X.mg X.base k fx C m) (hr:Room k' X.A) (hkk:k≤k') (hg:Gl X fx) (ha:EA X.nox (e1::es) fs)
  (hcg:Gl X cx) (hcm:X.mg cx=some (.ref Cb)) (hcls:PySem.W.ktsIn X.K C "BaseException"=true) (hclsB:PySem.W.ktsIn X.K Cb "BaseException"=true) (hmro:PySem.W.mroIn X.K C (.ref Cb)=some true) (hne:C≠Cb)
  (hN:X.N.Nodup) (hj:X.N[j]?=some nx) (hloc:X.env.scope.names.lookup nx=some .local)
  (hbody:∀(a:Addr) (oe:Obj),oe.cls=.ref C→SDs (X.marked a oe) (b1::body) (hb a))
  (hdf:(fx == ("__debug__":Str))=false:=by decide) (hdc:(cx == ("__debug__":Str))=false:=by decide)
  (he:starEach (e1::es) X.env=(false,eval e1 X.env)::starEach es X.env:=by rfl) (hpl:(backTo cpos (starEach es X.env)).any (·.1)=false:=by rfl) (hsw:swapsWith (.Call (.Name fx p1) (e1::es) [] cpos) none epos.line X.env=pure false:=by rfl) :
  SD X (.Try [.Expr (.Call (.Name fx p1) (e1::es) [] cpos) epos] [.ExceptHandler (some (.Name cx np)) (some nx) (b1::body) hpos] [] [] pos) (uG j m fs hb):=by
 obtain ⟨fa,fd,ps,Fn,hm,hk,hbn⟩:=R.ex
 rintro pins s σ H D I ⟨F0,H0,F,Γ,o,En,e,q⟩
 unfold uG at e
 cases hds:(fs Γ).bind vn with
 | none=>rw [hds] at e;cases e
 | some ds =>
  rw [hds] at e
  obtain ⟨bs,hbs,hds'⟩:=bind_some hds
  by_cases hmd:m ds=true
  ·replace e:(if m ds=true then _ else _)=some o:=e
   rw [if_pos hmd] at e
   have hd:∃d,(∀a,hb a (Γ.set j (.v (.adr a)))=some (.rt d))∧o=.rt d:=by
    split at e
    ·rename_i h;cases e;exact ⟨_,h.choose_spec,rfl⟩
    ·cases e
   obtain ⟨d,hball,rfl⟩:=hd
   refine wpAny_Try_except ?_
   refine wpAny_execs_cons (wpAny_Expr_any (Q:=fun _ _=>False) ?_ I.quiet hsw |> fun h=>wpAny_mono h (fun _ _ z=>False.elim z) fun _ _ z=>z)
   refine wpAny_Call_Name_kw (ur I hg hm ?_ hdf)
   refine PySem.W.callWith_K (h₀:=X.base) I.ok.mod.kin hk (wpAny_mono (ha cpos pins s σ H (fun vs H1=>∃F1,Ext F H F1 H1∧Are X.K F1 ds vs) (I.wish _) ⟨F0,H0,F,Γ,bs,En,hbs,fun vs F1 H1 e1 r1=>⟨F1,e1,vo hds' r1⟩⟩) (fun us s1 ⟨vs,H1,I1',r,F1,ex1,ra⟩=>⟨I1'.kIn,?_⟩) fun _ _ z=>False.elim z) he hpl
   have I1:=I1'.unwish
   have hl:(us++[]).length=ps.length:=by
    rw [List.append_nil,←r.length]
    exact Fn.len vs H1 (fun _ _=>False) (fun _ _ _=>True) ⟨F1,ds,ex1.fh,ra,hmd⟩
   refine wpAny_call (codeAny_mono (Fn.run X.A X.stack s1 H1 ⟨us,[]⟩ (us++[]) vs (fun _ _=>False) (fun _ _ _=>True) (hr.mono hkk) I1.env0 (hbn s1 us I1.kIn hl) (by rw [List.append_nil];exact r) ⟨F1,ds,ex1.fh,ra,hmd⟩) fun rr s' hq=>?_)
   cases rr with
   | ok fl =>
    cases fl with
    | ret u=>obtain ⟨_,_,_,_,_,_,_,z⟩:=hq;exact z.elim
    | next=>exact False.elim hq
    | brk=>exact False.elim hq
    | cont=>exact False.elim hq
   | error ee =>
    obtain ⟨a,H',B,a0,S⟩:=hq
    have:=S.ee;subst this
    obtain ⟨hp,g,dr,tk,os⟩:=s'
    have fly:Heap.FlyingW B (X.env::X.outer) a (.ref C) a0 hp:=by have:=S.fly;rw [hst] at this;exact this
    have frm:X.A.frames=some (X.env::X.outer):=by rw [I1.ok.frames,hst]
    refine wpAny_looks_onW frm hfrm fly fun h₄ held sm₄=>?_
    refine wpAny_landsW held fun h₅ fly₅ sm₅=>?_
    have I5:Inv X pins σ H' ⟨h₅,g,dr,tk,os⟩:=X6 (t':=tk) I1 S fly₅.1 (sm₄.trans sm₅)
    obtain ⟨nm,q',NN,bs1,bm,hdct,sn,sub,ab,col,dd,k0,k1,k2,k3,k5,newId,hC,hbase,_⟩:=PySem.W.kts_cls I5.kIn hcls
    obtain ⟨nm',q'',NN',bs',bm',hdct',sn',sub',ab',col',dd',l0,l1,l2,l3,l5,newId',hCb,hbaseB,_⟩:=PySem.W.kts_cls I5.kIn hclsB
    have hsub:=zcc I5.kIn hC hmro hne
    have hnone:H' a=none:=by
     cases z:H' a with
     | none=>rfl
     | some u =>
      obtain ⟨ob,hob⟩:=(S.hok a u z).ex
      have:=S.trk a u ob z hob
      rw [S.fly.2.1] at this;cases this
    have pinOf:∀{h:Heap} {oe:Obj} {vs:Array Value},h.FunFrames B (X.env::X.outer)→h.get? a=some oe→oe.data=.fields vs→a≠X.env.locals∧a ∉ X.fs∧∀v,oe.data≠.cell v:=fun {h oe vs} hf ho hd=>by
     have nin:a ∉ (X.env::X.outer).filterMap (·.frame):=fun z=>by
      obtain ⟨_,o',ho',hnf⟩:=hf.mem z
      rw [ho] at ho';cases ho'
      exact hnf vs hd
     refine ⟨fun z=>nin (List.mem_filterMap.mpr ⟨X.env,List.mem_cons_self,by rw [hfrm,z]⟩),fun z=>nin ?_,fun v z=>by rw [hd] at z;cases z⟩
     obtain ⟨en,hen,hf'⟩:=List.mem_filterMap.mp z
     exact List.mem_filterMap.mpr ⟨en,List.mem_cons_of_mem _ hen,hf'⟩
    obtain ⟨oe5,vs5,hoe5,hcl5,hdt5,_⟩:=fly₅.first
    obtain ⟨p51,p52,p53⟩:=pinOf fly₅.2.2.1 hoe5 hdt5
    have I5m:Inv (X.marked a oe5) pins σ H' ⟨h₅,g,dr,tk,os⟩:=I5.marked hoe5 hnone p51 p52 p53
    refine wpAny_handleBy_cons (codeAny_handlers_test (ur (X:=X.marked a oe5) I5m hcg hcm ?_ hdc)) (by intro q;cases q)
    refine Qn hC hCb hoe5 hcl5 hbaseB hsub ?_
    refine codeAny_handlers_suite_as (lands_againW fly₅ fun h₆ fly₆ sm₆=>?_)
    obtain ⟨oe,vs6,hoe,hcl,hdt,_⟩:=fly₆.first
    obtain ⟨p61,p62,p63⟩:=pinOf fly₆.2.2.1 hoe hdt
    have I6:Inv X pins σ H' ⟨h₆,g,dr,tk,os⟩:=X6 (t':=tk) I1 S fly₆.1 ((sm₄.trans sm₅).trans sm₆)
    have I6m:Inv (X.marked a oe) pins σ H' ⟨h₆,g,dr,tk,os⟩:=I6.marked hoe hnone p61 p62 p63
    refine Y8 (X:=X.marked a oe) I6m hN hj (Or.inl hloc) (v:=.ref a) (u:=.ref a) rfl (fun s₇ I7=>?_) (.inr hloc)
    have ex:Ext F H F1 H':=⟨ex1.ff,ex1.hh.trans S.same,fun b u z=>S.same b u (ex1.fh b u z),ex1.new⟩
    have En':EnvIs (X.marked a oe).K F0 H0 F1 H' (σ.set j (some (.ref a))) (Γ.set j (.v (.adr a))):=(En.grow ex).put (by simp [Is])
    have hrun:=(hbody a oe hcl) pins s₇ (σ.set j (some (.ref a))) H' { nx:=fun _ _=>False,rt:=fun v H2=>D.rt v H2 } I7 ⟨F0,H0,F1,_,.rt d,En',hball a,q.mono ex.ff⟩
    refine wpAny_mono hrun (fun fl s₈ hq=>?_) fun _ _ z=>False.elim z
    cases fl with
    | ret u =>
     obtain ⟨v8,σ8,H8,I8,r8,h8⟩:=hq
     have I8u:=I8.unmarked I1.ok
     obtain ⟨m8,hn8,_⟩:=I8u.loc
     have hkind:X.env.kindOf nx=some .local:=hloc
     refine wpAny_nameGoes hkind hn8 (by rw [I1.ok.kind];rfl) fun h' m' hns hsb=>?_
     have I9:=I8u.forget (t':=s₈.toks+1) hsb hns
     exact ⟨v8,_,H8,I9,r8,h8⟩
    | next=>obtain ⟨_,_,_,z⟩:=hq;exact z.elim
    | brk=>obtain ⟨_,_,_,z⟩:=hq;exact z.elim
    | cont=>obtain ⟨_,_,_,z⟩:=hq;exact z.elim
  ·have:(none:Option Out)=some o:=by simpa [hmd] using e
   cases this
end
end DD
namespace DD
open PySem PySem.Spec L2
open PyProof.Rows hiding St
section
variable {X:Cx} {C:Addr} {e:Expr} {es:List Expr} {fs:G→Option (List B)} {x:G→Bool} {pos:Pos}
theorem ZK{n:Str}{a:Addr}{p:Pos}(hg:Gl X n)(hm:X.mg n=some (.ref a))(hd:(n == ("__debug__":Str))=false:=by decide):EE X (.Name n p) (xC (.adr a)) :=
 yo (zO (v:=.ref a) hg hm rfl hd) fun σ H Q hh63'=>by
  obtain ⟨F0,H0,F,Γ,z,En,e,q⟩:=hh63'
  cases e
  exact q _ F H (.refl En.fh) (show Is X.K F (.adr a) (.ref a) by simp [Is])
theorem wZ{n:Str}{u:Value}{v:V}{p:Pos}(hg:Gl X n)(hm:X.mg n=some u)(r:yt v u)(hd:(n == ("__debug__":Str))=false:=by decide):EE X (.Name n p) (xC .opq) :=
 yo (zO (v:=v) hg hm r hd) fun σ H Q hh64'=>by
  obtain ⟨F0,H0,F,Γ,z,En,e,q⟩:=hh64'
  cases e
  exact q _ F H (.refl En.fh) (show Is X.K F .opq v by simp [Is])
theorem zdj{i:Expr}{fi:G→Option B}(h:RE X e x)(hi:EE X i fi)(hs:YL i):RE X (.Subscript e i pos) x:=yo (J4 (Vx.or U3) h hi hs) fun σ H Q q=>q
theorem zcd{n:Str}{fa:Addr}{p:Pos}(hg:Gl X n)(hm:X.mg n=some (.ref fa))(hk:PySem.W.keepIn X.K (.ref fa)=true)(h:RE X e x)(hdb:(n == ("__debug__":Str))=false:=by decide)(he:starEach [e] X.env=(false,eval e X.env)::starEach [] X.env:=by rfl):
  RE X (.Call (.Name n p) [e] [] pos) x:=by
 intro pins s σ H Q I q
 refine wpAny_Call_Name_kw (ur I hg hm ?_ hdb)
 exact PySem.W.callWith_K (h₀:=X.base) I.ok.mod.kin hk (thn ((yf h yx he) pos pins s σ H (fun _ _=>False) I q) fun us s1 hh65'=>(by obtain ⟨_,_,_,_,z⟩:=hh65';exact z.elim)) he rfl
def XM(fi:G→Option B)(ms:List (List D→Bool))(fs:G→Option (List B)):G→Bool:=fun Γ=>match fi Γ,(fs Γ).bind vn with
 | some (.d (.int i)),some ds=>(match atI ms i with
  | some m=>m ds
  | none=>false)
 | _,_=>false
theorem zaW{α β:Type}{xs:List α}{ys:List β}{i:Int}{y:β}(hl:xs.length=ys.length)(h:atI ys i=some y):∃(k:Nat) (x:α),atI xs i=some x∧xs[k]?=some x∧ys[k]?=some y:=by
 unfold atI at h ⊢
 rw [hl]
 cases hk:ixN ys.length i with
 | none=>rw [hk] at h;cases h
 | some k =>
  rw [hk] at h
  have h':ys[k]?=some y:=h
  have hlt:=(List.getElem?_eq_some_iff.mp h').1
  have hx:xs[k]?=some (xs[k]'(by omega)):=List.getElem?_eq_getElem _
  exact ⟨k,_,hx,hx,h'⟩
theorem VQ{n1 n2 n3 n4 n5:Str}{q1 q2 q3 q4 q5 lp sp:Pos}{idx:Expr}{fi:G→Option B}{m1 m2 m3 m4 m5:List D→Bool}{k k':Nat}(hx:X.Ok→XR X C) 
  (R1:Refuser X.prog X.w X.K X.mg X.base k n1 C m1) (R2:Refuser X.prog X.w X.K X.mg X.base k n2 C m2) (R3:Refuser X.prog X.w X.K X.mg X.base k n3 C m3) (R4:Refuser X.prog X.w X.K X.mg X.base k n4 C m4) (R5:Refuser X.prog X.w X.K X.mg X.base k n5 C m5) (hr:Room k' X.A) (hk:k≤k')
  (g1:Gl X n1) (g2:Gl X n2) (g3:Gl X n3) (g4:Gl X n4) (g5:Gl X n5) (hi:EE X.nox idx fi) (hs:YL idx) (ha:EA X.nox (e::es) fs)
  (d1:(n1 == ("__debug__":Str))=false:=by decide) (d2:(n2 == ("__debug__":Str))=false:=by decide) (d3:(n3 == ("__debug__":Str))=false:=by decide) (d4:(n4 == ("__debug__":Str))=false:=by decide) (d5:(n5 == ("__debug__":Str))=false:=by decide)
  (he:starEach (e::es) X.env=(false,eval e X.env)::starEach es X.env:=by rfl) (hpl:(backTo pos (starEach es X.env)).any (·.1)=false:=by rfl)
  (hc:eval (.Call (.Subscript (.List [.Name n1 q1,.Name n2 q2,.Name n3 q3,.Name n4 q4,.Name n5 q5] lp) idx sp) (e::es) [] pos) X.env=(do callWith pos (←eval (.Subscript (.List [.Name n1 q1,.Name n2 q2,.Name n3 q3,.Name n4 q4,.Name n5 q5] lp) idx sp) X.env) [] (backTo pos (starEach (e::es) X.env)) (backToKw pos (keywordEach [] X.env))):=by rfl) :
  RE X (.Call (.Subscript (.List [.Name n1 q1,.Name n2 q2,.Name n3 q3,.Name n4 q4,.Name n5 q5] lp) idx sp) (e::es) [] pos) (XM fi [m1,m2,m3,m4,m5] fs):=by
 obtain ⟨f1,fd1,ps1,Fn1,hm1,kp1,hb1⟩:=R1.ex
 obtain ⟨f2,fd2,ps2,Fn2,hm2,kp2,hb2⟩:=R2.ex
 obtain ⟨f3,fd3,ps3,Fn3,hm3,kp3,hb3⟩:=R3.ex
 obtain ⟨f4,fd4,ps4,Fn4,hm4,kp4,hb4⟩:=R4.ex
 obtain ⟨f5,fd5,ps5,Fn5,hm5,kp5,hb5⟩:=R5.ex
 have hl:EA X.nox [.Name n1 q1,.Name n2 q2,.Name n3 q3,.Name n4 q4,.Name n5 q5] (zb (xC (.adr f1)) (zb (xC (.adr f2)) (zb (xC (.adr f3)) (zb (xC (.adr f4)) (zb (xC (.adr f5)) zg))))):=za (ZK g1 hm1 d1) (za (ZK g2 hm2 d2) (za (ZK g3 hm3 d3) (za (ZK g4 hm4 d4) (za (ZK g5 hm5 d5) ze))))
 have hf:=zJ (pos:=sp) (z0 (z4 (pos:=lp) hl)) hi hs
 have all:∀(j:Nat) (a:Addr) (m:List D→Bool),[f1,f2,f3,f4,f5][j]?=some a→[m1,m2,m3,m4,m5][j]?=some m→∃fd ps,FnOk X.prog X.w X.K X.mg X.base (Fly X.prog X.w C) k a fd ps (spX X.K m)∧PySem.W.keepIn X.K (.ref a)=true∧v2 X.K fd ps []:=fun j a m h1 h2=>by
  rcases j with _|_|_|_|_|j
  ·cases h1;cases h2;exact ⟨_,_,Fn1,kp1,hb1⟩
  ·cases h1;cases h2;exact ⟨_,_,Fn2,kp2,hb2⟩
  ·cases h1;cases h2;exact ⟨_,_,Fn3,kp3,hb3⟩
  ·cases h1;cases h2;exact ⟨_,_,Fn4,kp4,hb4⟩
  ·cases h1;cases h2;exact ⟨_,_,Fn5,kp5,hb5⟩
  ·simp at h1
 rintro pins s σ H Q I ⟨F0,H0,F,Γ,En,hsm,hy⟩
 unfold XM at hy
 split at hy
 ·rename_i i ds hfi hds
  split at hy
  ·rename_i m hm
   obtain ⟨bs,hbs,hds'⟩:=bind_some hds
   obtain ⟨j,a,ha1,ha2,hm2'⟩:=zaW (xs:=[f1,f2,f3,f4,f5]) (ys:=[m1,m2,m3,m4,m5]) rfl hm
   obtain ⟨fd,ps,Fn,hkp,hb⟩:=all j a m ha2 hm2'
   have hfv:(x2 mIx (xL (zY (zb (xC (.adr f1)) (zb (xC (.adr f2)) (zb (xC (.adr f3)) (zb (xC (.adr f4)) (zb (xC (.adr f5)) zg))))))) fi) Γ=some (.d (.adr a)):=by
    have h0:(xL (zY (zb (xC (.adr f1)) (zb (xC (.adr f2)) (zb (xC (.adr f3)) (zb (xC (.adr f4)) (zb (xC (.adr f5)) zg))))))) Γ=some (.d (.lst ([f1,f2,f3,f4,f5].map D.adr))):=rfl
    have h1:atI ([f1,f2,f3,f4,f5].map D.adr) i=some (.adr a):=by
     unfold atI at ha1 ⊢
     rw [List.length_map]
     cases hz:ixN [f1,f2,f3,f4,f5].length i with
     | none=>rw [hz] at ha1;cases ha1
     | some z=>rw [hz] at ha1;show ([f1,f2,f3,f4,f5].map D.adr)[z]?=_;rw [List.getElem?_map,show [f1,f2,f3,f4,f5][z]?=some a from ha1];rfl
    unfold x2
    rw [h0,hfi]
    show (atI ([f1,f2,f3,f4,f5].map D.adr) i).map B.d=_
    rw [h1];rfl
   refine Call_ (thn ((PE.nox hf) pins s σ H (fun v H1=>∃F1,Ext F H F1 H1∧v=.ref a) I ⟨F0,H0,F,Γ,_,En,hfv,fun v F1 H1 e1 r1=>⟨F1,e1,by
    have r1':Is X.K F1 (.adr a) v:=r1
    simpa [Is] using r1'⟩⟩) fun fv s1 ⟨v,H1,I1,r1,F1,ex1,ev⟩=>?_) hc
   subst ev
   cases (show fv=Value.ref a from r1)
   refine PySem.W.callWith_K (h₀:=X.base) I1.ok.mod.kin hkp (thn ((PA.nox ha) pos pins s1 σ H1 (fun vs H2=>∃F2,zV F2 H2∧Are X.K F2 ds vs∧zV X.H₀ H2) I1 ⟨F0,H0,F1,Γ,bs,En.grow ex1,hbs,fun vs F2 H2 e2 r2=>⟨F2,e2.fh,vo hds' r2,(hsm.trans ex1.hh).trans e2.hh⟩⟩) fun us s2 ⟨vs,H2,I2,r,F2,sm,ra,hs2⟩=>⟨I2.kIn,?_⟩) he hpl
   have hlen:(us++[]).length=ps.length:=by
    rw [List.append_nil,←r.length]
    exact Fn.len vs H2 (fun _ _=>False) (fun _ _ _=>True) ⟨F2,ds,sm,ra,hy⟩
   refine wpAny_call (codeAny_mono (Fn.run X.A X.stack s2 H2 ⟨us,[]⟩ (us++[]) vs (fun _ _=>False) (fun _ _ _=>True) (hr.mono hk) I2.env0 (hb s2 us I2.kIn hlen) (by rw [List.append_nil];exact r) ⟨F2,ds,sm,ra,hy⟩) fun rr s' hq=>?_)
   cases rr with
   | ok fl =>
    cases fl with
    | ret u=>obtain ⟨_,_,_,_,_,_,_,z⟩:=hq;exact z.elim
    | next=>exact False.elim hq
    | brk=>exact False.elim hq
    | cont=>exact False.elim hq
   | error ee=>exact hx I2.ok ee s' (Qm (E':=fun _ _ _=>True) I2 hs2 hq)
  ·cases hy
 ·cases hy
end
end DD
namespace DD
open PySem PySem.Spec L2
open PyProof.Rows hiding St
open PySem.SeqAt (shaped compareEq_shaped compareNe_shaped canLay_of_shaped room_of_shaped eqAt_reads)
section
variable {X:Cx} {a e:Expr} {f g:G→Option B}
def wp:B→B→Option D:=fun x y=>x.lst.bind fun ds=>(Zs y).bind fun q=>if shaped q=true∧(toPs ds).all shaped=true then some (.int ((toPs ds).countP fun p=>PyData.eqv p q:Nat)) else none
def Qo(K:PySem.W.Frag):V→List V→Hp→VK→Prop:=fun x vs H Q=>∃F l ds ws y q,x=.ref l∧vs=[y]∧zV F H∧H l=some (.lst ws)∧Are K F ds ws∧RP K H y q∧shaped q=true∧(∀p∈toPs ds,shaped p=true)∧Q (.int ((toPs ds).countP fun p=>PyData.eqv p q:Nat)) H
theorem Jl{h:Heap}{q:PyData}:∀{ps:List PyData} {us:List Value} {as:List Addr},ReadsAll h us ps as→(∀p∈ps,shaped p=true)→us.countP (eqR h q)=ps.countP fun p=>PyData.eqv p q:=fun r c=>by
 obtain ⟨h1,h2⟩:=X5 (q:=q) r c
 rename_i ps us as
 have e:us.map (eqR h q)=ps.map fun p=>PyData.eqv p q:=List.ext_getElem (by simp [h1]) fun i a b=>by
  rw [List.getElem_map,List.getElem_map]
  exact h2 i (by simpa using a) (by simpa using b)
 have l:∀{α:Type} (p:α→Bool) (xs:List α),xs.countP p=(xs.map p).countP id:=fun p xs=>by rw [List.countP_map];rfl
 rw [l,e,←l]
theorem uB(hu:X.A.units+128 < cLine):MtM X "list.count" (Qo X.K):=by
 rintro pins s σ H x vs v us Q I rx rv ⟨F,l,ds,ws,y,q,ex,ey,sm,hl,ra,⟨F',b,sm',e,hb⟩,sq,sp,hq⟩
 subst ex
 subst ey
 cases rx
 obtain ⟨u,rfl,ru⟩:=rv.one
 have hu1:X.A.in1.units+64 < cLine:=by show X.A.units+1+64 < cLine;omega
 obtain ⟨z,its,n,r,hlen,eo⟩:=I.lstM hl
 obtain ⟨bs,rb⟩:=vX I sm' e hb ru (canLay_of_shaped sq)
 obtain ⟨as,rs⟩:=reads_Ds I sm ds ra r (Xf sp)
 refine call_meets PySem.F.slot_list_count ⟨_,eo,rfl⟩ PySem.F.entry_list_count (PySem.F.args_list_count_2 _ _)
  (SeqAt.list_countAt l its.toArray n none #[] u (eqR s.heap q)) ⟨eo,fun y hy=>?_,?_⟩
 ·exact ZC rb sq hu1 rs sp y (by simpa using hy)
 ·have:=Jl (q:=q) rs sp
  exact ⟨.int ((toPs ds).countP fun p=>PyData.eqv p q:Nat),H,I.tok _,⟨s.toks,by rw [←this]⟩,hq⟩
theorem u5{apos cpos:Pos}(h1:PE X (.Call (.Attribute a "count" apos) [e] [] cpos) (tBM X.K "list" (Qo X.K) (dE X.K f) (Xq (dE X.K g) WX))):EE X (.Call (.Attribute a "count" apos) [e] [] cpos) (x2 wp f g) :=
 yo h1 fun σ H Q hh66'=>by
  obtain ⟨F0,H0,F,Γ,z,E,e,q⟩:=hh66'
  obtain ⟨x,y,d,hx,hy,hd,rfl⟩:=uZ e
  obtain ⟨ds,hds,hd1⟩:=bind_some hd
  obtain ⟨p,hp,hd2⟩:=bind_some hd1
  by_cases hz:shaped p=true∧(toPs ds).all shaped=true
  ·rw [if_pos hz] at hd2
   cases hd2
   refine ⟨F0,H0,F,Γ,x,E,hx,fun v F1 H1 e1 r1=>?_⟩
   obtain ⟨l,ws,rfl,hl,ra⟩:=v6 e1.fh hds r1
   refine ⟨.inl ⟨rfl,ws,SqL.of hl⟩,F0,H0,F1,Γ,y,E.grow e1,hy,fun u F2 H2 e2 r2=>?_⟩
   exact ⟨F2,l,ds,ws,u,p,rfl,rfl,e2.fh,e2.hh _ _ hl,ra.mono e2.ff,⟨F2,y,e2.fh,hp,r2⟩,hz.1,fun p hp=>List.all_eq_true.mp hz.2 p hp,q _ F2 H2 (e1.trans e2) (wX (K:=X.K) (F:=F2))⟩
  ·rw [if_neg hz] at hd2;cases hd2
end
end DD
namespace Py
open PySem PySem.Spec L2 DD
open PyProof.Rows hiding St
def Wa:G→Option Out:=(zu (sIf (xOr (xT (zW u8 (zb (zd 0) (zb (xTy .bl) zg)))) (yP (xT (zW u8 (zb (zd 0) (zb (xTy .int) zg)))))) (zL (xC (.bl false))) zD) (zL (x3 mLe mLe (zd 1) (zd 0) (zd 2))))
def ue:List D→Option D:=mir 3 3 Wa
def XN:G→Option Out:=(zL (Z5 (zW u8 (zb (zd 0) (zb (xTy .tup) zg))) (x3 mLe mLe (zd 1) (zW x9 (zb (zd 0) zg)) (zd 2))))
def vj:List D→Option D:=mir 3 3 XN
def XO:G→Option Out:=(zu (sIf (xT (x2 (mEq false) (zd 0) (xC (.int 0)))) (zL (zt (zb (xC (.int 1)) zg))) zD) (zu (sIf (xT (x2 (mEq false) (zd 0) (x2 zP (zd 1) (xC (.int 1))))) (zL (zt (zb (w5 (xC (.int 1))) zg))) zD) (zL (zt (zb (xC (.int 1)) (zb (w5 (xC (.int 1))) zg))))))
def XQ:List D→Option D:=mir 2 2 XO
def uH:G→Option Out:=(zu (sIf (xT (zW u8 (zb (zd 0) (zb (xTy .str) zg)))) (zL (x2 (mIn false) (zd 0) (xG [(.str "yes"),(.str "no")]))) zD) (zu (sIf (xOr (yP (xT (xFn vj (zb (zd 0) (zb (xC (.int 2)) (zb (xC (.int 2)) zg)))))) (yP (xT (xFn ue (zb (x2 mIx (zd 0) (xC (.int 0))) (zb (xC (.int 0)) (zb (x2 X2 (zd 1) (xC (.int 1))) zg))))))) (zL (xC (.bl false))) zD) (zL (Z5 (xFn ue (zb (x2 mIx (zd 0) (xC (.int 1))) (zb (w5 (xC (.int 1))) (zb (xC (.int 1)) zg)))) (x2 (mIn false) (x2 mIx (zd 0) (xC (.int 1))) (zd 2))))))
def vO:List D→Option D:=mir 3 3 uH
def vq:G→Option B:=(xFn vO (zb (zd 1) (zb (zd 2) (zb (xFn XQ (zb (zd 0) (zb (zd 3) zg))) zg))))
def XS:G→Option Out:=(zu (sIf (yP (xT (xFn vj (zb (zd 0) (zb (x2 zP (zd 2) (xC (.int 2))) (zb (x2 zP (zd 2) (xC (.int 2))) zg)))))) (zL (xC (.bl false))) zD) (zL (zW Ys (zb (xL (xH (xEn (zb (zd 0) zg)) [none,none,some 1,some 2] (uE 2 (xJ (yu 0) (xJ (yu 1) uP))) yQ vq)) zg))))
def YU:List D→Option D:=mir 3 3 XS
def ZL:G→Option B:=(xFn YU (zb (zd 0) (zb (zW x9 (zb (zd 1) zg)) (zb (x2 mIx (zd 2) (xC (.int 0))) zg))))
def YA:G→Option Out:=(zu (sIf (xOr (yP (xT (xFn vj (zb (zd 0) (zb (xC (.int 2)) (zb (xC (.int 2)) zg)))))) (yP (xT (xFn ue (zb (x2 mIx (zd 0) (xC (.int 0))) (zb (xC (.int 1)) (zb (xC (.int 3)) zg))))))) (zL (xC (.bl false))) zD) (zu (ya 1 (x2 mIx (zd 0) (xC (.int 1)))) (zu (sIf (yP (xT (xFn vj (zb (zd 1) (zb (xC (.int 1)) (zb (xC (.int 12)) zg)))))) (zL (xC (.bl false))) zD) (zL (zW Ys (zb (xL (xH (ub (zd 1)) [none,some 1,some 0] (yu 0) yQ ZL)) zg))))))
def uf:List D→Option D:=mir 1 2 YA
def Uj:G→Option Out:=(zu (sIf (yP (xT (xFn uf (zb (zd 0) zg)))) sNo zD) (zL (zd 0)))
def yr:List D→Option D:=mir 1 1 Uj
def wF:G→Bool:=(yIf (yP (xT (xFn uf (zb (zd 0) zg)))) Ya yNo)
def zC:List D→Bool:=z5 1 1 wF
def xV:G→Option B:=(xFn ue (zb (zd 0) (zb (xC (.int 0)) (zb (x2 X2 (zd 1) (xC (.int 1))) zg))))
def yW:G→Bool:=(yIf (xOr (yP (xT (zW u8 (zb (zd 0) (zb (xTy .tup) zg))))) (yP (xT (zW Ys (zb (xL (xH (ub (zd 0)) [none,some 1] (yu 0) yQ xV)) zg))))) Ya yNo)
def zT:List D→Bool:=z5 2 2 yW
def vG:G→Bool:=(zI zC (zb (zd 0) zg))
def wy:List D→Bool:=z5 2 9 vG
def uC:G→Bool:=(zM yNo (xg (xFn yr (zb (zd 0) zg))) (zM yNo (ya 2 (x2 mIx (zd 0) (xC (.int 0)))) (zI zT (zb (zd 1) (zb (zd 2) zg)))))
def vC:List D→Bool:=z5 2 9 uC
def w6:G→Bool:=(zI zC (zb (zd 0) zg))
def we:List D→Bool:=z5 2 5 w6
def vR:G→Bool:=(zM yNo (xg (xFn yr (zb (zd 0) zg))) (zI zT (zb (zd 1) (zb (x2 mIx (zd 0) (xC (.int 0))) zg))))
def wO:List D→Bool:=z5 2 5 vR
def wP:G→Bool:=(zI zC (zb (zd 0) zg))
def x5:List D→Bool:=z5 1 1 wP
def Wb:G→Option B:=(xFn ue (zb (zd 0) (zb (xC (.int 0)) (zb (x2 X2 (zd 1) (xC (.int 1))) zg))))
def Uk:G→Option Out:=(zL (Z5 (zW u8 (zb (zd 0) (zb (xTy .tup) zg))) (zW Ys (zb (xL (xH (ub (zd 0)) [none,some 1] (yu 0) yQ Wb)) zg))))
def YB:List D→Option D:=mir 2 2 Uk
def Wc:G→Option B:=(x2 mLt (x2 mIx (zd 1) (zd 0)) (x2 mIx (zd 1) (x2 zP (zd 0) (xC (.int 1)))))
def Jm:G→Option Out:=(zL (zW Ys (zb (xL (xH (xR1 (zb (x2 X2 (zW x9 (zb (zd 0) zg)) (xC (.int 1))) zg)) [none,some 0] (yu 0) yQ Wc)) zg)))
def Xj:List D→Option D:=mir 1 1 Jm
def YV:G→Option B:=(Z5 (xFn YB (zb (zd 0) (zb (zW x9 (zb (zd 1) zg)) zg))) (x2 (mEq false) (zW x9 (zb (zd 0) zg)) (x2 mIx (zd 2) (xC (.int 0)))))
def uN:G→Option Out:=(zu (sIf (xOr (yP (xT (xFn vj (zb (zd 0) (zb (xC (.int 3)) (zb (xC (.int 3)) zg)))))) (yP (xT (xFn ue (zb (x2 mIx (zd 0) (xC (.int 0))) (zb (xC (.int 1)) (zb (xC (.int 3)) zg))))))) (zL (xC (.bl false))) zD) (zu (ya 1 (x2 mIx (zd 0) (xC (.int 1)))) (zu (sIf (yP (xT (xFn vj (zb (zd 1) (zb (xC (.int 1)) (zb (xC (.int 2000)) zg)))))) (zL (xC (.bl false))) zD) (zu (sIf (yP (xT (zW Ys (zb (xL (xH (ub (zd 1)) [none,some 1,some 0] (yu 0) yQ YV)) zg)))) (zL (xC (.bl false))) zD) (zL (Z5 (xFn YB (zb (x2 mIx (zd 0) (xC (.int 2))) (zb (zW x9 (zb (zd 1) zg)) zg))) (xFn Xj (zb (x2 mIx (zd 0) (xC (.int 2))) zg))))))))
def wQ:List D→Option D:=mir 1 2 uN
def Jn:G→Option Out:=(zu (sIf (yP (xT (xFn wQ (zb (zd 0) zg)))) sNo zD) (zL (zd 0)))
def xD:List D→Option D:=mir 1 1 Jn
def xK:G→Bool:=(yIf (yP (xT (xFn wQ (zb (zd 0) zg)))) Ya yNo)
def zx:List D→Bool:=z5 1 1 xK
def vt:G→Bool:=(zI zx (zb (zd 0) zg))
def wq:List D→Bool:=z5 2 4 vt
def vS:G→Bool:=(zM yNo (xg (xFn xD (zb (zd 0) zg))) (zI zT (zb (zd 1) (zb (x2 mIx (zd 0) (xC (.int 0))) zg))))
def wR:List D→Bool:=z5 2 4 vS
def Jo:G→Option B:=(xC (.bl false))
def Jp:G→Option Out:=(J8 1 (zd 2) (xC (.bl true)))
def zac:G→Option Out:=(zu (x0 1 (xH (ub (x2 mIx (zd 0) (xC (.int 1)))) [none] (yu 0) yQ Jo)) (zu (Xc (ub (x2 mIx (zd 0) (xC (.int 2)))) (yu 2) Jp) (zbO 1 (zL (zd 1)))))
def Ul:List D→Option D:=mir 1 3 zac
def vv:G→Bool:=(zI zx (zb (zd 0) zg))
def yF:List D→Bool:=z5 1 1 vv
def wj:G→Bool:=(zI zC (zb (zd 0) zg))
def yG:List D→Bool:=z5 2 4 wj
def yH:G→Bool:=(zM yNo (xg (xFn yr (zb (zd 0) zg))) (yIf (xOr (yP (xT (zW u8 (zb (zd 1) (zb (xTy .str) zg))))) (xT (x2 (mIn true) (zd 1) (xG [(.str "yes"),(.str "no"),(.str "round")])))) Ya yNo))
def xi:List D→Bool:=z5 2 4 yH
def xR:G→Bool:=(zM (zI zx (zb (zd 0) zg)) (xg (xFn xD (zb (zd 0) zg))) (zM (zI zx (zb (zd 1) zg)) (xg (xFn xD (zb (zd 1) zg))) (zM yNo (sIf (xT (x2 (mEq true) (x2 mIx (zd 0) (xC (.int 0))) (x2 mIx (zd 1) (xC (.int 0))))) sNo zD) yNo)))
def yp:List D→Bool:=z5 3 3 xR
def va:G→Bool:=(zM yNo (xg (xFn xD (zb (zd 0) zg))) (zM yNo (xg (xFn xD (zb (zd 1) zg))) (yIf (xT (x2 (mEq true) (x2 mIx (zd 0) (xC (.int 0))) (x2 mIx (zd 1) (xC (.int 0))))) Ya yNo)))
def yZ:List D→Bool:=z5 3 3 va
def vb:G→Bool:=(zI yp (zb (zd 0) (zb (zd 1) (zb (zd 2) zg))))
def yA:List D→Bool:=z5 3 4 vb
def vH:G→Bool:=(zI yZ (zb (zd 0) (zb (zd 1) (zb (zd 2) zg))))
def yK:List D→Bool:=z5 3 4 vH
def vI:G→Bool:=(zI yA (zb (zd 0) (zb (zd 1) (zb (xC .opq) zg))))
def xY:List D→Bool:=z5 2 2 vI
def ug:G→Bool:=(zI yK (zb (zd 0) (zb (zd 1) (zb (xC .opq) zg))))
def vk:List D→Bool:=z5 2 2 ug
def vc:G→Bool:=(zI yA (zb (zd 0) (zb (zd 1) (zb (xC .opq) zg))))
def xt:List D→Bool:=z5 2 2 vc
def vJ:G→Bool:=(zI yK (zb (zd 0) (zb (zd 1) (zb (xC .opq) zg))))
def wz:List D→Bool:=z5 2 2 vJ
def vK:G→Bool:=(zI yA (zb (zd 0) (zb (zd 1) (zb (xC .opq) zg))))
def xZ:List D→Bool:=z5 2 2 vK
def uh:G→Bool:=(zI yK (zb (zd 0) (zb (zd 1) (zb (xC .opq) zg))))
def vm:List D→Bool:=z5 2 2 uh
def wG:G→Bool:=(zI zx (zb (zd 0) zg))
def xS:List D→Bool:=z5 1 1 wG
def xj:G→Bool:=(zI yp (zb (zd 0) (zb (zd 1) (zb (zd 2) zg))))
def yh:List D→Bool:=z5 3 5 xj
def xE:G→Bool:=(zI yZ (zb (zd 0) (zb (zd 1) (zb (zd 2) zg))))
def yl:List D→Bool:=z5 3 5 xE
def vw:G→Bool:=(zI yh (zb (zd 0) (zb (zd 1) (zb (xC .opq) zg))))
def xM:List D→Bool:=z5 2 2 vw
def vT:G→Bool:=(zI yl (zb (zd 0) (zb (zd 1) (zb (xC .opq) zg))))
def wS:List D→Bool:=z5 2 2 vT
def vd:G→Bool:=(zI yh (zb (zd 0) (zb (zd 1) (zb (xC .opq) zg))))
def xu:List D→Bool:=z5 2 2 vd
def vL:G→Bool:=(zI yl (zb (zd 0) (zb (zd 1) (zb (xC .opq) zg))))
def wA:List D→Bool:=z5 2 2 vL
def wk:G→Bool:=(zI yF (zb (zd 0) zg))
def xn:List D→Bool:=z5 1 2 wk
def wH:G→Bool:=(zI yF (zb (zd 0) zg))
def xU:List D→Bool:=z5 2 4 wH
def zce:G→Option Out:=(sIf (xT (x2 mGt (zd 0) (xC (.int 12)))) sNo zD)
def Xk:List D→Option D:=mir 1 1 zce
def wI:G→Bool:=(yIf (xT (x2 mGt (zd 0) (xC (.int 12)))) Ya yNo)
def yM:List D→Bool:=z5 1 1 wI
def zad:G→Option Out:=(zu (sIf (xT (zW u8 (zb (zd 0) (zb (xTy .str) zg)))) (zL (zd 0)) zD) (zL (zt (zb (x2 zP (x2 mIx (zd 0) (xC (.int 0))) (zd 1)) (zb (x2 mIx (zd 0) (xC (.int 1))) zg)))))
def Um:List D→Option D:=mir 2 2 zad
def zae:G→Option Out:=(zu (sIf (xT (zW u8 (zb (zd 0) (zb (xTy .str) zg)))) (zL (zd 0)) zD) (zL (zt (zb (x2 zP (x2 mIx (zd 0) (xC (.int 0))) (xC (.int 1))) (zb (w5 (x2 mIx (zd 0) (xC (.int 1)))) zg)))))
def XT:List D→Option D:=mir 1 1 zae
def zaX:G→Option B:=(xFn XT (zb (zd 0) zg))
def zcf:G→Option Out:=(zu (ya 1 (x2 zP (x2 zP (zt (zb (x2 mIx (zd 0) (w5 (xC (.int 1)))) zg)) (xSl (zd 0) (xP (xC (.int 1))) (xP (w5 (xC (.int 1)))))) (zt (zb (x2 mIx (zd 0) (xC (.int 0))) zg)))) (zL (zW vE (zb (xL (xH (ub (zd 1)) [none] (yu 0) yQ zaX)) zg))))
def Jq:List D→Option D:=mir 1 2 zcf
def Jr:G→Option B:=(xFn Jq (zb (zd 0) zg))
def zaf:G→Option Out:=(zu (xg (xFn yr (zb (zd 0) zg))) (zu (ya 1 (x2 mIx (zd 0) (xC (.int 0)))) (zu (ya 2 (x2 mIx (zd 0) (xC (.int 1)))) (zu (xg (xFn Xk (zb (x2 zP (zW x9 (zb (zd 2) zg)) (xC (.int 1))) zg))) (zu (ya 3 (x2 zP (x2 xm (zt (zb (zt (zb (xC (.int 0)) (zb (xC (.int 1)) zg))) zg)) (x2 zP (zd 1) (xC (.int 1)))) (zt (zb (xFn XT (zb (x2 mIx (x2 mIx (zd 2) (xC (.int 0))) (xC (.int 0))) zg)) zg)))) (zL (zt (zb (zd 1) (zb (zW vE (zb (x2 zP (xL (zY (zb (zd 3) zg))) (xL (xH (ub (zd 2)) [none] (yu 0) yQ Jr))) zg)) zg)))))))))
def ui:List D→Option D:=mir 1 4 zaf
def wT:G→Bool:=(zI zC (zb (zd 0) zg))
def yT:List D→Bool:=z5 1 4 wT
def vM:G→Bool:=(zM yNo (xg (xFn yr (zb (zd 0) zg))) (zM yNo (ya 1 (x2 mIx (zd 0) (xC (.int 0)))) (zM yNo (ya 2 (x2 mIx (zd 0) (xC (.int 1)))) (zI yM (zb (x2 zP (zW x9 (zb (zd 2) zg)) (xC (.int 1))) zg)))))
def wB:List D→Bool:=z5 1 4 vM
def zaY:G→Option Out:=(zu (ya 5 (xIf (xT (x2 (mEq false) (zd 3) (xC (.int 0)))) (xC (.int 1)) (w5 (xC (.int 1))))) (Yu 2 (xIf (xT (x2 (mEq false) (zd 4) (xC (.str "yes")))) (zt (zb (zd 1) (zb (zd 5) zg))) (zd 4))))
def zcg:G→Option Out:=(zu (x0 2 (zY zg)) (zu (Xc (xEn (zb (zd 0) zg)) (uE 2 (xJ (yu 3) (xJ (yu 4) uP))) zaY) (zL (zW vE (zb (zd 2) zg)))))
def Js:List D→Option D:=mir 2 6 zcg
def zaZ:G→Option B:=(xFn Js (zb (zd 0) (zb (zd 1) zg)))
def za0:G→Option B:=(xFn Um (zb (zd 0) (zb (x2 zP (zd 1) (xC (.int 1))) zg)))
def za1:G→Option B:=(zW vE (zb (xL (xH (ub (zd 0)) [none,some 1] (yu 0) yQ za0)) zg))
def zch:G→Option Out:=(zu (xg (xFn yr (zb (zd 0) zg))) (zu (xg (xFn yr (zb (zd 1) zg))) (zu (ya 2 (x2 mIx (zd 0) (xC (.int 0)))) (zu (sIf (xT (x2 (mEq true) (zd 2) (x2 mIx (zd 1) (xC (.int 0))))) sNo zD) (zu (ya 3 (zW x9 (zb (x2 mIx (zd 0) (xC (.int 1))) zg))) (zu (xg (xFn Xk (zb (x2 zP (x2 zP (zd 3) (xC (.int 1))) (zW x9 (zb (x2 mIx (zd 1) (xC (.int 1))) zg))) zg))) (zu (ya 4 (xL (xH (ub (x2 mIx (zd 0) (xC (.int 1)))) [none,some 3] (yu 0) yQ zaZ))) (zu (ya 5 (xL (xH (ub (x2 mIx (zd 1) (xC (.int 1)))) [none,some 3] (yu 0) yQ za1))) (zu (ya 6 (x2 zP (zt (zb (x2 mIx (x2 mIx (zd 5) (xC (.int 0))) (xC (.int 0))) zg)) (x2 xm (zt (zb (zt (zb (zd 3) (zb (w5 (xC (.int 1))) zg))) zg)) (x2 zP (zd 2) (xC (.int 1)))))) (zL (zt (zb (zd 2) (zb (zW vE (zb (x2 zP (x2 zP (zd 4) (xL (zY (zb (zd 6) zg)))) (zd 5)) zg)) zg)))))))))))))
def YC:List D→Option D:=mir 2 7 zch
def xo:G→Bool:=(zM (zI zC (zb (zd 0) zg)) (xg (xFn yr (zb (zd 0) zg))) (zI zC (zb (zd 1) zg)))
def yi:List D→Bool:=z5 2 7 xo
def wU:G→Bool:=(zM yNo (xg (xFn yr (zb (zd 0) zg))) (zM yNo (xg (xFn yr (zb (zd 1) zg))) (zM yNo (ya 2 (x2 mIx (zd 0) (xC (.int 0)))) (yIf (xT (x2 (mEq true) (zd 2) (x2 mIx (zd 1) (xC (.int 0))))) Ya yNo))))
def yU:List D→Bool:=z5 2 7 wU
def wV:G→Bool:=(zM yNo (xg (xFn yr (zb (zd 0) zg))) (zM yNo (xg (xFn yr (zb (zd 1) zg))) (zM yNo (ya 2 (x2 mIx (zd 0) (xC (.int 0)))) (zM yNo (sIf (xT (x2 (mEq true) (zd 2) (x2 mIx (zd 1) (xC (.int 0))))) sNo zD) (zM yNo (ya 3 (zW x9 (zb (x2 mIx (zd 0) (xC (.int 1))) zg))) (zI yM (zb (x2 zP (x2 zP (zd 3) (xC (.int 1))) (zW x9 (zb (x2 mIx (zd 1) (xC (.int 1))) zg))) zg)))))))
def x6:List D→Bool:=z5 2 7 wV
def za2:G→Option B:=(zt (zb (zd 0) (zb (xC (.int 1)) zg)))
def za3:G→Option Out:=(zu (ya 5 (xIf (xT (x2 mIx (zd 1) (zd 3))) (xC (.str "yes")) (xC (.str "no")))) (Yu 2 (zW vE (zb (x2 zP (x2 zP (xL (zY (zb (zt (zb (zd 3) (zb (xC (.int 1)) zg))) zg))) (xL (xH (ub (zd 4)) [none] (yu 0) yQ za2))) (xL (zY (zb (zd 5) zg)))) zg))))
def zci:G→Option Out:=(zu (xg (xFn xD (zb (zd 0) zg))) (zu (xg (xFn Xk (zb (zW x9 (zb (x2 mIx (zd 0) (xC (.int 1))) zg)) zg))) (zu (ya 1 (xFn Ul (zb (zd 0) zg))) (zu (x0 2 (zY zg)) (zu (Xc (xEn (zb (x2 mIx (zd 0) (xC (.int 1))) zg)) (uE 2 (xJ (yu 3) (xJ (yu 4) uP))) za3) (zL (zt (zb (x2 mIx (zd 0) (xC (.int 0))) (zb (zW vE (zb (zd 2) zg)) zg)))))))))
def W7:List D→Option D:=mir 1 6 zci
def wl:G→Bool:=(zI zx (zb (zd 0) zg))
def xp:List D→Bool:=z5 1 6 wl
def ve:G→Bool:=(zI zC (zb (zd 0) zg))
def wf:List D→Bool:=z5 1 3 ve
def W8:G→Option Out:=(zu (sIf (xT (x2 mLt (zd 1) (zW x9 (zb (zd 0) zg)))) (zL (x2 mIx (zd 0) (zd 1))) zD) (zu (sIf (xT (x2 (mEq false) (zd 0) (xL (zY zg)))) (zL (xC (.int 0))) zD) (zL (x2 zP (x2 uM (x2 mIx (zd 0) (x2 zZ (zd 1) (zW x9 (zb (zd 0) zg)))) (xC (.int 31))) (zd 1)))))
def Uo:List D→Option D:=mir 2 2 W8
def Jt:G→Option Out:=(zu (ya 3 (x2 zZ (x2 uM (x2 zP (x2 zP (xFn Uo (zb (zd 0) (zb (zd 1) zg))) (x2 uM (xC (.int 7919)) (zd 1))) (xC (.int 1))) (xC (.int 48271))) (xC (.int 2147483647)))) (zL (x2 zZ (x2 zZ (x2 zP (x2 zP (x2 uM (zd 3) (zd 3)) (x2 uM (xC (.int 7)) (zd 3))) (zd 1)) (xC (.int 2147483629))) (zd 2))))
def wm:List D→Option D:=mir 3 4 Jt
def WH:G→Option Out:=(zu (ya 4 (xFn wm (zb (zd 0) (zb (zd 1) (zb (x2 uM (xC (.int 40)) (zd 2)) zg))))) (zu (sIf (xT (x2 mLt (x2 zZ (zd 4) (xC (.int 20))) (xC (.int 4)))) (zL (x2 mIx (xL (zY (zb (xC (.str "yes")) (zb (xC (.str "no")) zg)))) (x2 zZ (zd 4) (xC (.int 2))))) zD) (zL (zt (zb (x2 wC (zd 4) (xC (.int 40))) (zb (x2 mIx (zd 3) (x2 zZ (x2 wC (zd 4) (xC (.int 20))) (zW x9 (zb (zd 3) zg)))) zg))))))
def YW:List D→Option D:=mir 4 5 WH
def Wd:G→Option B:=(xFn YW (zb (zd 1) (zb (x2 zP (x2 zP (zd 2) (xC (.int 1))) (zd 0)) (zb (zd 3) (zb (xL (zY (zb (xC (.int 1)) (zb (w5 (xC (.int 1))) zg)))) zg)))))
def YX:G→Option Out:=(zu (ya 7 (x2 zP (x2 zP (zd 1) (xC (.int 1))) (x2 uM (xC (.int 5)) (zd 6)))) (zu (x0 8 (zY (zb (xFn YW (zb (zd 0) (zb (zd 7) (zb (zd 4) (zb (xL (zY (zb (xC (.int 1)) zg))) zg))))) zg))) (zu (vp 8 (xL (xH (xR1 (zb (zd 2) zg)) [none,some 0,some 7,some 4] (yu 0) yQ Wd))) (Yu 5 (zW vE (zb (x2 zP (zd 8) (xL (zY (zb (xFn YW (zb (zd 0) (zb (x2 zP (zd 7) (xC (.int 4))) (zb (zd 4) (zb (xL (zY (zb (w5 (xC (.int 1))) zg))) zg))))) zg)))) zg))))))
def Ju:G→Option Out:=(zu (ya 4 (x2 zP (xC (.int 1)) (xFn wm (zb (zd 0) (zb (zd 1) (zb (zd 3) zg)))))) (zu (x0 5 (zY zg)) (zu (Xc (xR1 (zb (zd 4) zg)) (yu 6) YX) (zL (zt (zb (zd 2) (zb (zW vE (zb (zd 5) zg)) zg)))))))
def W9:List D→Option D:=mir 4 9 Ju
def We:G→Option B:=(xFn wm (zb (zd 1) (zb (x2 zP (x2 zP (x2 zP (zd 2) (xC (.int 1))) (x2 uM (xC (.int 4)) (zd 3))) (zd 0)) (zb (zd 4) zg))))
def Wf:G→Option Out:=(zu (Yu 5 (zW vE (zb (xL (xH (xR1 (zb (zd 2) zg)) [none,some 0,some 1,some 7,some 4] (yu 0) yQ We)) zg))) (sIf (xT (x2 (mEq false) (xFn wm (zb (zd 0) (zb (x2 zP (x2 zP (zd 1) (xC (.int 4))) (x2 uM (xC (.int 4)) (zd 7))) (zb (xC (.int 2)) zg)))) (xC (.int 1)))) (Yu 6 (zd 7)) zD))
def Jv:G→Option Out:=(zu (ya 4 (x2 zP (xC (.int 1)) (xFn wm (zb (zd 0) (zb (zd 1) (zb (zd 3) zg)))))) (zu (x0 5 (zY zg)) (zu (x0 6 (zY zg)) (zu (Xc (xR1 (zb (zd 4) zg)) (yu 7) Wf) (zL (zt (zb (zd 2) (zb (zW vE (zb (zd 5) zg)) (zb (zW vE (zb (zd 6) zg)) zg)))))))))
def Va:List D→Option D:=mir 4 8 Jv
def xk:G→Bool:=(zM (yIf (xT (x2 (mEq false) (zd 0) (xC (.int 0)))) (zI wy (zb (zd 1) (zb (xC .non) zg))) yNo) (sIf (xT (x2 (mEq false) (zd 0) (xC (.int 0)))) sNo zD) (zM (yIf (xT (x2 (mEq false) (zd 0) (xC (.int 1)))) (zI we (zb (zd 1) (zb (xC .non) zg))) yNo) (sIf (xT (x2 (mEq false) (zd 0) (xC (.int 1)))) sNo zD) (zM (yIf (xT (x2 (mEq false) (zd 0) (xC (.int 2)))) (zI x5 (zb (zd 1) zg)) yNo) (sIf (xT (x2 (mEq false) (zd 0) (xC (.int 2)))) sNo zD) (zM (yIf (xT (x2 (mEq false) (zd 0) (xC (.int 3)))) (zI yG (zb (zd 1) (zb (xC .non) zg))) yNo) (sIf (xT (x2 (mEq false) (zd 0) (xC (.int 3)))) sNo zD) (zM (yIf (xT (x2 (mEq false) (zd 0) (xC (.int 4)))) (zI yT (zb (zd 1) zg)) yNo) (sIf (xT (x2 (mEq false) (zd 0) (xC (.int 4)))) (zL (xFn ui (zb (zd 1) zg))) zD) (zM (yIf (xT (x2 (mEq false) (zd 0) (xC (.int 5)))) (zI yi (zb (zd 1) (zb (zd 2) zg))) yNo) (sIf (xT (x2 (mEq false) (zd 0) (xC (.int 5)))) (zL (xFn YC (zb (zd 1) (zb (zd 2) zg)))) zD) (zM (yIf (xT (x2 (mEq false) (zd 0) (xC (.int 6)))) (zI yi (zb (zd 2) (zb (zd 1) zg))) yNo) (sIf (xT (x2 (mEq false) (zd 0) (xC (.int 6)))) (zL (xFn YC (zb (zd 2) (zb (zd 1) zg)))) zD) (zI wf (zb (zd 1) zg)))))))))
def yL:List D→Bool:=z5 3 3 xk
def yE:G→Bool:=(zM (yIf (xT (x2 (mEq false) (zd 0) (xC (.int 0)))) (zI zx (zb (zd 1) zg)) yNo) (sIf (xT (x2 (mEq false) (zd 0) (xC (.int 0)))) (zL (xFn xD (zb (zd 1) zg))) zD) (zM (yIf (xT (x2 (mEq false) (zd 0) (xC (.int 1)))) (zI wq (zb (zd 1) (zb (xC .non) zg))) yNo) (sIf (xT (x2 (mEq false) (zd 0) (xC (.int 1)))) sNo zD) (zM (yIf (xT (x2 (mEq false) (zd 0) (xC (.int 2)))) (zI yF (zb (zd 1) zg)) yNo) (sIf (xT (x2 (mEq false) (zd 0) (xC (.int 2)))) sNo zD) (zM (yIf (xT (x2 (mEq false) (zd 0) (xC (.int 3)))) (zI xS (zb (zd 1) zg)) yNo) (sIf (xT (x2 (mEq false) (zd 0) (xC (.int 3)))) sNo zD) (zM (yIf (xT (x2 (mEq false) (zd 0) (xC (.int 4)))) (zI xn (zb (zd 1) zg)) yNo) (sIf (xT (x2 (mEq false) (zd 0) (xC (.int 4)))) sNo zD) (zM (yIf (xT (x2 (mEq false) (zd 0) (xC (.int 5)))) (zI xU (zb (zd 1) (zb (xC (.int 2)) zg))) yNo) (sIf (xT (x2 (mEq false) (zd 0) (xC (.int 5)))) sNo zD) (zM (yIf (xT (x2 (mEq false) (zd 0) (xC (.int 6)))) (zI xp (zb (zd 1) zg)) yNo) (sIf (xT (x2 (mEq false) (zd 0) (xC (.int 6)))) (zL (xFn W7 (zb (zd 1) zg))) zD) (zM yNo (ya 3 (x2 mIx (xL (zY (zb (zd 1) (zb (zd 2) zg)))) (x2 zZ (zd 0) (xC (.int 2))))) (zM yNo (ya 4 (x2 mIx (xL (zY (zb (zd 2) (zb (zd 1) zg)))) (x2 zZ (zd 0) (xC (.int 2))))) (XM (x2 zZ (x2 wC (zd 0) (xC (.int 2))) (xC (.int 5))) [xY,xt,xZ,xM,xu] (zb (zd 3) (zb (zd 4) zg))))))))))))
def yV:List D→Bool:=z5 3 5 yE
def wc:G→Bool:=(zM (yIf (xT (x2 (mEq false) (zd 0) (xC (.int 0)))) (zI vC (zb (zd 1) (zb (zd 3) zg))) yNo) (sIf (xT (x2 (mEq false) (zd 0) (xC (.int 0)))) sNo zD) (zM (yIf (xT (x2 (mEq false) (zd 0) (xC (.int 1)))) (zI wO (zb (zd 1) (zb (zd 3) zg))) yNo) (sIf (xT (x2 (mEq false) (zd 0) (xC (.int 1)))) sNo zD) (zI wR (zb (zd 2) (zb (zd 3) zg)))))
def xl:List D→Bool:=z5 4 4 wc
def wn:G→Bool:=(zM (yIf (xT (x2 (mEq false) (zd 0) (xC (.int 5)))) (zI yU (zb (zd 3) (zb (zd 4) zg))) yNo) (sIf (xT (x2 (mEq false) (zd 0) (xC (.int 5)))) (zL (xFn YC (zb (zd 3) (zb (zd 4) zg)))) zD) (XM (zd 0) [vk,wz,vm,wS,wA] (zb (zd 1) (zb (zd 2) zg))))
def xq:List D→Bool:=z5 5 5 wn
def Vb:G→Option Out:=(zu (V8 (uE 2 (xJ (yu 2) (xJ (yu 3) uP))) (zd 0)) (zu (ya 4 (x2 mIx (xL (zY (zb (xC .non) (zb (xC (.str "maybe")) (zb (zt (zb (zW x9 (zb (zd 3) zg)) (zb (xC (.int 1)) zg))) (zb (zt (zb (xC (.int 0)) (zb (xC (.int 0)) zg))) (zb (zt (zb (xC (.bl true)) (zb (xC (.int 1)) zg))) (zb (xL (zY (zb (xC (.int 0)) (zb (xC (.int 1)) zg)))) zg)))))))) (x2 zZ (x2 wC (zd 1) (xC (.int 6))) (xC (.int 6))))) (zu (ya 5 (xL (zY (zb (zW YR (zb (zd 0) zg)) (zb (zt (zb (xC (.int 0)) (zb (zd 3) zg))) (zb (zt (zb (zd 2) (zb (zt zg) zg))) (zb (xC .non) (zb (zt (zb (zd 2) (zb (x2 zP (zd 3) (zt (zb (zt zg) zg))) zg))) zg)))))))) (zL (x2 mIx (x2 zP (zd 5) (xL (zY (zb (zt (zb (zd 2) (zb (x2 zP (zt (zb (x2 zP (zt (zb (zd 4) zg)) (xSl (x2 mIx (zd 3) (xC (.int 0))) (xP (xC (.int 1))) Yv)) zg)) (xSl (zd 3) (xP (xC (.int 1))) Yv)) zg))) zg)))) (x2 zZ (zd 1) (xC (.int 6))))))))
def Vc:List D→Option D:=mir 2 6 Vb
def Vd:G→Option Out:=(zu (V8 (uE 3 (xJ (yu 2) (xJ (yu 3) (xJ (yu 4) uP)))) (zd 0)) (zu (ya 5 (x2 mIx (xL (zY (zb (zW x9 (zb (zd 3) zg)) (zb (w5 (xC (.int 1))) (zb (xC (.bl true)) (zb (xC (.str "0")) (zb (xC .non) zg))))))) (x2 zZ (x2 wC (zd 1) (xC (.int 9))) (xC (.int 5))))) (zu (x0 6 (zY (zb (zW YR (zb (zd 0) zg)) (zb (zt (zb (xC (.int 4)) (zb (zd 3) (zb (zd 4) zg)))) (zb (zt (zb (zd 2) (zb (zt zg) (zb (zt zg) zg)))) (zb (zt (zb (zd 2) (zb (zW YR (zb (zd 3) zg)) (zb (zd 4) zg)))) (zb (zt (zb (zd 2) (zb (zd 3) (zb (zW YR (zb (zd 4) zg)) zg)))) zg))))))) (zu (vp 6 (xL (zY (zb (zt (zb (zd 2) (zb (zd 3) (zb (x2 zP (zd 4) (zt (zb (zd 5) zg))) zg)))) (zb (zt (zb (zd 2) (zb (zd 3) (zb (zt (zb (xC (.int 0)) (zb (xC (.int 0)) zg))) zg)))) (zb (xC .non) (zb (zt (zb (xC (.int 1)) (zb (x2 ud (zt (zb (zt (zb (xC (.int 0)) zg)) zg)) (xC (.int 2001))) (zb (zt zg) zg)))) zg))))))) (zL (x2 mIx (x2 zP (zd 6) (xL (zY (zb (zt (zb (zd 2) (zb (x2 zP (zt (zb (x2 zP (zt (zb (zd 5) zg)) (xSl (x2 mIx (zd 3) (xC (.int 0))) (xP (xC (.int 1))) Yv)) zg)) (xSl (zd 3) (xP (xC (.int 1))) Yv)) (zb (zd 4) zg)))) zg)))) (x2 zZ (zd 1) (xC (.int 10)))))))))
def Ve:List D→Option D:=mir 2 7 Vd
def wt:G→Bool:=(zM yNo (ya 5 (x2 mIx (zd 3) (xC (.int 0)))) (zM (yIf (xT (x2 (mEq false) (zd 1) (xC (.int 0)))) (zI yL (zb (x2 zZ (x2 wC (zd 2) (xC (.int 100))) (xC (.int 8))) (zb (xFn Vc (zb (zd 3) (zb (zd 2) zg))) (zb (zd 3) zg)))) yNo) (sIf (xT (x2 (mEq false) (zd 1) (xC (.int 0)))) sNo zD) (zM yNo (sIf (xT (x2 (mEq false) (zd 1) (xC (.int 1)))) sNo zD) (zM yNo (sIf (xT (x2 (mEq false) (zd 1) (xC (.int 2)))) (zu (ya 6 (x2 mIx (xL (zY (zb (xL (zY (zb (xC (.int 0)) zg))) (zb (zt (zb (zd 5) zg)) (zb (zt (zb (w5 (xC (.int 1))) zg)) (zb (zt (zb (xC (.bl true)) zg)) (zb (zt (zb (xC (.str "0")) zg)) (zb (xC .non) (zb (zt (zb (xC (.int 0)) (zb (xC (.int 0)) (zb (xC .non) zg)))) zg))))))))) (x2 zZ (zd 2) (xC (.int 7))))) sNo) zD) (zM (yIf (xT (x2 (mEq false) (zd 1) (xC (.int 3)))) (zI yG (zb (zd 3) (zb (x2 mIx (xL (zY (zb (xC (.str "Yes")) (zb (xC (.str "")) (zb (xC .non) (zb (xC (.int 0)) (zb (xC (.bl true)) (zb (zt (zb (xC (.str "yes")) zg)) (zb (xC (.str "maybe")) zg))))))))) (x2 zZ (zd 2) (xC (.int 7)))) zg))) yNo) (sIf (xT (x2 (mEq false) (zd 1) (xC (.int 3)))) sNo zD) (zM yNo (sIf (xT (x2 (mEq false) (zd 1) (xC (.int 4)))) (zu (ya 7 (zt (zb (x2 zP (x2 zZ (zd 5) (xC (.int 3))) (xC (.int 1))) (zb (x2 xm (zt (zb (x2 xm (zt (zb (xC (.str "no")) zg)) (x2 zP (x2 zZ (zd 5) (xC (.int 3))) (xC (.int 3)))) zg)) (x2 mIx (xL (zY (zb (xC (.int 1)) (zb (xC (.int 12)) zg)))) (x2 zZ (zd 2) (xC (.int 2))))) zg)))) (zu (ya 8 (zt (zb (x2 zP (x2 zZ (zd 5) (xC (.int 3))) (xC (.int 1))) (zb (zt (zb (x2 xm (zt (zb (xC (.int 0)) zg)) (x2 zP (x2 zZ (zd 5) (xC (.int 3))) (xC (.int 1)))) zg)) (zb (zt zg) zg))))) sNo)) zD) (zM yNo (ya 9 (zt (zb (zd 5) (zb (x2 ud (zt (zb (x2 xm (zt (zb (xC (.str "no")) zg)) (x2 zP (zd 5) (xC (.int 2)))) zg)) (xC (.int 12))) zg)))) (zM (yIf (xT (x2 (mEq false) (x2 zZ (zd 2) (xC (.int 2))) (xC (.int 0)))) (zI yT (zb (zd 9) zg)) yNo) (sIf (xT (x2 (mEq false) (x2 zZ (zd 2) (xC (.int 2))) (xC (.int 0)))) (zL (xFn ui (zb (zd 9) zg))) zD) (zI yi (zb (zd 3) (zb (zd 9) zg)))))))))))
def y3:List D→Bool:=z5 5 10 wt
def wJ:G→Bool:=(zM yNo (ya 5 (x2 mIx (zd 3) (xC (.int 0)))) (zM yNo (sIf (xT (x2 (mEq false) (zd 1) (xC (.int 0)))) sNo zD) (yIf (xT (x2 (mEq false) (zd 1) (xC (.int 1)))) (zI yV (zb (x2 zZ (x2 wC (zd 2) (xC (.int 100))) (xC (.int 17))) (zb (xFn Ve (zb (zd 4) (zb (zd 2) zg))) (zb (zd 4) zg)))) yNo)))
def xc:List D→Bool:=z5 5 10 wJ
def vf:G→Bool:=(zM yNo (ya 5 (x2 mIx (zd 3) (xC (.int 0)))) (zM yNo (sIf (xT (x2 (mEq false) (zd 1) (xC (.int 0)))) sNo zD) (zM yNo (sIf (xT (x2 (mEq false) (zd 1) (xC (.int 1)))) sNo zD) (yIf (xT (x2 (mEq false) (zd 1) (xC (.int 2)))) (zM yNo (ya 6 (x2 mIx (xL (zY (zb (xL (zY (zb (xC (.int 0)) zg))) (zb (zt (zb (zd 5) zg)) (zb (zt (zb (w5 (xC (.int 1))) zg)) (zb (zt (zb (xC (.bl true)) zg)) (zb (zt (zb (xC (.str "0")) zg)) (zb (xC .non) (zb (zt (zb (xC (.int 0)) (zb (xC (.int 0)) (zb (xC .non) zg)))) zg))))))))) (x2 zZ (zd 2) (xC (.int 7))))) (zI xl (zb (x2 zZ (x2 wC (zd 2) (xC (.int 100))) (xC (.int 3))) (zb (zd 3) (zb (zd 4) (zb (zd 6) zg)))))) yNo))))
def xv:List D→Bool:=z5 5 10 vf
def vg:G→Bool:=(zM yNo (ya 5 (x2 mIx (zd 3) (xC (.int 0)))) (zM yNo (sIf (xT (x2 (mEq false) (zd 1) (xC (.int 0)))) sNo zD) (zM yNo (sIf (xT (x2 (mEq false) (zd 1) (xC (.int 1)))) sNo zD) (zM yNo (sIf (xT (x2 (mEq false) (zd 1) (xC (.int 2)))) (zu (ya 6 (x2 mIx (xL (zY (zb (xL (zY (zb (xC (.int 0)) zg))) (zb (zt (zb (zd 5) zg)) (zb (zt (zb (w5 (xC (.int 1))) zg)) (zb (zt (zb (xC (.bl true)) zg)) (zb (zt (zb (xC (.str "0")) zg)) (zb (xC .non) (zb (zt (zb (xC (.int 0)) (zb (xC (.int 0)) (zb (xC .non) zg)))) zg))))))))) (x2 zZ (zd 2) (xC (.int 7))))) sNo) zD) (yIf (xT (x2 (mEq false) (zd 1) (xC (.int 3)))) (zI xi (zb (zd 3) (zb (x2 mIx (xL (zY (zb (xC (.str "Yes")) (zb (xC (.str "")) (zb (xC .non) (zb (xC (.int 0)) (zb (xC (.bl true)) (zb (zt (zb (xC (.str "yes")) zg)) (zb (xC (.str "maybe")) zg))))))))) (x2 zZ (zd 2) (xC (.int 7)))) zg))) yNo)))))
def xw:List D→Bool:=z5 5 10 vg
def vh:G→Bool:=(zM yNo (ya 5 (x2 mIx (zd 3) (xC (.int 0)))) (zM yNo (sIf (xT (x2 (mEq false) (zd 1) (xC (.int 0)))) sNo zD) (zM yNo (sIf (xT (x2 (mEq false) (zd 1) (xC (.int 1)))) sNo zD) (zM yNo (sIf (xT (x2 (mEq false) (zd 1) (xC (.int 2)))) (zu (ya 6 (x2 mIx (xL (zY (zb (xL (zY (zb (xC (.int 0)) zg))) (zb (zt (zb (zd 5) zg)) (zb (zt (zb (w5 (xC (.int 1))) zg)) (zb (zt (zb (xC (.bl true)) zg)) (zb (zt (zb (xC (.str "0")) zg)) (zb (xC .non) (zb (zt (zb (xC (.int 0)) (zb (xC (.int 0)) (zb (xC .non) zg)))) zg))))))))) (x2 zZ (zd 2) (xC (.int 7))))) sNo) zD) (zM yNo (sIf (xT (x2 (mEq false) (zd 1) (xC (.int 3)))) sNo zD) (zM (yIf (xT (x2 (mEq false) (zd 1) (xC (.int 4)))) (zM yNo (ya 7 (zt (zb (x2 zP (x2 zZ (zd 5) (xC (.int 3))) (xC (.int 1))) (zb (x2 xm (zt (zb (x2 xm (zt (zb (xC (.str "no")) zg)) (x2 zP (x2 zZ (zd 5) (xC (.int 3))) (xC (.int 3)))) zg)) (x2 mIx (xL (zY (zb (xC (.int 1)) (zb (xC (.int 12)) zg)))) (x2 zZ (zd 2) (xC (.int 2))))) zg)))) (zM yNo (ya 8 (zt (zb (x2 zP (x2 zZ (zd 5) (xC (.int 3))) (xC (.int 1))) (zb (zt (zb (x2 xm (zt (zb (xC (.int 0)) zg)) (x2 zP (x2 zZ (zd 5) (xC (.int 3))) (xC (.int 1)))) zg)) (zb (zt zg) zg))))) (zI xq (zb (x2 zZ (x2 wC (zd 2) (xC (.int 100))) (xC (.int 6))) (zb (zd 4) (zb (zd 8) (zb (zd 3) (zb (zd 7) zg)))))))) yNo) (sIf (xT (x2 (mEq false) (zd 1) (xC (.int 4)))) (zu (ya 7 (zt (zb (x2 zP (x2 zZ (zd 5) (xC (.int 3))) (xC (.int 1))) (zb (x2 xm (zt (zb (x2 xm (zt (zb (xC (.str "no")) zg)) (x2 zP (x2 zZ (zd 5) (xC (.int 3))) (xC (.int 3)))) zg)) (x2 mIx (xL (zY (zb (xC (.int 1)) (zb (xC (.int 12)) zg)))) (x2 zZ (zd 2) (xC (.int 2))))) zg)))) (zu (ya 8 (zt (zb (x2 zP (x2 zZ (zd 5) (xC (.int 3))) (xC (.int 1))) (zb (zt (zb (x2 xm (zt (zb (xC (.int 0)) zg)) (x2 zP (x2 zZ (zd 5) (xC (.int 3))) (xC (.int 1)))) zg)) (zb (zt zg) zg))))) sNo)) zD) (zM yNo (ya 9 (zt (zb (zd 5) (zb (x2 ud (zt (zb (x2 xm (zt (zb (xC (.str "no")) zg)) (x2 zP (zd 5) (xC (.int 2)))) zg)) (xC (.int 12))) zg)))) (zM yNo (sIf (xT (x2 (mEq false) (x2 zZ (zd 2) (xC (.int 2))) (xC (.int 0)))) (zL (xFn ui (zb (zd 9) zg))) zD) (zI yU (zb (zd 3) (zb (zd 9) zg)))))))))))
def xx:List D→Bool:=z5 5 10 vh
def wg:G→Bool:=(zM yNo (ya 5 (x2 mIx (zd 3) (xC (.int 0)))) (zM yNo (sIf (xT (x2 (mEq false) (zd 1) (xC (.int 0)))) sNo zD) (zM yNo (sIf (xT (x2 (mEq false) (zd 1) (xC (.int 1)))) sNo zD) (zM yNo (sIf (xT (x2 (mEq false) (zd 1) (xC (.int 2)))) (zu (ya 6 (x2 mIx (xL (zY (zb (xL (zY (zb (xC (.int 0)) zg))) (zb (zt (zb (zd 5) zg)) (zb (zt (zb (w5 (xC (.int 1))) zg)) (zb (zt (zb (xC (.bl true)) zg)) (zb (zt (zb (xC (.str "0")) zg)) (zb (xC .non) (zb (zt (zb (xC (.int 0)) (zb (xC (.int 0)) (zb (xC .non) zg)))) zg))))))))) (x2 zZ (zd 2) (xC (.int 7))))) sNo) zD) (zM yNo (sIf (xT (x2 (mEq false) (zd 1) (xC (.int 3)))) sNo zD) (zM yNo (sIf (xT (x2 (mEq false) (zd 1) (xC (.int 4)))) (zu (ya 7 (zt (zb (x2 zP (x2 zZ (zd 5) (xC (.int 3))) (xC (.int 1))) (zb (x2 xm (zt (zb (x2 xm (zt (zb (xC (.str "no")) zg)) (x2 zP (x2 zZ (zd 5) (xC (.int 3))) (xC (.int 3)))) zg)) (x2 mIx (xL (zY (zb (xC (.int 1)) (zb (xC (.int 12)) zg)))) (x2 zZ (zd 2) (xC (.int 2))))) zg)))) (zu (ya 8 (zt (zb (x2 zP (x2 zZ (zd 5) (xC (.int 3))) (xC (.int 1))) (zb (zt (zb (x2 xm (zt (zb (xC (.int 0)) zg)) (x2 zP (x2 zZ (zd 5) (xC (.int 3))) (xC (.int 1)))) zg)) (zb (zt zg) zg))))) sNo)) zD) (zM yNo (ya 9 (zt (zb (zd 5) (zb (x2 ud (zt (zb (x2 xm (zt (zb (xC (.str "no")) zg)) (x2 zP (zd 5) (xC (.int 2)))) zg)) (xC (.int 12))) zg)))) (zM (yIf (xT (x2 (mEq false) (x2 zZ (zd 2) (xC (.int 2))) (xC (.int 0)))) (zI wB (zb (zd 9) zg)) yNo) (sIf (xT (x2 (mEq false) (x2 zZ (zd 2) (xC (.int 2))) (xC (.int 0)))) (zL (xFn ui (zb (zd 9) zg))) zD) (zI x6 (zb (zd 3) (zb (zd 9) zg)))))))))))
def xy:List D→Bool:=z5 5 10 wg
def za4:G→Option B:=(x2 xm (zt (zb (x2 zZ (x2 zP (zd 0) (xC (.int 1))) (xC (.int 12))) zg)) (zd 1))
def zcj:G→Option Out:=(zu (ya 1 (x2 ud (zt (zb (x2 xm (zt (zb (xC (.str "no")) zg)) (x2 zP (zd 0) (xC (.int 2)))) zg)) (xC (.int 11)))) (zu (ya 2 (zt (zb (zd 0) (zb (zW vE (zb (xL (xH (xR1 (zb (xC (.int 12)) zg)) [none,some 0] (yu 0) yQ za4)) zg)) (zb (zt (zb (xC (.int 3)) (zb (xC (.int 11)) zg))) zg))))) (zu (sIf (xOr (xT (x2 (mEq true) (xFn xD (zb (zd 2) zg)) (zd 2))) (xT (x2 (mEq true) (xFn xD (zb (zt (zb (xC (.int 1)) (zb (x2 ud (zt (zb (zt (zb (xC (.int 0)) zg)) zg)) (xC (.int 2000))) (zb (zt zg) zg)))) zg)) (zt (zb (xC (.int 1)) (zb (x2 ud (zt (zb (zt (zb (xC (.int 0)) zg)) zg)) (xC (.int 2000))) (zb (zt zg) zg))))))) (zL (xC (.bl false))) zD) (zu (sIf (xOr (xT (x2 (mEq true) (zW x9 (zb (x2 mIx (xFn ui (zb (zt (zb (zd 0) (zb (zd 1) zg))) zg)) (xC (.int 1))) zg)) (xC (.int 12)))) (xT (x2 (mEq true) (zW x9 (zb (x2 mIx (xFn W7 (zb (zd 2) zg)) (xC (.int 1))) zg)) (xC (.int 12))))) (zL (xC (.bl false))) zD) (zL (x2 (mEq false) (zW x9 (zb (x2 mIx (xFn YC (zb (zt (zb (zd 0) (zb (xSl (zd 1) Yv (xP (xC (.int 5)))) zg))) (zb (zt (zb (zd 0) (zb (xSl (zd 1) Yv (xP (xC (.int 6)))) zg))) zg))) (xC (.int 1))) zg)) (xC (.int 12))))))))
def Up:List D→Option D:=mir 1 3 zcj
noncomputable def Uq:G→Option Out:=(zu (ya 1 (x2 zP (xC (.int 1)) (xFn wm (zb (zd 0) (zb (xC (.int 0)) (zb (xC (.int 3)) zg)))))) (zu (ya 2 (xFn W9 (zb (zd 0) (zb (xC (.int 1)) (zb (zd 1) (zb (xC (.int 3)) zg)))))) (zu (ya 3 (xFn Va (zb (zd 0) (zb (xC (.int 20)) (zb (zd 1) (zb (xC (.int 4)) zg)))))) (zu (sIf (xOr (xT (x2 (mEq true) (xFn xD (zb (zd 3) zg)) (zd 3))) (yP (xT (xFn Up (zb (zd 1) zg))))) (zL (xC (.bl false))) zD) (zu (ya 4 (xFn wm (zb (zd 0) (zb (xC (.int 40)) (zb (xC (.int 6)) zg))))) (zu (Zc (uG 5 y3 (zb (zd 0) (zb (zd 4) (zb (xFn wm (zb (zd 0) (zb (xC (.int 41)) (zb (x2 Yy (xC (.int 10)) (xC (.int 6))) zg)))) (zb (zd 2) (zb (zd 3) zg))))) (fun a=>(zu (x0 6 (zY (zb (zE 5 a true) (zb (zE 5 a false) (zb (zE 5 a false) (zb (zE 5 a false) zg)))))) (zu (vp 6 (xL (zY (zb (zE 5 a false) (zb (zE 5 a false) zg))))) (zu (sIf (xOr (xT (zE 5 a false)) (xOr (yP (xT (zE 5 a true))) (xT (x2 (mEq true) (x2 wp (zd 6) (xC (.bl true))) (xC (.int 1)))))) (zL (xC (.bl false))) zD) (zL (x2 (mEq false) (x2 wo (zd 6) (xC (.bl true))) (zd 4)))))))) (Zc (uG 5 xc (zb (zd 0) (zb (zd 4) (zb (xFn wm (zb (zd 0) (zb (xC (.int 41)) (zb (x2 Yy (xC (.int 10)) (xC (.int 6))) zg)))) (zb (zd 2) (zb (zd 3) zg))))) (fun a=>(zu (x0 6 (zY (zb (zE 5 a false) (zb (zE 5 a true) (zb (zE 5 a false) (zb (zE 5 a false) zg)))))) (zu (vp 6 (xL (zY (zb (zE 5 a false) (zb (zE 5 a false) zg))))) (zu (sIf (xOr (xT (zE 5 a false)) (xOr (yP (xT (zE 5 a true))) (xT (x2 (mEq true) (x2 wp (zd 6) (xC (.bl true))) (xC (.int 1)))))) (zL (xC (.bl false))) zD) (zL (x2 (mEq false) (x2 wo (zd 6) (xC (.bl true))) (zd 4)))))))) (Zc (uG 5 xv (zb (zd 0) (zb (zd 4) (zb (xFn wm (zb (zd 0) (zb (xC (.int 41)) (zb (x2 Yy (xC (.int 10)) (xC (.int 6))) zg)))) (zb (zd 2) (zb (zd 3) zg))))) (fun a=>(zu (x0 6 (zY (zb (zE 5 a false) (zb (zE 5 a false) (zb (zE 5 a true) (zb (zE 5 a false) zg)))))) (zu (vp 6 (xL (zY (zb (zE 5 a false) (zb (zE 5 a false) zg))))) (zu (sIf (xOr (xT (zE 5 a false)) (xOr (yP (xT (zE 5 a true))) (xT (x2 (mEq true) (x2 wp (zd 6) (xC (.bl true))) (xC (.int 1)))))) (zL (xC (.bl false))) zD) (zL (x2 (mEq false) (x2 wo (zd 6) (xC (.bl true))) (zd 4)))))))) (Zc (uG 5 xw (zb (zd 0) (zb (zd 4) (zb (xFn wm (zb (zd 0) (zb (xC (.int 41)) (zb (x2 Yy (xC (.int 10)) (xC (.int 6))) zg)))) (zb (zd 2) (zb (zd 3) zg))))) (fun a=>(zu (x0 6 (zY (zb (zE 5 a false) (zb (zE 5 a false) (zb (zE 5 a false) (zb (zE 5 a true) zg)))))) (zu (vp 6 (xL (zY (zb (zE 5 a false) (zb (zE 5 a false) zg))))) (zu (sIf (xOr (xT (zE 5 a false)) (xOr (yP (xT (zE 5 a true))) (xT (x2 (mEq true) (x2 wp (zd 6) (xC (.bl true))) (xC (.int 1)))))) (zL (xC (.bl false))) zD) (zL (x2 (mEq false) (x2 wo (zd 6) (xC (.bl true))) (zd 4)))))))) (Zc (uG 5 xx (zb (zd 0) (zb (zd 4) (zb (xFn wm (zb (zd 0) (zb (xC (.int 41)) (zb (x2 Yy (xC (.int 10)) (xC (.int 6))) zg)))) (zb (zd 2) (zb (zd 3) zg))))) (fun a=>(zu (x0 6 (zY (zb (zE 5 a false) (zb (zE 5 a false) (zb (zE 5 a false) (zb (zE 5 a false) zg)))))) (zu (vp 6 (xL (zY (zb (zE 5 a true) (zb (zE 5 a false) zg))))) (zu (sIf (xOr (xT (zE 5 a false)) (xOr (yP (xT (zE 5 a true))) (xT (x2 (mEq true) (x2 wp (zd 6) (xC (.bl true))) (xC (.int 1)))))) (zL (xC (.bl false))) zD) (zL (x2 (mEq false) (x2 wo (zd 6) (xC (.bl true))) (zd 4)))))))) (uG 5 xy (zb (zd 0) (zb (zd 4) (zb (xFn wm (zb (zd 0) (zb (xC (.int 41)) (zb (x2 Yy (xC (.int 10)) (xC (.int 6))) zg)))) (zb (zd 2) (zb (zd 3) zg))))) (fun a=>(zu (x0 6 (zY (zb (zE 5 a false) (zb (zE 5 a false) (zb (zE 5 a false) (zb (zE 5 a false) zg)))))) (zu (vp 6 (xL (zY (zb (zE 5 a false) (zb (zE 5 a true) zg))))) (zu (sIf (xOr (xT (zE 5 a false)) (xOr (yP (xT (zE 5 a true))) (xT (x2 (mEq true) (x2 wp (zd 6) (xC (.bl true))) (xC (.int 1)))))) (zL (xC (.bl false))) zD) (zL (x2 (mEq false) (x2 wo (zd 6) (xC (.bl true))) (zd 4))))))))))))) (zL (xC (.bl false)))))))))
noncomputable def YY:List D→Option D:=mir 1 7 Uq
end Py
namespace Py
open PySem L2 DD Pu
theorem Qp{i:Int}(h:-(2 ^ 64) < i∧i < 2 ^ 64):xz i=true:=by unfold xz;simp only [h.1,h.2,decide_true,Bool.and_self]
theorem zck{ns:List Int}{k:Nat}:∃v:Int,Uo [.scr ns,.int k]=some (.int v):=by
 by_cases h:k < ns.length
 ·refine ⟨ns[k],zS rfl ?_⟩
  simp [W8,zh,xQ,h]
 ·by_cases h2:ns=[]
  ·subst h2
   refine ⟨0,zS rfl ?_⟩
   have e:¬((k:Int) < 0):=by omega
   simp [W8,zh,VP,e]
  ·have h0:0 < ns.length:=List.length_pos_iff.mpr h2
   have hm:(k:Int) % (ns.length:Int)=((k % ns.length:Nat):Int):=by simp
   have hlt:k % ns.length < ns.length:=Nat.mod_lt _ h0
   refine ⟨ns[k % ns.length] * 31+k,zS rfl ?_⟩
   have e:¬((k:Int) < (ns.length:Int)):=by omega
   have hp:(0:Int) < (ns.length:Int):=by omega
   simp [W8,zh,VP,h2,e,uQ hp]
   rw [hm,xQ]
   simp [hlt,uF (.inr (show xz 31=true by decide))]
theorem v0{ns:List Int}{k many:Nat}(hm:0 < many):∃v:Nat,v < many∧wm [.scr ns,.int k,.int many]=some (.int v):=by
 obtain ⟨c,hc⟩:=zck (ns:=ns) (k:=k)
 have hpos:(0:Int) < many:=by omega
 generalize hd:(c+7919 * (k:Int)+1) * 48271 % 2147483647=d
 have d0:0≤d:=by rw [←hd];exact Int.emod_nonneg _ (by decide)
 have d1:d < 2147483647:=by rw [←hd];exact Int.emod_lt_of_pos _ (by decide)
 refine ⟨((d * d+7 * d+k) % 2147483629 % many).toNat,?_,zS rfl ?_⟩
 ·have h1:=Int.emod_nonneg ((d * d+7 * d+k) % 2147483629) (b:=(many:Int)) (by omega)
  have h2:=Int.emod_lt_of_pos ((d * d+7 * d+k) % 2147483629) hpos
  omega
 ·have h1:=Int.emod_nonneg ((d * d+7 * d+k) % 2147483629) (b:=(many:Int)) (by omega)
  have sd:xz d=true:=Qp ⟨by omega,by omega⟩
  have s1:xz 7919=true:=by decide
  have s2:xz 48271=true:=by decide
  have s3:xz 7=true:=by decide
  simp [Jt,zh,hc,uF (.inl s1),uF (.inr s2),uQ (show (0:Int) < 2147483647 by decide),hd,uF (.inl s3),uF (.inl sd),uQ (show (0:Int) < 2147483629 by decide),uQ hpos]
  omega
abbrev YD:Str:=Str.ofString "yes"
abbrev Zt:Str:=Str.ofString "no"
def yY:Mv Str→D
 | .fin s=>.str s
 | .go r b=>.tup [.int r,.int (if b then 1 else -1)]
def ym(rm:List (Mv Str)):D:=.tup (rm.map yY)
def wW(L:Nat)(rooms:List (List (Mv Str))):D:=.tup [.int L,.tup (rooms.map ym)]
def zcl(n L c:Nat):Mv Str→Prop
 | .fin s=>s=YD∨s=Zt
 | .go r b=>r < n∧(c=0→b=true)∧(c=L+1→b=false)
structure OkRoom (n L:Nat) (rm:List (Mv Str)):Prop where
 len:rm.length=L+2
 mvs:∀(c:Nat) (h:c < rm.length),zcl n L c rm[c]
structure OkM (L:Nat) (rooms:List (List (Mv Str))):Prop where
 l1:1≤L
 l3:L≤3
 r1:1≤rooms.length
 r12:rooms.length≤12
 all:∀rm∈rooms,OkRoom rooms.length L rm
theorem Vf{ns:List Int}{k many:Nat}{ways:List Bool}(hm:0 < many)(hw:0 < ways.length)(hw2:ways.length < 1000):∃m:Mv Str,YW [.scr ns,.int k,.int many,.lst (ways.map fun b=>.int (if b then 1 else -1))]=some (yY m)∧match m with
  | .fin s=>s=YD∨s=Zt
  | .go r b=>r < many∧b∈ways:=by
 obtain ⟨v,hv,hc⟩:=v0 (ns:=ns) (k:=k) (many:=40 * many) (by omega)
 have s1:xz 40=true:=by decide
 have e40:((40 * many:Nat):Int)=40 * (many:Int):=by omega
 rw [e40] at hc
 by_cases h:v % 20 < 4
 ·have h':(v:Int) % 20 < 4:=by omega
  have e2:(v:Int) % 2=((v % 2:Nat):Int):=by omega
  refine ⟨.fin (if v % 2=0 then YD else Zt),zS rfl ?_,?_⟩
  ·simp [WH,zh,uF (.inl s1),hc,uQ (show (0:Int) < 20 by decide),h',uQ (show (0:Int) < 2 by decide)]
   rw [e2,xQ]
   rcases Nat.mod_two_eq_zero_or_one v with z|z <;> simp [z,yY,YD,Zt]
  ·by_cases z:v % 2=0 <;> simp [z]
 ·have h':¬(v:Int) % 20 < 4:=by omega
  have hlt:v / 20 % ways.length < ways.length:=Nat.mod_lt _ hw
  have e1:(v:Int) / 20 % (ways.length:Int)=((v / 20 % ways.length:Nat):Int):=by simp
  have hp:(0:Int) < (ways.length:Int):=by omega
  refine ⟨.go (v / 40) ways[v / 20 % ways.length],zS rfl ?_,?_,List.getElem_mem _⟩
  ·simp [WH,zh,uF (.inl s1),hc,uQ (show (0:Int) < 20 by decide),h',Uf (show (0:Int) < 40 by decide) (by decide),Uf (show (0:Int) < 20 by decide) (by decide),uQ hp]
   rw [e1,xQ]
   simp [hlt,yY]
  ·omega
theorem zcm{ns:List Int}{a L n k:Nat}{most:Int}{s6 s7 s8:S}{rooms:List (List (Mv Str))}(hL:L≤3)(hn:0 < n)(hr:rooms.length < 1000):∃g2 rm,YX [.v (.scr ns),.v (.int a),.v (.int L),.v (.int most),.v (.int n),.ol (rooms.map ym),.v (.int k),s7,s8]=some (.nx g2)∧OkRoom n L rm ∧
  ∃s6 s7 s8,g2=[.v (.scr ns),.v (.int a),.v (.int L),.v (.int most),.v (.int n),.ol ((rooms++[rm]).map ym),s6,s7,s8]:=by
 have s5:xz 5=true:=by decide
 obtain ⟨m0,hm0,ho0⟩:=Vf (ns:=ns) (k:=a+1+5 * k) (many:=n) (ways:=[true]) hn (by simp) (by simp)
 obtain ⟨m9,hm9,ho9⟩:=Vf (ns:=ns) (k:=a+1+5 * k+4) (many:=n) (ways:=[false]) hn (by simp) (by simp)
 obtain ⟨ms,hc,hml,hmo⟩:=Zb yY (t:=yu 0) (cond:=yQ) (el:=Wd)
  (Γ:=[.v (.scr ns),.v (.int a),.v (.int L),.v (.int most),.v (.int n),.ol (rooms.map ym),.v (.int k),.v (.int (a+1+5 * k)),.ol [yY m0]]) (ms:=[none,some 0,some 7,some 4]) (ds:=xh 0 L)
  (fun _ m=>match m with|.fin s=>s=YD∨s=Zt|.go r b=>r < n) (by simp;omega) (by
   intro j hj
   have hj':j < L:=by simpa using hj
   obtain ⟨m,hm,ho⟩:=Vf (ns:=ns) (k:=a+1+5 * k+1+j) (many:=n) (ways:=[true,false]) hn (by simp) (by simp)
   refine ⟨_,m,rfl,rfl,?_,?_⟩
   ·have e2:((a+1+5 * k+1+j:Nat):Int)=(a:Int)+1+5 * k+1+j:=by omega
    rw [e2] at hm
    simp at hm
    simp [wa,Wd,hm]
   ·cases m with
    | fin s=>exact ho
    | go r b=>exact ho.1)
 have e3:((a+1+5 * k:Nat):Int)=(a:Int)+1+5 * k:=by omega
 have e4:((a+1+5 * k+4:Nat):Int)=(a:Int)+1+5 * k+4:=by omega
 rw [e3] at hm0
 rw [e4] at hm9
 simp at hm0 hm9
 have hml':ms.length=L:=by simpa using hml
 refine ⟨[.v (.scr ns),.v (.int a),.v (.int L),.v (.int most),.v (.int n),.ol ((rooms++[m0::ms++[m9]]).map ym),.v (.int k),.v (.int (a+1+5 * k)),.ol ((m0::ms).map yY)],m0::ms++[m9],?_,⟨by simp [hml'],fun c hc=>?_⟩,_,_,_,rfl⟩
 ·have c1:¬16777216 < 1+L:=by omega
  have c2:1+L≤16777216:=by omega
  have c3:L+1+1≤16777216:=by omega
  have c4:rooms.length < 16777216:=by omega
  simp [YX,uF (.inl s5),hm0,wN,ZI (show L < 1000000 by omega),hc,hm9,hml',c2,c3,c4,ym]
 ·have hc':c < L+2:=by simpa [hml'] using hc
  by_cases h0:c=0
  ·subst h0
   cases m0 with
   | fin s=>exact ho0
   | go r b=>exact ⟨ho0.1,fun _=>by simpa using ho0.2,fun z=>by omega⟩
  ·by_cases h1:c=L+1
   ·subst h1
    have:(m0::ms++[m9])[L+1]'hc=m9:=by simp [hml']
    rw [this]
    cases m9 with
    | fin s=>exact ho9
    | go r b=>exact ⟨ho9.1,fun z=>by omega,fun _=>by simpa using ho9.2⟩
   ·obtain ⟨j,rfl⟩:∃j,c=j+1:=⟨c - 1,by omega⟩
    have hj:j < ms.length:=by omega
    have:(m0::ms++[m9])[j+1]'hc=ms[j]:=by simp [List.getElem_append_left,hj]
    rw [this]
    have:=hmo j hj
    cases hq:ms[j] with
    | fin s=>rw [hq] at this;exact this
    | go r b=>rw [hq] at this;exact ⟨this,fun z=>by omega,fun z=>by omega⟩
theorem Qq{ns:List Int}{a L most:Nat}(hL:L≤3)(hm:0 < most)(hm2:most≤12):∃rooms:List (List (Mv Str)),W9 [.scr ns,.int a,.int L,.int most]=some (wW L rooms)∧1≤rooms.length∧rooms.length≤most∧∀rm∈rooms,OkRoom rooms.length L rm:=by
 obtain ⟨v,hv,hc⟩:=v0 (ns:=ns) (k:=a) hm
 obtain ⟨g,h1,s6,s7,s8,rooms,hg,hlen,hok⟩:=X9 (t:=yu 6) (fb:=YX) (xh 0 (1+v))
  (fun k Γ=>∃s6 s7 s8,∃rooms:List (List (Mv Str)),Γ=[.v (.scr ns),.v (.int a),.v (.int L),.v (.int most),.v (.int ((1+v:Nat):Int)),.ol (rooms.map ym),s6,s7,s8]∧rooms.length=k∧∀rm∈rooms,OkRoom (1+v) L rm)
  [.v (.scr ns),.v (.int a),.v (.int L),.v (.int most),.v (.int ((1+v:Nat):Int)),.ol [],.un,.un,.un] ⟨.un,.un,.un,[],rfl,rfl,by simp⟩ (by
   rintro k Γ hk ⟨s6,s7,s8,rooms,rfl,hl,hok⟩
   have hk':k < 1+v:=by simpa using hk
   obtain ⟨g2,rm,h2,h3,h4⟩:=zcm (ns:=ns) (a:=a) (L:=L) (n:=1+v) (k:=k) (most:=most) (s6:=s6) (s7:=s7) (s8:=s8) (rooms:=rooms) hL (by omega) (by omega)
   refine ⟨_,g2,?_,h2,?_⟩
   ·simp
   ·obtain ⟨t6,t7,t8,rfl⟩:=h4
    refine ⟨_,_,_,rooms++[rm],rfl,by simp [hl],fun r hr=>?_⟩
    rcases List.mem_append.mp hr with h|h
    ·exact hok r h
    ·simp at h;subst h;exact h3)
 have hlen':rooms.length=1+v:=by simpa using hlen
 refine ⟨rooms,zS rfl ?_,by omega,by omega,by rw [hlen'];exact hok⟩
 have e:(1:Int)+(v:Int)=((1+v:Nat):Int):=by omega
 subst hg
 simp only [Ju,zh,zb4,zb6,zer,zep,Ud,u4,Qi,Qj]
 simp [hc]
 rw [e,ZI (by omega),Qk,h1]
 simp [wW]
@[simp] theorem zfp:isi .bl .bl=true:=by decide
@[simp] theorem zfq:isi .int .bl=false:=by decide
@[simp] theorem zfr:isi .int .int=true:=by decide
@[simp] theorem zfs:isi .int .str=false:=by decide
@[simp] theorem zft:isi .str .str=true:=by decide
@[simp] theorem zfu:isi .str .bl=false:=by decide
@[simp] theorem zfv:isi .str .int=false:=by decide
@[simp] theorem zfw:isi .tup .str=false:=by decide
@[simp] theorem zfx:isi .tup .tup=true:=by decide
@[simp] theorem zfy:isi .lst .str=false:=by decide
@[simp] theorem zfz:isi .lst .tup=false:=by decide
@[simp] theorem zfA:isi .non .str=false:=by decide
@[simp] theorem zfB:isi .non .tup=false:=by decide
@[simp] theorem zfC:isi .non .bl=false:=by decide
@[simp] theorem zfD:isi .non .int=false:=by decide
theorem yX{i lo hi:Int}:ue [.int i,.int lo,.int hi]=some (.bl (decide (lo≤i∧i≤hi))):=by
 refine zS rfl ?_
 simp [Wa,zh]
 rw [Ql (k:=hi) (by simp)]
 simp
theorem x8{ds:List D}{lo hi:Int}:vj [.tup ds,.int lo,.int hi]=some (.bl (decide (lo≤ds.length∧ds.length≤hi))):=by
 refine zS rfl ?_
 simp [XN,zh]
 rw [Ql (k:=hi) (by simp)]
 simp
def ways(c L:Nat):List Bool:=if c=0 then [true] else if c=L+1 then [false] else [true,false]
def vU(b:Bool):D:=.int (if b then 1 else -1)
theorem Vg{c L:Nat}:XQ [.int c,.int L]=some (.tup ((ways c L).map vU)):=by
 refine zS rfl ?_
 unfold ways
 by_cases h0:c=0
 ·subst h0
  simp [XO,zh,vU]
 ·by_cases h1:c=L+1
  ·subst h1
   have e0:((L+1:Nat):Int)≠0:=by omega
   have e0':¬((L:Int)+1=0):=by omega
   simp [XO,zh,vU,e0']
  ·have e0:¬((c:Int)=0):=by omega
   have e1:¬((c:Int)=(L:Int)+1):=by omega
   simp [XO,zh,vU,h0,h1,e1]
theorem za5{b:Bool}:OkD 0 (vU b):=OkD.int
theorem za6:PyData.strOk YD=true:=by decide +kernel
theorem za7:PyData.strOk Zt=true:=by decide +kernel
theorem Qr{n L c:Nat}{m:Mv Str}(h:zcl n L c m):vO [yY m,.int n,.tup ((ways c L).map vU)]=some (.bl true):=by
 refine zS rfl ?_
 cases m with
 | fin s =>
  have hs:PyData.strOk s=true:=by rcases h with rfl|rfl <;> decide +kernel
  simp [uH,zh,yY]
  rw [zcb (n:=0) (x:=.str s) (b:=.c [.str YD,.str Zt]) (ds:=[.str YD,.str Zt]) (OkD.str hs) rfl (by
   intro d hd
   simp at hd
   rcases hd with rfl|rfl
   ·exact OkD.str za6
   ·exact OkD.str za7)]
  rcases h with rfl|rfl <;> simp [toP,PyData.eqv]
 | go r b =>
  obtain ⟨h1,h2,h3⟩:=h
  have e1:(0:Int)≤r∧(r:Int)≤(n:Int) - 1:=by omega
  have e2:(-1:Int)≤(if b then 1 else -1)∧((if b then 1 else -1:Int))≤1:=by cases b <;> simp
  have hw:b∈ways c L:=by
   unfold ways
   by_cases q0:c=0
   ·rw [if_pos q0,h2 q0];simp
   ·rw [if_neg q0]
    by_cases q1:c=L+1
    ·rw [if_pos q1,h3 q1];simp
    ·rw [if_neg q1];cases b <;> simp
  simp [uH,zh,yY,x8,yX,e1.1,e1.2,e2.1,e2.2]
  rw [zcb (n:=0) (x:=.int (if b then 1 else -1)) (b:=.d (.tup ((ways c L).map vU))) (ds:=(ways c L).map vU) OkD.int rfl (by
   intro d hd
   obtain ⟨b',_,rfl⟩:=List.mem_map.mp hd
   exact za5)]
  have:((ways c L).map vU).any (fun d=>PyData.eqv (toP d) (toP (.int (if b then 1 else -1))))=true:=by
   rw [List.any_eq_true]
   exact ⟨vU b,List.mem_map.mpr ⟨b,hw,rfl⟩,Xi _⟩
  simp [this]
theorem Vh{n L:Nat}{rm:List (Mv Str)}(hL:L≤3)(h:OkRoom n L rm):YU [ym rm,.int n,.int L]=some (.bl true):=by
 refine zS rfl ?_
 obtain ⟨ys,h1,h2,h3⟩:=Zb (fun (b:Bool)=>D.bl b) (t:=uE 2 (xJ (yu 0) (xJ (yu 1) uP))) (cond:=yQ) (el:=vq) (Γ:=[.v (ym rm),.v (.int n),.v (.int L)]) (ms:=[none,none,some 1,some 2]) (ds:=vi (rm.map yY)) (fun _ b=>b=true) (by simp [h.len];omega) (by
  intro k hk
  have hk':k < rm.length:=by simpa using hk
  refine ⟨[.v (.int k),.v (yY rm[k]),.v (.int n),.v (.int L)],true,by simp [wa],rfl,?_,rfl⟩
  simp [vq,Vg,Qr (h.mvs k hk')])
 have hy:(vB (ys.map fun b=>D.bl b)).map (fun bs=>D.bl (bs.all id))=some (.bl true):=Z9 _ (by
  intro x hx
  obtain ⟨b,hb,rfl⟩:=List.mem_map.mp hx
  obtain ⟨k,hk,rfl⟩:=List.mem_iff_getElem.mp hb
  rw [h3 k hk])
 simp [ym] at h1
 simp [XS,zh,ym,x8,h.len,h1,hy]
theorem Qs{L:Nat}{rooms:List (List (Mv Str))}(h:OkM L rooms):uf [wW L rooms]=some (.bl true):=by
 refine zS rfl ?_
 obtain ⟨ys,h1,h2,h3⟩:=Zb (fun (b:Bool)=>D.bl b) (t:=yu 0) (cond:=yQ) (el:=ZL) (Γ:=[.v (wW L rooms),.v (.tup (rooms.map ym))]) (ms:=[none,some 1,some 0]) (ds:=rooms.map ym) (fun _ b=>b=true) (by have:=h.r12;simp;omega) (by
  intro k hk
  have hk':k < rooms.length:=by simpa using hk
  refine ⟨_,true,rfl,rfl,?_,rfl⟩
  simp [wa,ZL,wW,Vh h.l3 (h.all _ (List.getElem_mem hk'))])
 have hy:(vB (ys.map fun b=>D.bl b)).map (fun bs=>D.bl (bs.all id))=some (.bl true):=Z9 _ (by
  intro x hx
  obtain ⟨b,hb,rfl⟩:=List.mem_map.mp hx
  obtain ⟨k,hk,rfl⟩:=List.mem_iff_getElem.mp hb
  rw [h3 k hk])
 have e1:(1:Int)≤L∧(L:Int)≤3:=by have:=h.l1;have:=h.l3;omega
 have e2:(1:Int)≤(rooms.length:Int)∧(rooms.length:Int)≤12:=by have:=h.r1;have:=h.r12;omega
 simp [wW] at h1
 simp [YA,zh,wW,x8,yX,e1.1,e1.2,e2.1,e2.2,h1,hy]
theorem Wv{L:Nat}{rooms:List (List (Mv Str))}(h:OkM L rooms):yr [wW L rooms]=some (wW L rooms):=by
 refine zS rfl ?_
 simp [Uj,zh,Qs h]
end Py
namespace DD
open PySem L2
section
variable {Γ:G}
@[simp] theorem zf6:yNo Γ=false:=id rfl
@[simp] theorem zfE:Ya Γ=true:=id rfl
def zcn(o:Option Out)(x:G→Bool):Bool:=match o with
 | some (.nx g)=>x g
 | _=>false
@[simp] theorem zeU {g x}:zcn (some (.nx g)) x=x g:=id rfl
@[simp] theorem zfF {x1 f x2}:zM x1 f x2 Γ=(x1 Γ || zcn (f Γ) x2):=id rfl
def ifY(o:Option Bool)(x1 x2:G→Bool)(Γ:G):Bool:=match o with
 | some true=>x1 Γ
 | some false=>x2 Γ
 | none=>false
@[simp] theorem zf7 {x1 x2}:ifY (some true) x1 x2 Γ=x1 Γ:=id rfl
@[simp] theorem zf8 {x1 x2}:ifY (some false) x1 x2 Γ=x2 Γ:=id rfl
@[simp] theorem zf9 {t x1 x2}:yIf t x1 x2 Γ=ifY (t Γ) x1 x2 Γ:=id rfl
def zag(m:List D→Bool)(o:Option (List D)):Bool:=match o with
 | some ds=>m ds
 | none=>false
@[simp] theorem zdk {m ds}:zag m (some ds)=m ds:=id rfl
@[simp] theorem zeV {m fs}:zI m fs Γ=zag m (dsO (fs Γ)):=id rfl
def Jw(o:Option (List D→Bool))(ds:List D):Bool:=match o with
 | some m=>m ds
 | none=>false
@[simp] theorem zd8 {m ds}:Jw (some m) ds=m ds:=id rfl
def zah(ms:List (List D→Bool))(i:Option B)(o:Option (List D)):Bool:=match i,o with
 | some (.d (.int i)),some ds=>Jw (atI ms i) ds
 | _,_=>false
@[simp] theorem zdl {ms i ds}:zah ms (some (.d (.int i))) (some ds)=Jw (atI ms i) ds:=id rfl
@[simp] theorem zeW {fi ms fs}:XM fi ms fs Γ=zah ms (fi Γ) (dsO (fs Γ)):=id rfl
end
theorem zz{np n:Nat}{x:G→Bool}{ds:List D}(h:ds.length=np)(e:x (zh n ds)=true):z5 np n x ds=true:=by
 unfold z5
 rw [decide_eq_true h,e];rfl
end DD
namespace Py
open PySem L2 DD Pu
def vD:D→Prop
 | .int _=>True
 | .bl _=>True
 | .str _=>True
 | .non=>True
 | _=>False
def xI(lo hi:Int):D→Bool
 | .int i=>decide (lo≤i∧i≤hi)
 | _=>false
theorem Ur{d:D}{lo hi:Int}(h:vD d):ue [d,.int lo,.int hi]=some (.bl (xI lo hi d)):=by
 cases d with
 | int i=>exact yX
 | bl b=>exact zS rfl (by simp [Wa,zh,xI])
 | str s=>exact zS rfl (by simp [Wa,zh,xI])
 | non=>exact zS rfl (by simp [Wa,zh,xI])
 | _=>exact h.elim
theorem YZ{ds:List D}{lo hi:Int}:vj [.lst ds,.int lo,.int hi]=some (.bl false):=zS rfl (by simp [XN,zh])
theorem Wg{lo hi:Int}:vj [.non,.int lo,.int hi]=some (.bl false):=zS rfl (by simp [XN,zh])
theorem uj{β:Type}{p:β→Bool}{xs:List β}:(vB (xs.map fun x=>D.bl (p x))).map (fun bs=>D.bl (bs.all id))=some (.bl (xs.all p)):=by
 rw [Wu,Option.map_some,List.all_map];rfl
theorem Yb{ds:List D}{n:Int}(h:∀d∈ds,vD d)(hl:ds.length≤16777216):YB [.tup ds,.int n]=some (.bl (ds.all (xI 0 (n - 1)))):=by
 have hc:=uy (fun (d:D)=>D.bl (xI 0 (n - 1) d)) (t:=yu 0) (cond:=yQ) (el:=Wb) (Γ:=[.v (.tup ds),.v (.int n)]) (ms:=[none,some 1]) (ds:=ds) ds rfl hl fun k hk =>
  ⟨[.v ds[k],.v (.int n)],by simp [wa],rfl,by simp [Wb,Ur (h _ (List.getElem_mem hk))]⟩
 refine zS rfl ?_
 simp [Uk,zh,hc,uj]
theorem Us{ds:List D}{n:Int}:YB [.lst ds,.int n]=some (.bl false):=zS rfl (by simp [Uk,zh])
theorem YE{ds:List D}{n:Int}(h:∀d∈ds,vD d)(hl:ds.length≤16777216)(hb:ds.all (xI 0 (n - 1))=false):zT [.tup ds,.int n]=true:=by
 have hc:=uy (fun (d:D)=>D.bl (xI 0 (n - 1) d)) (t:=yu 0) (cond:=yQ) (el:=xV) (Γ:=[.v (.tup ds),.v (.int n)]) (ms:=[none,some 1]) (ds:=ds) ds rfl hl fun k hk =>
  ⟨[.v ds[k],.v (.int n)],by simp [wa],rfl,by simp [xV,Ur (h _ (List.getElem_mem hk))]⟩
 refine zz rfl ?_
 simp [yW,zh,hc,uj,hb]
theorem Jx{ds:List D}{n:Int}:zT [.lst ds,.int n]=true:=zz rfl (by simp [yW,zh])
theorem Jy{n:Int}:zT [.non,.int n]=true:=zz rfl (by simp [yW,zh])
end Py
namespace Py
open PySem L2 DD Pu
theorem zco{ds:List D}:wQ [.lst ds]=some (.bl false):=zS rfl (by simp [uN,zh,YZ])
theorem zcp:wQ [.non]=some (.bl false):=zS rfl (by simp [uN,zh,Wg])
theorem zcq{a b:D}:wQ [.tup [.int 4,a,b]]=some (.bl false):=zS rfl (by simp [uN,zh,x8,yX])
section
variable {A:Nat} {b:D} {rs:List (List D)} {gs:List D}
theorem zcr(hA1:1≤A)(hA3:A≤3):wQ [.tup [.int A,.tup [],b]]=some (.bl false):=by
 have i1:(1:Int)≤A:=by omega
 have i2:(A:Int)≤3:=by omega
 exact zS rfl (by simp [uN,zh,x8,yX,i1,i2])
theorem za8{ds:List D}(hA1:1≤A)(hA3:A≤3):wQ [.tup [.int A,.lst ds,b]]=some (.bl false):=by
 have i1:(1:Int)≤A:=by omega
 have i2:(A:Int)≤3:=by omega
 exact zS rfl (by simp [uN,zh,x8,yX,i1,i2,YZ])
def uR(A n:Nat)(r:List D):Bool:=r.all (xI 0 ((n:Int) - 1)) && decide (r.length=A)
theorem YF(hp:∀r∈rs,∀d∈r,vD d)(hr:∀r∈rs,r.length≤10)(h2:rs.length≤2000):XJ (some (rs.map D.tup)) [none,some 1,some 0] (yu 0) yQ YV [.v (.tup [.int A,.tup (rs.map D.tup),b]),.v (.tup (rs.map D.tup))]=some (rs.map fun r=>D.bl (uR A rs.length r)) :=
 uy (fun (r:List D)=>D.bl (uR A rs.length r)) rs (by simp) (by simp;omega) fun k hk=>by
  have hk':k < rs.length:=by simpa using hk
  refine ⟨[.v (.tup rs[k]),.v (.tup (rs.map D.tup)),.v (.tup [.int A,.tup (rs.map D.tup),b])],by simp [wa],rfl,?_⟩
  have hst:=Yb (n:=rs.length) (hp _ (List.getElem_mem hk')) (by have:=hr _ (List.getElem_mem hk');omega)
  unfold uR
  cases hq:rs[k].all (xI 0 ((rs.length:Int) - 1)) with
  | false=>rw [hq] at hst;simp [YV,hst]
  | true=>rw [hq] at hst;simp [YV,hst];omega
variable (hA1:1≤A) (hA3:A≤3) (hp:∀r∈rs,∀d∈r,vD d) (hr:∀r∈rs,r.length≤10) (h1:1≤rs.length) (h2:rs.length≤2000)
include hA1 hA3 hp hr h1 h2
theorem Jz(hb:rs.all (uR A rs.length)=false):wQ [.tup [.int A,.tup (rs.map D.tup),b]]=some (.bl false):=by
 have hc:=YF (A:=A) (b:=b) hp hr h2
 have i1:(1:Int)≤A:=by omega
 have i2:(A:Int)≤3:=by omega
 have i3:(1:Int)≤rs.length:=by omega
 have i4:(rs.length:Int)≤2000:=by omega
 exact zS rfl (by simp [uN,zh,x8,yX,i1,i2,i3,i4,hc,uj,hb])
theorem YG{c:Bool}(hb:rs.all (uR A rs.length)=true)(hg:YB [b,.int rs.length]=some (.bl c))(hu:c=true→Xj [b]=some (.bl c)):wQ [.tup [.int A,.tup (rs.map D.tup),b]]=some (.bl c):=by
 have hc:=YF (A:=A) (b:=b) hp hr h2
 have i1:(1:Int)≤A:=by omega
 have i2:(A:Int)≤3:=by omega
 have i3:(1:Int)≤rs.length:=by omega
 have i4:(rs.length:Int)≤2000:=by omega
 refine zS rfl ?_
 cases c with
 | false=>simp [uN,zh,x8,yX,i1,i2,i3,i4,hc,uj,hb,hg]
 | true=>simp [uN,zh,x8,yX,i1,i2,i3,i4,hc,uj,hb,hg,hu rfl]
theorem Qt(hb:rs.all (uR A rs.length)=true)(hg:YB [b,.int rs.length]=some (.bl true))(hu:Xj [b]=some (.bl false)):wQ [.tup [.int A,.tup (rs.map D.tup),b]]=some (.bl false):=by
 have hc:=YF (A:=A) (b:=b) hp hr h2
 have i1:(1:Int)≤A:=by omega
 have i2:(A:Int)≤3:=by omega
 have i3:(1:Int)≤rs.length:=by omega
 have i4:(rs.length:Int)≤2000:=by omega
 exact zS rfl (by simp [uN,zh,x8,yX,i1,i2,i3,i4,hc,uj,hb,hg,hu])
end
theorem JA{l:List Nat}(h:l.Pairwise (· < ·))(hl:l.length≤100000):Xj [.tup (l.map fun (s:Nat)=>D.int (s:Int))]=some (.bl true):=by
 have hr:r1I ((l.length:Int) - 1)=some (xh 0 (l.length - 1)):=by
  by_cases h0:l.length=0
  ·rw [h0];rfl
  ·rw [show ((l.length:Int) - 1)=((l.length - 1:Nat):Int) by omega]
   exact ZI (by omega)
 have hc:=uy (fun (_:Nat)=>D.bl true) (t:=yu 0) (cond:=yQ) (el:=Wc) (Γ:=[.v (.tup (l.map fun (s:Nat)=>D.int (s:Int)))]) (ms:=[none,some 0]) (ds:=xh 0 (l.length - 1)) (List.range (l.length - 1)) (by simp) (by simp;omega) fun k hk=>by
  have hk':k < l.length - 1:=by simpa using hk
  refine ⟨[.v (.int (k:Int)),.v (.tup (l.map fun (s:Nat)=>D.int (s:Int)))],by simp [wa],rfl,?_⟩
  have:=List.pairwise_iff_getElem.mp h k (k+1) (by omega) (by omega) (by omega)
  simp [Wc,xQ,Jk,show k < l.length by omega,show k+1 < l.length by omega]
  omega
 refine zS rfl ?_
 have:=uj (p:=fun _=>true) (xs:=List.range (l.length - 1))
 simp [Jm,zh,hr,hc,this]
theorem zcs:Xj [.tup [.int 0,.int 0]]=some (.bl false):=zS rfl (by rfl)
theorem zez{d:D}(h:wQ [d]=some (.bl false)):zx [d]=true:=zz rfl (by simp [xK,zh,h])
theorem zct{d:D}(h:wQ [d]=some (.bl true)):xD [d]=some d:=zS rfl (by simp [Jn,zh,h])
theorem zeA{d:D}(h:uf [d]=some (.bl false)):zC [d]=true:=zz rfl (by simp [wF,zh,h])
theorem zai{x:D}{r:List D}:slB (.d (.tup (x::r))) (some 1) none=some (.tup r):=by
 have e:min 1 (x::r).length=1:=by simp
 have w:ZF (x::r) (some ((1:Nat):Int)) none=false:=by
  unfold ZF
  rw [HT.sIx_none,HT.sIx_nat,e]
  simp
 show (if ZF (x::r) (some ((1:Nat):Int)) none=true then none else some (D.tup (Yw (x::r) (some ((1:Nat):Int)) none)))=_
 rw [w,if_neg Bool.false_ne_true]
 unfold Yw
 rw [HT.sIx_none,HT.sIx_nat,e]
 simp
def isB(b:Bool):Option D→Bool
 | some (.bl c)=>c == b
 | _=>false
theorem Zd{b:Bool}{o:Option D}(h:isB b o=true):o=some (.bl b):=by
 unfold isB at h
 split at h
 ·rw [eq_of_beq h]
 ·cases h
def nz(k:Nat):Bool:=k != 0
theorem zeB{n:Int}{w:D}:vO [.non,.int n,w]=some (.bl false):=zS rfl (by simp [uH,zh,Wg])
theorem zeC{ds:List D}{n:Int}{w:D}:vO [.lst ds,.int n,w]=some (.bl false):=zS rfl (by simp [uH,zh,YZ])
theorem zeD{n:Int}{w:D}:vO [.str "maybe",.int n,w]=some (.bl false):=zS rfl (by
 have hi:mIn false (.d (.str "maybe")) (.c [.str "yes",.str "no"])=some (.bl false):=Zd (by decide +kernel)
 simp [uH,zh,hi])
theorem zeE{n:Nat}{w:D}:vO [.tup [.int n,.int 1],.int n,w]=some (.bl false):=zS rfl (by
 have:¬((n:Int)≤n - 1):=by omega
 simp [uH,zh,x8,yX,this])
theorem zeF{n:Nat}{w:D}:vO [.tup [.bl true,.int 1],.int n,w]=some (.bl false):=zS rfl (by
 simp [uH,zh,x8,Ur (d:=.bl true) trivial,xI])
theorem zeG{n L:Nat}(hn:1≤n):vO [.tup [.int 0,.int 0],.int n,.tup ((ways 0 L).map vU)]=some (.bl false):=zS rfl (by
 have:(1:Int)≤n:=by omega
 have hi:mIn false (.d (.int 0)) (.d (.tup ((ways 0 L).map vU)))=some (.bl false):=by rfl
 simp [uH,zh,x8,yX,this,hi])
theorem zcu{n L:Nat}{rm:List (Mv Str)}{m:Mv Str}{odd:D}(hL:L≤3)(h:OkRoom n L (m::rm))(ho:vO [odd,.int n,.tup ((ways 0 L).map vU)]=some (.bl false)):YU [.tup (odd::rm.map yY),.int n,.int L]=some (.bl false):=by
 have hlen:rm.length+1=L+2:=h.len
 refine zS rfl ?_
 have hc:=uy (fun (k:Nat)=>D.bl (nz k)) (t:=uE 2 (xJ (yu 0) (xJ (yu 1) uP))) (cond:=yQ) (el:=vq) (Γ:=[.v (.tup (odd::rm.map yY)),.v (.int n),.v (.int L)]) (ms:=[none,none,some 1,some 2]) (ds:=vi (odd::rm.map yY)) (List.range (L+2)) (by simp;omega) (by simp;omega) fun k hk=>by
  have hk':k < rm.length+1:=by simpa using hk
  cases k with
  | zero =>
   refine ⟨[.v (.int 0),.v odd,.v (.int n),.v (.int L)],by simp [wa],rfl,?_⟩
   have:=Vg (c:=0) (L:=L)
   have this':XQ [.int 0,.int L]=some (.tup ((ways 0 L).map vU)):=this
   show vq _=some (.d (.bl (nz ((List.range (L+2))[0]'(by simp)))))
   simp [vq,this',ho,nz]
  | succ k =>
   have hk2:k < rm.length:=by omega
   refine ⟨[.v (.int ((k+1:Nat):Int)),.v (yY rm[k]),.v (.int n),.v (.int L)],by simp [wa],rfl,?_⟩
   have hm:=Qr (h.mvs (k+1) (by simpa using hk2))
   simp only [List.getElem_cons_succ] at hm
   have hw:=Vg (c:=k+1) (L:=L)
   show vq _=some (.d (.bl (nz ((List.range (L+2))[k+1]'(by simp;omega)))))
   unfold vq
   rw [Ud,u4,u4,u4,Ud,u4,u4]
   simp only [Qi,Qj,List.getElem?_cons_zero,List.getElem?_cons_succ,Option.bind_some,Jd,Uc,Jg,zbZ,zaV,Option.map_some,Jh,hw,hm]
   simp [nz]
 have hy:=uj (p:=nz) (xs:=List.range (L+2))
 have hf:(List.range (L+2)).all nz=false:=by
  rw [List.all_eq_false];exact ⟨0,by simp,by simp [nz]⟩
 rw [hf] at hy
 have hl2:(rm.length:Int)+1=L+2:=by omega
 simp [XS,zh,x8,hl2,hc,hy]
theorem zeH{ds:List D}:uf [.lst ds]=some (.bl false):=zS rfl (by simp [YA,zh,YZ])
theorem zeI:uf [.non]=some (.bl false):=zS rfl (by simp [YA,zh,Wg])
theorem zeJ{a:D}:uf [.tup [.int 0,a]]=some (.bl false):=zS rfl (by simp [YA,zh,x8,yX])
theorem zeK{L:Nat}(h1:1≤L)(h3:L≤3):uf [.tup [.int L,.tup []]]=some (.bl false):=zS rfl (by
 have i1:(1:Int)≤L:=by omega
 have i2:(L:Int)≤3:=by omega
 simp [YA,zh,x8,yX,i1,i2])
theorem Qu{L:Nat}{ds:List D}(q:Nat→Bool)(i:Nat)(h1:1≤L)(h3:L≤3)(n1:i < ds.length)(n2:ds.length≤12)(hr:∀k (hk:k < ds.length),YU [ds[k],.int ds.length,.int L]=some (.bl (q k)))(hf:q i=false):uf [.tup [.int L,.tup ds]]=some (.bl false):=by
 have hc:=uy (fun (k:Nat)=>D.bl (q k)) (t:=yu 0) (cond:=yQ) (el:=ZL) (Γ:=[.v (.tup [.int L,.tup ds]),.v (.tup ds)]) (ms:=[none,some 1,some 0]) (ds:=ds) (List.range ds.length) (by simp) (by omega) fun k hk=>by
  refine ⟨[.v ds[k],.v (.tup ds),.v (.tup [.int L,.tup ds])],by simp [wa],rfl,?_⟩
  simp [ZL,hr _ hk]
 have hf:(List.range ds.length).all q=false:=by rw [List.all_eq_false];exact ⟨i,by simpa using n1,by simp [hf]⟩
 have i1:(1:Int)≤L:=by omega
 have i2:(L:Int)≤3:=by omega
 have i3:(1:Int)≤ds.length:=by omega
 have i4:(ds.length:Int)≤12:=by omega
 exact zS rfl (by simp [YA,zh,x8,yX,i1,i2,i3,i4,hc,uj,hf])
theorem OkRoom.up{n m L:Nat}{rm:List (Mv Str)}(h:OkRoom n L rm)(hm:n≤m):OkRoom m L rm:=⟨h.len,fun c hc=>by
 have:=h.mvs c hc
 cases hq:rm[c] with
 | fin s=>rw [hq] at this;exact this
 | go r b=>rw [hq] at this;exact ⟨by have:=this.1;omega,this.2⟩⟩
theorem Qv{b:B}:YR [b]=b.seq.map D.lst:=id rfl
theorem wd{c k:Nat}(h:0 < k):zZ (.d (.int (c:Int))) (.d (.int (k:Int)))=some (.int ((c % k:Nat):Int)):=by
 rw [uQ (by omega)];rfl
theorem Ze{c k:Nat}(h:0 < k)(h2:k < 1000):wC (.d (.int (c:Int))) (.d (.int (k:Int)))=some (.int ((c / k:Nat):Int)):=by
 rw [Uf (by omega) (by omega)];rfl
def JB(n:Int):List D:=[.non,.str "maybe",.tup [.int n,.int 1],.tup [.int 0,.int 0],.tup [.bl true,.int 1],.lst [.int 0,.int 1]]
theorem zdm{n L j:Nat}(hj:j < 6)(hn:1≤n):∃odd,atI (JB n) (j:Int)=some odd∧vO [odd,.int n,.tup ((ways 0 L).map vU)]=some (.bl false):=by
 rw [xQ]
 rcases j with _|_|_|_|_|_|j
 ·exact ⟨_,rfl,zeB⟩
 ·exact ⟨_,rfl,zeD⟩
 ·exact ⟨_,rfl,zeE⟩
 ·exact ⟨_,rfl,zeG hn⟩
 ·exact ⟨_,rfl,zeF⟩
 ·exact ⟨_,rfl,zeC⟩
 ·omega
def Vi(L:Int)(rs:List D)(odd:D)(r0:List D)(rest:List D):List D:=[.lst [.int L,.tup rs],.tup [.int 0,.tup rs],.tup [.int L,.tup []],.non,.tup [.int L,.tup (rs++[.tup []])]]++[.tup [.int L,.tup (.tup (odd::r0)::rest)]]
theorem Wx{L:Int}{c:Nat}{m odd:D}{r0 rest:List D}(hl:rest.length≤20)(hr:r0.length≤20)(ho:atI (JB ((rest.length:Int)+1)) ((c / 6 % 6:Nat):Int)=some odd):
  Vb [.v (.tup [.int L,.tup (.tup (m::r0)::rest)]),.v (.int c),.un,.un,.un,.un]=(atI (Vi L (.tup (m::r0)::rest) odd r0 rest) ((c % 6:Nat):Int)).map Out.rt:=by
 have e1:zZ (.d (.int (c:Int))) (.d (.int 6))=_:=wd (k:=6) (by omega)
 have e2:wC (.d (.int (c:Int))) (.d (.int 6))=_:=Ze (k:=6) (by omega) (by omega)
 have e3:zZ (.d (.int ((c / 6:Nat):Int))) (.d (.int 6))=_:=wd (k:=6) (by omega)
 have c1:rest.length+1+1≤16777216:=by omega
 have c2:1+r0.length≤16777216:=by omega
 have c3:1+rest.length≤16777216:=by omega
 generalize c / 6 % 6=j at *
 generalize c / 6=d at *
 generalize c % 6=k at *
 unfold JB at ho
 simp [Vb,e1,e2,e3,ho,Qv,zai,c1,c2,c3]
 show Ue ((atI (Vi L (.tup (m::r0)::rest) odd r0 rest) (k:Int)).map B.d)=_
 cases atI (Vi L (.tup (m::r0)::rest) odd r0 rest) (k:Int) <;> rfl
theorem Wy{L c:Nat}{rooms:List (List (Mv Str))}(h:OkM L rooms)(h3:rooms.length≤3):∃bad,Vc [wW L rooms,.int c]=some bad∧uf [bad]=some (.bl false):=by
 obtain ⟨rm0,rest,rfl⟩:∃a b,rooms=a::b:=by
  cases rooms with
  | nil=>exact absurd h.r1 (by simp)
  | cons a b=>exact ⟨a,b,rfl⟩
 have h0:=h.all rm0 List.mem_cons_self
 obtain ⟨m,rm,rfl⟩:∃a b,rm0=a::b:=by
  cases rm0 with
  | nil=>have:=h0.len;simp at this
  | cons a b=>exact ⟨a,b,rfl⟩
 have hL1:=h.l1
 have hL3:=h.l3
 have hrl:rm.length+1=L+2:=h0.len
 have h3':rest.length+1≤3:=h3
 obtain ⟨odd,ho,hm⟩:=zdm (n:=rest.length+1) (L:=L) (j:=c / 6 % 6) (Nat.mod_lt _ (by omega)) (by omega)
 have hb:=Wx (L:=L) (c:=c) (m:=yY m) (odd:=odd) (r0:=rm.map yY) (rest:=rest.map ym) (by simp;omega) (by simp;omega) (by simpa using ho)
 have hk:c % 6 < 6:=Nat.mod_lt _ (by omega)
 have key:∃bad,atI (Vi L ((((m::rm)::rest):List (List (Mv Str))).map ym) odd (rm.map yY) (rest.map ym)) ((c % 6:Nat):Int)=some bad∧uf [bad]=some (.bl false):=by
  generalize c % 6=k at hk
  rw [xQ]
  rcases k with _|_|_|_|_|_|k
  ·exact ⟨_,rfl,zeH⟩
  ·exact ⟨_,rfl,zeJ⟩
  ·exact ⟨_,rfl,zeK hL1 hL3⟩
  ·exact ⟨_,rfl,zeI⟩
  ·refine ⟨_,rfl,Qu (fun k=>decide (k < rest.length+1)) (rest.length+1) hL1 hL3 (by simp) (by simp;omega) (fun k hk=>?_) (by simp)⟩
   have hlen:(List.map ym ((m::rm)::rest)++[D.tup []]).length=rest.length+2:=by simp
   by_cases hk2:k < rest.length+1
   ·have hk3:k < ((m::rm)::rest).length:=hk2
    have hok:=(h.all _ (List.getElem_mem hk3)).up (m:=rest.length+2) (by simp)
    have e:(List.map ym ((m::rm)::rest)++[D.tup []])[k]=ym ((m::rm)::rest)[k]:=by
     rw [List.getElem_append_left (by simpa using hk2),List.getElem_map]
    rw [e,hlen,Vh hL3 hok,decide_eq_true hk2]
   ·have e:(List.map ym ((m::rm)::rest)++[D.tup []])[k]=D.tup []:=by
     rw [List.getElem_append_right (by simp;omega)]
     simp
    rw [e,decide_eq_false hk2]
    refine zS rfl ?_
    have:¬((L:Int)+2≤0):=by omega
    simp [XS,zh,x8,this]
  ·refine ⟨_,rfl,Qu nz 0 hL1 hL3 (by simp) (by simp;omega) (fun k hk=>?_) rfl⟩
   have hlen:(D.tup (odd::rm.map yY)::rest.map ym).length=rest.length+1:=by simp
   rw [hlen]
   cases k with
   | zero=>exact zcu hL3 h0 hm
   | succ k =>
    have hk2:k < rest.length:=by simpa using hk
    have hok:=h.all _ (List.mem_cons_of_mem _ (List.getElem_mem hk2))
    have e:(D.tup (odd::rm.map yY)::rest.map ym)[k+1]=ym rest[k]:=by simp
    rw [e]
    exact Vh hL3 hok
  ·omega
 obtain ⟨bad,e1,e2⟩:=key
 refine ⟨bad,zS rfl ?_,e2⟩
 show Vb [.v (.tup [.int L,.tup (.tup (yY m::rm.map yY)::rest.map ym)]),.v (.int c),.un,.un,.un,.un]=_
 rw [hb]
 have e1':atI (Vi L (.tup (yY m::rm.map yY)::rest.map ym) odd (rm.map yY) (rest.map ym)) ((c % 6:Nat):Int)=some bad:=e1
 rw [e1'];rfl
abbrev dN(l:List Nat):List D:=l.map fun (s:Nat)=>D.int (s:Int)
abbrev dR(rows:List (List Nat)):List (List D):=rows.map dN
def vx(A:Nat)(rows:List (List Nat))(gd:List Nat):D:=.tup [.int A,.tup ((dR rows).map D.tup),.tup (dN gd)]
structure OkR (A:Nat) (rows:List (List Nat)) (gd:List Nat):Prop where
 pos:1≤rows.length
 row:∀r∈rows,r.length=A∧∀x∈r,x < rows.length
 lt:∀x∈gd,x < rows.length
 up:gd.Pairwise (· < ·)
theorem Vj{l:List Nat}:∀{n:Nat},(∀x∈l,x < n)→l.Pairwise (· < ·)→l.length≤n:=fun {n} h1 h2=>by
 have hn:l.Nodup:=h2.imp fun h=>Nat.ne_of_lt h
 have:=hn.length_le_of_subset (l₂:=List.range n) (fun x hx=>List.mem_range.mpr (h1 x hx))
 simpa using this
theorem JC{ns:List Int}{k A most:Nat}(hA:A≤3)(hm:0 < most)(hm2:most≤1000):∃rows gd,Va [.scr ns,.int k,.int A,.int most]=some (vx A rows gd)∧OkR A rows gd∧rows.length≤most:=by
 obtain ⟨v,hv,hc⟩:=v0 (ns:=ns) (k:=k) (many:=most) hm
 have s4:xz 4=true:=by decide
 generalize hn:1+v=n
 have hn':(1:Int)+v=(n:Int):=by rw [←hn];rfl
 have hn0:0 < n:=by omega
 have hnb:n≤1000:=by omega
 obtain ⟨g1,h1,rows,gd,y7,hg,hl,hr,hlt,hup⟩:=X9 (t:=yu 7) (fb:=Wf) (xh 0 n)
  (fun j Γ=>∃rows gd y7,Γ=[.v (.scr ns),.v (.int k),.v (.int A),.v (.int most),.v (.int n),.ol ((dR rows).map D.tup),.ol (dN gd),y7]∧rows.length=j∧(∀r∈rows,r.length=A∧∀x∈r,x < n)∧(∀x∈gd,x < j)∧gd.Pairwise (· < ·))
  [.v (.scr ns),.v (.int k),.v (.int A),.v (.int most),.v (.int n),.ol [],.ol [],.un] ⟨[],[],.un,rfl,rfl,by simp,by simp,.nil⟩ (by
   rintro j Γ hj ⟨rows,gd,y7,rfl,hl,hr,hlt,hup⟩
   have hj':j < n:=by simpa using hj
   obtain ⟨ms,hcp,hml,hmo⟩:=Zb (fun (x:Nat)=>D.int (x:Int)) (t:=yu 0) (cond:=yQ) (el:=We)
    (Γ:=[.v (.scr ns),.v (.int k),.v (.int A),.v (.int most),.v (.int n),.ol ((dR rows).map D.tup),.ol (dN gd),.v (.int j)]) (ms:=[none,some 0,some 1,some 7,some 4]) (ds:=xh 0 A) (fun _ x=>x < n) (by simp;omega) (by
     intro i hi
     have hi':i < A:=by simpa using hi
     obtain ⟨x,hx,hq⟩:=v0 (ns:=ns) (k:=k+1+4 * j+i) (many:=n) hn0
     refine ⟨_,x,rfl,rfl,?_,hx⟩
     have e2:((k+1+4 * j+i:Nat):Int)=(k:Int)+1+4 * j+i:=rfl
     rw [e2] at hq
     simp [wa,We,uF (.inl s4),hq])
   obtain ⟨b,hb,hq⟩:=v0 (ns:=ns) (k:=k+4+4 * j) (many:=2) (by omega)
   have e2:((k+4+4 * j:Nat):Int)=(k:Int)+4+4 * j:=rfl
   have e3:((2:Nat):Int)=2:=rfl
   rw [e2,e3] at hq
   have hml':ms.length=A:=by simpa using hml
   have c1:rows.length < 16777216:=by omega
   have hgl:=Vj hlt hup
   have c2:gd.length < 16777216:=by omega
   refine ⟨[.v (.scr ns),.v (.int k),.v (.int A),.v (.int most),.v (.int n),.ol ((dR rows).map D.tup),.ol (dN gd),.v (.int j)],[.v (.scr ns),.v (.int k),.v (.int A),.v (.int most),.v (.int n),.ol ((dR (rows++[ms])).map D.tup),.ol (dN (gd++if b=1 then [j] else [])),.v (.int j)],?_,?_,rows++[ms],_,.v (.int j),rfl,by simp [hl],?_,?_,?_⟩
   ·simp
   ·have hcp':=hcp
    simp [Wf,ZI (show A < 1000000 by omega)] at hcp' ⊢
    simp [hcp',uF (.inl s4),wN,c1,hq]
    by_cases hb1:b=1
    ·subst hb1
     simp [c2,wN]
    ·have hb2:b=0:=by omega
     subst hb2
     simp
   ·intro r hr'
    rcases List.mem_append.mp hr' with q|q
    ·exact hr r q
    ·have:r=ms:=by simpa using q
     subst this
     exact ⟨hml',fun x hx=>by
      obtain ⟨i,hi,e⟩:=List.mem_iff_getElem.mp hx
      exact e ▸ hmo i hi⟩
   ·intro x hx
    rcases List.mem_append.mp hx with q|q
    ·have:=hlt x q;omega
    ·split at q
     ·have:x=j:=by simpa using q
      omega
     ·cases q
   ·rw [List.pairwise_append]
    refine ⟨hup,by split <;> simp,fun a ha c hc=>?_⟩
    split at hc
    ·have:c=j:=by simpa using hc
     rw [this];exact hlt a ha
    ·cases hc)
 rw [Uh] at hl hlt
 refine ⟨rows,gd,zS rfl ?_,⟨by omega,by rw [hl];exact hr,by rw [hl];exact hlt,hup⟩,by omega⟩
 subst hg
 simp [Jv,zh,hc,hn',ZI (Nat.lt_of_le_of_lt hnb (by decide))]
 simp [h1,vx]
section
variable {A:Nat} {rows:List (List Nat)} {gd:List Nat}
theorem ZM{l:List Nat}:∀d∈dN l,vD d:=fun d hd=>by
 obtain ⟨x,_,rfl⟩:=List.mem_map.mp hd;trivial
theorem ZN:∀r∈dR rows,∀d∈r,vD d:=fun r hr=>by
 obtain ⟨x,_,rfl⟩:=List.mem_map.mp hr;exact ZM
theorem Ut{l:List Nat}{n:Nat}(h:∀x∈l,x < n):(dN l).all (xI 0 ((n:Int) - 1))=true:=by
 rw [List.all_eq_true]
 intro d hd
 obtain ⟨x,hx,rfl⟩:=List.mem_map.mp hd
 have:=h x hx
 simp [xI]
 omega
theorem Y0(ok:OkR A rows gd):(dR rows).all (uR A (dR rows).length)=true:=by
 rw [List.all_eq_true]
 intro r hr
 obtain ⟨x,hx,rfl⟩:=List.mem_map.mp hr
 obtain ⟨h1,h2⟩:=ok.row x hx
 have hl:(dR rows).length=rows.length:=by simp
 unfold uR
 rw [hl,Ut h2,Bool.true_and,decide_eq_true_eq,List.length_map]
 exact h1
theorem ZO(ok:OkR A rows gd)(h3:A≤3):∀r∈dR rows,r.length≤10:=fun r hr=>by
 obtain ⟨x,hx,rfl⟩:=List.mem_map.mp hr
 have:=(ok.row x hx).1
 rw [List.length_map];omega
theorem Vk(ok:OkR A rows gd)(h1:1≤A)(h3:A≤3)(hn:rows.length≤2000):wQ [vx A rows gd]=some (.bl true):=by
 have hl:(dR rows).length=rows.length:=by simp
 have hgl:=Vj ok.lt ok.up
 refine YG h1 h3 ZN (ZO ok h3) (by rw [hl];exact ok.pos) (by rw [hl];exact hn) (Y0 ok) ?_ fun _=>JA ok.up (by omega)
 rw [hl,Yb ZM (by simp;omega),Ut ok.lt]
end
def xW(i:Int)(x:D):List D:=List.replicate i.toNat x
theorem Xl{i:Int}{x:D}:(xW i x).length=i.toNat:=by simp [xW]
theorem zaj{x:D}:∀k:Nat,(List.replicate k [x]).flatten=List.replicate k x
 | 0=>rfl
 | k+1=>by rw [List.replicate_succ,List.flatten_cons,zaj k];rfl
theorem Vl{x:D}{i:Int}(h2:2≤i)(h3:i≤100000):ud (.d (.tup [x])) (.d (.int i))=some (.tup (xW i x)):=by
 show (if [x]≠[]∧2≤i∧i < 2 ^ 62∧[x].length * i.toNat≤sizeLine then some (D.tup (List.replicate i.toNat [x]).flatten) else none)=_
 rw [if_pos ⟨by simp,h2,by omega,by simp;omega⟩,zaj];rfl
def JD(n:Int):List D:=[.int n,.int (-1),.bl true,.str "0",.non]
theorem zcv{n j:Nat}(hj:j < 5):∃odd,atI (JD n) (j:Int)=some odd∧vD odd∧xI 0 ((n:Int) - 1) odd=false:=by
 rw [xQ]
 rcases j with _|_|_|_|_|j
 ·exact ⟨_,rfl,trivial,by simp [xI];omega⟩
 ·exact ⟨_,rfl,trivial,by simp [xI]⟩
 ·exact ⟨_,rfl,trivial,rfl⟩
 ·exact ⟨_,rfl,trivial,rfl⟩
 ·exact ⟨_,rfl,trivial,rfl⟩
 ·omega
def Vm(L:Int)(rs gs:List D)(odd:D)(r0 rest:List D):List D:=[.lst [.int L,.tup rs,.tup gs],.tup [.int 4,.tup rs,.tup gs],.tup [.int L,.tup [],.tup []],.tup [.int L,.lst rs,.tup gs],.tup [.int L,.tup rs,.lst gs],.tup [.int L,.tup rs,.tup (gs++[odd])],.tup [.int L,.tup rs,.tup [.int 0,.int 0]],.non,.tup [.int 1,.tup (xW 2001 (.tup [.int 0])),.tup []]]++[.tup [.int L,.tup (.tup (odd::r0)::rest),.tup gs]]
theorem Vn{L:Int}{c:Nat}{m odd:D}{r0 rest gs:List D}(hl:rest.length≤20)(hr:r0.length≤20)(hg:gs.length≤20)(ho:atI (JD ((rest.length:Int)+1)) ((c / 9 % 5:Nat):Int)=some odd):
  Vd [.v (.tup [.int L,.tup (.tup (m::r0)::rest),.tup gs]),.v (.int c),.un,.un,.un,.un,.un]=(atI (Vm L (.tup (m::r0)::rest) gs odd r0 rest) ((c % 10:Nat):Int)).map Out.rt:=by
 have e1:zZ (.d (.int (c:Int))) (.d (.int 10))=_:=wd (k:=10) (by omega)
 have e2:wC (.d (.int (c:Int))) (.d (.int 9))=_:=Ze (k:=9) (by omega) (by omega)
 have e3:zZ (.d (.int ((c / 9:Nat):Int))) (.d (.int 5))=_:=wd (k:=5) (by omega)
 have c2:1+r0.length≤16777216:=by omega
 have c3:1+rest.length≤16777216:=by omega
 have c4:gs.length+1≤16777216:=by omega
 have hrep:=Vl (x:=.tup [.int 0]) (i:=2001) (by decide) (by decide)
 generalize hq:xW 2001 (.tup [.int 0])=big at hrep
 generalize c / 9 % 5=j at *
 generalize c / 9=d at *
 generalize c % 10=k at *
 unfold JD at ho
 simp [Vd,e1,e2,e3,ho,Qv,zai,c2,c3,c4,hrep,wN]
 rw [←hq]
 show Ue ((atI (Vm L (.tup (m::r0)::rest) gs odd r0 rest) (k:Int)).map B.d)=_
 cases atI (Vm L (.tup (m::r0)::rest) gs odd r0 rest) (k:Int) <;> rfl
theorem Vo{A c:Nat}{rows:List (List Nat)}{gd:List Nat}(ok:OkR A rows gd)(h1:1≤A)(h3:A≤3)(hn:rows.length≤4):∃bad,Ve [vx A rows gd,.int c]=some bad∧wQ [bad]=some (.bl false):=by
 obtain ⟨row0,rest,rfl⟩:∃a b,rows=a::b:=by
  cases rows with
  | nil=>exact absurd ok.pos (by simp)
  | cons a b=>exact ⟨a,b,rfl⟩
 have h0:=ok.row row0 List.mem_cons_self
 obtain ⟨m,row,rfl⟩:∃a b,row0=a::b:=by
  cases row0 with
  | nil=>have:=h0.1;simp at this;omega
  | cons a b=>exact ⟨a,b,rfl⟩
 have hrl:row.length+1=A:=h0.1
 have hn':rest.length+1≤4:=hn
 have hgl:=Vj ok.lt ok.up
 have hgl':gd.length≤rest.length+1:=hgl
 have hl:(dR ((m::row)::rest)).length=rest.length+1:=by simp
 obtain ⟨odd,ho,hp,hb⟩:=zcv (n:=rest.length+1) (j:=c / 9 % 5) (Nat.mod_lt _ (by omega))
 have hbd:=Vn (L:=A) (c:=c) (m:=.int (m:Int)) (odd:=odd) (r0:=dN row) (rest:=(dR rest).map D.tup) (gs:=dN gd) (by simp;omega) (by simp;omega) (by simp;omega) (by simpa using ho)
 have hk:c % 10 < 10:=Nat.mod_lt _ (by omega)
 have key:∃bad,atI (Vm A ((dR ((m::row)::rest)).map D.tup) (dN gd) odd (dN row) ((dR rest).map D.tup)) ((c % 10:Nat):Int)=some bad∧wQ [bad]=some (.bl false):=by
  generalize c % 10=k at hk
  rw [xQ]
  rcases k with _|_|_|_|_|_|_|_|_|_|k
  ·exact ⟨_,rfl,zco⟩
  ·exact ⟨_,rfl,zcq⟩
  ·exact ⟨_,rfl,zcr h1 h3⟩
  ·exact ⟨_,rfl,za8 h1 h3⟩
  ·exact ⟨_,rfl,YG h1 h3 ZN (ZO ok h3) (by rw [hl];omega) (by rw [hl];omega) (Y0 ok) Us fun z=>by cases z⟩
  ·refine ⟨_,rfl,YG h1 h3 ZN (ZO ok h3) (by rw [hl];omega) (by rw [hl];omega) (Y0 ok) (c:=false) ?_ fun z=>by cases z⟩
   rw [hl,Yb (fun d hd=>?_) (by simp;omega)]
   ·congr 2
    rw [List.all_eq_false]
    exact ⟨odd,by simp,by simpa using hb⟩
   ·rcases List.mem_append.mp hd with q|q
    ·exact ZM d q
    ·rw [List.mem_singleton.mp q];exact hp
  ·refine ⟨_,rfl,Qt h1 h3 ZN (ZO ok h3) (by rw [hl];omega) (by rw [hl];omega) (Y0 ok) ?_ zcs⟩
   rw [hl]
   have:=Yb (ds:=dN [0,0]) (n:=(rest.length+1:Nat)) ZM (by simp)
   rw [Ut (by simp)] at this
   exact this
  ·exact ⟨_,rfl,zcp⟩
  ·refine ⟨_,rfl,zS rfl ?_⟩
   have hlen:((xW 2001 (.tup [.int 0])).length:Int)=2001:=by rw [Xl];rfl
   simp [uN,zh,x8,yX,hlen]
  ·have e:(D.tup (odd::dN row)::(dR rest).map D.tup)=((odd::dN row)::dR rest).map D.tup:=rfl
   refine ⟨_,rfl,?_⟩
   show wQ [.tup [.int A,.tup (D.tup (odd::dN row)::(dR rest).map D.tup),.tup (dN gd)]]=_
   rw [e]
   have hl2:((odd::dN row)::dR rest).length=rest.length+1:=by simp
   refine Jz h1 h3 (fun r hr=>?_) (fun r hr=>?_) (by rw [hl2];omega) (by rw [hl2];omega) ?_
   ·rcases List.mem_cons.mp hr with rfl|q
    ·intro d hd
     rcases List.mem_cons.mp hd with rfl|q
     ·exact hp
     ·exact ZM d q
    ·exact ZN r q
   ·rcases List.mem_cons.mp hr with rfl|q
    ·simp;omega
    ·exact ZO ok h3 r (List.mem_cons_of_mem _ q)
   ·rw [List.all_eq_false]
    refine ⟨_,List.mem_cons_self,?_⟩
    rw [hl2]
    unfold uR
    rw [List.all_cons,hb];simp
  ·omega
 obtain ⟨bad,e1,e2⟩:=key
 refine ⟨bad,zS rfl ?_,e2⟩
 show Vd [.v (.tup [.int A,.tup (.tup (.int (m:Int)::dN row)::(dR rest).map D.tup),.tup (dN gd)]),.v (.int c),.un,.un,.un,.un,.un]=_
 rw [hbd]
 have e1':atI (Vm A (.tup (.int (m:Int)::dN row)::(dR rest).map D.tup) (dN gd) odd (dN row) ((dR rest).map D.tup)) ((c % 10:Nat):Int)=some bad:=e1
 rw [e1'];rfl
theorem Wh{w:Nat}{bad good:D}(hw:w < 8)(hb:zC [bad]=true)(hg:yr [good]=some good):yL [.int w,bad,good]=true:=by
 refine zz rfl ?_
 have r1:wy [bad,.non]=true:=zz rfl (by simp [vG,zh,hb])
 have r2:we [bad,.non]=true:=zz rfl (by simp [w6,zh,hb])
 have r3:x5 [bad]=true:=zz rfl (by simp [wP,zh,hb])
 have r4:yG [bad,.non]=true:=zz rfl (by simp [wj,zh,hb])
 have r5:yT [bad]=true:=zz rfl (by simp [wT,zh,hb])
 have r6:yi [bad,good]=true:=zz rfl (by simp [xo,zh,hb])
 have r7:yi [good,bad]=true:=zz rfl (by simp [xo,zh,hb,hg])
 have r8:wf [bad]=true:=zz rfl (by simp [ve,zh,hb])
 rcases w with _|_|_|_|_|_|_|_|w
 all_goals first|omega|simp [xk,zh,r1,r2,r3,r4,r5,r6,r7,r8]
theorem Wz{w:Nat}{bad good:D}(hw:w < 17)(hb:zx [bad]=true)(hg:xD [good]=some good):yV [.int w,bad,good]=true:=by
 refine zz rfl ?_
 have r1:wq [bad,.non]=true:=zz rfl (by simp [vt,zh,hb])
 have r2:yF [bad]=true:=zz rfl (by simp [vv,zh,hb])
 have r3:xS [bad]=true:=zz rfl (by simp [wG,zh,hb])
 have r4:xn [bad]=true:=zz rfl (by simp [wk,zh,r2])
 have r5:xU [bad,.int 2]=true:=zz rfl (by simp [wH,zh,r2])
 have r6:xp [bad]=true:=zz rfl (by simp [wl,zh,hb])
 have p1:yp [bad,good,.opq]=true:=zz rfl (by simp [xR,zh,hb])
 have p2:yp [good,bad,.opq]=true:=zz rfl (by simp [xR,zh,hb,hg])
 have all:∀a b:D,yp [a,b,.opq]=true→xY [a,b]=true∧xt [a,b]=true∧xZ [a,b]=true∧xM [a,b]=true∧xu [a,b]=true:=fun a b h =>
  have j:yA [a,b,.opq]=true:=zz rfl (by simp [vb,zh,h])
  have f:yh [a,b,.opq]=true:=zz rfl (by simp [xj,zh,h])
  ⟨zz rfl (by simp [vI,zh,j]),zz rfl (by simp [vc,zh,j]),zz rfl (by simp [vK,zh,j]),zz rfl (by simp [vw,zh,f]),zz rfl (by simp [vd,zh,f])⟩
 by_cases h7:w < 7
 ·rcases w with _|_|_|_|_|_|_|w
  all_goals first|omega|simp [yE,zh,r1,r2,r3,r4,r5,r6,hb]
 ·have e0:∀i:Int,0≤i→i < 7→¬((w:Int)=i):=fun i _ _=>by omega
  have q1:zZ (.d (.int (w:Int))) (.d (.int 2))=_:=wd (k:=2) (by omega)
  have q2:wC (.d (.int (w:Int))) (.d (.int 2))=_:=Ze (k:=2) (by omega) (by omega)
  have q3:zZ (.d (.int ((w / 2:Nat):Int))) (.d (.int 5))=_:=wd (k:=5) (by omega)
  have e0':=e0 0 (by decide) (by decide)
  have e1':=e0 1 (by decide) (by decide)
  have hm2:w % 2 < 2:=Nat.mod_lt _ (by omega)
  have hm5:w / 2 % 5 < 5:=Nat.mod_lt _ (by omega)
  have ne0:¬w=0:=by omega
  have ne1:¬w=1:=by omega
  have at3:∀xs:List (List D→Bool),atI xs 3=xs[3]?:=fun xs=>xQ (k:=3)
  have at4:∀xs:List (List D→Bool),atI xs 4=xs[4]?:=fun xs=>xQ (k:=4)
  generalize w / 2 % 5=j at *
  generalize w / 2=d at *
  generalize w % 2=k at *
  have go:∀a b:D,xY [a,b]=true∧xt [a,b]=true∧xZ [a,b]=true∧xM [a,b]=true∧xu [a,b]=true→atI [bad,good] (k:Int)=some a→atI [good,bad] (k:Int)=some b→yE (zh 5 [.int w,bad,good])=true:=fun a b hh67' ha hb=>by
   obtain ⟨c1,c2,c3,c4,c5⟩:=hh67'
   simp [yE,zh,e0',e1',ne0,ne1,e0 2 (by decide) (by decide),e0 3 (by decide) (by decide),e0 4 (by decide) (by decide),e0 5 (by decide) (by decide),e0 6 (by decide) (by decide),q1,q2,q3,ha,hb]
   rcases j with _|_|_|_|_|j
   all_goals first|omega|simp [at3,at4,c1,c2,c3,c4,c5]
  rcases k with _|_|k
  ·exact go bad good (all bad good p1) rfl rfl
  ·exact go good bad (all good bad p2) rfl rfl
  ·omega
theorem XU{x:D}{i:Int}(h1:1≤i)(h3:i≤100000):xm (.d (.tup [x])) (.d (.int i))=some (.tup (xW i x)):=by
 by_cases h:i=1
 ·subst h
  rfl
 ·have e:XI (.d (.tup [x])) (.d (.int i))=none:=by
   show (if i=1 then some (D.tup [x]) else none)=none
   rw [if_neg h]
  unfold xm mOr
  rw [e,Vl (by omega) h3];rfl
def uk(B n:Int):D:=.tup [.int B,.tup (xW n (.tup (xW (B+2) (.str "no"))))]
theorem za9{B n:Nat}:uk B n=wW B (List.replicate n (List.replicate (B+2) (.fin Zt))):=by
 have e1:(n:Int).toNat=n:=by omega
 have e2:((B:Int)+2).toNat=B+2:=by omega
 unfold uk wW xW
 rw [e1,e2,List.map_replicate]
 unfold ym
 rw [List.map_replicate];rfl
theorem zba{B n:Nat}(h1:1≤B)(h3:B≤3)(n1:1≤n)(n2:n≤12):OkM B (List.replicate n (List.replicate (B+2) (.fin Zt))):=by
 refine ⟨h1,h3,by simpa using n1,by simpa using n2,fun rm hr=>?_⟩
 rw [(List.mem_replicate.mp hr).2]
 refine ⟨by simp,fun c hc=>?_⟩
 rw [List.getElem_replicate]
 exact .inr rfl
theorem zcw{B n:Nat}(h1:1≤B)(h3:B≤3)(n1:1≤n)(n2:n≤12):yr [uk B n]=some (uk B n):=by
 rw [za9];exact Wv (zba h1 h3 n1 n2)
theorem Wi{B n:Int}(h1:1≤B)(h3:B≤3)(n1:1≤n)(n2:n≤12):yr [uk B n]=some (uk B n):=by
 have e1:((B.toNat:Nat):Int)=B:=by omega
 have e2:((n.toNat:Nat):Int)=n:=by omega
 have:=zcw (B:=B.toNat) (n:=n.toNat) (by omega) (by omega) (by omega) (by omega)
 rwa [e1,e2] at this
def Uu(B:Int):D:=.tup [.int B,.tup [.tup (xW B (.int 0))],.tup []]
theorem zcx{B:Int}(h1:1≤B)(h3:B≤3):xD [Uu B]=some (Uu B):=by
 have e1:((B.toNat:Nat):Int)=B:=by omega
 have e:Uu B=vx B.toNat [List.replicate B.toNat 0] []:=by
  unfold Uu vx xW
  rw [e1,show dR [List.replicate B.toNat 0]=[List.replicate B.toNat (D.int 0)] from by simp [dR,dN]]
  rfl
 rw [e]
 refine zct (Vk ⟨by simp,fun r hr=>?_,by simp,.nil⟩ (by omega) (by omega) (by simp))
 rw [List.mem_singleton.mp hr]
 exact ⟨by simp,fun x hx=>by rw [(List.mem_replicate.mp hx).2];simp⟩
theorem Qw{i:Int}(h:12 < i):yM [.int i]=true:=zz rfl (by simp [wI,zh,h])
section
variable {A:Int} {b bad rd:D} {rs:List D}
theorem zbb{w:Nat}{r2:List D}(hw:w < 3)(hx:zT [bad,.int A]=true)(hm:yr [.tup [.int A,b]]=some (.tup [.int A,b]))(hr:xD [.tup (.int A::r2)]=some (.tup (.int A::r2))):xl [.int w,.tup [.int A,b],.tup (.int A::r2),bad]=true:=by
 refine zz rfl ?_
 have q1:vC [.tup [.int A,b],bad]=true:=zz rfl (by simp [uC,zh,hm,hx])
 have q2:wO [.tup [.int A,b],bad]=true:=zz rfl (by simp [vR,zh,hm,hx])
 have q3:wR [.tup (.int A::r2),bad]=true:=zz rfl (by simp [vS,zh,hr,hx])
 rcases w with _|_|_|w
 all_goals first|omega|simp [wc,zh,q1,q2,q3]
theorem zdn{w:Nat}{B:Int}{r2:List D}{b2:D}(hw:w < 6)(hAB:¬A=B)(hm:yr [.tup [.int A,b]]=some (.tup [.int A,b]))(hr:xD [.tup (.int A::rs)]=some (.tup (.int A::rs)))(hm2:yr [.tup [.int B,b2]]=some (.tup [.int B,b2]))(hr2:xD [.tup (.int B::r2)]=some (.tup (.int B::r2))):
  xq [.int w,.tup (.int A::rs),.tup (.int B::r2),.tup [.int A,b],.tup [.int B,b2]]=true:=by
 refine zz rfl ?_
 have p:yZ [.tup (.int A::rs),.tup (.int B::r2),.opq]=true:=zz rfl (by simp [va,zh,hr,hr2,hAB])
 have j:yK [.tup (.int A::rs),.tup (.int B::r2),.opq]=true:=zz rfl (by simp [vH,zh,p])
 have f:yl [.tup (.int A::rs),.tup (.int B::r2),.opq]=true:=zz rfl (by simp [xE,zh,p])
 have c1:vk [.tup (.int A::rs),.tup (.int B::r2)]=true:=zz rfl (by simp [ug,zh,j])
 have c2:wz [.tup (.int A::rs),.tup (.int B::r2)]=true:=zz rfl (by simp [vJ,zh,j])
 have c3:vm [.tup (.int A::rs),.tup (.int B::r2)]=true:=zz rfl (by simp [uh,zh,j])
 have c4:wS [.tup (.int A::rs),.tup (.int B::r2)]=true:=zz rfl (by simp [vT,zh,f])
 have c5:wA [.tup (.int A::rs),.tup (.int B::r2)]=true:=zz rfl (by simp [vL,zh,f])
 have c6:yU [.tup [.int A,b],.tup [.int B,b2]]=true:=zz rfl (by simp [wU,zh,hm,hm2,hAB])
 have at3:∀xs:List (List D→Bool),atI xs 3=xs[3]?:=fun xs=>xQ (k:=3)
 have at4:∀xs:List (List D→Bool),atI xs 4=xs[4]?:=fun xs=>xQ (k:=4)
 rcases w with _|_|_|_|_|_|w
 all_goals first|omega|simp [wn,zh,at3,at4,c1,c2,c3,c4,c5,c6]
theorem JE{B:Int}(h1:1≤B)(h3:B≤3):wB [uk B 12]=true:=by
 have hc:=Wi (n:=12) h1 h3 (by decide) (by decide)
 have hl:∀x:D,((xW 12 x).length:Int)=12:=fun x=>by rw [Xl];rfl
 have hs:=Qw (i:=12+1) (by decide)
 unfold uk at hc ⊢
 refine zz rfl ?_
 generalize D.tup (xW (B+2) (.str "no"))=z at *
 have hl':=hl z
 generalize xW 12 z=zs at *
 simp [vM,zh,hc,hl'] at hs ⊢
 exact hs
theorem zbc{B:Int}(h1:1≤B)(h3:B≤3)(hn:1≤rs.length)(hm:yr [.tup [.int B,.tup rs]]=some (.tup [.int B,.tup rs])):x6 [.tup [.int B,.tup rs],uk B 12]=true:=by
 have hc:=Wi (n:=12) h1 h3 (by decide) (by decide)
 have hl:∀x:D,((xW 12 x).length:Int)=12:=fun x=>by rw [Xl];rfl
 have hs:=Qw (i:=(rs.length:Int)+1+12) (by omega)
 unfold uk at hc ⊢
 refine zz rfl ?_
 generalize D.tup (xW (B+2) (.str "no"))=z at *
 have hl':=hl z
 generalize xW 12 z=zs at *
 simp [wV,zh,hm,hc,hl',hs]
end
@[simp] theorem zfG:isi .bl .str=false:=by decide
section
variable {s mach rd bad:D} {A c:Nat} {rs r2:List D}
theorem zdo(hb:Vc [.tup [.int A,.tup rs],.int c]=some bad)(hx:zC [bad]=true)(hm:yr [.tup [.int A,.tup rs]]=some (.tup [.int A,.tup rs])):y3 [s,.int 0,.int c,.tup [.int A,.tup rs],rd]=true:=by
 have q2:wC (.d (.int (c:Int))) (.d (.int 100))=_:=Ze (k:=100) (by omega) (by omega)
 have q3:zZ (.d (.int ((c / 100:Nat):Int))) (.d (.int 8))=_:=wd (k:=8) (by omega)
 have hw:=Wh (w:=c / 100 % 8) (Nat.mod_lt _ (by omega)) hx hm
 generalize c / 100 % 8=j at *
 generalize c / 100=d at *
 exact zz rfl (by simp [wt,zh,q2,q3,hb,hw])
theorem zdp(hb:Ve [rd,.int c]=some bad)(hx:zx [bad]=true)(hr:xD [rd]=some rd):xc [s,.int 1,.int c,.tup [.int A,.tup rs],rd]=true:=by
 have q2:wC (.d (.int (c:Int))) (.d (.int 100))=_:=Ze (k:=100) (by omega) (by omega)
 have q3:zZ (.d (.int ((c / 100:Nat):Int))) (.d (.int 17))=_:=wd (k:=17) (by omega)
 have hw:=Wz (w:=c / 100 % 17) (Nat.mod_lt _ (by omega)) hx hr
 generalize c / 100 % 17=j at *
 generalize c / 100=d at *
 exact zz rfl (by simp [wJ,zh,q2,q3,hb,hw])
def zak(A:Int):List D:=[.lst [.int 0],.tup [.int A],.tup [.int (-1)],.tup [.bl true],.tup [.str "0"],.non,.tup [.int 0,.int 0,.non]]
theorem Uv{j:Nat}(hj:j < 7):∃bad,atI (zak A) (j:Int)=some bad∧zT [bad,.int A]=true:=by
 rw [xQ]
 rcases j with _|_|_|_|_|_|_|j
 ·exact ⟨_,rfl,Jx⟩
 ·exact ⟨_,rfl,YE (by simp [vD]) (by simp) (by simp [xI];omega)⟩
 ·exact ⟨_,rfl,YE (by simp [vD]) (by simp) (by simp [xI])⟩
 ·exact ⟨_,rfl,YE (by simp [vD]) (by simp) (by simp [xI])⟩
 ·exact ⟨_,rfl,YE (by simp [vD]) (by simp) (by simp [xI])⟩
 ·exact ⟨_,rfl,Jy⟩
 ·exact ⟨_,rfl,YE (by simp [vD]) (by simp) (by simp [xI])⟩
 ·omega
theorem zdq(hm:yr [.tup [.int A,.tup rs]]=some (.tup [.int A,.tup rs]))(hr:xD [.tup (.int A::r2)]=some (.tup (.int A::r2))):xv [s,.int 2,.int c,.tup [.int A,.tup rs],.tup (.int A::r2)]=true:=by
 have q1:zZ (.d (.int (c:Int))) (.d (.int 7))=_:=wd (k:=7) (by omega)
 have q2:wC (.d (.int (c:Int))) (.d (.int 100))=_:=Ze (k:=100) (by omega) (by omega)
 have q3:zZ (.d (.int ((c / 100:Nat):Int))) (.d (.int 3))=_:=wd (k:=3) (by omega)
 obtain ⟨bad,hb,hx⟩:=Uv (A:=A) (j:=c % 7) (Nat.mod_lt _ (by omega))
 have hw:=zbb (w:=c / 100 % 3) (Nat.mod_lt _ (by omega)) hx hm hr
 generalize c / 100 % 3=j at *
 generalize c / 100=d at *
 generalize c % 7=k at *
 unfold zak at hb
 exact zz rfl (by simp [vf,zh,q1,q2,q3,hb,hw])
def zal:List D:=[.str "Yes",.str "",.non,.int 0,.bl true,.tup [.str "yes"],.str "maybe"]
theorem Uw{j:Nat}(hj:j < 7)(hm:yr [mach]=some mach):∃bad,atI zal (j:Int)=some bad∧xi [mach,bad]=true:=by
 rw [xQ]
 have str:∀z:Str,mIn true (.d (.str z)) (.c [.str "yes",.str "no",.str "round"])=some (.bl true)→xi [mach,.str z]=true:=fun z h=>zz rfl (by simp [yH,zh,hm,h])
 rcases j with _|_|_|_|_|_|_|j
 ·exact ⟨_,rfl,str _ (Zd (by decide +kernel))⟩
 ·exact ⟨_,rfl,str _ (Zd (by decide +kernel))⟩
 ·exact ⟨_,rfl,zz rfl (by simp [yH,zh,hm])⟩
 ·exact ⟨_,rfl,zz rfl (by simp [yH,zh,hm])⟩
 ·exact ⟨_,rfl,zz rfl (by simp [yH,zh,hm])⟩
 ·exact ⟨_,rfl,zz rfl (by simp [yH,zh,hm])⟩
 ·exact ⟨_,rfl,str _ (Zd (by decide +kernel))⟩
 ·omega
theorem zdr(hm:yr [.tup [.int A,.tup rs]]=some (.tup [.int A,.tup rs])):xw [s,.int 3,.int c,.tup [.int A,.tup rs],rd]=true:=by
 have q1:zZ (.d (.int (c:Int))) (.d (.int 7))=_:=wd (k:=7) (by omega)
 obtain ⟨bad,hb,hx⟩:=Uw (j:=c % 7) (Nat.mod_lt _ (by omega)) hm
 generalize c % 7=k at *
 unfold zal at hb
 exact zz rfl (by simp [vg,zh,q1,hb,hx])
theorem zds(h1:1≤A)(h3:A≤3)(hm:yr [.tup [.int A,.tup rs]]=some (.tup [.int A,.tup rs]))(hr:xD [.tup (.int A::r2)]=some (.tup (.int A::r2))):xx [s,.int 4,.int c,.tup [.int A,.tup rs],.tup (.int A::r2)]=true:=by
 have q0:zZ (.d (.int (A:Int))) (.d (.int 3))=_:=wd (k:=3) (by omega)
 have q1:zZ (.d (.int (c:Int))) (.d (.int 2))=_:=wd (k:=2) (by omega)
 have q2:wC (.d (.int (c:Int))) (.d (.int 100))=_:=Ze (k:=100) (by omega) (by omega)
 have q3:zZ (.d (.int ((c / 100:Nat):Int))) (.d (.int 6))=_:=wd (k:=6) (by omega)
 have hne:¬(A:Int)=((A % 3:Nat):Int)+1:=by omega
 have hr3:A % 3 < 3:=Nat.mod_lt _ (by omega)
 obtain ⟨n,hn,n1,n2⟩:∃n:Int,atI [D.int 1,.int 12] ((c % 2:Nat):Int)=some (.int n)∧1≤n∧n≤12:=by
  rw [xQ]
  rcases Nat.mod_two_eq_zero_or_one c with e|e <;> rw [e]
  ·exact ⟨1,rfl,by decide,by decide⟩
  ·exact ⟨12,rfl,by decide,by decide⟩
 generalize A % 3=r at *
 have hw:=zdn (w:=c / 100 % 6) (b:=.tup rs) (rs:=r2) (Nat.mod_lt _ (by omega)) hne hm hr (Wi (B:=(r:Int)+1) (n:=n) (by omega) (by omega) n1 n2) (zcx (B:=(r:Int)+1) (by omega) (by omega))
 have e1:=XU (x:=.str "no") (i:=(r:Int)+3) (by omega) (by omega)
 have e2:=XU (x:=.tup (xW ((r:Int)+3) (.str "no"))) (i:=n) (by omega) (by omega)
 have e3:=XU (x:=.int 0) (i:=(r:Int)+1) (by omega) (by omega)
 rw [show (r:Int)+1+2=r+3 by omega] at hw
 generalize c / 100 % 6=j at *
 generalize c / 100=d at *
 generalize c % 2=k at *
 generalize xW ((r:Int)+3) (.str "no")=z1 at *
 generalize xW n (.tup z1)=z2 at *
 generalize xW ((r:Int)+1) (.int 0)=z3 at *
 exact zz rfl (by simp [vh,zh,q0,q1,q2,q3,hn,e1,e2,e3,hw])
theorem zdt(h1:1≤A)(h3:A≤3)(hn:1≤rs.length)(hm:yr [.tup [.int A,.tup rs]]=some (.tup [.int A,.tup rs])):xy [s,.int 5,.int c,.tup [.int A,.tup rs],rd]=true:=by
 have q1:zZ (.d (.int (c:Int))) (.d (.int 2))=_:=wd (k:=2) (by omega)
 have t1:=JE (B:=A) (by omega) (by omega)
 have t2:=zbc (B:=A) (rs:=rs) (by omega) (by omega) hn hm
 have e1:=XU (x:=.str "no") (i:=(A:Int)+2) (by omega) (by omega)
 have e2:=Vl (x:=.tup (xW ((A:Int)+2) (.str "no"))) (i:=12) (by decide) (by decide)
 unfold uk at t1 t2
 generalize xW ((A:Int)+2) (.str "no")=z1 at *
 generalize xW 12 (.tup z1)=z2 at *
 rcases Nat.mod_two_eq_zero_or_one c with e|e <;> rw [e] at q1
 ·exact zz rfl (by simp [wg,zh,q1,e1,e2,t1])
 ·exact zz rfl (by simp [wg,zh,q1,e1,e2,t2])
end
theorem zdu{A:Nat}(h1:1≤A)(h3:A≤3):Up [.int A]=some (.bl true):=by
 have:A=1∨A=2∨A=3:=by omega
 rcases this with rfl|rfl|rfl
 ·exact Zd (by decide +kernel)
 ·exact Zd (by decide +kernel)
 ·exact Zd (by decide +kernel)
theorem Y1{a:Addr}{b:Bool}{Γ:G}(h:Γ[5]?=some (.v (.adr a))):zE 5 a b Γ=some (.d (.bl b)):=by
 unfold zE
 rw [h]
 exact if_pos rfl
theorem zcy{o:Option Out}{k:G→Option Out}(h:o=some (.rt (.bl true))):WG o k=some (.rt (.bl true)):=by rw [h];rfl
theorem ZP{a b c d e f:Bool}:wp (.l [.bl a,.bl b,.bl c,.bl d,.bl e,.bl f]) (.d (.bl true))=some (.int (a.toNat+b.toNat+c.toNat+d.toNat+e.toNat+f.toNat:Nat)):=by
 cases a <;> cases b <;> cases c <;> cases d <;> cases e <;> cases f <;> rfl
theorem ZQ{a b c d e f:Bool}:wo (.l [.bl a,.bl b,.bl c,.bl d,.bl e,.bl f]) (.d (.bl true))=if a then some (.int 0) else if b then some (.int 1) else if c then some (.int 2) else if d then some (.int 3) else if e then some (.int 4) else if f then some (.int 5) else none:=by
 cases a <;> cases b <;> cases c <;> cases d <;> cases e <;> cases f <;> rfl
theorem good:∀ns:List Int,ns.length≤63→YY [.scr ns]=some (.bl true):=fun ns _=>by
 obtain ⟨v,hv,hl⟩:=v0 (ns:=ns) (k:=0) (many:=3) (by omega)
 generalize hA:1+v=A
 have h1:1≤A:=by omega
 have h3:A≤3:=by omega
 have hA':(1:Int)+v=A:=by omega
 obtain ⟨rooms,hM,n1,n2,hR⟩:=Qq (ns:=ns) (a:=1) (L:=A) (most:=3) h3 (by omega) (by omega)
 have ok:OkM A rooms:=⟨h1,h3,n1,by omega,hR⟩
 obtain ⟨rows,gd,hrd,okr,hn⟩:=JC (ns:=ns) (k:=20) (A:=A) (most:=4) h3 (by omega) (by omega)
 obtain ⟨kd,hk,hkd⟩:=v0 (ns:=ns) (k:=40) (many:=6) (by omega)
 obtain ⟨c,_,hc⟩:=v0 (ns:=ns) (k:=41) (many:=1000000) (by omega)
 have hm:=Wv ok
 have hr:=zct (Vk okr h1 h3 (by omega))
 obtain ⟨bm,b1,b2⟩:=Wy (c:=c) ok n2
 obtain ⟨br,b3,b4⟩:=Vo (c:=c) okr h1 h3 hn
 have hed:=zdu h1 h3
 have okd:OkD 4 (vx A rows gd):=by
  unfold vx
  refine OkD.tup (n:=3) fun d hd=>?_
  simp only [List.mem_cons,List.not_mem_nil,or_false] at hd
  rcases hd with rfl|rfl|rfl
  ·exact OkD.int
  ·refine OkD.tup (n:=2) fun d hd=>?_
   obtain ⟨r,hr,rfl⟩:=List.mem_map.mp hd
   obtain ⟨x,_,rfl⟩:=List.mem_map.mp hr
   refine OkD.tup (n:=1) fun d hd=>?_
   obtain ⟨y,_,rfl⟩:=List.mem_map.mp hd
   exact OkD.int
  ·refine OkD.tup (n:=2) fun d hd=>?_
   obtain ⟨y,_,rfl⟩:=List.mem_map.mp hd
   exact OkD.int
 have heq:mEq true (.d (vx A rows gd)) (.d (vx A rows gd))=some (.bl false):=by
  rw [zab okd okd,Xi];rfl
 have hp:Yy (.d (.int 10)) (.d (.int 6))=some (.int 1000000):=rfl
 have c0:y3 [.scr ns,.int 0,.int c,wW A rooms,vx A rows gd]=true:=zdo b1 (zeA b2) hm
 have c1:xc [.scr ns,.int 1,.int c,wW A rooms,vx A rows gd]=true:=zdp b3 (zez b4) hr
 have c2:xv [.scr ns,.int 2,.int c,wW A rooms,vx A rows gd]=true:=zdq hm hr
 have c3:xw [.scr ns,.int 3,.int c,wW A rooms,vx A rows gd]=true:=zdr hm
 have c4:xx [.scr ns,.int 4,.int c,wW A rooms,vx A rows gd]=true:=zds h1 h3 hm hr
 have c5:xy [.scr ns,.int 5,.int c,wW A rooms,vx A rows gd]=true:=zdt h1 h3 (by simpa using n1) hm
 refine zS rfl ?_
 generalize hmm:wW A rooms=mach at *
 generalize hrr:vx A rows gd=rd at *
 have hl':wm [.scr ns,.int 0,.int 3]=some (.int v):=hl
 have hM':W9 [.scr ns,.int 1,.int A,.int 3]=some mach:=hM
 have hrd':Va [.scr ns,.int 20,.int A,.int 4]=some rd:=hrd
 have hkd':wm [.scr ns,.int 40,.int 6]=some (.int kd):=hkd
 have hc':wm [.scr ns,.int 41,.int 1000000]=some (.int c):=hc
 simp [Uq,zh,hl',hA',hM',hrd',hr,heq,hed,hkd']
 refine zcy ?_
 rcases kd with _|_|_|_|_|_|kd
 ·refine (Yz (uA (ds:=[.scr ns,.int 0,.int c,mach,rd]) ?_ c0 fun a=>?_))
  ·show dsO _=_
   simp [hc',hp]
  ·simp [Y1,wN,ZP,ZQ]
 ·refine (wb (Yz (uA (ds:=[.scr ns,.int 1,.int c,mach,rd]) ?_ c1 fun a=>?_)))
  ·show dsO _=_
   simp [hc',hp]
  ·simp [Y1,wN,ZP,ZQ]
 ·refine (wb (wb (Yz (uA (ds:=[.scr ns,.int 2,.int c,mach,rd]) ?_ c2 fun a=>?_))))
  ·show dsO _=_
   simp [hc',hp]
  ·simp [Y1,wN,ZP,ZQ]
 ·refine (wb (wb (wb (Yz (uA (ds:=[.scr ns,.int 3,.int c,mach,rd]) ?_ c3 fun a=>?_)))))
  ·show dsO _=_
   simp [hc',hp]
  ·simp [Y1,wN,ZP,ZQ]
 ·refine (wb (wb (wb (wb (Yz (uA (ds:=[.scr ns,.int 4,.int c,mach,rd]) ?_ c4 fun a=>?_))))))
  ·show dsO _=_
   simp [hc',hp]
  ·simp [Y1,wN,ZP,ZQ]
 ·refine (wb (wb (wb (wb (wb ((uA (ds:=[.scr ns,.int 5,.int c,mach,rd]) ?_ c5 fun a=>?_)))))))
  ·show dsO _=_
   simp [hc',hp]
  ·simp [Y1,wN,ZP,ZQ]
 ·omega
end Py
namespace Py
open PySem PySem.Spec L2 DD
open PyProof.Rows hiding St
theorem yg{N P:List Str}{sc:Scope}(a:sc.kind=.function:=by rfl)(b:sc.isCoroutine=false:=by rfl)(c:sc.isGenerator=false:=by rfl)(d:N.Nodup:=by decide +kernel)(e:N.take P.length=P:=by rfl)(f:∀x∈P,sc.names.lookup x=some .local∨sc.names.lookup x=some .cell:=by decide +kernel)(g:∀y∈sc.names,y.2≠.free:=by decide +kernel):FnScope N P sc:=⟨a,b,c,d,e,f,g⟩
theorem y4{P:Program}{w:World}{K:PySem.W.Frag}{mg:Str→Option Value}{base:Heap}{k k2:Nat}{x:Str}{C:Addr}{m:List D→Bool}(r:Refuser P w K mg base k x C m)(h:k≤k2):Refuser P w K mg base k2 x C m:=let ⟨fa,fd,ps,Fn,a,b,c⟩:=r.ex;⟨fa,fd,ps,Fn.mono h,a,b,c⟩
def top(i:Nat):Stmt:=PySem.Challenge.pw_backhead_k16_refused.main.body.getD i (.Pass ⟨0,0,0,0⟩)
structure Bi (mg:Str→Option Value):Prop where
 ValueError:mg "ValueError"=none
 all:mg "all"=none
 bool:mg "bool"=none
 enumerate:mg "enumerate"=none
 int:mg "int"=none
 isinstance:mg "isinstance"=none
 len:mg "len"=none
 list:mg "list"=none
 range:mg "range"=none
 str:mg "str"=none
 tuple:mg "tuple"=none
section
variable {P:Program} {w:World} {K:PySem.W.Frag} {mg:Str→Option Value} {base:Heap} {fa:Addr} {fd:FuncData}
abbrev JF:Stmt:=top 13
theorem zdv:FnScope ["thing","low","high"] ["thing","low","high"] (zr JF):=yg
theorem zdw(Fn:Fun K "is_number" "is_number" JF fa fd)(hm:mg "is_number"=some (.ref fa))(bi:Bi mg):Callee P w K mg base 1 "is_number" ue :=
 z8 (k:=0) (f:=Wa) Fn hm zdv (Fn.binds fun _ _ _ _ _ _ us hl=>match us,hl with|[_,_,_],_=>rfl) fun cdv A outer s H E hr =>
  (zi (zU (t_w (wr (yq (z9 wM uc rfl bi.isinstance boot_isinstance (za (zc (pv 0)) (za (Z8 .bl rfl bi.bool boot_bool) ze)))) (wL (xa (yq (z9 wM uc rfl bi.isinstance boot_isinstance (za (zc (pv 0)) (za (Z8 .int rfl bi.int boot_int) ze)))))))) (zk (zH yD)) zB) (zk (zH (VF WA WE WA WE (zc (pv 1)) (zc (pv 0)) (zc (pv 2))))))
abbrev Ux:Stmt:=top 14
theorem zcz:FnScope ["thing","low","high"] ["thing","low","high"] (zr Ux):=yg
theorem zcA(Fn:Fun K "is_row" "is_row" Ux fa fd)(hm:mg "is_row"=some (.ref fa))(bi:Bi mg):Callee P w K mg base 1 "is_row" vj :=
 z8 (k:=0) (f:=XN) Fn hm zcz (Fn.binds fun _ _ _ _ _ _ us hl=>match us,hl with|[_,_,_],_=>rfl) fun cdv A outer s H E hr =>
  (zk (zH (Xw (z9 wM uc rfl bi.isinstance boot_isinstance (za (zc (pv 0)) (za (Z8 .tup rfl bi.tuple boot_tuple) ze))) (Xv (VF WA WE WA WE (zc (pv 1)) (z9 z7 y0 rfl bi.len PySem.boot_len (za (zc (pv 0)) ze)) (zc (pv 2)))))))
abbrev Uy:Stmt:=top 15
theorem zcB:FnScope ["column","letters"] ["column","letters"] (zr Uy):=yg
theorem zcC(Fn:Fun K "ways_at" "ways_at" Uy fa fd)(hm:mg "ways_at"=some (.ref fa))(bi:Bi mg):Callee P w K mg base 1 "ways_at" XQ :=
 z8 (k:=0) (f:=XO) Fn hm zcB (Fn.binds fun _ _ _ _ _ _ us hl=>match us,hl with|[_,_],_=>rfl) fun cdv A outer s H E hr =>
  (zi (zU (zA (zw (Room.units hr)) zy (zc (pv 0)) zf (zo _)) (zk (zH (zl (za zf ze)))) zB) (zi (zU (zA (zw (Room.units hr)) zy (zc (pv 0)) (zj zm zn (zc (pv 1)) zf) (zo _)) (zk (zH (zl (za (wx zf) ze)))) zB) (zk (zH (zl (by refine za ?_ ?_;(· exact zf);refine za ?_ ?_;(· exact (wx zf));exact ze))))))
abbrev Uz:Stmt:=top 16
theorem zcD:FnScope ["move","count","ways"] ["move","count","ways"] (zr Uz):=yg
theorem zcE(Fn:Fun K "is_move" "is_move" Uz fa fd)(hm:mg "is_move"=some (.ref fa))(bi:Bi mg)(c_Fao:Callee P w K mg base 1 "is_row" vj)(c_Ft:Callee P w K mg base 1 "is_number" ue)(g_ENDS:GlobT K mg "ENDS" [(.str "yes"),(.str "no")]):Callee P w K mg base 2 "is_move" vO :=
 z8 (k:=1) (f:=uH) Fn hm zcD (Fn.binds fun _ _ _ _ _ _ us hl=>match us,hl with|[_,_,_],_=>rfl) fun cdv A outer s H E hr =>
  (zi (zU (yq (z9 wM uc rfl bi.isinstance boot_isinstance (za (zc (pv 0)) (za (Z8 .str rfl bi.str boot_str) ze)))) (zk (zH (v5 (Qb (xB hr)) V9 (zc (pv 0)) (VL g_ENDS rfl) (by with_unfolding_all rfl)))) zB) (zi (zU (t_w (wr (xa (yq (zq c_Fao hr (by decide) rfl (za (zc (pv 0)) (za zf (za zf ze)))))) (wL (xa (yq (zq c_Ft hr (by decide) rfl (by refine za ?_ ?_;(· exact (zJ (zc (pv 0)) zf (fun _ _=>rfl)));refine za ?_ ?_;(· exact zf);refine za ?_ ?_;(· exact (zj Xo Xz (zc (pv 1)) zf));exact ze))))))) (zk (zH yD)) zB) (zk (zH (Xw (zq c_Ft hr (by decide) rfl (by refine za ?_ ?_;(· exact (zJ (zc (pv 0)) zf (fun _ _=>rfl)));refine za ?_ ?_;(· exact (wx zf));refine za ?_ ?_;(· exact zf);exact ze)) (Xv (v5 (Qb (xB hr)) V9 (zJ (zc (pv 0)) zf (fun _ _=>rfl)) (zc (pv 2)) (by with_unfolding_all rfl))))))))
abbrev UA:Stmt:=top 17
theorem zcF:FnScope ["room","count","letters"] ["room","count","letters"] (zr UA):=yg
theorem zcG(Fn:Fun K "is_room" "is_room" UA fa fd)(hm:mg "is_room"=some (.ref fa))(bi:Bi mg)(c_Fao:Callee P w K mg base 1 "is_row" vj)(c_Fal:Callee P w K mg base 1 "ways_at" XQ)(c_Faj:Callee P w K mg base 2 "is_move" vO):Callee P w K mg base 3 "is_room" YU :=
 z8 (k:=2) (f:=XS) Fn hm zcF (Fn.binds fun _ _ _ _ _ _ us hl=>match us,hl with|[_,_,_],_=>rfl) fun cdv A outer s H E hr =>
  (zi (zU (xa (yq (zq c_Fao hr (by decide) rfl (by refine za ?_ ?_;(· exact (zc (pv 0)));refine za ?_ ?_;(· exact (zj zm zn (zc (pv 2)) zf));refine za ?_ ?_;(· exact (zj zm zn (zc (pv 2)) zf));exact ze)))) (zk (zH yD)) zB) (zk (zH (z9 (wY rfl) ZD rfl bi.all boot_all (za (z0 (wE (N:=["column","move","count","letters"]) (ms:=[none,none,some 1,some 2]) rfl (CompOk.of (by rfl)) (vF (X4 rfl bi.enumerate (za (zc (pv 0)) ze))) ⟨fun _ _ _ _ _=>⟨(XB rfl (wD (yy (i:=0) (show (["column","move","count","letters"]:List Str).Nodup by decide +kernel) rfl (Or.inl rfl)) (wD (yy (i:=1) (show (["column","move","count","letters"]:List Str).Nodup by decide +kernel) rfl (Or.inl rfl)) Yr))),wu,(zq c_Faj hr (by decide) rfl (by refine za ?_ ?_;(· exact (zc (pv 1)));refine za ?_ ?_;(· exact (zc (pv 2)));refine za ?_ ?_;(· exact (zq c_Fal hr (by decide) rfl (za (zc (pv 0)) (za (zc (pv 3)) ze))));exact ze))⟩⟩ (wv (by decide)) (ww (by decide)))) ze)))))
abbrev JG:Stmt:=top 18
theorem zam:FnScope ["thing","rooms"] ["thing"] (zr JG):=yg
theorem zdx(Fn:Fun K "is_machine" "is_machine" JG fa fd)(hm:mg "is_machine"=some (.ref fa))(bi:Bi mg)(c_Fao:Callee P w K mg base 1 "is_row" vj)(c_Ft:Callee P w K mg base 1 "is_number" ue)(c_Fak:Callee P w K mg base 3 "is_room" YU){t_MOST_LETTERS:Tok}(g_MOST_LETTERS:mg "MOST_LETTERS"=some (.int 3 t_MOST_LETTERS)){t_MOST_ROOMS:Tok}(g_MOST_ROOMS:mg "MOST_ROOMS"=some (.int 12 t_MOST_ROOMS)):Callee P w K mg base 4 "is_machine" uf :=
 z8 (k:=3) (f:=YA) Fn hm zam (Fn.binds fun _ _ _ _ _ _ us hl=>match us,hl with|[_],_=>rfl) fun cdv A outer s H E hr =>
  (zi (zU (t_w (wr (xa (yq (zq c_Fao hr (by decide) rfl (za (zc (pv 0)) (za zf (za zf ze)))))) (wL (xa (yq (zq c_Ft hr (by decide) rfl (by refine za ?_ ?_;(· exact (zJ (zc (pv 0)) zf (fun _ _=>rfl)));refine za ?_ ?_;(· exact zf);refine za ?_ ?_;(· exact (uY rfl g_MOST_LETTERS));exact ze))))))) (zk (zH yD)) zB) (zi (zX (i:=1) zam.nd rfl (Or.inr rfl) (zJ (zc (pv 0)) zf (fun _ _=>rfl))) (zi (zU (xa (yq (zq c_Fao hr (by decide) rfl (za (zc (pv 1)) (za zf (za (uY rfl g_MOST_ROOMS) ze)))))) (zk (zH yD)) zB) (zk (zH (z9 (wY rfl) ZD rfl bi.all boot_all (za (z0 (wE (N:=["room","rooms","thing"]) (ms:=[none,some 1,some 0]) rfl (CompOk.of (by rfl)) (vF (vN (zc (pv 1)))) ⟨fun _ _ _ _ _=>⟨(yy (i:=0) (show (["room","rooms","thing"]:List Str).Nodup by decide +kernel) rfl (Or.inl rfl)),wu,(zq c_Fak hr (by decide) rfl (by refine za ?_ ?_;(· exact (zc (pv 0)));refine za ?_ ?_;(· exact (z9 z7 y0 rfl bi.len PySem.boot_len (za (zc (pv 1)) ze)));refine za ?_ ?_;(· exact (zJ (zc (pv 2)) zf (fun _ _=>rfl)));exact ze))⟩⟩ (wv (by decide)) (ww (by decide)))) ze)))))))
abbrev WI:Stmt:=top 19
theorem Qx:FnScope ["machine"] ["machine"] (zr WI):=yg
theorem zcH(Fn:Fun K "checked" "checked" WI fa fd)(hm:mg "checked"=some (.ref fa))(bi:Bi mg)(c_Fq:Callee P w K mg base 4 "is_machine" uf):Callee P w K mg base 5 "checked" yr :=
 z8 (k:=4) (f:=Uj) Fn hm Qx (Fn.binds fun _ _ _ _ _ _ us hl=>match us,hl with|[_],_=>rfl) fun cdv A outer s H E hr =>
  (zi (zU (xa (yq (zq c_Fq hr (by decide) rfl (za (zc (pv 0)) ze)))) (zk yJ) zB) (zk (zH (zc (pv 0)))))
theorem Zg(Fn:Fun K "checked" "checked" WI fa fd)(hm:mg "checked"=some (.ref fa))(bi:Bi mg)(c_Fq:Callee P w K mg base 4 "is_machine" uf){C_NoMachine:Addr}(EC_NoMachine:ErrC K mg "NoMachine" C_NoMachine):Refuser P w K mg base 5 "checked" C_NoMachine zC :=
 zp (k:=4) (N:=["machine"]) (ps:=["machine"]) (x:=wF) Fn hm Qx (Fn.binds fun _ _ _ _ _ _ us hl=>match us,hl with|[_],_=>rfl) fun cdv A outer s H E hr =>
  (zv (y2 (xa (yq (zq c_Fq hr (by decide) rfl (za (zc (pv 0)) ze)))) (zv (uz EC_NoMachine rfl)) yC))
abbrev JH:Stmt:=top 20
theorem zdy:FnScope ["word","letters"] ["word","letters"] (zr JH):=yg
theorem uS(Fn:Fun K "checked_word" "checked_word" JH fa fd)(hm:mg "checked_word"=some (.ref fa))(bi:Bi mg)(c_Ft:Callee P w K mg base 1 "is_number" ue){C_NoWord:Addr}(EC_NoWord:ErrC K mg "NoWord" C_NoWord):Refuser P w K mg base 2 "checked_word" C_NoWord zT :=
 zp (k:=1) (N:=["word","letters"]) (ps:=["word","letters"]) (x:=yW) Fn hm zdy (Fn.binds fun _ _ _ _ _ _ us hl=>match us,hl with|[_,_],_=>rfl) fun cdv A outer s H E hr =>
  (zv (y2 (t_w (wr (xa (yq (z9 wM uc rfl bi.isinstance boot_isinstance (za (zc (pv 0)) (za (Z8 .tup rfl bi.tuple boot_tuple) ze))))) (wL (xa (yq (z9 (wY rfl) ZD rfl bi.all boot_all (za (z0 (wE (N:=["letter","letters"]) (ms:=[none,some 1]) rfl (CompOk.of (by rfl)) (vF (vN (zc (pv 0)))) ⟨fun _ _ _ _ _=>⟨(yy (i:=0) (show (["letter","letters"]:List Str).Nodup by decide +kernel) rfl (Or.inl rfl)),wu,(zq c_Ft hr (by decide) rfl (by refine za ?_ ?_;(· exact (zc (pv 0)));refine za ?_ ?_;(· exact zf);refine za ?_ ?_;(· exact (zj Xo Xz (zc (pv 1)) zf));exact ze))⟩⟩ (wv (by decide)) (ww (by decide)))) ze))))))) (zv (uz EC_NoWord rfl)) yC))
abbrev WJ:Stmt:=top 21
theorem Vp:FnScope ["machine","word","letters","columns","stood","room","place","move","first"] ["machine","word"] (zr WJ):=yg
theorem Yh(Fn:Fun K "run" "run" WJ fa fd)(hm:mg "run"=some (.ref fa))(bi:Bi mg){C_NoMachine:Addr}(EC_NoMachine:ErrC K mg "NoMachine" C_NoMachine)(rf_f_checked_NoMachine:Refuser P w K mg base 5 "checked" C_NoMachine zC):Refuser P w K mg base 6 "run" C_NoMachine wy :=
 zp (k:=5) (N:=["machine","word","letters","columns","stood","room","place","move","first"]) (ps:=["machine","word"]) (x:=vG) Fn hm Vp (Fn.binds fun _ _ _ _ _ _ us hl=>match us,hl with|[_,_],_=>rfl) fun cdv A outer s H E hr =>
  (zv (xr (zF zK rf_f_checked_NoMachine hr (by decide) rfl (za (zc (pv 0)) ze))))
theorem Xm(Fn:Fun K "run" "run" WJ fa fd)(hm:mg "run"=some (.ref fa))(bi:Bi mg)(c_Fai:Callee P w K mg base 5 "checked" yr){C_NoWord:Addr}(EC_NoWord:ErrC K mg "NoWord" C_NoWord)(rf_f_checked_word_NoWord:Refuser P w K mg base 2 "checked_word" C_NoWord zT):Refuser P w K mg base 6 "run" C_NoWord vC :=
 zp (k:=5) (N:=["machine","word","letters","columns","stood","room","place","move","first"]) (ps:=["machine","word"]) (x:=uC) Fn hm Vp (Fn.binds fun _ _ _ _ _ _ us hl=>match us,hl with|[_,_],_=>rfl) fun cdv A outer s H E hr =>
  (zG (y1 (zq c_Fai hr (by decide) rfl (za (zc (pv 0)) ze))) (zG (zX (i:=2) Vp.nd rfl (Or.inl rfl) (zJ (zc (pv 0)) zf (fun _ _=>rfl))) (zv (xr (zF zK rf_f_checked_word_NoWord hr (by decide) rfl (za (zc (pv 1)) (za (zc (pv 2)) ze)))))))
abbrev WK:Stmt:=top 29
theorem Qy:FnScope ["machine","word","columns","done","letter"] ["machine","word"] (zr WK):=yg
theorem ZR(Fn:Fun K "doing" "doing" WK fa fd)(hm:mg "doing"=some (.ref fa))(bi:Bi mg){C_NoMachine:Addr}(EC_NoMachine:ErrC K mg "NoMachine" C_NoMachine)(rf_f_checked_NoMachine:Refuser P w K mg base 5 "checked" C_NoMachine zC):Refuser P w K mg base 6 "doing" C_NoMachine we :=
 zp (k:=5) (N:=["machine","word","columns","done","letter"]) (ps:=["machine","word"]) (x:=w6) Fn hm Qy (Fn.binds fun _ _ _ _ _ _ us hl=>match us,hl with|[_,_],_=>rfl) fun cdv A outer s H E hr =>
  (zv (xr (zF zK rf_f_checked_NoMachine hr (by decide) rfl (za (zc (pv 0)) ze))))
theorem YH(Fn:Fun K "doing" "doing" WK fa fd)(hm:mg "doing"=some (.ref fa))(bi:Bi mg)(c_Fai:Callee P w K mg base 5 "checked" yr){C_NoWord:Addr}(EC_NoWord:ErrC K mg "NoWord" C_NoWord)(rf_f_checked_word_NoWord:Refuser P w K mg base 2 "checked_word" C_NoWord zT):Refuser P w K mg base 6 "doing" C_NoWord wO :=
 zp (k:=5) (N:=["machine","word","columns","done","letter"]) (ps:=["machine","word"]) (x:=vR) Fn hm Qy (Fn.binds fun _ _ _ _ _ _ us hl=>match us,hl with|[_,_],_=>rfl) fun cdv A outer s H E hr =>
  (zG (y1 (zq c_Fai hr (by decide) rfl (za (zc (pv 0)) ze))) (zv (xr (zF zK rf_f_checked_word_NoWord hr (by decide) rfl (by refine za ?_ ?_;(· exact (zc (pv 1)));refine za ?_ ?_;(· exact (zJ (zc (pv 0)) zf (fun _ _=>rfl)));exact ze)))))
abbrev UB:Stmt:=top 31
theorem zcI:FnScope ["machine"] ["machine"] (zr UB):=yg
theorem Zu(Fn:Fun K "doings" "doings" UB fa fd)(hm:mg "doings"=some (.ref fa))(bi:Bi mg){fa_f_explored:Addr}(ka_f_explored:mg "explored"=some (.ref fa_f_explored))(kb_f_explored:PySem.W.keepIn K (.ref fa_f_explored)=true){C_NoMachine:Addr}(EC_NoMachine:ErrC K mg "NoMachine" C_NoMachine)(rf_f_checked_NoMachine:Refuser P w K mg base 5 "checked" C_NoMachine zC):Refuser P w K mg base 6 "doings" C_NoMachine x5 :=
 zp (k:=5) (N:=["machine"]) (ps:=["machine"]) (x:=wP) Fn hm zcI (Fn.binds fun _ _ _ _ _ _ us hl=>match us,hl with|[_],_=>rfl) fun cdv A outer s H E hr =>
  (zv (ye (zdj (zcd rfl ka_f_explored kb_f_explored (zF zK rf_f_checked_NoMachine hr (by decide) rfl (za (zc (pv 0)) ze))) zf (fun _ _=>rfl))))
abbrev JI:Stmt:=top 43
theorem zdz:FnScope ["thing","count"] ["thing","count"] (zr JI):=yg
theorem zdA(Fn:Fun K "are_stands" "are_stands" JI fa fd)(hm:mg "are_stands"=some (.ref fa))(bi:Bi mg)(c_Ft:Callee P w K mg base 1 "is_number" ue):Callee P w K mg base 2 "are_stands" YB :=
 z8 (k:=1) (f:=Uk) Fn hm zdz (Fn.binds fun _ _ _ _ _ _ us hl=>match us,hl with|[_,_],_=>rfl) fun cdv A outer s H E hr =>
  (zk (zH (Xw (z9 wM uc rfl bi.isinstance boot_isinstance (za (zc (pv 0)) (za (Z8 .tup rfl bi.tuple boot_tuple) ze))) (Xv (z9 (wY rfl) ZD rfl bi.all boot_all (za (z0 (wE (N:=["stand","count"]) (ms:=[none,some 1]) rfl (CompOk.of (by rfl)) (vF (vN (zc (pv 0)))) ⟨fun _ _ _ _ _=>⟨(yy (i:=0) (show (["stand","count"]:List Str).Nodup by decide +kernel) rfl (Or.inl rfl)),wu,(zq c_Ft hr (by decide) rfl (by refine za ?_ ?_;(· exact (zc (pv 0)));refine za ?_ ?_;(· exact zf);refine za ?_ ?_;(· exact (zj Xo Xz (zc (pv 1)) zf));exact ze))⟩⟩ (wv (by decide)) (ww (by decide)))) ze))))))
abbrev JJ:Stmt:=top 44
theorem zdB:FnScope ["numbers"] ["numbers"] (zr JJ):=yg
theorem zdC(Fn:Fun K "is_rising" "is_rising" JJ fa fd)(hm:mg "is_rising"=some (.ref fa))(bi:Bi mg):Callee P w K mg base 1 "is_rising" Xj :=
 z8 (k:=0) (f:=Jm) Fn hm zdB (Fn.binds fun _ _ _ _ _ _ us hl=>match us,hl with|[_],_=>rfl) fun cdv A outer s H E hr =>
  (zk (zH (z9 (wY rfl) ZD rfl bi.all boot_all (za (z0 (wE (N:=["k","numbers"]) (ms:=[none,some 0]) rfl (CompOk.of (by rfl)) (vF (uw rfl bi.range (za (zj Xo Xz (z9 z7 y0 rfl bi.len PySem.boot_len (za (zc (pv 0)) ze)) zf) ze))) ⟨fun _ _ _ _ _=>⟨(yy (i:=0) (show (["k","numbers"]:List Str).Nodup by decide +kernel) rfl (Or.inl rfl)),wu,(v5 VV V7 (zJ (zc (pv 1)) (zc (pv 0)) (fun _ _=>rfl)) (zJ (zc (pv 1)) (zj zm zn (zc (pv 0)) zf) (fun _ _=>rfl)) (zo _))⟩⟩ (wv (by decide)) (ww (by decide)))) ze))))
abbrev JK:Stmt:=top 45
theorem zan:FnScope ["thing","rows"] ["thing"] (zr JK):=yg
theorem zdD(Fn:Fun K "is_reader" "is_reader" JK fa fd)(hm:mg "is_reader"=some (.ref fa))(bi:Bi mg)(c_Fao:Callee P w K mg base 1 "is_row" vj)(c_Ft:Callee P w K mg base 1 "is_number" ue)(c_Fn:Callee P w K mg base 2 "are_stands" YB)(c_Fv:Callee P w K mg base 1 "is_rising" Xj){t_MOST_LETTERS:Tok}(g_MOST_LETTERS:mg "MOST_LETTERS"=some (.int 3 t_MOST_LETTERS)){t_MOST_STANDS:Tok}(g_MOST_STANDS:mg "MOST_STANDS"=some (.int 2000 t_MOST_STANDS)):Callee P w K mg base 3 "is_reader" wQ :=
 z8 (k:=2) (f:=uN) Fn hm zan (Fn.binds fun _ _ _ _ _ _ us hl=>match us,hl with|[_],_=>rfl) fun cdv A outer s H E hr =>
  (zi (zU (t_w (wr (xa (yq (zq c_Fao hr (by decide) rfl (za (zc (pv 0)) (za zf (za zf ze)))))) (wL (xa (yq (zq c_Ft hr (by decide) rfl (by refine za ?_ ?_;(· exact (zJ (zc (pv 0)) zf (fun _ _=>rfl)));refine za ?_ ?_;(· exact zf);refine za ?_ ?_;(· exact (uY rfl g_MOST_LETTERS));exact ze))))))) (zk (zH yD)) zB) (zi (zX (i:=1) zan.nd rfl (Or.inr rfl) (zJ (zc (pv 0)) zf (fun _ _=>rfl))) (zi (zU (xa (yq (zq c_Fao hr (by decide) rfl (za (zc (pv 1)) (za zf (za (uY rfl g_MOST_STANDS) ze)))))) (zk (zH yD)) zB) (zi (zU (xa (yq (z9 (wY rfl) ZD rfl bi.all boot_all (za (z0 (wE (N:=["row","rows","thing"]) (ms:=[none,some 1,some 0]) rfl (CompOk.of (by rfl)) (vF (vN (zc (pv 1)))) ⟨fun _ _ _ _ _=>⟨(yy (i:=0) (show (["row","rows","thing"]:List Str).Nodup by decide +kernel) rfl (Or.inl rfl)),wu,(Xw (zq c_Fn hr (by decide) rfl (by refine za ?_ ?_;(· exact (zc (pv 0)));refine za ?_ ?_;(· exact (z9 z7 y0 rfl bi.len PySem.boot_len (za (zc (pv 1)) ze)));exact ze)) (Xv (v5 (zw (Room.units hr)) zy (z9 z7 y0 rfl bi.len PySem.boot_len (za (zc (pv 0)) ze)) (zJ (zc (pv 2)) zf (fun _ _=>rfl)) (zo _))))⟩⟩ (wv (by decide)) (ww (by decide)))) ze)))) (zk (zH yD)) zB) (zk (zH (Xw (zq c_Fn hr (by decide) rfl (by refine za ?_ ?_;(· exact (zJ (zc (pv 0)) zf (fun _ _=>rfl)));refine za ?_ ?_;(· exact (z9 z7 y0 rfl bi.len PySem.boot_len (za (zc (pv 1)) ze)));exact ze)) (Xv (zq c_Fv hr (by decide) rfl (za (zJ (zc (pv 0)) zf (fun _ _=>rfl)) ze))))))))))
abbrev UC:Stmt:=top 46
theorem zao:FnScope ["reader"] ["reader"] (zr UC):=yg
theorem zdE(Fn:Fun K "checked_reader" "checked_reader" UC fa fd)(hm:mg "checked_reader"=some (.ref fa))(bi:Bi mg)(c_Fu:Callee P w K mg base 3 "is_reader" wQ):Callee P w K mg base 4 "checked_reader" xD :=
 z8 (k:=3) (f:=Jn) Fn hm zao (Fn.binds fun _ _ _ _ _ _ us hl=>match us,hl with|[_],_=>rfl) fun cdv A outer s H E hr =>
  (zi (zU (xa (yq (zq c_Fu hr (by decide) rfl (za (zc (pv 0)) ze)))) (zk yJ) zB) (zk (zH (zc (pv 0)))))
theorem uo(Fn:Fun K "checked_reader" "checked_reader" UC fa fd)(hm:mg "checked_reader"=some (.ref fa))(bi:Bi mg)(c_Fu:Callee P w K mg base 3 "is_reader" wQ){C_NoReader:Addr}(EC_NoReader:ErrC K mg "NoReader" C_NoReader):Refuser P w K mg base 4 "checked_reader" C_NoReader zx :=
 zp (k:=3) (N:=["reader"]) (ps:=["reader"]) (x:=xK) Fn hm zao (Fn.binds fun _ _ _ _ _ _ us hl=>match us,hl with|[_],_=>rfl) fun cdv A outer s H E hr =>
  (zv (y2 (xa (yq (zq c_Fu hr (by decide) rfl (za (zc (pv 0)) ze)))) (zv (uz EC_NoReader rfl)) yC))
abbrev WL:Stmt:=top 47
theorem Qz:FnScope ["reader","word","stand","letter"] ["reader","word"] (zr WL):=yg
theorem Yc(Fn:Fun K "takes" "takes" WL fa fd)(hm:mg "takes"=some (.ref fa))(bi:Bi mg){C_NoReader:Addr}(EC_NoReader:ErrC K mg "NoReader" C_NoReader)(rf_f_checked_reader_NoReader:Refuser P w K mg base 4 "checked_reader" C_NoReader zx):Refuser P w K mg base 5 "takes" C_NoReader wq :=
 zp (k:=4) (N:=["reader","word","stand","letter"]) (ps:=["reader","word"]) (x:=vt) Fn hm Qz (Fn.binds fun _ _ _ _ _ _ us hl=>match us,hl with|[_,_],_=>rfl) fun cdv A outer s H E hr =>
  (zv (xr (zF zK rf_f_checked_reader_NoReader hr (by decide) rfl (za (zc (pv 0)) ze))))
theorem YI(Fn:Fun K "takes" "takes" WL fa fd)(hm:mg "takes"=some (.ref fa))(bi:Bi mg)(c_Ff:Callee P w K mg base 4 "checked_reader" xD){C_NoWord:Addr}(EC_NoWord:ErrC K mg "NoWord" C_NoWord)(rf_f_checked_word_NoWord:Refuser P w K mg base 2 "checked_word" C_NoWord zT):Refuser P w K mg base 5 "takes" C_NoWord wR :=
 zp (k:=4) (N:=["reader","word","stand","letter"]) (ps:=["reader","word"]) (x:=vS) Fn hm Qz (Fn.binds fun _ _ _ _ _ _ us hl=>match us,hl with|[_,_],_=>rfl) fun cdv A outer s H E hr =>
  (zG (y1 (zq c_Ff hr (by decide) rfl (za (zc (pv 0)) ze))) (zv (xr (zF zK rf_f_checked_word_NoWord hr (by decide) rfl (by refine za ?_ ?_;(· exact (zc (pv 1)));refine za ?_ ?_;(· exact (zJ (zc (pv 0)) zf (fun _ _=>rfl)));exact ze)))))
abbrev UD:Stmt:=top 48
theorem Vq:FnScope ["reader","marks","stand"] ["reader"] (zr UD):=yg
theorem zcJ(Fn:Fun K "marks_of" "marks_of" UD fa fd)(hm:mg "marks_of"=some (.ref fa))(bi:Bi mg):Callee P w K mg base 1 "marks_of" Ul :=
 z8 (k:=0) (f:=zac) Fn hm Vq (Fn.binds fun _ _ _ _ _ _ us hl=>match us,hl with|[_],_=>rfl) fun cdv A outer s H E hr =>
  (zi (zbT (i:=1) (N:=["row"]) (ms:=[none]) rfl (CompOk.of (by rfl)) (vF (vN (zJ (zc (pv 0)) zf (fun _ _=>rfl)))) ⟨fun _ _ _ _ _=>⟨(yy (i:=0) (show (["row"]:List Str).Nodup by decide +kernel) rfl (Or.inl rfl)),wu,yD⟩⟩ (wv (by decide)) (ww (by decide)) Vq.nd rfl (Or.inl rfl) (by rfl)) (zi (XC PassesOwn.never rfl (vN (zJ (zc (pv 0)) zf (fun _ _=>rfl))) (yy (i:=2) Vq.nd rfl (Or.inl rfl)) (zk (zbY (i:=1) (pv 1) (zc (pv 2)) yD))) (zbP (i:=1) (zk (zH (zc (pv 1)))))))
abbrev UE:Stmt:=top 49
theorem zcK:FnScope ["reader"] ["reader"] (zr UE):=yg
theorem Yd(Fn:Fun K "least" "least" UE fa fd)(hm:mg "least"=some (.ref fa))(bi:Bi mg){C_NoReader:Addr}(EC_NoReader:ErrC K mg "NoReader" C_NoReader)(rf_f_checked_reader_NoReader:Refuser P w K mg base 4 "checked_reader" C_NoReader zx):Refuser P w K mg base 5 "least" C_NoReader yF :=
 zp (k:=4) (N:=["reader"]) (ps:=["reader"]) (x:=vv) Fn hm zcK (Fn.binds fun _ _ _ _ _ _ us hl=>match us,hl with|[_],_=>rfl) fun cdv A outer s H E hr =>
  (zv (xr (zF zK rf_f_checked_reader_NoReader hr (by decide) rfl (za (zc (pv 0)) ze))))
abbrev UF:Stmt:=top 50
theorem zap:FnScope ["machine","fate","table","good"] ["machine","fate"] (zr UF):=yg
theorem uT(Fn:Fun K "reader_of" "reader_of" UF fa fd)(hm:mg "reader_of"=some (.ref fa))(bi:Bi mg){C_NoMachine:Addr}(EC_NoMachine:ErrC K mg "NoMachine" C_NoMachine)(rf_f_checked_NoMachine:Refuser P w K mg base 5 "checked" C_NoMachine zC):Refuser P w K mg base 6 "reader_of" C_NoMachine yG :=
 zp (k:=5) (N:=["machine","fate","table","good"]) (ps:=["machine","fate"]) (x:=wj) Fn hm zap (Fn.binds fun _ _ _ _ _ _ us hl=>match us,hl with|[_,_],_=>rfl) fun cdv A outer s H E hr =>
  (zv (xr (zF zK rf_f_checked_NoMachine hr (by decide) rfl (za (zc (pv 0)) ze))))
theorem Zv(Fn:Fun K "reader_of" "reader_of" UF fa fd)(hm:mg "reader_of"=some (.ref fa))(bi:Bi mg)(c_Fai:Callee P w K mg base 5 "checked" yr)(g_FATES:GlobT K mg "FATES" [(.str "yes"),(.str "no"),(.str "round")]){C_NoFate:Addr}(EC_NoFate:ErrC K mg "NoFate" C_NoFate):Refuser P w K mg base 6 "reader_of" C_NoFate xi :=
 zp (k:=5) (N:=["machine","fate","table","good"]) (ps:=["machine","fate"]) (x:=yH) Fn hm zap (Fn.binds fun _ _ _ _ _ _ us hl=>match us,hl with|[_,_],_=>rfl) fun cdv A outer s H E hr =>
  (zG (y1 (zq c_Fai hr (by decide) rfl (za (zc (pv 0)) ze))) (zv (y2 (t_w (wr (xa (yq (z9 wM uc rfl bi.isinstance boot_isinstance (za (zc (pv 1)) (za (Z8 .str rfl bi.str boot_str) ze))))) (wL (zA (zaP (xB hr)) V9 (zc (pv 1)) (VL g_FATES rfl) (by with_unfolding_all rfl))))) (zv (uz EC_NoFate rfl)) yC)))
abbrev WM:Stmt:=top 56
theorem QA:FnScope ["one","other","wanted"] ["one","other","wanted"] (zr WM):=yg
theorem Zh(Fn:Fun K "pairs_of" "pairs_of" WM fa fd)(hm:mg "pairs_of"=some (.ref fa))(bi:Bi mg)(c_Ff:Callee P w K mg base 4 "checked_reader" xD){C_NoReader:Addr}(EC_NoReader:ErrC K mg "NoReader" C_NoReader)(rf_f_checked_reader_NoReader:Refuser P w K mg base 4 "checked_reader" C_NoReader zx):Refuser P w K mg base 5 "pairs_of" C_NoReader yp :=
 zp (k:=4) (N:=["one","other","wanted"]) (ps:=["one","other","wanted"]) (x:=xR) Fn hm QA (Fn.binds fun _ _ _ _ _ _ us hl=>match us,hl with|[_,_,_],_=>rfl) fun cdv A outer s H E hr =>
  (yw (xr (zF zK rf_f_checked_reader_NoReader hr (by decide) rfl (za (zc (pv 0)) ze))) (y1 (zq c_Ff hr (by decide) rfl (za (zc (pv 0)) ze))) (yw (xr (zF zK rf_f_checked_reader_NoReader hr (by decide) rfl (za (zc (pv 1)) ze))) (y1 (zq c_Ff hr (by decide) rfl (za (zc (pv 1)) ze))) (zG (zU (zA (xX (Room.units hr)) zy (zJ (zc (pv 0)) zf (fun _ _=>rfl)) (zJ (zc (pv 1)) zf (fun _ _=>rfl)) (zo _)) (zk yJ) zB) yC)))
theorem ZS(Fn:Fun K "pairs_of" "pairs_of" WM fa fd)(hm:mg "pairs_of"=some (.ref fa))(bi:Bi mg)(c_Ff:Callee P w K mg base 4 "checked_reader" xD){C_Unlike:Addr}(EC_Unlike:ErrC K mg "Unlike" C_Unlike):Refuser P w K mg base 5 "pairs_of" C_Unlike yZ :=
 zp (k:=4) (N:=["one","other","wanted"]) (ps:=["one","other","wanted"]) (x:=va) Fn hm QA (Fn.binds fun _ _ _ _ _ _ us hl=>match us,hl with|[_,_,_],_=>rfl) fun cdv A outer s H E hr =>
  (zG (y1 (zq c_Ff hr (by decide) rfl (za (zc (pv 0)) ze))) (zG (y1 (zq c_Ff hr (by decide) rfl (za (zc (pv 1)) ze))) (zv (y2 (zA (xX (Room.units hr)) zy (zJ (zc (pv 0)) zf (fun _ _=>rfl)) (zJ (zc (pv 1)) zf (fun _ _=>rfl)) (zo _)) (zv (uz EC_Unlike rfl)) yC))))
abbrev WN:Stmt:=top 57
theorem XV:FnScope ["one","other","wanted","pairs"] ["one","other","wanted"] (zr WN):=yg
theorem ZT(Fn:Fun K "joined" "joined" WN fa fd)(hm:mg "joined"=some (.ref fa))(bi:Bi mg){C_NoReader:Addr}(EC_NoReader:ErrC K mg "NoReader" C_NoReader)(rf_f_pairs_of_NoReader:Refuser P w K mg base 5 "pairs_of" C_NoReader yp):Refuser P w K mg base 6 "joined" C_NoReader yA :=
 zp (k:=5) (N:=["one","other","wanted","pairs"]) (ps:=["one","other","wanted"]) (x:=vb) Fn hm XV (Fn.binds fun _ _ _ _ _ _ us hl=>match us,hl with|[_,_,_],_=>rfl) fun cdv A outer s H E hr =>
  (zv (YT (i:=3) XV.nd rfl (Or.inl rfl) (zF zK rf_f_pairs_of_NoReader hr (by decide) rfl (za (zc (pv 0)) (za (zc (pv 1)) (za (zc (pv 2)) ze))))))
theorem Yi(Fn:Fun K "joined" "joined" WN fa fd)(hm:mg "joined"=some (.ref fa))(bi:Bi mg){C_Unlike:Addr}(EC_Unlike:ErrC K mg "Unlike" C_Unlike)(rf_f_pairs_of_Unlike:Refuser P w K mg base 5 "pairs_of" C_Unlike yZ):Refuser P w K mg base 6 "joined" C_Unlike yK :=
 zp (k:=5) (N:=["one","other","wanted","pairs"]) (ps:=["one","other","wanted"]) (x:=vH) Fn hm XV (Fn.binds fun _ _ _ _ _ _ us hl=>match us,hl with|[_,_,_],_=>rfl) fun cdv A outer s H E hr =>
  (zv (YT (i:=3) XV.nd rfl (Or.inl rfl) (zF zK rf_f_pairs_of_Unlike hr (by decide) rfl (za (zc (pv 0)) (za (zc (pv 1)) (za (zc (pv 2)) ze))))))
abbrev WO:Stmt:=top 58
theorem QB:FnScope ["one","other"] ["one","other"] (zr WO):=yg
theorem Yj(Fn:Fun K "both" "both" WO fa fd)(hm:mg "both"=some (.ref fa))(bi:Bi mg){ad_IN_BOTH:Addr}(o_IN_BOTH:mg "IN_BOTH"=some (.ref ad_IN_BOTH)){C_NoReader:Addr}(EC_NoReader:ErrC K mg "NoReader" C_NoReader)(rf_f_joined_NoReader:Refuser P w K mg base 6 "joined" C_NoReader yA):Refuser P w K mg base 7 "both" C_NoReader xY :=
 zp (k:=6) (N:=["one","other"]) (ps:=["one","other"]) (x:=vI) Fn hm QB (Fn.binds fun _ _ _ _ _ _ us hl=>match us,hl with|[_,_],_=>rfl) fun cdv A outer s H E hr =>
  (zv (ye (zF zK rf_f_joined_NoReader hr (by decide) rfl (za (zc (pv 0)) (za (zc (pv 1)) (za (wZ (v:=.ref ad_IN_BOTH) rfl o_IN_BOTH rfl) ze))))))
theorem Y5(Fn:Fun K "both" "both" WO fa fd)(hm:mg "both"=some (.ref fa))(bi:Bi mg){ad_IN_BOTH:Addr}(o_IN_BOTH:mg "IN_BOTH"=some (.ref ad_IN_BOTH)){C_Unlike:Addr}(EC_Unlike:ErrC K mg "Unlike" C_Unlike)(rf_f_joined_Unlike:Refuser P w K mg base 6 "joined" C_Unlike yK):Refuser P w K mg base 7 "both" C_Unlike vk :=
 zp (k:=6) (N:=["one","other"]) (ps:=["one","other"]) (x:=ug) Fn hm QB (Fn.binds fun _ _ _ _ _ _ us hl=>match us,hl with|[_,_],_=>rfl) fun cdv A outer s H E hr =>
  (zv (ye (zF zK rf_f_joined_Unlike hr (by decide) rfl (za (zc (pv 0)) (za (zc (pv 1)) (za (wZ (v:=.ref ad_IN_BOTH) rfl o_IN_BOTH rfl) ze))))))
abbrev WP:Stmt:=top 59
theorem QC:FnScope ["one","other"] ["one","other"] (zr WP):=yg
theorem ZU(Fn:Fun K "either" "either" WP fa fd)(hm:mg "either"=some (.ref fa))(bi:Bi mg){ad_IN_EITHER:Addr}(o_IN_EITHER:mg "IN_EITHER"=some (.ref ad_IN_EITHER)){C_NoReader:Addr}(EC_NoReader:ErrC K mg "NoReader" C_NoReader)(rf_f_joined_NoReader:Refuser P w K mg base 6 "joined" C_NoReader yA):Refuser P w K mg base 7 "either" C_NoReader xt :=
 zp (k:=6) (N:=["one","other"]) (ps:=["one","other"]) (x:=vc) Fn hm QC (Fn.binds fun _ _ _ _ _ _ us hl=>match us,hl with|[_,_],_=>rfl) fun cdv A outer s H E hr =>
  (zv (ye (zF zK rf_f_joined_NoReader hr (by decide) rfl (za (zc (pv 0)) (za (zc (pv 1)) (za (wZ (v:=.ref ad_IN_EITHER) rfl o_IN_EITHER rfl) ze))))))
theorem Yk(Fn:Fun K "either" "either" WP fa fd)(hm:mg "either"=some (.ref fa))(bi:Bi mg){ad_IN_EITHER:Addr}(o_IN_EITHER:mg "IN_EITHER"=some (.ref ad_IN_EITHER)){C_Unlike:Addr}(EC_Unlike:ErrC K mg "Unlike" C_Unlike)(rf_f_joined_Unlike:Refuser P w K mg base 6 "joined" C_Unlike yK):Refuser P w K mg base 7 "either" C_Unlike wz :=
 zp (k:=6) (N:=["one","other"]) (ps:=["one","other"]) (x:=vJ) Fn hm QC (Fn.binds fun _ _ _ _ _ _ us hl=>match us,hl with|[_,_],_=>rfl) fun cdv A outer s H E hr =>
  (zv (ye (zF zK rf_f_joined_Unlike hr (by decide) rfl (za (zc (pv 0)) (za (zc (pv 1)) (za (wZ (v:=.ref ad_IN_EITHER) rfl o_IN_EITHER rfl) ze))))))
abbrev WQ:Stmt:=top 60
theorem QD:FnScope ["one","other"] ["one","other"] (zr WQ):=yg
theorem Yl(Fn:Fun K "less" "less" WQ fa fd)(hm:mg "less"=some (.ref fa))(bi:Bi mg){ad_IN_ONE_ALONE:Addr}(o_IN_ONE_ALONE:mg "IN_ONE_ALONE"=some (.ref ad_IN_ONE_ALONE)){C_NoReader:Addr}(EC_NoReader:ErrC K mg "NoReader" C_NoReader)(rf_f_joined_NoReader:Refuser P w K mg base 6 "joined" C_NoReader yA):Refuser P w K mg base 7 "less" C_NoReader xZ :=
 zp (k:=6) (N:=["one","other"]) (ps:=["one","other"]) (x:=vK) Fn hm QD (Fn.binds fun _ _ _ _ _ _ us hl=>match us,hl with|[_,_],_=>rfl) fun cdv A outer s H E hr =>
  (zv (ye (zF zK rf_f_joined_NoReader hr (by decide) rfl (za (zc (pv 0)) (za (zc (pv 1)) (za (wZ (v:=.ref ad_IN_ONE_ALONE) rfl o_IN_ONE_ALONE rfl) ze))))))
theorem Y6(Fn:Fun K "less" "less" WQ fa fd)(hm:mg "less"=some (.ref fa))(bi:Bi mg){ad_IN_ONE_ALONE:Addr}(o_IN_ONE_ALONE:mg "IN_ONE_ALONE"=some (.ref ad_IN_ONE_ALONE)){C_Unlike:Addr}(EC_Unlike:ErrC K mg "Unlike" C_Unlike)(rf_f_joined_Unlike:Refuser P w K mg base 6 "joined" C_Unlike yK):Refuser P w K mg base 7 "less" C_Unlike vm :=
 zp (k:=6) (N:=["one","other"]) (ps:=["one","other"]) (x:=uh) Fn hm QD (Fn.binds fun _ _ _ _ _ _ us hl=>match us,hl with|[_,_],_=>rfl) fun cdv A outer s H E hr =>
  (zv (ye (zF zK rf_f_joined_Unlike hr (by decide) rfl (za (zc (pv 0)) (za (zc (pv 1)) (za (wZ (v:=.ref ad_IN_ONE_ALONE) rfl o_IN_ONE_ALONE rfl) ze))))))
abbrev UG:Stmt:=top 61
theorem zcL:FnScope ["reader"] ["reader"] (zr UG):=yg
theorem Zi(Fn:Fun K "contrary" "contrary" UG fa fd)(hm:mg "contrary"=some (.ref fa))(bi:Bi mg){C_NoReader:Addr}(EC_NoReader:ErrC K mg "NoReader" C_NoReader)(rf_f_checked_reader_NoReader:Refuser P w K mg base 4 "checked_reader" C_NoReader zx):Refuser P w K mg base 5 "contrary" C_NoReader xS :=
 zp (k:=4) (N:=["reader"]) (ps:=["reader"]) (x:=wG) Fn hm zcL (Fn.binds fun _ _ _ _ _ _ us hl=>match us,hl with|[_],_=>rfl) fun cdv A outer s H E hr =>
  (zv (xr (zF zK rf_f_checked_reader_NoReader hr (by decide) rfl (za (zc (pv 0)) ze))))
abbrev UH:Stmt:=top 65
theorem WR:FnScope ["one","other","wanted","pairs","here"] ["one","other","wanted"] (zr UH):=yg
theorem vV(Fn:Fun K "first_joined_word" "first_joined_word" UH fa fd)(hm:mg "first_joined_word"=some (.ref fa))(bi:Bi mg){C_NoReader:Addr}(EC_NoReader:ErrC K mg "NoReader" C_NoReader)(rf_f_pairs_of_NoReader:Refuser P w K mg base 5 "pairs_of" C_NoReader yp):Refuser P w K mg base 6 "first_joined_word" C_NoReader yh :=
 zp (k:=5) (N:=["one","other","wanted","pairs","here"]) (ps:=["one","other","wanted"]) (x:=xj) Fn hm WR (Fn.binds fun _ _ _ _ _ _ us hl=>match us,hl with|[_,_,_],_=>rfl) fun cdv A outer s H E hr =>
  (zv (YT (i:=3) WR.nd rfl (Or.inl rfl) (zF zK rf_f_pairs_of_NoReader hr (by decide) rfl (za (zc (pv 0)) (za (zc (pv 1)) (za (zc (pv 2)) ze))))))
theorem ul(Fn:Fun K "first_joined_word" "first_joined_word" UH fa fd)(hm:mg "first_joined_word"=some (.ref fa))(bi:Bi mg){C_Unlike:Addr}(EC_Unlike:ErrC K mg "Unlike" C_Unlike)(rf_f_pairs_of_Unlike:Refuser P w K mg base 5 "pairs_of" C_Unlike yZ):Refuser P w K mg base 6 "first_joined_word" C_Unlike yl :=
 zp (k:=5) (N:=["one","other","wanted","pairs","here"]) (ps:=["one","other","wanted"]) (x:=xE) Fn hm WR (Fn.binds fun _ _ _ _ _ _ us hl=>match us,hl with|[_,_,_],_=>rfl) fun cdv A outer s H E hr =>
  (zv (YT (i:=3) WR.nd rfl (Or.inl rfl) (zF zK rf_f_pairs_of_Unlike hr (by decide) rfl (za (zc (pv 0)) (za (zc (pv 1)) (za (zc (pv 2)) ze))))))
abbrev WS:Stmt:=top 66
theorem QE:FnScope ["one","other"] ["one","other"] (zr WS):=yg
theorem Ye(Fn:Fun K "alike" "alike" WS fa fd)(hm:mg "alike"=some (.ref fa))(bi:Bi mg){ad_IN_JUST_ONE:Addr}(o_IN_JUST_ONE:mg "IN_JUST_ONE"=some (.ref ad_IN_JUST_ONE)){C_NoReader:Addr}(EC_NoReader:ErrC K mg "NoReader" C_NoReader)(rf_f_first_joined_word_NoReader:Refuser P w K mg base 6 "first_joined_word" C_NoReader yh):Refuser P w K mg base 7 "alike" C_NoReader xM :=
 zp (k:=6) (N:=["one","other"]) (ps:=["one","other"]) (x:=vw) Fn hm QE (Fn.binds fun _ _ _ _ _ _ us hl=>match us,hl with|[_,_],_=>rfl) fun cdv A outer s H E hr =>
  (zv (ye (zF zK rf_f_first_joined_word_NoReader hr (by decide) rfl (za (zc (pv 0)) (za (zc (pv 1)) (za (wZ (v:=.ref ad_IN_JUST_ONE) rfl o_IN_JUST_ONE rfl) ze))))))
theorem YJ(Fn:Fun K "alike" "alike" WS fa fd)(hm:mg "alike"=some (.ref fa))(bi:Bi mg){ad_IN_JUST_ONE:Addr}(o_IN_JUST_ONE:mg "IN_JUST_ONE"=some (.ref ad_IN_JUST_ONE)){C_Unlike:Addr}(EC_Unlike:ErrC K mg "Unlike" C_Unlike)(rf_f_first_joined_word_Unlike:Refuser P w K mg base 6 "first_joined_word" C_Unlike yl):Refuser P w K mg base 7 "alike" C_Unlike wS :=
 zp (k:=6) (N:=["one","other"]) (ps:=["one","other"]) (x:=vT) Fn hm QE (Fn.binds fun _ _ _ _ _ _ us hl=>match us,hl with|[_,_],_=>rfl) fun cdv A outer s H E hr =>
  (zv (ye (zF zK rf_f_first_joined_word_Unlike hr (by decide) rfl (za (zc (pv 0)) (za (zc (pv 1)) (za (wZ (v:=.ref ad_IN_JUST_ONE) rfl o_IN_JUST_ONE rfl) ze))))))
abbrev WT:Stmt:=top 67
theorem QF:FnScope ["one","other"] ["one","other"] (zr WT):=yg
theorem ZV(Fn:Fun K "within" "within" WT fa fd)(hm:mg "within"=some (.ref fa))(bi:Bi mg){ad_IN_ONE_ALONE:Addr}(o_IN_ONE_ALONE:mg "IN_ONE_ALONE"=some (.ref ad_IN_ONE_ALONE)){C_NoReader:Addr}(EC_NoReader:ErrC K mg "NoReader" C_NoReader)(rf_f_first_joined_word_NoReader:Refuser P w K mg base 6 "first_joined_word" C_NoReader yh):Refuser P w K mg base 7 "within" C_NoReader xu :=
 zp (k:=6) (N:=["one","other"]) (ps:=["one","other"]) (x:=vd) Fn hm QF (Fn.binds fun _ _ _ _ _ _ us hl=>match us,hl with|[_,_],_=>rfl) fun cdv A outer s H E hr =>
  (zv (ye (zF zK rf_f_first_joined_word_NoReader hr (by decide) rfl (za (zc (pv 0)) (za (zc (pv 1)) (za (wZ (v:=.ref ad_IN_ONE_ALONE) rfl o_IN_ONE_ALONE rfl) ze))))))
theorem Ym(Fn:Fun K "within" "within" WT fa fd)(hm:mg "within"=some (.ref fa))(bi:Bi mg){ad_IN_ONE_ALONE:Addr}(o_IN_ONE_ALONE:mg "IN_ONE_ALONE"=some (.ref ad_IN_ONE_ALONE)){C_Unlike:Addr}(EC_Unlike:ErrC K mg "Unlike" C_Unlike)(rf_f_first_joined_word_Unlike:Refuser P w K mg base 6 "first_joined_word" C_Unlike yl):Refuser P w K mg base 7 "within" C_Unlike wA :=
 zp (k:=6) (N:=["one","other"]) (ps:=["one","other"]) (x:=vL) Fn hm QF (Fn.binds fun _ _ _ _ _ _ us hl=>match us,hl with|[_,_],_=>rfl) fun cdv A outer s H E hr =>
  (zv (ye (zF zK rf_f_first_joined_word_Unlike hr (by decide) rfl (za (zc (pv 0)) (za (zc (pv 1)) (za (wZ (v:=.ref ad_IN_ONE_ALONE) rfl o_IN_ONE_ALONE rfl) ze))))))
abbrev JL:Stmt:=top 68
theorem zaq:FnScope ["reader","small"] ["reader"] (zr JL):=yg
theorem uU(Fn:Fun K "first_word" "first_word" JL fa fd)(hm:mg "first_word"=some (.ref fa))(bi:Bi mg){C_NoReader:Addr}(EC_NoReader:ErrC K mg "NoReader" C_NoReader)(rf_f_least_NoReader:Refuser P w K mg base 5 "least" C_NoReader yF):Refuser P w K mg base 6 "first_word" C_NoReader xn :=
 zp (k:=5) (N:=["reader","small"]) (ps:=["reader"]) (x:=wk) Fn hm zaq (Fn.binds fun _ _ _ _ _ _ us hl=>match us,hl with|[_],_=>rfl) fun cdv A outer s H E hr =>
  (zv (YT (i:=1) zaq.nd rfl (Or.inl rfl) (zF zK rf_f_least_NoReader hr (by decide) rfl (za (zc (pv 0)) ze))))
abbrev UI:Stmt:=top 73
theorem QG:FnScope ["reader","length","small","counts"] ["reader","length"] (zr UI):=yg
theorem Zj(Fn:Fun K "how_many" "how_many" UI fa fd)(hm:mg "how_many"=some (.ref fa))(bi:Bi mg){C_NoReader:Addr}(EC_NoReader:ErrC K mg "NoReader" C_NoReader)(rf_f_least_NoReader:Refuser P w K mg base 5 "least" C_NoReader yF):Refuser P w K mg base 6 "how_many" C_NoReader xU :=
 zp (k:=5) (N:=["reader","length","small","counts"]) (ps:=["reader","length"]) (x:=wH) Fn hm QG (Fn.binds fun _ _ _ _ _ _ us hl=>match us,hl with|[_,_],_=>rfl) fun cdv A outer s H E hr =>
  (zv (YT (i:=2) QG.nd rfl (Or.inl rfl) (zF zK rf_f_least_NoReader hr (by decide) rfl (za (zc (pv 0)) ze))))
abbrev UJ:Stmt:=top 75
theorem zar:FnScope ["count"] ["count"] (zr UJ):=yg
theorem zdF(Fn:Fun K "check_size" "check_size" UJ fa fd)(hm:mg "check_size"=some (.ref fa))(bi:Bi mg){t_MOST_ROOMS:Tok}(g_MOST_ROOMS:mg "MOST_ROOMS"=some (.int 12 t_MOST_ROOMS)):Callee P w K mg base 1 "check_size" Xk :=
 z8 (k:=0) (f:=zce) Fn hm zar (Fn.binds fun _ _ _ _ _ _ us hl=>match us,hl with|[_],_=>rfl) fun cdv A outer s H E hr =>
  (zk (zU (zA J1 J6 (zc (pv 0)) (uY rfl g_MOST_ROOMS) (zo _)) (zk yJ) zB))
theorem Zk(Fn:Fun K "check_size" "check_size" UJ fa fd)(hm:mg "check_size"=some (.ref fa))(bi:Bi mg){t_MOST_ROOMS:Tok}(g_MOST_ROOMS:mg "MOST_ROOMS"=some (.int 12 t_MOST_ROOMS)){C_TooBig:Addr}(EC_TooBig:ErrC K mg "TooBig" C_TooBig):Refuser P w K mg base 1 "check_size" C_TooBig yM :=
 zp (k:=0) (N:=["count"]) (ps:=["count"]) (x:=wI) Fn hm zar (Fn.binds fun _ _ _ _ _ _ us hl=>match us,hl with|[_],_=>rfl) fun cdv A outer s H E hr =>
  (zv (y2 (zA J1 J6 (zc (pv 0)) (uY rfl g_MOST_ROOMS) (zo _)) (zv (uz EC_TooBig rfl)) yC))
abbrev UK:Stmt:=top 76
theorem zcM:FnScope ["move","by"] ["move","by"] (zr UK):=yg
theorem zcN(Fn:Fun K "moved_on" "moved_on" UK fa fd)(hm:mg "moved_on"=some (.ref fa))(bi:Bi mg):Callee P w K mg base 1 "moved_on" Um :=
 z8 (k:=0) (f:=zad) Fn hm zcM (Fn.binds fun _ _ _ _ _ _ us hl=>match us,hl with|[_,_],_=>rfl) fun cdv A outer s H E hr =>
  (zi (zU (yq (z9 wM uc rfl bi.isinstance boot_isinstance (za (zc (pv 0)) (za (Z8 .str rfl bi.str boot_str) ze)))) (zk (zH (zc (pv 0)))) zB) (zk (zH (zl (by refine za ?_ ?_;(· exact (zj zm zn (zJ (zc (pv 0)) zf (fun _ _=>rfl)) (zc (pv 1))));refine za ?_ ?_;(· exact (zJ (zc (pv 0)) zf (fun _ _=>rfl)));exact ze)))))
abbrev UL:Stmt:=top 77
theorem zcO:FnScope ["move"] ["move"] (zr UL):=yg
theorem zcP(Fn:Fun K "mirrored" "mirrored" UL fa fd)(hm:mg "mirrored"=some (.ref fa))(bi:Bi mg):Callee P w K mg base 1 "mirrored" XT :=
 z8 (k:=0) (f:=zae) Fn hm zcO (Fn.binds fun _ _ _ _ _ _ us hl=>match us,hl with|[_],_=>rfl) fun cdv A outer s H E hr =>
  (zi (zU (yq (z9 wM uc rfl bi.isinstance boot_isinstance (za (zc (pv 0)) (za (Z8 .str rfl bi.str boot_str) ze)))) (zk (zH (zc (pv 0)))) zB) (zk (zH (zl (by refine za ?_ ?_;(· exact (zj zm zn (zJ (zc (pv 0)) zf (fun _ _=>rfl)) zf));refine za ?_ ?_;(· exact (wx (zJ (zc (pv 0)) zf (fun _ _=>rfl))));exact ze)))))
abbrev JM:Stmt:=top 78
theorem zas:FnScope ["room","walls_exchanged"] ["room"] (zr JM):=yg
theorem zdG(Fn:Fun K "mirrored_room" "mirrored_room" JM fa fd)(hm:mg "mirrored_room"=some (.ref fa))(bi:Bi mg)(c_Faf:Callee P w K mg base 1 "mirrored" XT):Callee P w K mg base 2 "mirrored_room" Jq :=
 z8 (k:=1) (f:=zcf) Fn hm zas (Fn.binds fun _ _ _ _ _ _ us hl=>match us,hl with|[_],_=>rfl) fun cdv A outer s H E hr =>
  (zi (zX (i:=1) zas.nd rfl (Or.inl rfl) (zj zm zn (zj zm zn (zl (za (zJ (zc (pv 0)) (wx zf) (fun _ _=>rfl)) ze)) (Xh (zc (pv 0)) (uK zf) (uK (wx zf)))) (zl (za (zJ (zc (pv 0)) zf (fun _ _=>rfl)) ze)))) (zk (zH (yO yv xA rfl bi.tuple boot_tuple (za (z0 (wE (N:=["move"]) (ms:=[none]) rfl (CompOk.of (by rfl)) (vF (vN (zc (pv 1)))) ⟨fun _ _ _ _ _=>⟨(yy (i:=0) (show (["move"]:List Str).Nodup by decide +kernel) rfl (Or.inl rfl)),wu,(zq c_Faf hr (by decide) rfl (za (zc (pv 0)) ze))⟩⟩ (wv (by decide)) (ww (by decide)))) ze)))))
abbrev XW:Stmt:=top 79
theorem uL:FnScope ["machine","letters","rooms","to_the_right"] ["machine"] (zr XW):=yg
theorem zcQ(Fn:Fun K "turned" "turned" XW fa fd)(hm:mg "turned"=some (.ref fa))(bi:Bi mg)(c_Fai:Callee P w K mg base 5 "checked" yr)(c_Fo:Callee P w K mg base 1 "check_size" Xk)(c_Faf:Callee P w K mg base 1 "mirrored" XT)(c_Fi:Callee P w K mg base 2 "mirrored_room" Jq):Callee P w K mg base 6 "turned" ui :=
 z8 (k:=5) (f:=zaf) Fn hm uL (Fn.binds fun _ _ _ _ _ _ us hl=>match us,hl with|[_],_=>rfl) fun cdv A outer s H E hr =>
  (zi (y1 (zq c_Fai hr (by decide) rfl (za (zc (pv 0)) ze))) (zi (zX (i:=1) uL.nd rfl (Or.inl rfl) (zJ (zc (pv 0)) zf (fun _ _=>rfl))) (zi (zX (i:=2) uL.nd rfl (Or.inl rfl) (zJ (zc (pv 0)) zf (fun _ _=>rfl))) (zi (y1 (zq c_Fo hr (by decide) rfl (za (zj zm zn (z9 z7 y0 rfl bi.len PySem.boot_len (za (zc (pv 2)) ze)) zf) ze))) (zi (zX (i:=3) uL.nd rfl (Or.inl rfl) (zj zm zn (zj yR yS (zl (za (zl (za zf (za zf ze))) ze)) (zj zm zn (zc (pv 1)) zf)) (zl (za (zq c_Faf hr (by decide) rfl (za (zJ (zJ (zc (pv 2)) zf (fun _ _=>rfl)) zf (fun _ _=>rfl)) ze)) ze)))) (zk (zH (zl (by refine za ?_ ?_;(· exact (zc (pv 1)));refine za ?_ ?_;(· exact (yO yv xA rfl bi.tuple boot_tuple (za (zj zm zn (z0 (z4 (za (zc (pv 3)) ze))) (z0 (wE (N:=["room"]) (ms:=[none]) rfl (CompOk.of (by rfl)) (vF (vN (zc (pv 2)))) ⟨fun _ _ _ _ _=>⟨(yy (i:=0) (show (["room"]:List Str).Nodup by decide +kernel) rfl (Or.inl rfl)),wu,(zq c_Fi hr (by decide) rfl (za (zc (pv 0)) ze))⟩⟩ (wv (by decide)) (ww (by decide))))) ze)));exact ze)))))))))
theorem Zw(Fn:Fun K "turned" "turned" XW fa fd)(hm:mg "turned"=some (.ref fa))(bi:Bi mg){C_NoMachine:Addr}(EC_NoMachine:ErrC K mg "NoMachine" C_NoMachine)(rf_f_checked_NoMachine:Refuser P w K mg base 5 "checked" C_NoMachine zC):Refuser P w K mg base 6 "turned" C_NoMachine yT :=
 zp (k:=5) (N:=["machine","letters","rooms","to_the_right"]) (ps:=["machine"]) (x:=wT) Fn hm uL (Fn.binds fun _ _ _ _ _ _ us hl=>match us,hl with|[_],_=>rfl) fun cdv A outer s H E hr =>
  (zv (xr (zF zK rf_f_checked_NoMachine hr (by decide) rfl (za (zc (pv 0)) ze))))
theorem Yn(Fn:Fun K "turned" "turned" XW fa fd)(hm:mg "turned"=some (.ref fa))(bi:Bi mg)(c_Fai:Callee P w K mg base 5 "checked" yr){C_TooBig:Addr}(EC_TooBig:ErrC K mg "TooBig" C_TooBig)(rf_f_check_size_TooBig:Refuser P w K mg base 1 "check_size" C_TooBig yM):Refuser P w K mg base 6 "turned" C_TooBig wB :=
 zp (k:=5) (N:=["machine","letters","rooms","to_the_right"]) (ps:=["machine"]) (x:=vM) Fn hm uL (Fn.binds fun _ _ _ _ _ _ us hl=>match us,hl with|[_],_=>rfl) fun cdv A outer s H E hr =>
  (zG (y1 (zq c_Fai hr (by decide) rfl (za (zc (pv 0)) ze))) (zG (zX (i:=1) uL.nd rfl (Or.inl rfl) (zJ (zc (pv 0)) zf (fun _ _=>rfl))) (zG (zX (i:=2) uL.nd rfl (Or.inl rfl) (zJ (zc (pv 0)) zf (fun _ _=>rfl))) (zv (xr (zF zK rf_f_check_size_TooBig hr (by decide) rfl (za (zj zm zn (z9 z7 y0 rfl bi.len PySem.boot_len (za (zc (pv 2)) ze)) zf) ze)))))))
abbrev JN:Stmt:=top 80
theorem XX:FnScope ["room","back","moves","column","move","way"] ["room","back"] (zr JN):=yg
theorem zdH(Fn:Fun K "with_yes_going_on" "with_yes_going_on" JN fa fd)(hm:mg "with_yes_going_on"=some (.ref fa))(bi:Bi mg):Callee P w K mg base 1 "with_yes_going_on" Js :=
 z8 (k:=0) (f:=zcg) Fn hm XX (Fn.binds fun _ _ _ _ _ _ us hl=>match us,hl with|[_,_],_=>rfl) fun cdv A outer s H E hr =>
  (zi (vA (i:=2) XX.nd rfl (Or.inl rfl) (z4 ze)) (zi (XC PassesOwn.never rfl (X4 rfl bi.enumerate (za (zc (pv 0)) ze)) (XB rfl (wD (yy (i:=3) XX.nd rfl (Or.inl rfl)) (wD (yy (i:=4) XX.nd rfl (Or.inl rfl)) Yr))) (zi (zX (i:=5) XX.nd rfl (Or.inl rfl) (QZ (zA (zw (Room.units hr)) zy (zc (pv 3)) zf (zo _)) zf (wx zf))) (zk (XE (i:=2) (h1:=y8 PySem.F.plainAttrs_list PySem.F.slot_list_append PySem.F.type_list_append uI (pv 2) (yf (QZ (zA (zw (Room.units hr)) zy (zc (pv 4)) yN (zo _)) (zl (za (zc (pv 1)) (za (zc (pv 5)) ze))) (zc (pv 4))) yx)))))) (zk (zH (yO yv xA rfl bi.tuple boot_tuple (za (zc (pv 2)) ze))))))
abbrev Wj:Stmt:=top 81
theorem vP:FnScope ["one","other","letters","back","ahead","behind","to_the_left"] ["one","other"] (zr Wj):=yg
theorem zdI(Fn:Fun K "one_after" "one_after" Wj fa fd)(hm:mg "one_after"=some (.ref fa))(bi:Bi mg)(c_Fai:Callee P w K mg base 5 "checked" yr)(c_Fo:Callee P w K mg base 1 "check_size" Xk)(c_Fb:Callee P w K mg base 1 "with_yes_going_on" Js)(c_Fag:Callee P w K mg base 1 "moved_on" Um):Callee P w K mg base 6 "one_after" YC :=
 z8 (k:=5) (f:=zch) Fn hm vP (Fn.binds fun _ _ _ _ _ _ us hl=>match us,hl with|[_,_],_=>rfl) fun cdv A outer s H E hr =>
  (zi (y1 (zq c_Fai hr (by decide) rfl (za (zc (pv 0)) ze))) (zi (y1 (zq c_Fai hr (by decide) rfl (za (zc (pv 1)) ze))) (zi (zX (i:=2) vP.nd rfl (Or.inl rfl) (zJ (zc (pv 0)) zf (fun _ _=>rfl))) (zi (zU (zA (xX (Room.units hr)) zy (zc (pv 2)) (zJ (zc (pv 1)) zf (fun _ _=>rfl)) (zo _)) (zk yJ) zB) (zi (zX (i:=3) vP.nd rfl (Or.inr rfl) (z9 z7 y0 rfl bi.len PySem.boot_len (za (zJ (zc (pv 0)) zf (fun _ _=>rfl)) ze))) (zi (y1 (zq c_Fo hr (by decide) rfl (za (zj zm zn (zj zm zn (zc (pv 3)) zf) (z9 z7 y0 rfl bi.len PySem.boot_len (za (zJ (zc (pv 1)) zf (fun _ _=>rfl)) ze))) ze))) (zi (Qc (i:=4) (N:=["room","back"]) (ms:=[none,some 3]) rfl (CompOk.of (by rfl)) (vF (vN (zJ (zc (pv 0)) zf (fun _ _=>rfl)))) ⟨fun _ _ _ _ _=>⟨(yy (i:=0) (show (["room","back"]:List Str).Nodup by decide +kernel) rfl (Or.inl rfl)),wu,(zq c_Fb hr (by decide) rfl (za (zc (pv 0)) (za (zc (pv 1)) ze)))⟩⟩ (wv (by decide)) (ww (by decide)) vP.nd rfl (Or.inl rfl)) (zi (Qc (i:=5) (N:=["room","back"]) (ms:=[none,some 3]) rfl (CompOk.of (by rfl)) (vF (vN (zJ (zc (pv 1)) zf (fun _ _=>rfl)))) ⟨fun _ _ _ _ _=>⟨(yy (i:=0) (show (["room","back"]:List Str).Nodup by decide +kernel) rfl (Or.inl rfl)),wu,(yO yv xA rfl bi.tuple boot_tuple (za (z0 (wE (N:=["move","back"]) (ms:=[none,some 1]) rfl (CompOk.of (by rfl)) (vF (vN (zc (pv 0)))) ⟨fun _ _ _ _ _=>⟨(yy (i:=0) (show (["move","back"]:List Str).Nodup by decide +kernel) rfl (Or.inl rfl)),wu,(zq c_Fag hr (by decide) rfl (by refine za ?_ ?_;(· exact (zc (pv 0)));refine za ?_ ?_;(· exact (zj zm zn (zc (pv 1)) zf));exact ze))⟩⟩ (wv (by decide)) (ww (by decide)))) ze))⟩⟩ (wv (by decide)) (ww (by decide)) vP.nd rfl (Or.inl rfl)) (zi (zX (i:=6) vP.nd rfl (Or.inl rfl) (zj zm zn (zl (za (zJ (zJ (zc (pv 5)) zf (fun _ _=>rfl)) zf (fun _ _=>rfl)) ze)) (zj yR yS (zl (za (zl (by refine za ?_ ?_;(· exact (zc (pv 3)));refine za ?_ ?_;(· exact (wx zf));exact ze)) ze)) (zj zm zn (zc (pv 2)) zf)))) (zk (zH (zl (by refine za ?_ ?_;(· exact (zc (pv 2)));refine za ?_ ?_;(· exact (yO yv xA rfl bi.tuple boot_tuple (za (zj zm zn (zj zm zn (zc (pv 4)) (z0 (z4 (za (zc (pv 6)) ze)))) (zc (pv 5))) ze)));exact ze)))))))))))))
theorem uV(Fn:Fun K "one_after" "one_after" Wj fa fd)(hm:mg "one_after"=some (.ref fa))(bi:Bi mg)(c_Fai:Callee P w K mg base 5 "checked" yr){C_NoMachine:Addr}(EC_NoMachine:ErrC K mg "NoMachine" C_NoMachine)(rf_f_checked_NoMachine:Refuser P w K mg base 5 "checked" C_NoMachine zC):Refuser P w K mg base 6 "one_after" C_NoMachine yi :=
 zp (k:=5) (N:=["one","other","letters","back","ahead","behind","to_the_left"]) (ps:=["one","other"]) (x:=xo) Fn hm vP (Fn.binds fun _ _ _ _ _ _ us hl=>match us,hl with|[_,_],_=>rfl) fun cdv A outer s H E hr =>
  (yw (xr (zF zK rf_f_checked_NoMachine hr (by decide) rfl (za (zc (pv 0)) ze))) (y1 (zq c_Fai hr (by decide) rfl (za (zc (pv 0)) ze))) (zv (xr (zF zK rf_f_checked_NoMachine hr (by decide) rfl (za (zc (pv 1)) ze)))))
theorem Zx(Fn:Fun K "one_after" "one_after" Wj fa fd)(hm:mg "one_after"=some (.ref fa))(bi:Bi mg)(c_Fai:Callee P w K mg base 5 "checked" yr){C_Unlike:Addr}(EC_Unlike:ErrC K mg "Unlike" C_Unlike):Refuser P w K mg base 6 "one_after" C_Unlike yU :=
 zp (k:=5) (N:=["one","other","letters","back","ahead","behind","to_the_left"]) (ps:=["one","other"]) (x:=wU) Fn hm vP (Fn.binds fun _ _ _ _ _ _ us hl=>match us,hl with|[_,_],_=>rfl) fun cdv A outer s H E hr =>
  (zG (y1 (zq c_Fai hr (by decide) rfl (za (zc (pv 0)) ze))) (zG (y1 (zq c_Fai hr (by decide) rfl (za (zc (pv 1)) ze))) (zG (zX (i:=2) vP.nd rfl (Or.inl rfl) (zJ (zc (pv 0)) zf (fun _ _=>rfl))) (zv (y2 (zA (xX (Room.units hr)) zy (zc (pv 2)) (zJ (zc (pv 1)) zf (fun _ _=>rfl)) (zo _)) (zv (uz EC_Unlike rfl)) yC)))))
theorem Zy(Fn:Fun K "one_after" "one_after" Wj fa fd)(hm:mg "one_after"=some (.ref fa))(bi:Bi mg)(c_Fai:Callee P w K mg base 5 "checked" yr){C_TooBig:Addr}(EC_TooBig:ErrC K mg "TooBig" C_TooBig)(rf_f_check_size_TooBig:Refuser P w K mg base 1 "check_size" C_TooBig yM):Refuser P w K mg base 6 "one_after" C_TooBig x6 :=
 zp (k:=5) (N:=["one","other","letters","back","ahead","behind","to_the_left"]) (ps:=["one","other"]) (x:=wV) Fn hm vP (Fn.binds fun _ _ _ _ _ _ us hl=>match us,hl with|[_,_],_=>rfl) fun cdv A outer s H E hr =>
  (zG (y1 (zq c_Fai hr (by decide) rfl (za (zc (pv 0)) ze))) (zG (y1 (zq c_Fai hr (by decide) rfl (za (zc (pv 1)) ze))) (zG (zX (i:=2) vP.nd rfl (Or.inl rfl) (zJ (zc (pv 0)) zf (fun _ _=>rfl))) (zG (zU (zA (xX (Room.units hr)) zy (zc (pv 2)) (zJ (zc (pv 1)) zf (fun _ _=>rfl)) (zo _)) (zk yJ) zB) (zG (zX (i:=3) vP.nd rfl (Or.inr rfl) (z9 z7 y0 rfl bi.len PySem.boot_len (za (zJ (zc (pv 0)) zf (fun _ _=>rfl)) ze))) (zv (xr (zF zK rf_f_check_size_TooBig hr (by decide) rfl (za (zj zm zn (zj zm zn (zc (pv 3)) zf) (z9 z7 y0 rfl bi.len PySem.boot_len (za (zJ (zc (pv 1)) zf (fun _ _=>rfl)) ze))) ze)))))))))
abbrev UM:Stmt:=top 82
theorem Yf:FnScope ["reader","marks","rooms","stand","row","end"] ["reader"] (zr UM):=yg
theorem zdJ(Fn:Fun K "machine_of" "machine_of" UM fa fd)(hm:mg "machine_of"=some (.ref fa))(bi:Bi mg)(c_Ff:Callee P w K mg base 4 "checked_reader" xD)(c_Fo:Callee P w K mg base 1 "check_size" Xk)(c_Fae:Callee P w K mg base 1 "marks_of" Ul):Callee P w K mg base 5 "machine_of" W7 :=
 z8 (k:=4) (f:=zci) Fn hm Yf (Fn.binds fun _ _ _ _ _ _ us hl=>match us,hl with|[_],_=>rfl) fun cdv A outer s H E hr =>
  (zi (y1 (zq c_Ff hr (by decide) rfl (za (zc (pv 0)) ze))) (zi (y1 (zq c_Fo hr (by decide) rfl (za (z9 z7 y0 rfl bi.len PySem.boot_len (za (zJ (zc (pv 0)) zf (fun _ _=>rfl)) ze)) ze))) (zi (zX (i:=1) Yf.nd rfl (Or.inl rfl) (zq c_Fae hr (by decide) rfl (za (zc (pv 0)) ze))) (zi (vA (i:=2) Yf.nd rfl (Or.inl rfl) (z4 ze)) (zi (XC PassesOwn.never rfl (X4 rfl bi.enumerate (za (zJ (zc (pv 0)) zf (fun _ _=>rfl)) ze)) (XB rfl (wD (yy (i:=3) Yf.nd rfl (Or.inl rfl)) (wD (yy (i:=4) Yf.nd rfl (Or.inl rfl)) Yr))) (zi (zX (i:=5) Yf.nd rfl (Or.inl rfl) (QZ (yq (zJ (zc (pv 1)) (zc (pv 3)) (fun _ _=>rfl))) yN yN)) (zk (XE (i:=2) (h1:=y8 PySem.F.plainAttrs_list PySem.F.slot_list_append PySem.F.type_list_append uI (pv 2) (yf (yO yv xA rfl bi.tuple boot_tuple (za (zj zm zn (zj zm zn (z0 (z4 (za (zl (za (zc (pv 3)) (za zf ze))) ze))) (z0 (wE (N:=["goal"]) (ms:=[none]) rfl (CompOk.of (by rfl)) (vF (vN (zc (pv 4)))) ⟨fun _ _ _ _ _=>⟨(yy (i:=0) (show (["goal"]:List Str).Nodup by decide +kernel) rfl (Or.inl rfl)),wu,(zl (za (zc (pv 0)) (za zf ze)))⟩⟩ (wv (by decide)) (ww (by decide))))) (z0 (z4 (za (zc (pv 5)) ze)))) ze)) yx)))))) (zk (zH (zl (by refine za ?_ ?_;(· exact (zJ (zc (pv 0)) zf (fun _ _=>rfl)));refine za ?_ ?_;(· exact (yO yv xA rfl bi.tuple boot_tuple (za (zc (pv 2)) ze)));exact ze)))))))))
theorem uW(Fn:Fun K "machine_of" "machine_of" UM fa fd)(hm:mg "machine_of"=some (.ref fa))(bi:Bi mg){C_NoReader:Addr}(EC_NoReader:ErrC K mg "NoReader" C_NoReader)(rf_f_checked_reader_NoReader:Refuser P w K mg base 4 "checked_reader" C_NoReader zx):Refuser P w K mg base 5 "machine_of" C_NoReader xp :=
 zp (k:=4) (N:=["reader","marks","rooms","stand","row","end"]) (ps:=["reader"]) (x:=wl) Fn hm Yf (Fn.binds fun _ _ _ _ _ _ us hl=>match us,hl with|[_],_=>rfl) fun cdv A outer s H E hr =>
  (zv (xr (zF zK rf_f_checked_reader_NoReader hr (by decide) rfl (za (zc (pv 0)) ze))))
abbrev UN:Stmt:=top 85
theorem zcR:FnScope ["machine","lines","room"] ["machine"] (zr UN):=yg
theorem ZW(Fn:Fun K "shown" "shown" UN fa fd)(hm:mg "shown"=some (.ref fa))(bi:Bi mg){C_NoMachine:Addr}(EC_NoMachine:ErrC K mg "NoMachine" C_NoMachine)(rf_f_checked_NoMachine:Refuser P w K mg base 5 "checked" C_NoMachine zC):Refuser P w K mg base 6 "shown" C_NoMachine wf :=
 zp (k:=5) (N:=["machine","lines","room"]) (ps:=["machine"]) (x:=ve) Fn hm zcR (Fn.binds fun _ _ _ _ _ _ us hl=>match us,hl with|[_],_=>rfl) fun cdv A outer s H E hr =>
  (zv (xr (zF zK rf_f_checked_NoMachine hr (by decide) rfl (za (zc (pv 0)) ze))))
abbrev JO:Stmt:=top 87
theorem zdK:FnScope ["_law_script","_law_k"] ["_law_script","_law_k"] (zr JO):=yg
theorem zdL(Fn:Fun K "_law_cell_at" "_law_cell_at" JO fa fd)(hm:mg "_law_cell_at"=some (.ref fa))(bi:Bi mg):Callee P w K mg base 1 "_law_cell_at" Uo :=
 z8 (k:=0) (f:=W8) Fn hm zdK (Fn.binds fun _ _ _ _ _ _ us hl=>match us,hl with|[_,_],_=>rfl) fun cdv A outer s H E hr =>
  (zi (zU (zA VV V7 (zc (pv 1)) (z9 z7 y0 rfl bi.len PySem.boot_len (za (zc (pv 0)) ze)) (zo _)) (zk (zH (zJ (zc (pv 0)) (zc (pv 1)) (fun _ _=>rfl)))) zB) (zi (zU (zA (zw (Room.units hr)) zy (zc (pv 0)) (z0 (z4 ze)) (zo _)) (zk (zH zf)) zB) (zk (zH (zj zm zn (zj v1 v9 (zJ (zc (pv 0)) (zj zQ zR (zc (pv 1)) (z9 z7 y0 rfl bi.len PySem.boot_len (za (zc (pv 0)) ze))) (fun _ _=>rfl)) zf) (zc (pv 1)))))))
abbrev JP:Stmt:=top 88
theorem zat:FnScope ["_law_script","_law_k","_law_many","_law_drawn"] ["_law_script","_law_k","_law_many"] (zr JP):=yg
theorem zdM(Fn:Fun K "_law_mixed" "_law_mixed" JP fa fd)(hm:mg "_law_mixed"=some (.ref fa))(bi:Bi mg)(c_Fl:Callee P w K mg base 1 "_law_cell_at" Uo):Callee P w K mg base 2 "_law_mixed" wm :=
 z8 (k:=1) (f:=Jt) Fn hm zat (Fn.binds fun _ _ _ _ _ _ us hl=>match us,hl with|[_,_,_],_=>rfl) fun cdv A outer s H E hr =>
  (zi (zX (i:=3) zat.nd rfl (Or.inl rfl) (zj zQ zR (zj v1 v9 (zj zm zn (zj zm zn (zq c_Fl hr (by decide) rfl (za (zc (pv 0)) (za (zc (pv 1)) ze))) (zj v1 v9 zf (zc (pv 1)))) zf) zf) zf)) (zk (zH (zj zQ zR (zj zQ zR (zj zm zn (zj zm zn (zj v1 v9 (zc (pv 3)) (zc (pv 3))) (zj v1 v9 zf (zc (pv 3)))) (zc (pv 1))) zf) (zc (pv 2))))))
abbrev UO:Stmt:=top 89
theorem QH:FnScope ["_law_script","_law_at","_law_many","_law_ways","_law_cell"] ["_law_script","_law_at","_law_many","_law_ways"] (zr UO):=yg
theorem zcS(Fn:Fun K "_law_move" "_law_move" UO fa fd)(hm:mg "_law_move"=some (.ref fa))(bi:Bi mg)(c_Fx:Callee P w K mg base 2 "_law_mixed" wm):Callee P w K mg base 3 "_law_move" YW :=
 z8 (k:=2) (f:=WH) Fn hm QH (Fn.binds fun _ _ _ _ _ _ us hl=>match us,hl with|[_,_,_,_],_=>rfl) fun cdv A outer s H E hr =>
  (zi (zX (i:=4) QH.nd rfl (Or.inl rfl) (zq c_Fx hr (by decide) rfl (by refine za ?_ ?_;(· exact (zc (pv 0)));refine za ?_ ?_;(· exact (zc (pv 1)));refine za ?_ ?_;(· exact (zj v1 v9 zf (zc (pv 2))));exact ze))) (zi (zU (zA VV V7 (zj zQ zR (zc (pv 4)) zf) zf (zo _)) (zk (zH (zJ (z0 (z4 (za yN (za yN ze)))) (zj zQ zR (zc (pv 4)) zf) (fun _ _=>rfl)))) zB) (zk (zH (zl (by refine za ?_ ?_;(· exact (zj vy ua (zc (pv 4)) zf));refine za ?_ ?_;(· exact (zJ (zc (pv 3)) (zj zQ zR (zj vy ua (zc (pv 4)) zf) (z9 z7 y0 rfl bi.len PySem.boot_len (za (zc (pv 3)) ze))) (fun _ _=>rfl)));exact ze))))))
abbrev JQ:Stmt:=top 90
theorem Y2:FnScope ["_law_script","_law_at","_law_letters","_law_most","_law_many","_law_rooms","_law_k","_law_place","_law_moves"] ["_law_script","_law_at","_law_letters","_law_most"] (zr JQ):=yg
theorem zdN(Fn:Fun K "_law_machine" "_law_machine" JQ fa fd)(hm:mg "_law_machine"=some (.ref fa))(bi:Bi mg)(c_Fx:Callee P w K mg base 2 "_law_mixed" wm)(c_Fad:Callee P w K mg base 3 "_law_move" YW):Callee P w K mg base 4 "_law_machine" W9 :=
 z8 (k:=3) (f:=Ju) Fn hm Y2 (Fn.binds fun _ _ _ _ _ _ us hl=>match us,hl with|[_,_,_,_],_=>rfl) fun cdv A outer s H E hr =>
  (zi (zX (i:=4) Y2.nd rfl (Or.inr rfl) (zj zm zn zf (zq c_Fx hr (by decide) rfl (za (zc (pv 0)) (za (zc (pv 1)) (za (zc (pv 3)) ze)))))) (zi (vA (i:=5) Y2.nd rfl (Or.inl rfl) (z4 ze)) (zi (XC PassesOwn.never rfl (uw rfl bi.range (za (zc (pv 4)) ze)) (yy (i:=6) Y2.nd rfl (Or.inl rfl)) (zi (zX (i:=7) Y2.nd rfl (Or.inr rfl) (zj zm zn (zj zm zn (zc (pv 1)) zf) (zj v1 v9 zf (zc (pv 6))))) (zi (vA (i:=8) Y2.nd rfl (Or.inl rfl) (z4 (za (zq c_Fad hr (by decide) rfl (by refine za ?_ ?_;(· exact (zc (pv 0)));refine za ?_ ?_;(· exact (zc (pv 7)));refine za ?_ ?_;(· exact (zc (pv 4)));refine za ?_ ?_;(· exact (z0 (z4 (za zf ze))));exact ze)) ze))) (zi (Zo (i:=8) (h1:=y8 PySem.F.plainAttrs_list PySem.F.slot_list_extend PySem.F.type_list_extend wK (pv 8) (yf (z0 (wE (N:=["_law_j","_law_script","_law_place","_law_many"]) (ms:=[none,some 0,some 7,some 4]) rfl (CompOk.of (by rfl)) (vF (uw rfl bi.range (za (zc (pv 2)) ze))) ⟨fun _ _ _ _ _=>⟨(yy (i:=0) (show (["_law_j","_law_script","_law_place","_law_many"]:List Str).Nodup by decide +kernel) rfl (Or.inl rfl)),wu,(zq c_Fad hr (by decide) rfl (by refine za ?_ ?_;(· exact (zc (pv 1)));refine za ?_ ?_;(· exact (zj zm zn (zj zm zn (zc (pv 2)) zf) (zc (pv 0))));refine za ?_ ?_;(· exact (zc (pv 3)));refine za ?_ ?_;(· exact (z0 (z4 (by refine za ?_ ?_;(· exact zf);refine za ?_ ?_;(· exact (wx zf));exact ze))));exact ze))⟩⟩ (wv (by decide)) (ww (by decide)))) yx))) (zk (XE (i:=5) (h1:=y8 PySem.F.plainAttrs_list PySem.F.slot_list_append PySem.F.type_list_append uI (pv 5) (yf (yO yv xA rfl bi.tuple boot_tuple (za (zj zm zn (zc (pv 8)) (z0 (z4 (za (zq c_Fad hr (by decide) rfl (by refine za ?_ ?_;(· exact (zc (pv 0)));refine za ?_ ?_;(· exact (zj zm zn (zc (pv 7)) zf));refine za ?_ ?_;(· exact (zc (pv 4)));refine za ?_ ?_;(· exact (z0 (z4 (za (wx zf) ze))));exact ze)) ze)))) ze)) yx)))))))) (zk (zH (zl (by refine za ?_ ?_;(· exact (zc (pv 2)));refine za ?_ ?_;(· exact (yO yv xA rfl bi.tuple boot_tuple (za (zc (pv 5)) ze)));exact ze)))))))
abbrev JR:Stmt:=top 91
theorem XY:FnScope ["_law_script","_law_at","_law_letters","_law_most","_law_many","_law_rows","_law_good","_law_k"] ["_law_script","_law_at","_law_letters","_law_most"] (zr JR):=yg
theorem zdO(Fn:Fun K "_law_reader" "_law_reader" JR fa fd)(hm:mg "_law_reader"=some (.ref fa))(bi:Bi mg)(c_Fx:Callee P w K mg base 2 "_law_mixed" wm):Callee P w K mg base 3 "_law_reader" Va :=
 z8 (k:=2) (f:=Jv) Fn hm XY (Fn.binds fun _ _ _ _ _ _ us hl=>match us,hl with|[_,_,_,_],_=>rfl) fun cdv A outer s H E hr =>
  (zi (zX (i:=4) XY.nd rfl (Or.inr rfl) (zj zm zn zf (zq c_Fx hr (by decide) rfl (za (zc (pv 0)) (za (zc (pv 1)) (za (zc (pv 3)) ze)))))) (zi (vA (i:=5) XY.nd rfl (Or.inl rfl) (z4 ze)) (zi (vA (i:=6) XY.nd rfl (Or.inl rfl) (z4 ze)) (zi (XC PassesOwn.never rfl (uw rfl bi.range (za (zc (pv 4)) ze)) (yy (i:=7) XY.nd rfl (Or.inr rfl)) (zi (XE (i:=5) (h1:=y8 PySem.F.plainAttrs_list PySem.F.slot_list_append PySem.F.type_list_append uI (pv 5) (yf (yO yv xA rfl bi.tuple boot_tuple (za (z0 (wE (N:=["_law_j","_law_script","_law_at","_law_k","_law_many"]) (ms:=[none,some 0,some 1,some 7,some 4]) rfl (CompOk.of (by rfl)) (vF (uw rfl bi.range (za (zc (pv 2)) ze))) ⟨fun _ _ _ _ _=>⟨(yy (i:=0) (show (["_law_j","_law_script","_law_at","_law_k","_law_many"]:List Str).Nodup by decide +kernel) rfl (Or.inl rfl)),wu,(zq c_Fx hr (by decide) rfl (by refine za ?_ ?_;(· exact (zc (pv 1)));refine za ?_ ?_;(· exact (zj zm zn (zj zm zn (zj zm zn (zc (pv 2)) zf) (zj v1 v9 zf (zc (pv 3)))) (zc (pv 0))));refine za ?_ ?_;(· exact (zc (pv 4)));exact ze))⟩⟩ (wv (by decide)) (ww (by decide)))) ze)) yx))) (zk (zU (zA (zw (Room.units hr)) zy (zq c_Fx hr (by decide) rfl (by refine za ?_ ?_;(· exact (zc (pv 0)));refine za ?_ ?_;(· exact (zj zm zn (zj zm zn (zc (pv 1)) zf) (zj v1 v9 zf (zc (pv 7)))));refine za ?_ ?_;(· exact zf);exact ze)) zf (zo _)) (zk (XE (i:=6) (h1:=y8 PySem.F.plainAttrs_list PySem.F.slot_list_append PySem.F.type_list_append uI (pv 6) (yf (zc (pv 7)) yx)))) zB)))) (zk (zH (zl (by refine za ?_ ?_;(· exact (zc (pv 2)));refine za ?_ ?_;(· exact (yO yv xA rfl bi.tuple boot_tuple (za (zc (pv 5)) ze)));refine za ?_ ?_;(· exact (yO yv xA rfl bi.tuple boot_tuple (za (zc (pv 6)) ze)));exact ze))))))))
abbrev JS:Stmt:=top 92
theorem zdP:FnScope ["_law_what","_law_bad","_law_good"] ["_law_what","_law_bad","_law_good"] (zr JS):=yg
theorem vW(Fn:Fun K "_law_with_machine" "_law_with_machine" JS fa fd)(hm:mg "_law_with_machine"=some (.ref fa))(bi:Bi mg)(c_Fy:Callee P w K mg base 6 "one_after" YC)(c_Faq:Callee P w K mg base 6 "turned" ui){C_NoMachine:Addr}(EC_NoMachine:ErrC K mg "NoMachine" C_NoMachine)(rf_f_run_NoMachine:Refuser P w K mg base 6 "run" C_NoMachine wy)(rf_f_doing_NoMachine:Refuser P w K mg base 6 "doing" C_NoMachine we)(rf_f_doings_NoMachine:Refuser P w K mg base 6 "doings" C_NoMachine x5)(rf_f_reader_of_NoMachine:Refuser P w K mg base 6 "reader_of" C_NoMachine yG)(rf_f_turned_NoMachine:Refuser P w K mg base 6 "turned" C_NoMachine yT)(rf_f_one_after_NoMachine:Refuser P w K mg base 6 "one_after" C_NoMachine yi)(rf_f_shown_NoMachine:Refuser P w K mg base 6 "shown" C_NoMachine wf):Refuser P w K mg base 7 "_law_with_machine" C_NoMachine yL :=
 zp (k:=6) (N:=["_law_what","_law_bad","_law_good"]) (ps:=["_law_what","_law_bad","_law_good"]) (x:=xk) Fn hm zdP (Fn.binds fun _ _ _ _ _ _ us hl=>match us,hl with|[_,_,_],_=>rfl) fun cdv A outer s H E hr =>
  (yw (y2 (zA (zw (Room.units hr)) zy (zc (pv 0)) zf (zo _)) (zv (ye (zF zK rf_f_run_NoMachine hr (by decide) rfl (za (zc (pv 1)) (za xO ze))))) yC) (zU (zA (zw (Room.units hr)) zy (zc (pv 0)) zf (zo _)) (zk yJ) zB) (yw (y2 (zA (zw (Room.units hr)) zy (zc (pv 0)) zf (zo _)) (zv (ye (zF zK rf_f_doing_NoMachine hr (by decide) rfl (za (zc (pv 1)) (za xO ze))))) yC) (zU (zA (zw (Room.units hr)) zy (zc (pv 0)) zf (zo _)) (zk yJ) zB) (yw (y2 (zA (zw (Room.units hr)) zy (zc (pv 0)) zf (zo _)) (zv (ye (zF zK rf_f_doings_NoMachine hr (by decide) rfl (za (zc (pv 1)) ze)))) yC) (zU (zA (zw (Room.units hr)) zy (zc (pv 0)) zf (zo _)) (zk yJ) zB) (yw (y2 (zA (zw (Room.units hr)) zy (zc (pv 0)) zf (zo _)) (zv (ye (zF zK rf_f_reader_of_NoMachine hr (by decide) rfl (za (zc (pv 1)) (za xO ze))))) yC) (zU (zA (zw (Room.units hr)) zy (zc (pv 0)) zf (zo _)) (zk yJ) zB) (yw (y2 (zA (zw (Room.units hr)) zy (zc (pv 0)) zf (zo _)) (zv (ye (zF zK rf_f_turned_NoMachine hr (by decide) rfl (za (zc (pv 1)) ze)))) yC) (zU (zA (zw (Room.units hr)) zy (zc (pv 0)) zf (zo _)) (zk (zH (zq c_Faq hr (by decide) rfl (za (zc (pv 1)) ze)))) zB) (yw (y2 (zA (zw (Room.units hr)) zy (zc (pv 0)) zf (zo _)) (zv (ye (zF zK rf_f_one_after_NoMachine hr (by decide) rfl (za (zc (pv 1)) (za (zc (pv 2)) ze))))) yC) (zU (zA (zw (Room.units hr)) zy (zc (pv 0)) zf (zo _)) (zk (zH (zq c_Fy hr (by decide) rfl (za (zc (pv 1)) (za (zc (pv 2)) ze))))) zB) (yw (y2 (zA (zw (Room.units hr)) zy (zc (pv 0)) zf (zo _)) (zv (ye (zF zK rf_f_one_after_NoMachine hr (by decide) rfl (za (zc (pv 2)) (za (zc (pv 1)) ze))))) yC) (zU (zA (zw (Room.units hr)) zy (zc (pv 0)) zf (zo _)) (zk (zH (zq c_Fy hr (by decide) rfl (za (zc (pv 2)) (za (zc (pv 1)) ze))))) zB) (zv (ye (zF zK rf_f_shown_NoMachine hr (by decide) rfl (za (zc (pv 1)) ze)))))))))))
abbrev JT:Stmt:=top 93
theorem UP:FnScope ["_law_what","_law_bad","_law_good","_law_one","_law_other"] ["_law_what","_law_bad","_law_good"] (zr JT):=yg
theorem um(Fn:Fun K "_law_with_reader" "_law_with_reader" JT fa fd)(hm:mg "_law_with_reader"=some (.ref fa))(bi:Bi mg)(c_Fs:Callee P w K mg base 5 "machine_of" W7)(c_Ff:Callee P w K mg base 4 "checked_reader" xD){C_NoReader:Addr}(EC_NoReader:ErrC K mg "NoReader" C_NoReader)(rf_f_checked_reader_NoReader:Refuser P w K mg base 4 "checked_reader" C_NoReader zx)(rf_f_takes_NoReader:Refuser P w K mg base 5 "takes" C_NoReader wq)(rf_f_least_NoReader:Refuser P w K mg base 5 "least" C_NoReader yF)(rf_f_contrary_NoReader:Refuser P w K mg base 5 "contrary" C_NoReader xS)(rf_f_first_word_NoReader:Refuser P w K mg base 6 "first_word" C_NoReader xn)(rf_f_how_many_NoReader:Refuser P w K mg base 6 "how_many" C_NoReader xU)(rf_f_machine_of_NoReader:Refuser P w K mg base 5 "machine_of" C_NoReader xp)(rf_f_both_NoReader:Refuser P w K mg base 7 "both" C_NoReader xY)(rf_f_either_NoReader:Refuser P w K mg base 7 "either" C_NoReader xt)(rf_f_less_NoReader:Refuser P w K mg base 7 "less" C_NoReader xZ)(rf_f_alike_NoReader:Refuser P w K mg base 7 "alike" C_NoReader xM)(rf_f_within_NoReader:Refuser P w K mg base 7 "within" C_NoReader xu):Refuser P w K mg base 8 "_law_with_reader" C_NoReader yV :=
 zp (k:=7) (N:=["_law_what","_law_bad","_law_good","_law_one","_law_other"]) (ps:=["_law_what","_law_bad","_law_good"]) (x:=yE) Fn hm UP (Fn.binds fun _ _ _ _ _ _ us hl=>match us,hl with|[_,_,_],_=>rfl) fun cdv A outer s H E hr =>
  (yw (y2 (zA (zw (Room.units hr)) zy (zc (pv 0)) zf (zo _)) (zv (ye (zF zK rf_f_checked_reader_NoReader hr (by decide) rfl (za (zc (pv 1)) ze)))) yC) (zU (zA (zw (Room.units hr)) zy (zc (pv 0)) zf (zo _)) (zk (zH (zq c_Ff hr (by decide) rfl (za (zc (pv 1)) ze)))) zB) (yw (y2 (zA (zw (Room.units hr)) zy (zc (pv 0)) zf (zo _)) (zv (ye (zF zK rf_f_takes_NoReader hr (by decide) rfl (za (zc (pv 1)) (za xO ze))))) yC) (zU (zA (zw (Room.units hr)) zy (zc (pv 0)) zf (zo _)) (zk yJ) zB) (yw (y2 (zA (zw (Room.units hr)) zy (zc (pv 0)) zf (zo _)) (zv (ye (zF zK rf_f_least_NoReader hr (by decide) rfl (za (zc (pv 1)) ze)))) yC) (zU (zA (zw (Room.units hr)) zy (zc (pv 0)) zf (zo _)) (zk yJ) zB) (yw (y2 (zA (zw (Room.units hr)) zy (zc (pv 0)) zf (zo _)) (zv (ye (zF zK rf_f_contrary_NoReader hr (by decide) rfl (za (zc (pv 1)) ze)))) yC) (zU (zA (zw (Room.units hr)) zy (zc (pv 0)) zf (zo _)) (zk yJ) zB) (yw (y2 (zA (zw (Room.units hr)) zy (zc (pv 0)) zf (zo _)) (zv (ye (zF zK rf_f_first_word_NoReader hr (by decide) rfl (za (zc (pv 1)) ze)))) yC) (zU (zA (zw (Room.units hr)) zy (zc (pv 0)) zf (zo _)) (zk yJ) zB) (yw (y2 (zA (zw (Room.units hr)) zy (zc (pv 0)) zf (zo _)) (zv (ye (zF zK rf_f_how_many_NoReader hr (by decide) rfl (za (zc (pv 1)) (za zf ze))))) yC) (zU (zA (zw (Room.units hr)) zy (zc (pv 0)) zf (zo _)) (zk yJ) zB) (yw (y2 (zA (zw (Room.units hr)) zy (zc (pv 0)) zf (zo _)) (zv (ye (zF zK rf_f_machine_of_NoReader hr (by decide) rfl (za (zc (pv 1)) ze)))) yC) (zU (zA (zw (Room.units hr)) zy (zc (pv 0)) zf (zo _)) (zk (zH (zq c_Fs hr (by decide) rfl (za (zc (pv 1)) ze)))) zB) (zG (zX (i:=3) UP.nd rfl (Or.inl rfl) (zJ (z0 (z4 (za (zc (pv 1)) (za (zc (pv 2)) ze)))) (zj zQ zR (zc (pv 0)) zf) (fun _ _=>rfl))) (zG (zX (i:=4) UP.nd rfl (Or.inl rfl) (zJ (z0 (z4 (za (zc (pv 2)) (za (zc (pv 1)) ze)))) (zj zQ zR (zc (pv 0)) zf) (fun _ _=>rfl))) (zv (ye (VQ (k:=7) zK (y4 rf_f_both_NoReader (by decide)) (y4 rf_f_either_NoReader (by decide)) (y4 rf_f_less_NoReader (by decide)) (y4 rf_f_alike_NoReader (by decide)) (y4 rf_f_within_NoReader (by decide)) hr (by decide) rfl rfl rfl rfl rfl (zj zQ zR (zj vy ua (zc (pv 0)) zf) zf) (fun _ _=>rfl) (za (zc (pv 3)) (za (zc (pv 4)) ze))))))))))))))
abbrev JU:Stmt:=top 94
theorem zdQ:FnScope ["_law_what","_law_machine_here","_law_reader_here","_law_bad"] ["_law_what","_law_machine_here","_law_reader_here","_law_bad"] (zr JU):=yg
theorem uO(Fn:Fun K "_law_with_word" "_law_with_word" JU fa fd)(hm:mg "_law_with_word"=some (.ref fa))(bi:Bi mg){C_NoWord:Addr}(EC_NoWord:ErrC K mg "NoWord" C_NoWord)(rf_f_run_NoWord:Refuser P w K mg base 6 "run" C_NoWord vC)(rf_f_doing_NoWord:Refuser P w K mg base 6 "doing" C_NoWord wO)(rf_f_takes_NoWord:Refuser P w K mg base 5 "takes" C_NoWord wR):Refuser P w K mg base 7 "_law_with_word" C_NoWord xl :=
 zp (k:=6) (N:=["_law_what","_law_machine_here","_law_reader_here","_law_bad"]) (ps:=["_law_what","_law_machine_here","_law_reader_here","_law_bad"]) (x:=wc) Fn hm zdQ (Fn.binds fun _ _ _ _ _ _ us hl=>match us,hl with|[_,_,_,_],_=>rfl) fun cdv A outer s H E hr =>
  (yw (y2 (zA (zw (Room.units hr)) zy (zc (pv 0)) zf (zo _)) (zv (ye (zF zK rf_f_run_NoWord hr (by decide) rfl (za (zc (pv 1)) (za (zc (pv 3)) ze))))) yC) (zU (zA (zw (Room.units hr)) zy (zc (pv 0)) zf (zo _)) (zk yJ) zB) (yw (y2 (zA (zw (Room.units hr)) zy (zc (pv 0)) zf (zo _)) (zv (ye (zF zK rf_f_doing_NoWord hr (by decide) rfl (za (zc (pv 1)) (za (zc (pv 3)) ze))))) yC) (zU (zA (zw (Room.units hr)) zy (zc (pv 0)) zf (zo _)) (zk yJ) zB) (zv (ye (zF zK rf_f_takes_NoWord hr (by decide) rfl (za (zc (pv 2)) (za (zc (pv 3)) ze)))))))
abbrev JV:Stmt:=top 95
theorem zdR:FnScope ["_law_what","_law_one","_law_other","_law_here","_law_there"] ["_law_what","_law_one","_law_other","_law_here","_law_there"] (zr JV):=yg
theorem uX(Fn:Fun K "_law_with_two" "_law_with_two" JV fa fd)(hm:mg "_law_with_two"=some (.ref fa))(bi:Bi mg)(c_Fy:Callee P w K mg base 6 "one_after" YC){C_Unlike:Addr}(EC_Unlike:ErrC K mg "Unlike" C_Unlike)(rf_f_one_after_Unlike:Refuser P w K mg base 6 "one_after" C_Unlike yU)(rf_f_both_Unlike:Refuser P w K mg base 7 "both" C_Unlike vk)(rf_f_either_Unlike:Refuser P w K mg base 7 "either" C_Unlike wz)(rf_f_less_Unlike:Refuser P w K mg base 7 "less" C_Unlike vm)(rf_f_alike_Unlike:Refuser P w K mg base 7 "alike" C_Unlike wS)(rf_f_within_Unlike:Refuser P w K mg base 7 "within" C_Unlike wA):Refuser P w K mg base 8 "_law_with_two" C_Unlike xq :=
 zp (k:=7) (N:=["_law_what","_law_one","_law_other","_law_here","_law_there"]) (ps:=["_law_what","_law_one","_law_other","_law_here","_law_there"]) (x:=wn) Fn hm zdR (Fn.binds fun _ _ _ _ _ _ us hl=>match us,hl with|[_,_,_,_,_],_=>rfl) fun cdv A outer s H E hr =>
  (yw (y2 (zA (zw (Room.units hr)) zy (zc (pv 0)) zf (zo _)) (zv (ye (zF zK rf_f_one_after_Unlike hr (by decide) rfl (za (zc (pv 3)) (za (zc (pv 4)) ze))))) yC) (zU (zA (zw (Room.units hr)) zy (zc (pv 0)) zf (zo _)) (zk (zH (zq c_Fy hr (by decide) rfl (za (zc (pv 3)) (za (zc (pv 4)) ze))))) zB) (zv (ye (VQ (k:=7) zK (y4 rf_f_both_Unlike (by decide)) (y4 rf_f_either_Unlike (by decide)) (y4 rf_f_less_Unlike (by decide)) (y4 rf_f_alike_Unlike (by decide)) (y4 rf_f_within_Unlike (by decide)) hr (by decide) rfl rfl rfl rfl rfl (zc (pv 0)) (fun _ _=>rfl) (za (zc (pv 1)) (za (zc (pv 2)) ze))))))
abbrev JW:Stmt:=top 96
theorem XZ:FnScope ["_law_machine_here","_law_cell","_law_letters","_law_rooms","_law_odd","_law_some"] ["_law_machine_here","_law_cell"] (zr JW):=yg
theorem zdS(Fn:Fun K "_law_bad_machine" "_law_bad_machine" JW fa fd)(hm:mg "_law_bad_machine"=some (.ref fa))(bi:Bi mg):Callee P w K mg base 1 "_law_bad_machine" Vc :=
 z8 (k:=0) (f:=Vb) Fn hm XZ (Fn.binds fun _ _ _ _ _ _ us hl=>match us,hl with|[_,_],_=>rfl) fun cdv A outer s H E hr =>
  (zi (J7 (zc (pv 0)) (XB rfl (wD (yy (i:=2) XZ.nd rfl (Or.inl rfl)) (wD (yy (i:=3) XZ.nd rfl (Or.inl rfl)) Yr)))) (zi (zX (i:=4) XZ.nd rfl (Or.inl rfl) (zJ (z0 (z4 (by refine za ?_ ?_;(· exact xO);refine za ?_ ?_;(· exact yN);refine za ?_ ?_;(· exact (zl (by refine za ?_ ?_;(· exact (z9 z7 y0 rfl bi.len PySem.boot_len (za (zc (pv 3)) ze)));refine za ?_ ?_;(· exact zf);exact ze)));refine za ?_ ?_;(· exact (zl (za zf (za zf ze))));refine za ?_ ?_;(· exact (zl (za yD (za zf ze))));refine za ?_ ?_;(· exact (z0 (z4 (za zf (za zf ze)))));exact ze))) (zj zQ zR (zj vy ua (zc (pv 1)) zf) zf) (fun _ _=>rfl))) (zi (zX (i:=5) XZ.nd rfl (Or.inl rfl) (z0 (z4 (by refine za ?_ ?_;(· exact (yO v4 YS rfl bi.list boot_list (za (zc (pv 0)) ze)));refine za ?_ ?_;(· exact (zl (za zf (za (zc (pv 3)) ze))));refine za ?_ ?_;(· exact (zl (by refine za ?_ ?_;(· exact (zc (pv 2)));refine za ?_ ?_;(· exact (zl ze));exact ze)));refine za ?_ ?_;(· exact xO);refine za ?_ ?_;(· exact (zl (by refine za ?_ ?_;(· exact (zc (pv 2)));refine za ?_ ?_;(· exact (zj zm zn (zc (pv 3)) (zl (za (zl ze) ze))));exact ze)));exact ze)))) (zk (zH (zJ (zj zm zn (zc (pv 5)) (z0 (z4 (za (zl (by refine za ?_ ?_;(· exact (zc (pv 2)));refine za ?_ ?_;(· exact (zj zm zn (zl (za (zj zm zn (zl (za (zc (pv 4)) ze)) (Xh (zJ (zc (pv 3)) zf (fun _ _=>rfl)) (uK zf) ZE)) ze)) (Xh (zc (pv 3)) (uK zf) ZE)));exact ze)) ze)))) (zj zQ zR (zc (pv 1)) zf) (fun _ _=>rfl)))))))
abbrev JX:Stmt:=top 97
theorem Y3:FnScope ["_law_reader_here","_law_cell","_law_letters","_law_rows","_law_good","_law_odd","_law_some"] ["_law_reader_here","_law_cell"] (zr JX):=yg
theorem zdT(Fn:Fun K "_law_bad_reader" "_law_bad_reader" JX fa fd)(hm:mg "_law_bad_reader"=some (.ref fa))(bi:Bi mg):Callee P w K mg base 1 "_law_bad_reader" Ve :=
 z8 (k:=0) (f:=Vd) Fn hm Y3 (Fn.binds fun _ _ _ _ _ _ us hl=>match us,hl with|[_,_],_=>rfl) fun cdv A outer s H E hr =>
  (zi (J7 (zc (pv 0)) (XB rfl (wD (yy (i:=2) Y3.nd rfl (Or.inl rfl)) (wD (yy (i:=3) Y3.nd rfl (Or.inl rfl)) (wD (yy (i:=4) Y3.nd rfl (Or.inl rfl)) Yr))))) (zi (zX (i:=5) Y3.nd rfl (Or.inl rfl) (zJ (z0 (z4 (by refine za ?_ ?_;(· exact (z9 z7 y0 rfl bi.len PySem.boot_len (za (zc (pv 3)) ze)));refine za ?_ ?_;(· exact (wx zf));refine za ?_ ?_;(· exact yD);refine za ?_ ?_;(· exact yN);refine za ?_ ?_;(· exact xO);exact ze))) (zj zQ zR (zj vy ua (zc (pv 1)) zf) zf) (fun _ _=>rfl))) (zi (vA (i:=6) Y3.nd rfl (Or.inl rfl) (z4 (by refine za ?_ ?_;(· exact (yO v4 YS rfl bi.list boot_list (za (zc (pv 0)) ze)));refine za ?_ ?_;(· exact (zl (za zf (za (zc (pv 3)) (za (zc (pv 4)) ze)))));refine za ?_ ?_;(· exact (zl (by refine za ?_ ?_;(· exact (zc (pv 2)));refine za ?_ ?_;(· exact (zl ze));refine za ?_ ?_;(· exact (zl ze));exact ze)));refine za ?_ ?_;(· exact (zl (by refine za ?_ ?_;(· exact (zc (pv 2)));refine za ?_ ?_;(· exact (yO v4 YS rfl bi.list boot_list (za (zc (pv 3)) ze)));refine za ?_ ?_;(· exact (zc (pv 4)));exact ze)));refine za ?_ ?_;(· exact (zl (by refine za ?_ ?_;(· exact (zc (pv 2)));refine za ?_ ?_;(· exact (zc (pv 3)));refine za ?_ ?_;(· exact (yO v4 YS rfl bi.list boot_list (za (zc (pv 4)) ze)));exact ze)));exact ze))) (zi (Zo (i:=6) (h1:=y8 PySem.F.plainAttrs_list PySem.F.slot_list_extend PySem.F.type_list_extend wK (pv 6) (yf (z0 (z4 (by refine za ?_ ?_;(· exact (zl (by refine za ?_ ?_;(· exact (zc (pv 2)));refine za ?_ ?_;(· exact (zc (pv 3)));refine za ?_ ?_;(· exact (zj zm zn (zc (pv 4)) (zl (za (zc (pv 5)) ze))));exact ze)));refine za ?_ ?_;(· exact (zl (by refine za ?_ ?_;(· exact (zc (pv 2)));refine za ?_ ?_;(· exact (zc (pv 3)));refine za ?_ ?_;(· exact (zl (za zf (za zf ze))));exact ze)));refine za ?_ ?_;(· exact xO);refine za ?_ ?_;(· exact (zl (by refine za ?_ ?_;(· exact zf);refine za ?_ ?_;(· exact (zj vY vZ (zl (za (zl (za zf ze)) ze)) zf));refine za ?_ ?_;(· exact (zl ze));exact ze)));exact ze))) yx))) (zk (zH (zJ (zj zm zn (zc (pv 6)) (z0 (z4 (za (zl (by refine za ?_ ?_;(· exact (zc (pv 2)));refine za ?_ ?_;(· exact (zj zm zn (zl (za (zj zm zn (zl (za (zc (pv 5)) ze)) (Xh (zJ (zc (pv 3)) zf (fun _ _=>rfl)) (uK zf) ZE)) ze)) (Xh (zc (pv 3)) (uK zf) ZE)));refine za ?_ ?_;(· exact (zc (pv 4)));exact ze)) ze)))) (zj zQ zR (zc (pv 1)) zf) (fun _ _=>rfl))))))))
abbrev Zp:Stmt:=top 98
theorem yz:FnScope ["_law_script","_law_kind","_law_cell","_law_machine_here","_law_reader_here","_law_many","_law_bad","_law_wide","_law_other","_law_full"] ["_law_script","_law_kind","_law_cell","_law_machine_here","_law_reader_here"] (zr Zp):=yg
theorem Zf(Fn:Fun K "_law_case" "_law_case" Zp fa fd)(hm:mg "_law_case"=some (.ref fa))(bi:Bi mg)(c_Fd:Callee P w K mg base 1 "_law_bad_machine" Vc)(c_Faq:Callee P w K mg base 6 "turned" ui){C_NoMachine:Addr}(EC_NoMachine:ErrC K mg "NoMachine" C_NoMachine)(rf_f_law_with_machine_NoMachine:Refuser P w K mg base 7 "_law_with_machine" C_NoMachine yL)(rf_f_reader_of_NoMachine:Refuser P w K mg base 6 "reader_of" C_NoMachine yG)(rf_f_turned_NoMachine:Refuser P w K mg base 6 "turned" C_NoMachine yT)(rf_f_one_after_NoMachine:Refuser P w K mg base 6 "one_after" C_NoMachine yi):Refuser P w K mg base 9 "_law_case" C_NoMachine y3 :=
 zp (k:=8) (N:=["_law_script","_law_kind","_law_cell","_law_machine_here","_law_reader_here","_law_many","_law_bad","_law_wide","_law_other","_law_full"]) (ps:=["_law_script","_law_kind","_law_cell","_law_machine_here","_law_reader_here"]) (x:=wt) Fn hm yz (Fn.binds fun _ _ _ _ _ _ us hl=>match us,hl with|[_,_,_,_,_],_=>rfl) fun cdv A outer s H E hr =>
  (zG (zX (i:=5) yz.nd rfl (Or.inl rfl) (zJ (zc (pv 3)) zf (fun _ _=>rfl))) (yw (y2 (zA (zw (Room.units hr)) zy (zc (pv 1)) zf (zo _)) (zv (ye (zF zK rf_f_law_with_machine_NoMachine hr (by decide) rfl (by refine za ?_ ?_;(· exact (zj zQ zR (zj vy ua (zc (pv 2)) zf) zf));refine za ?_ ?_;(· exact (zq c_Fd hr (by decide) rfl (za (zc (pv 3)) (za (zc (pv 2)) ze))));refine za ?_ ?_;(· exact (zc (pv 3)));exact ze)))) yC) (zU (zA (zw (Room.units hr)) zy (zc (pv 1)) zf (zo _)) (zk yJ) zB) (zG (zU (zA (zw (Room.units hr)) zy (zc (pv 1)) zf (zo _)) (zk yJ) zB) (zG (zU (zA (zw (Room.units hr)) zy (zc (pv 1)) zf (zo _)) (zi (zX (i:=6) yz.nd rfl (Or.inl rfl) (zJ (z0 (z4 (by refine za ?_ ?_;(· exact (z0 (z4 (za zf ze))));refine za ?_ ?_;(· exact (zl (za (zc (pv 5)) ze)));refine za ?_ ?_;(· exact (zl (za (wx zf) ze)));refine za ?_ ?_;(· exact (zl (za yD ze)));refine za ?_ ?_;(· exact (zl (za yN ze)));refine za ?_ ?_;(· exact xO);refine za ?_ ?_;(· exact (zl (za zf (za zf (za xO ze)))));exact ze))) (zj zQ zR (zc (pv 2)) zf) (fun _ _=>rfl))) (zk yJ)) zB) (yw (y2 (zA (zw (Room.units hr)) zy (zc (pv 1)) zf (zo _)) (zv (ye (zF zK rf_f_reader_of_NoMachine hr (by decide) rfl (by refine za ?_ ?_;(· exact (zc (pv 3)));refine za ?_ ?_;(· exact (zJ (z0 (z4 (by refine za ?_ ?_;(· exact yN);refine za ?_ ?_;(· exact yN);refine za ?_ ?_;(· exact xO);refine za ?_ ?_;(· exact zf);refine za ?_ ?_;(· exact yD);refine za ?_ ?_;(· exact (zl (za yN ze)));refine za ?_ ?_;(· exact yN);exact ze))) (zj zQ zR (zc (pv 2)) zf) (fun _ _=>rfl)));exact ze)))) yC) (zU (zA (zw (Room.units hr)) zy (zc (pv 1)) zf (zo _)) (zk yJ) zB) (zG (zU (zA (zw (Room.units hr)) zy (zc (pv 1)) zf (zo _)) (zi (zX (i:=7) yz.nd rfl (Or.inl rfl) (zl (by refine za ?_ ?_;(· exact (zj zm zn (zj zQ zR (zc (pv 5)) zf) zf));refine za ?_ ?_;(· exact (zj yR yS (zl (za (zj yR yS (zl (za yN ze)) (zj zm zn (zj zQ zR (zc (pv 5)) zf) zf)) ze)) (zJ (z0 (z4 (za zf (za zf ze)))) (zj zQ zR (zc (pv 2)) zf) (fun _ _=>rfl))));exact ze))) (zi (zX (i:=8) yz.nd rfl (Or.inl rfl) (zl (by refine za ?_ ?_;(· exact (zj zm zn (zj zQ zR (zc (pv 5)) zf) zf));refine za ?_ ?_;(· exact (zl (za (zj yR yS (zl (za zf ze)) (zj zm zn (zj zQ zR (zc (pv 5)) zf) zf)) ze)));refine za ?_ ?_;(· exact (zl ze));exact ze))) (zk yJ))) zB) (zG (zX (i:=9) yz.nd rfl (Or.inl rfl) (zl (by refine za ?_ ?_;(· exact (zc (pv 5)));refine za ?_ ?_;(· exact (zj vY vZ (zl (za (zj yR yS (zl (za yN ze)) (zj zm zn (zc (pv 5)) zf)) ze)) zf));exact ze))) (yw (y2 (zA (zw (Room.units hr)) zy (zj zQ zR (zc (pv 2)) zf) zf (zo _)) (zv (ye (zF zK rf_f_turned_NoMachine hr (by decide) rfl (za (zc (pv 9)) ze)))) yC) (zU (zA (zw (Room.units hr)) zy (zj zQ zR (zc (pv 2)) zf) zf (zo _)) (zk (zH (zq c_Faq hr (by decide) rfl (za (zc (pv 9)) ze)))) zB) (zv (ye (zF zK rf_f_one_after_NoMachine hr (by decide) rfl (za (zc (pv 3)) (za (zc (pv 9)) ze)))))))))))))
theorem Zl(Fn:Fun K "_law_case" "_law_case" Zp fa fd)(hm:mg "_law_case"=some (.ref fa))(bi:Bi mg)(c_Fg:Callee P w K mg base 1 "_law_bad_reader" Ve){C_NoReader:Addr}(EC_NoReader:ErrC K mg "NoReader" C_NoReader)(rf_f_law_with_reader_NoReader:Refuser P w K mg base 8 "_law_with_reader" C_NoReader yV):Refuser P w K mg base 9 "_law_case" C_NoReader xc :=
 zp (k:=8) (N:=["_law_script","_law_kind","_law_cell","_law_machine_here","_law_reader_here","_law_many","_law_bad","_law_wide","_law_other","_law_full"]) (ps:=["_law_script","_law_kind","_law_cell","_law_machine_here","_law_reader_here"]) (x:=wJ) Fn hm yz (Fn.binds fun _ _ _ _ _ _ us hl=>match us,hl with|[_,_,_,_,_],_=>rfl) fun cdv A outer s H E hr =>
  (zG (zX (i:=5) yz.nd rfl (Or.inl rfl) (zJ (zc (pv 3)) zf (fun _ _=>rfl))) (zG (zU (zA (zw (Room.units hr)) zy (zc (pv 1)) zf (zo _)) (zk yJ) zB) (zv (y2 (zA (zw (Room.units hr)) zy (zc (pv 1)) zf (zo _)) (zv (ye (zF zK rf_f_law_with_reader_NoReader hr (by decide) rfl (by refine za ?_ ?_;(· exact (zj zQ zR (zj vy ua (zc (pv 2)) zf) zf));refine za ?_ ?_;(· exact (zq c_Fg hr (by decide) rfl (za (zc (pv 4)) (za (zc (pv 2)) ze))));refine za ?_ ?_;(· exact (zc (pv 4)));exact ze)))) yC))))
theorem ZX(Fn:Fun K "_law_case" "_law_case" Zp fa fd)(hm:mg "_law_case"=some (.ref fa))(bi:Bi mg){C_NoWord:Addr}(EC_NoWord:ErrC K mg "NoWord" C_NoWord)(rf_f_law_with_word_NoWord:Refuser P w K mg base 7 "_law_with_word" C_NoWord xl):Refuser P w K mg base 9 "_law_case" C_NoWord xv :=
 zp (k:=8) (N:=["_law_script","_law_kind","_law_cell","_law_machine_here","_law_reader_here","_law_many","_law_bad","_law_wide","_law_other","_law_full"]) (ps:=["_law_script","_law_kind","_law_cell","_law_machine_here","_law_reader_here"]) (x:=vf) Fn hm yz (Fn.binds fun _ _ _ _ _ _ us hl=>match us,hl with|[_,_,_,_,_],_=>rfl) fun cdv A outer s H E hr =>
  (zG (zX (i:=5) yz.nd rfl (Or.inl rfl) (zJ (zc (pv 3)) zf (fun _ _=>rfl))) (zG (zU (zA (zw (Room.units hr)) zy (zc (pv 1)) zf (zo _)) (zk yJ) zB) (zG (zU (zA (zw (Room.units hr)) zy (zc (pv 1)) zf (zo _)) (zk yJ) zB) (zv (y2 (zA (zw (Room.units hr)) zy (zc (pv 1)) zf (zo _)) (zG (zX (i:=6) yz.nd rfl (Or.inl rfl) (zJ (z0 (z4 (by refine za ?_ ?_;(· exact (z0 (z4 (za zf ze))));refine za ?_ ?_;(· exact (zl (za (zc (pv 5)) ze)));refine za ?_ ?_;(· exact (zl (za (wx zf) ze)));refine za ?_ ?_;(· exact (zl (za yD ze)));refine za ?_ ?_;(· exact (zl (za yN ze)));refine za ?_ ?_;(· exact xO);refine za ?_ ?_;(· exact (zl (za zf (za zf (za xO ze)))));exact ze))) (zj zQ zR (zc (pv 2)) zf) (fun _ _=>rfl))) (zv (ye (zF zK rf_f_law_with_word_NoWord hr (by decide) rfl (by refine za ?_ ?_;(· exact (zj zQ zR (zj vy ua (zc (pv 2)) zf) zf));refine za ?_ ?_;(· exact (zc (pv 3)));refine za ?_ ?_;(· exact (zc (pv 4)));refine za ?_ ?_;(· exact (zc (pv 6)));exact ze))))) yC)))))
theorem ZY(Fn:Fun K "_law_case" "_law_case" Zp fa fd)(hm:mg "_law_case"=some (.ref fa))(bi:Bi mg){C_NoFate:Addr}(EC_NoFate:ErrC K mg "NoFate" C_NoFate)(rf_f_reader_of_NoFate:Refuser P w K mg base 6 "reader_of" C_NoFate xi):Refuser P w K mg base 9 "_law_case" C_NoFate xw :=
 zp (k:=8) (N:=["_law_script","_law_kind","_law_cell","_law_machine_here","_law_reader_here","_law_many","_law_bad","_law_wide","_law_other","_law_full"]) (ps:=["_law_script","_law_kind","_law_cell","_law_machine_here","_law_reader_here"]) (x:=vg) Fn hm yz (Fn.binds fun _ _ _ _ _ _ us hl=>match us,hl with|[_,_,_,_,_],_=>rfl) fun cdv A outer s H E hr =>
  (zG (zX (i:=5) yz.nd rfl (Or.inl rfl) (zJ (zc (pv 3)) zf (fun _ _=>rfl))) (zG (zU (zA (zw (Room.units hr)) zy (zc (pv 1)) zf (zo _)) (zk yJ) zB) (zG (zU (zA (zw (Room.units hr)) zy (zc (pv 1)) zf (zo _)) (zk yJ) zB) (zG (zU (zA (zw (Room.units hr)) zy (zc (pv 1)) zf (zo _)) (zi (zX (i:=6) yz.nd rfl (Or.inl rfl) (zJ (z0 (z4 (by refine za ?_ ?_;(· exact (z0 (z4 (za zf ze))));refine za ?_ ?_;(· exact (zl (za (zc (pv 5)) ze)));refine za ?_ ?_;(· exact (zl (za (wx zf) ze)));refine za ?_ ?_;(· exact (zl (za yD ze)));refine za ?_ ?_;(· exact (zl (za yN ze)));refine za ?_ ?_;(· exact xO);refine za ?_ ?_;(· exact (zl (za zf (za zf (za xO ze)))));exact ze))) (zj zQ zR (zc (pv 2)) zf) (fun _ _=>rfl))) (zk yJ)) zB) (zv (y2 (zA (zw (Room.units hr)) zy (zc (pv 1)) zf (zo _)) (zv (ye (zF zK rf_f_reader_of_NoFate hr (by decide) rfl (by refine za ?_ ?_;(· exact (zc (pv 3)));refine za ?_ ?_;(· exact (zJ (z0 (z4 (by refine za ?_ ?_;(· exact yN);refine za ?_ ?_;(· exact yN);refine za ?_ ?_;(· exact xO);refine za ?_ ?_;(· exact zf);refine za ?_ ?_;(· exact yD);refine za ?_ ?_;(· exact (zl (za yN ze)));refine za ?_ ?_;(· exact yN);exact ze))) (zj zQ zR (zc (pv 2)) zf) (fun _ _=>rfl)));exact ze)))) yC))))))
theorem ZZ(Fn:Fun K "_law_case" "_law_case" Zp fa fd)(hm:mg "_law_case"=some (.ref fa))(bi:Bi mg)(c_Faq:Callee P w K mg base 6 "turned" ui){C_Unlike:Addr}(EC_Unlike:ErrC K mg "Unlike" C_Unlike)(rf_f_law_with_two_Unlike:Refuser P w K mg base 8 "_law_with_two" C_Unlike xq)(rf_f_one_after_Unlike:Refuser P w K mg base 6 "one_after" C_Unlike yU):Refuser P w K mg base 9 "_law_case" C_Unlike xx :=
 zp (k:=8) (N:=["_law_script","_law_kind","_law_cell","_law_machine_here","_law_reader_here","_law_many","_law_bad","_law_wide","_law_other","_law_full"]) (ps:=["_law_script","_law_kind","_law_cell","_law_machine_here","_law_reader_here"]) (x:=vh) Fn hm yz (Fn.binds fun _ _ _ _ _ _ us hl=>match us,hl with|[_,_,_,_,_],_=>rfl) fun cdv A outer s H E hr =>
  (zG (zX (i:=5) yz.nd rfl (Or.inl rfl) (zJ (zc (pv 3)) zf (fun _ _=>rfl))) (zG (zU (zA (zw (Room.units hr)) zy (zc (pv 1)) zf (zo _)) (zk yJ) zB) (zG (zU (zA (zw (Room.units hr)) zy (zc (pv 1)) zf (zo _)) (zk yJ) zB) (zG (zU (zA (zw (Room.units hr)) zy (zc (pv 1)) zf (zo _)) (zi (zX (i:=6) yz.nd rfl (Or.inl rfl) (zJ (z0 (z4 (by refine za ?_ ?_;(· exact (z0 (z4 (za zf ze))));refine za ?_ ?_;(· exact (zl (za (zc (pv 5)) ze)));refine za ?_ ?_;(· exact (zl (za (wx zf) ze)));refine za ?_ ?_;(· exact (zl (za yD ze)));refine za ?_ ?_;(· exact (zl (za yN ze)));refine za ?_ ?_;(· exact xO);refine za ?_ ?_;(· exact (zl (za zf (za zf (za xO ze)))));exact ze))) (zj zQ zR (zc (pv 2)) zf) (fun _ _=>rfl))) (zk yJ)) zB) (zG (zU (zA (zw (Room.units hr)) zy (zc (pv 1)) zf (zo _)) (zk yJ) zB) (yw (y2 (zA (zw (Room.units hr)) zy (zc (pv 1)) zf (zo _)) (zG (zX (i:=7) yz.nd rfl (Or.inl rfl) (zl (by refine za ?_ ?_;(· exact (zj zm zn (zj zQ zR (zc (pv 5)) zf) zf));refine za ?_ ?_;(· exact (zj yR yS (zl (za (zj yR yS (zl (za yN ze)) (zj zm zn (zj zQ zR (zc (pv 5)) zf) zf)) ze)) (zJ (z0 (z4 (za zf (za zf ze)))) (zj zQ zR (zc (pv 2)) zf) (fun _ _=>rfl))));exact ze))) (zG (zX (i:=8) yz.nd rfl (Or.inl rfl) (zl (by refine za ?_ ?_;(· exact (zj zm zn (zj zQ zR (zc (pv 5)) zf) zf));refine za ?_ ?_;(· exact (zl (za (zj yR yS (zl (za zf ze)) (zj zm zn (zj zQ zR (zc (pv 5)) zf) zf)) ze)));refine za ?_ ?_;(· exact (zl ze));exact ze))) (zv (ye (zF zK rf_f_law_with_two_Unlike hr (by decide) rfl (by refine za ?_ ?_;(· exact (zj zQ zR (zj vy ua (zc (pv 2)) zf) zf));refine za ?_ ?_;(· exact (zc (pv 4)));refine za ?_ ?_;(· exact (zc (pv 8)));refine za ?_ ?_;(· exact (zc (pv 3)));refine za ?_ ?_;(· exact (zc (pv 7)));exact ze)))))) yC) (zU (zA (zw (Room.units hr)) zy (zc (pv 1)) zf (zo _)) (zi (zX (i:=7) yz.nd rfl (Or.inl rfl) (zl (by refine za ?_ ?_;(· exact (zj zm zn (zj zQ zR (zc (pv 5)) zf) zf));refine za ?_ ?_;(· exact (zj yR yS (zl (za (zj yR yS (zl (za yN ze)) (zj zm zn (zj zQ zR (zc (pv 5)) zf) zf)) ze)) (zJ (z0 (z4 (za zf (za zf ze)))) (zj zQ zR (zc (pv 2)) zf) (fun _ _=>rfl))));exact ze))) (zi (zX (i:=8) yz.nd rfl (Or.inl rfl) (zl (by refine za ?_ ?_;(· exact (zj zm zn (zj zQ zR (zc (pv 5)) zf) zf));refine za ?_ ?_;(· exact (zl (za (zj yR yS (zl (za zf ze)) (zj zm zn (zj zQ zR (zc (pv 5)) zf) zf)) ze)));refine za ?_ ?_;(· exact (zl ze));exact ze))) (zk yJ))) zB) (zG (zX (i:=9) yz.nd rfl (Or.inl rfl) (zl (by refine za ?_ ?_;(· exact (zc (pv 5)));refine za ?_ ?_;(· exact (zj vY vZ (zl (za (zj yR yS (zl (za yN ze)) (zj zm zn (zc (pv 5)) zf)) ze)) zf));exact ze))) (zG (zU (zA (zw (Room.units hr)) zy (zj zQ zR (zc (pv 2)) zf) zf (zo _)) (zk (zH (zq c_Faq hr (by decide) rfl (za (zc (pv 9)) ze)))) zB) (zv (ye (zF zK rf_f_one_after_Unlike hr (by decide) rfl (za (zc (pv 3)) (za (zc (pv 9)) ze)))))))))))))
theorem Z0(Fn:Fun K "_law_case" "_law_case" Zp fa fd)(hm:mg "_law_case"=some (.ref fa))(bi:Bi mg)(c_Faq:Callee P w K mg base 6 "turned" ui){C_TooBig:Addr}(EC_TooBig:ErrC K mg "TooBig" C_TooBig)(rf_f_turned_TooBig:Refuser P w K mg base 6 "turned" C_TooBig wB)(rf_f_one_after_TooBig:Refuser P w K mg base 6 "one_after" C_TooBig x6):Refuser P w K mg base 9 "_law_case" C_TooBig xy :=
 zp (k:=8) (N:=["_law_script","_law_kind","_law_cell","_law_machine_here","_law_reader_here","_law_many","_law_bad","_law_wide","_law_other","_law_full"]) (ps:=["_law_script","_law_kind","_law_cell","_law_machine_here","_law_reader_here"]) (x:=wg) Fn hm yz (Fn.binds fun _ _ _ _ _ _ us hl=>match us,hl with|[_,_,_,_,_],_=>rfl) fun cdv A outer s H E hr =>
  (zG (zX (i:=5) yz.nd rfl (Or.inl rfl) (zJ (zc (pv 3)) zf (fun _ _=>rfl))) (zG (zU (zA (zw (Room.units hr)) zy (zc (pv 1)) zf (zo _)) (zk yJ) zB) (zG (zU (zA (zw (Room.units hr)) zy (zc (pv 1)) zf (zo _)) (zk yJ) zB) (zG (zU (zA (zw (Room.units hr)) zy (zc (pv 1)) zf (zo _)) (zi (zX (i:=6) yz.nd rfl (Or.inl rfl) (zJ (z0 (z4 (by refine za ?_ ?_;(· exact (z0 (z4 (za zf ze))));refine za ?_ ?_;(· exact (zl (za (zc (pv 5)) ze)));refine za ?_ ?_;(· exact (zl (za (wx zf) ze)));refine za ?_ ?_;(· exact (zl (za yD ze)));refine za ?_ ?_;(· exact (zl (za yN ze)));refine za ?_ ?_;(· exact xO);refine za ?_ ?_;(· exact (zl (za zf (za zf (za xO ze)))));exact ze))) (zj zQ zR (zc (pv 2)) zf) (fun _ _=>rfl))) (zk yJ)) zB) (zG (zU (zA (zw (Room.units hr)) zy (zc (pv 1)) zf (zo _)) (zk yJ) zB) (zG (zU (zA (zw (Room.units hr)) zy (zc (pv 1)) zf (zo _)) (zi (zX (i:=7) yz.nd rfl (Or.inl rfl) (zl (by refine za ?_ ?_;(· exact (zj zm zn (zj zQ zR (zc (pv 5)) zf) zf));refine za ?_ ?_;(· exact (zj yR yS (zl (za (zj yR yS (zl (za yN ze)) (zj zm zn (zj zQ zR (zc (pv 5)) zf) zf)) ze)) (zJ (z0 (z4 (za zf (za zf ze)))) (zj zQ zR (zc (pv 2)) zf) (fun _ _=>rfl))));exact ze))) (zi (zX (i:=8) yz.nd rfl (Or.inl rfl) (zl (by refine za ?_ ?_;(· exact (zj zm zn (zj zQ zR (zc (pv 5)) zf) zf));refine za ?_ ?_;(· exact (zl (za (zj yR yS (zl (za zf ze)) (zj zm zn (zj zQ zR (zc (pv 5)) zf) zf)) ze)));refine za ?_ ?_;(· exact (zl ze));exact ze))) (zk yJ))) zB) (zG (zX (i:=9) yz.nd rfl (Or.inl rfl) (zl (by refine za ?_ ?_;(· exact (zc (pv 5)));refine za ?_ ?_;(· exact (zj vY vZ (zl (za (zj yR yS (zl (za yN ze)) (zj zm zn (zc (pv 5)) zf)) ze)) zf));exact ze))) (yw (y2 (zA (zw (Room.units hr)) zy (zj zQ zR (zc (pv 2)) zf) zf (zo _)) (zv (ye (zF zK rf_f_turned_TooBig hr (by decide) rfl (za (zc (pv 9)) ze)))) yC) (zU (zA (zw (Room.units hr)) zy (zj zQ zR (zc (pv 2)) zf) zf (zo _)) (zk (zH (zq c_Faq hr (by decide) rfl (za (zc (pv 9)) ze)))) zB) (zv (ye (zF zK rf_f_one_after_TooBig hr (by decide) rfl (za (zc (pv 3)) (za (zc (pv 9)) ze)))))))))))))
abbrev JY:Stmt:=top 99
theorem UQ:FnScope ["_law_letters","_law_rooms","_law_long"] ["_law_letters"] (zr JY):=yg
theorem zdU(Fn:Fun K "_law_edges" "_law_edges" JY fa fd)(hm:mg "_law_edges"=some (.ref fa))(bi:Bi mg)(c_Ff:Callee P w K mg base 4 "checked_reader" xD)(c_Faq:Callee P w K mg base 6 "turned" ui)(c_Fs:Callee P w K mg base 5 "machine_of" W7)(c_Fy:Callee P w K mg base 6 "one_after" YC):Callee P w K mg base 7 "_law_edges" Up :=
 z8 (k:=6) (f:=zcj) Fn hm UQ (Fn.binds fun _ _ _ _ _ _ us hl=>match us,hl with|[_],_=>rfl) fun cdv A outer s H E hr =>
  (zi (zX (i:=1) UQ.nd rfl (Or.inl rfl) (zj vY vZ (zl (za (zj yR yS (zl (za yN ze)) (zj zm zn (zc (pv 0)) zf)) ze)) zf)) (zi (zX (i:=2) UQ.nd rfl (Or.inl rfl) (zl (by refine za ?_ ?_;(· exact (zc (pv 0)));refine za ?_ ?_;(· exact (yO yv xA rfl bi.tuple boot_tuple (za (z0 (wE (N:=["_law_k","_law_letters"]) (ms:=[none,some 0]) rfl (CompOk.of (by rfl)) (vF (uw rfl bi.range (za zf ze))) ⟨fun _ _ _ _ _=>⟨(yy (i:=0) (show (["_law_k","_law_letters"]:List Str).Nodup by decide +kernel) rfl (Or.inl rfl)),wu,(zj yR yS (zl (za (zj zQ zR (zj zm zn (zc (pv 0)) zf) zf) ze)) (zc (pv 1)))⟩⟩ (wv (by decide)) (ww (by decide)))) ze)));refine za ?_ ?_;(· exact (zl (za zf (za zf ze))));exact ze))) (zi (zU (t_w (wr (zA (xX (Room.units hr)) zy (zq c_Ff hr (by decide) rfl (za (zc (pv 2)) ze)) (zc (pv 2)) (zo _)) (wL (zA (xX (Room.units hr)) zy (zq c_Ff hr (by decide) rfl (za (zl (by refine za ?_ ?_;(· exact zf);refine za ?_ ?_;(· exact (zj vY vZ (zl (za (zl (za zf ze)) ze)) zf));refine za ?_ ?_;(· exact (zl ze));exact ze)) ze)) (zl (by refine za ?_ ?_;(· exact zf);refine za ?_ ?_;(· exact (zj vY vZ (zl (za (zl (za zf ze)) ze)) zf));refine za ?_ ?_;(· exact (zl ze));exact ze)) (zo _))))) (zk (zH yD)) zB) (zi (zU (t_w (wr (zA (xX (Room.units hr)) zy (z9 z7 y0 rfl bi.len PySem.boot_len (za (zJ (zq c_Faq hr (by decide) rfl (za (zl (za (zc (pv 0)) (za (zc (pv 1)) ze))) ze)) zf (fun _ _=>rfl)) ze)) zf (zo _)) (wL (zA (xX (Room.units hr)) zy (z9 z7 y0 rfl bi.len PySem.boot_len (za (zJ (zq c_Fs hr (by decide) rfl (za (zc (pv 2)) ze)) zf (fun _ _=>rfl)) ze)) zf (zo _))))) (zk (zH yD)) zB) (zk (zH (v5 (zw (Room.units hr)) zy (z9 z7 y0 rfl bi.len PySem.boot_len (za (zJ (zq c_Fy hr (by decide) rfl (by refine za ?_ ?_;(· exact (zl (by refine za ?_ ?_;(· exact (zc (pv 0)));refine za ?_ ?_;(· exact (Xh (zc (pv 1)) ZE (uK zf)));exact ze)));refine za ?_ ?_;(· exact (zl (by refine za ?_ ?_;(· exact (zc (pv 0)));refine za ?_ ?_;(· exact (Xh (zc (pv 1)) ZE (uK zf)));exact ze)));exact ze)) zf (fun _ _=>rfl)) ze)) zf (zo _))))))))
abbrev Yg:Stmt:=top 100
theorem xN:FnScope ["_law_script","_law_letters","_law_machine_here","_law_reader_here","_law_kind","e","_law_own"] ["_law_script"] (zr Yg):=yg
theorem zcT(Fn:Fun K "law" "law" Yg fa fd)(bi:Bi mg)(c_Fx:Callee P w K mg base 2 "_law_mixed" wm)(c_Fm:Callee P w K mg base 4 "_law_machine" W9)(c_Fr:Callee P w K mg base 3 "_law_reader" Va)(c_Ff:Callee P w K mg base 4 "checked_reader" xD)(c_Fw:Callee P w K mg base 7 "_law_edges" Up){C_HeadError:Addr}{C_NoFate:Addr}{C_NoMachine:Addr}{C_NoReader:Addr}{C_NoText:Addr}{C_NoWord:Addr}{C_TooBig:Addr}{C_Unlike:Addr}(EC_NoFate:ErrC K mg "NoFate" C_NoFate)(EC_NoMachine:ErrC K mg "NoMachine" C_NoMachine)(EC_NoReader:ErrC K mg "NoReader" C_NoReader)(EC_NoWord:ErrC K mg "NoWord" C_NoWord)(EC_TooBig:ErrC K mg "TooBig" C_TooBig)(EC_Unlike:ErrC K mg "Unlike" C_Unlike)(rf_f_law_case_TooBig:Refuser P w K mg base 9 "_law_case" C_TooBig xy)(rf_f_law_case_Unlike:Refuser P w K mg base 9 "_law_case" C_Unlike xx)(rf_f_law_case_NoFate:Refuser P w K mg base 9 "_law_case" C_NoFate xw)(rf_f_law_case_NoWord:Refuser P w K mg base 9 "_law_case" C_NoWord xv)(rf_f_law_case_NoReader:Refuser P w K mg base 9 "_law_case" C_NoReader xc)(rf_f_law_case_NoMachine:Refuser P w K mg base 9 "_law_case" C_NoMachine y3)(n_HeadError:mg "HeadError"=some (.ref C_HeadError))(n_NoFate:mg "NoFate"=some (.ref C_NoFate))(n_NoMachine:mg "NoMachine"=some (.ref C_NoMachine))(n_NoReader:mg "NoReader"=some (.ref C_NoReader))(n_NoText:mg "NoText"=some (.ref C_NoText))(n_NoWord:mg "NoWord"=some (.ref C_NoWord))(n_TooBig:mg "TooBig"=some (.ref C_TooBig))(n_Unlike:mg "Unlike"=some (.ref C_Unlike))(kit_NoFate_NoFate:PySem.W.kitOne K (.ref C_NoFate) (.ref C_NoFate)=some true)(kit_NoFate_NoMachine:PySem.W.kitOne K (.ref C_NoFate) (.ref C_NoMachine)=some false)(kit_NoFate_NoReader:PySem.W.kitOne K (.ref C_NoFate) (.ref C_NoReader)=some false)(kit_NoFate_NoText:PySem.W.kitOne K (.ref C_NoFate) (.ref C_NoText)=some false)(kit_NoFate_NoWord:PySem.W.kitOne K (.ref C_NoFate) (.ref C_NoWord)=some false)(kit_NoFate_TooBig:PySem.W.kitOne K (.ref C_NoFate) (.ref C_TooBig)=some false)(kit_NoFate_Unlike:PySem.W.kitOne K (.ref C_NoFate) (.ref C_Unlike)=some false)(kit_NoFate_ValueError:PySem.W.kitOne K (.ref C_NoFate) (.type "ValueError")=some true)(kit_NoMachine_NoFate:PySem.W.kitOne K (.ref C_NoMachine) (.ref C_NoFate)=some false)(kit_NoMachine_NoMachine:PySem.W.kitOne K (.ref C_NoMachine) (.ref C_NoMachine)=some true)(kit_NoMachine_NoReader:PySem.W.kitOne K (.ref C_NoMachine) (.ref C_NoReader)=some false)(kit_NoMachine_NoText:PySem.W.kitOne K (.ref C_NoMachine) (.ref C_NoText)=some false)(kit_NoMachine_NoWord:PySem.W.kitOne K (.ref C_NoMachine) (.ref C_NoWord)=some false)(kit_NoMachine_TooBig:PySem.W.kitOne K (.ref C_NoMachine) (.ref C_TooBig)=some false)(kit_NoMachine_Unlike:PySem.W.kitOne K (.ref C_NoMachine) (.ref C_Unlike)=some false)(kit_NoMachine_ValueError:PySem.W.kitOne K (.ref C_NoMachine) (.type "ValueError")=some true)(kit_NoReader_NoFate:PySem.W.kitOne K (.ref C_NoReader) (.ref C_NoFate)=some false)(kit_NoReader_NoMachine:PySem.W.kitOne K (.ref C_NoReader) (.ref C_NoMachine)=some false)(kit_NoReader_NoReader:PySem.W.kitOne K (.ref C_NoReader) (.ref C_NoReader)=some true)(kit_NoReader_NoText:PySem.W.kitOne K (.ref C_NoReader) (.ref C_NoText)=some false)(kit_NoReader_NoWord:PySem.W.kitOne K (.ref C_NoReader) (.ref C_NoWord)=some false)(kit_NoReader_TooBig:PySem.W.kitOne K (.ref C_NoReader) (.ref C_TooBig)=some false)(kit_NoReader_Unlike:PySem.W.kitOne K (.ref C_NoReader) (.ref C_Unlike)=some false)(kit_NoReader_ValueError:PySem.W.kitOne K (.ref C_NoReader) (.type "ValueError")=some true)(kit_NoWord_NoFate:PySem.W.kitOne K (.ref C_NoWord) (.ref C_NoFate)=some false)(kit_NoWord_NoMachine:PySem.W.kitOne K (.ref C_NoWord) (.ref C_NoMachine)=some false)(kit_NoWord_NoReader:PySem.W.kitOne K (.ref C_NoWord) (.ref C_NoReader)=some false)(kit_NoWord_NoText:PySem.W.kitOne K (.ref C_NoWord) (.ref C_NoText)=some false)(kit_NoWord_NoWord:PySem.W.kitOne K (.ref C_NoWord) (.ref C_NoWord)=some true)(kit_NoWord_TooBig:PySem.W.kitOne K (.ref C_NoWord) (.ref C_TooBig)=some false)(kit_NoWord_Unlike:PySem.W.kitOne K (.ref C_NoWord) (.ref C_Unlike)=some false)(kit_NoWord_ValueError:PySem.W.kitOne K (.ref C_NoWord) (.type "ValueError")=some true)(kit_TooBig_NoFate:PySem.W.kitOne K (.ref C_TooBig) (.ref C_NoFate)=some false)(kit_TooBig_NoMachine:PySem.W.kitOne K (.ref C_TooBig) (.ref C_NoMachine)=some false)(kit_TooBig_NoReader:PySem.W.kitOne K (.ref C_TooBig) (.ref C_NoReader)=some false)(kit_TooBig_NoText:PySem.W.kitOne K (.ref C_TooBig) (.ref C_NoText)=some false)(kit_TooBig_NoWord:PySem.W.kitOne K (.ref C_TooBig) (.ref C_NoWord)=some false)(kit_TooBig_TooBig:PySem.W.kitOne K (.ref C_TooBig) (.ref C_TooBig)=some true)(kit_TooBig_Unlike:PySem.W.kitOne K (.ref C_TooBig) (.ref C_Unlike)=some false)(kit_TooBig_ValueError:PySem.W.kitOne K (.ref C_TooBig) (.type "ValueError")=some true)(kit_Unlike_NoFate:PySem.W.kitOne K (.ref C_Unlike) (.ref C_NoFate)=some false)(kit_Unlike_NoMachine:PySem.W.kitOne K (.ref C_Unlike) (.ref C_NoMachine)=some false)(kit_Unlike_NoReader:PySem.W.kitOne K (.ref C_Unlike) (.ref C_NoReader)=some false)(kit_Unlike_NoText:PySem.W.kitOne K (.ref C_Unlike) (.ref C_NoText)=some false)(kit_Unlike_NoWord:PySem.W.kitOne K (.ref C_Unlike) (.ref C_NoWord)=some false)(kit_Unlike_TooBig:PySem.W.kitOne K (.ref C_Unlike) (.ref C_TooBig)=some false)(kit_Unlike_Unlike:PySem.W.kitOne K (.ref C_Unlike) (.ref C_Unlike)=some true)(kit_Unlike_ValueError:PySem.W.kitOne K (.ref C_Unlike) (.type "ValueError")=some true)(kt_HeadError:PySem.W.ktsIn K C_HeadError "BaseException"=true)(mro_TooBig:PySem.W.mroIn K C_TooBig (.ref C_HeadError)=some true)(ne_TooBig:C_TooBig≠C_HeadError)(mro_Unlike:PySem.W.mroIn K C_Unlike (.ref C_HeadError)=some true)(ne_Unlike:C_Unlike≠C_HeadError)(mro_NoFate:PySem.W.mroIn K C_NoFate (.ref C_HeadError)=some true)(ne_NoFate:C_NoFate≠C_HeadError)(mro_NoWord:PySem.W.mroIn K C_NoWord (.ref C_HeadError)=some true)(ne_NoWord:C_NoWord≠C_HeadError)(mro_NoReader:PySem.W.mroIn K C_NoReader (.ref C_HeadError)=some true)(ne_NoReader:C_NoReader≠C_HeadError)(mro_NoMachine:PySem.W.mroIn K C_NoMachine (.ref C_HeadError)=some true)(ne_NoMachine:C_NoMachine≠C_HeadError):FnOk P w K mg base CX0 10 fa fd ["_law_script"] (spD K YY) :=
 zbV (k:=9) (N:=["_law_script","_law_letters","_law_machine_here","_law_reader_here","_law_kind","e","_law_own"]) (ps:=["_law_script"]) (f:=Uq) Fn xN fun cdv A outer s H E hr =>
  (zi (zX (i:=1) xN.nd rfl (Or.inl rfl) (zj zm zn zf (zq c_Fx hr (by decide) rfl (za (zc (pv 0)) (za zf (za zf ze)))))) (zi (zX (i:=2) xN.nd rfl (Or.inl rfl) (zq c_Fm hr (by decide) rfl (za (zc (pv 0)) (za zf (za (zc (pv 1)) (za zf ze)))))) (zi (zX (i:=3) xN.nd rfl (Or.inl rfl) (zq c_Fr hr (by decide) rfl (za (zc (pv 0)) (za zf (za (zc (pv 1)) (za zf ze)))))) (zi (zU (t_w (wr (zA (xX (Room.units hr)) zy (zq c_Ff hr (by decide) rfl (za (zc (pv 3)) ze)) (zc (pv 3)) (zo _)) (wL (xa (yq (zq c_Fw hr (by decide) rfl (za (zc (pv 1)) ze))))))) (zk (zH yD)) zB) (zi (zX (i:=4) xN.nd rfl (Or.inl rfl) (zq c_Fx hr (by decide) rfl (za (zc (pv 0)) (za zf (za zf ze))))) (zi (XL (ZJ (j:=5) (hb:=(fun a=>(zu (x0 6 (zY (zb (zE 5 a true) (zb (zE 5 a false) (zb (zE 5 a false) (zb (zE 5 a false) zg)))))) (zu (vp 6 (xL (zY (zb (zE 5 a false) (zb (zE 5 a false) zg))))) (zu (sIf (xOr (xT (zE 5 a false)) (xOr (yP (xT (zE 5 a true))) (xT (x2 (mEq true) (x2 wp (zd 6) (xC (.bl true))) (xC (.int 1)))))) (zL (xC (.bl false))) zD) (zL (x2 (mEq false) (x2 wo (zd 6) (xC (.bl true))) (zd 4)))))))) rfl rfl rf_f_law_case_NoMachine hr (by decide) rfl (by refine za ?_ ?_;(· exact (zc (pv 0)));refine za ?_ ?_;(· exact (zc (pv 4)));refine za ?_ ?_;(· exact (zq c_Fx hr (by decide) rfl (by refine za ?_ ?_;(· exact (zc (pv 0)));refine za ?_ ?_;(· exact zf);refine za ?_ ?_;(· exact (zj Zz ZH zf zf));exact ze)));refine za ?_ ?_;(· exact (zc (pv 2)));refine za ?_ ?_;(· exact (zc (pv 3)));exact ze) rfl n_HeadError EC_NoMachine.kt kt_HeadError mro_NoMachine ne_NoMachine xN.nd rfl rfl fun a oe hc=>by exact (zi (vA (i:=6) xN.nd rfl (Or.inl rfl) (z4 (by refine za ?_ ?_;(· exact (yd (yk EC_NoMachine.ek List.mem_cons_self hc (pv 5) rfl bi.isinstance (zO (v:=.ref C_NoMachine) rfl n_NoMachine rfl) (fun _ h=>h) kit_NoMachine_NoMachine)));refine za ?_ ?_;(· exact (yd (yk EC_NoMachine.ek List.mem_cons_self hc (pv 5) rfl bi.isinstance (zO (v:=.ref C_NoReader) rfl n_NoReader rfl) (fun _ h=>h) kit_NoMachine_NoReader)));refine za ?_ ?_;(· exact (yd (yk EC_NoMachine.ek List.mem_cons_self hc (pv 5) rfl bi.isinstance (zO (v:=.ref C_NoWord) rfl n_NoWord rfl) (fun _ h=>h) kit_NoMachine_NoWord)));refine za ?_ ?_;(· exact (yd (yk EC_NoMachine.ek List.mem_cons_self hc (pv 5) rfl bi.isinstance (zO (v:=.ref C_NoFate) rfl n_NoFate rfl) (fun _ h=>h) kit_NoMachine_NoFate)));exact ze))) (zi (Zo (i:=6) (h1:=y8 PySem.F.plainAttrs_list PySem.F.slot_list_extend PySem.F.type_list_extend wK (pv 6) (yf (z0 (z4 (by refine za ?_ ?_;(· exact (yd (yk EC_NoMachine.ek List.mem_cons_self hc (pv 5) rfl bi.isinstance (zO (v:=.ref C_Unlike) rfl n_Unlike rfl) (fun _ h=>h) kit_NoMachine_Unlike)));refine za ?_ ?_;(· exact (yd (yk EC_NoMachine.ek List.mem_cons_self hc (pv 5) rfl bi.isinstance (zO (v:=.ref C_TooBig) rfl n_TooBig rfl) (fun _ h=>h) kit_NoMachine_TooBig)));exact ze))) yx))) (zi (zU (t_w (wr (yq (yd (yk EC_NoMachine.ek List.mem_cons_self hc (pv 5) rfl bi.isinstance (zO (v:=.ref C_NoText) rfl n_NoText rfl) (fun _ h=>h) kit_NoMachine_NoText))) (wr (xa (yq (yd (yk EC_NoMachine.ek List.mem_cons_self hc (pv 5) rfl bi.isinstance (ut (v:=.ty "ValueError") rfl bi.ValueError Boot.«ValueError» rfl) (fun _ h=>h) kit_NoMachine_ValueError)))) (wL (zA (xX (by have h:=Room.units hr;exact h)) zy (u5 (y8 PySem.F.plainAttrs_list PySem.F.slot_list_count PySem.F.type_list_count (uB (by have h:=xB hr;exact h)) (zc (pv 6)) (yf yD yx))) zf (zo _)))))) (zk (zH yD)) zB) (zk (zH (v5 (zw (by have h:=Room.units hr;exact h)) zy (u0 (y8 PySem.F.plainAttrs_list PySem.F.slot_list_index PySem.F.type_list_index (ux (by have h:=xB hr;exact h)) (zc (pv 6)) (yf yD yx))) (zc (pv 4)) (zo _)))))))) (XL (ZJ (j:=5) (hb:=(fun a=>(zu (x0 6 (zY (zb (zE 5 a false) (zb (zE 5 a true) (zb (zE 5 a false) (zb (zE 5 a false) zg)))))) (zu (vp 6 (xL (zY (zb (zE 5 a false) (zb (zE 5 a false) zg))))) (zu (sIf (xOr (xT (zE 5 a false)) (xOr (yP (xT (zE 5 a true))) (xT (x2 (mEq true) (x2 wp (zd 6) (xC (.bl true))) (xC (.int 1)))))) (zL (xC (.bl false))) zD) (zL (x2 (mEq false) (x2 wo (zd 6) (xC (.bl true))) (zd 4)))))))) rfl rfl rf_f_law_case_NoReader hr (by decide) rfl (by refine za ?_ ?_;(· exact (zc (pv 0)));refine za ?_ ?_;(· exact (zc (pv 4)));refine za ?_ ?_;(· exact (zq c_Fx hr (by decide) rfl (by refine za ?_ ?_;(· exact (zc (pv 0)));refine za ?_ ?_;(· exact zf);refine za ?_ ?_;(· exact (zj Zz ZH zf zf));exact ze)));refine za ?_ ?_;(· exact (zc (pv 2)));refine za ?_ ?_;(· exact (zc (pv 3)));exact ze) rfl n_HeadError EC_NoReader.kt kt_HeadError mro_NoReader ne_NoReader xN.nd rfl rfl fun a oe hc=>by exact (zi (vA (i:=6) xN.nd rfl (Or.inl rfl) (z4 (by refine za ?_ ?_;(· exact (yd (yk EC_NoReader.ek List.mem_cons_self hc (pv 5) rfl bi.isinstance (zO (v:=.ref C_NoMachine) rfl n_NoMachine rfl) (fun _ h=>h) kit_NoReader_NoMachine)));refine za ?_ ?_;(· exact (yd (yk EC_NoReader.ek List.mem_cons_self hc (pv 5) rfl bi.isinstance (zO (v:=.ref C_NoReader) rfl n_NoReader rfl) (fun _ h=>h) kit_NoReader_NoReader)));refine za ?_ ?_;(· exact (yd (yk EC_NoReader.ek List.mem_cons_self hc (pv 5) rfl bi.isinstance (zO (v:=.ref C_NoWord) rfl n_NoWord rfl) (fun _ h=>h) kit_NoReader_NoWord)));refine za ?_ ?_;(· exact (yd (yk EC_NoReader.ek List.mem_cons_self hc (pv 5) rfl bi.isinstance (zO (v:=.ref C_NoFate) rfl n_NoFate rfl) (fun _ h=>h) kit_NoReader_NoFate)));exact ze))) (zi (Zo (i:=6) (h1:=y8 PySem.F.plainAttrs_list PySem.F.slot_list_extend PySem.F.type_list_extend wK (pv 6) (yf (z0 (z4 (by refine za ?_ ?_;(· exact (yd (yk EC_NoReader.ek List.mem_cons_self hc (pv 5) rfl bi.isinstance (zO (v:=.ref C_Unlike) rfl n_Unlike rfl) (fun _ h=>h) kit_NoReader_Unlike)));refine za ?_ ?_;(· exact (yd (yk EC_NoReader.ek List.mem_cons_self hc (pv 5) rfl bi.isinstance (zO (v:=.ref C_TooBig) rfl n_TooBig rfl) (fun _ h=>h) kit_NoReader_TooBig)));exact ze))) yx))) (zi (zU (t_w (wr (yq (yd (yk EC_NoReader.ek List.mem_cons_self hc (pv 5) rfl bi.isinstance (zO (v:=.ref C_NoText) rfl n_NoText rfl) (fun _ h=>h) kit_NoReader_NoText))) (wr (xa (yq (yd (yk EC_NoReader.ek List.mem_cons_self hc (pv 5) rfl bi.isinstance (ut (v:=.ty "ValueError") rfl bi.ValueError Boot.«ValueError» rfl) (fun _ h=>h) kit_NoReader_ValueError)))) (wL (zA (xX (by have h:=Room.units hr;exact h)) zy (u5 (y8 PySem.F.plainAttrs_list PySem.F.slot_list_count PySem.F.type_list_count (uB (by have h:=xB hr;exact h)) (zc (pv 6)) (yf yD yx))) zf (zo _)))))) (zk (zH yD)) zB) (zk (zH (v5 (zw (by have h:=Room.units hr;exact h)) zy (u0 (y8 PySem.F.plainAttrs_list PySem.F.slot_list_index PySem.F.type_list_index (ux (by have h:=xB hr;exact h)) (zc (pv 6)) (yf yD yx))) (zc (pv 4)) (zo _)))))))) (XL (ZJ (j:=5) (hb:=(fun a=>(zu (x0 6 (zY (zb (zE 5 a false) (zb (zE 5 a false) (zb (zE 5 a true) (zb (zE 5 a false) zg)))))) (zu (vp 6 (xL (zY (zb (zE 5 a false) (zb (zE 5 a false) zg))))) (zu (sIf (xOr (xT (zE 5 a false)) (xOr (yP (xT (zE 5 a true))) (xT (x2 (mEq true) (x2 wp (zd 6) (xC (.bl true))) (xC (.int 1)))))) (zL (xC (.bl false))) zD) (zL (x2 (mEq false) (x2 wo (zd 6) (xC (.bl true))) (zd 4)))))))) rfl rfl rf_f_law_case_NoWord hr (by decide) rfl (by refine za ?_ ?_;(· exact (zc (pv 0)));refine za ?_ ?_;(· exact (zc (pv 4)));refine za ?_ ?_;(· exact (zq c_Fx hr (by decide) rfl (by refine za ?_ ?_;(· exact (zc (pv 0)));refine za ?_ ?_;(· exact zf);refine za ?_ ?_;(· exact (zj Zz ZH zf zf));exact ze)));refine za ?_ ?_;(· exact (zc (pv 2)));refine za ?_ ?_;(· exact (zc (pv 3)));exact ze) rfl n_HeadError EC_NoWord.kt kt_HeadError mro_NoWord ne_NoWord xN.nd rfl rfl fun a oe hc=>by exact (zi (vA (i:=6) xN.nd rfl (Or.inl rfl) (z4 (by refine za ?_ ?_;(· exact (yd (yk EC_NoWord.ek List.mem_cons_self hc (pv 5) rfl bi.isinstance (zO (v:=.ref C_NoMachine) rfl n_NoMachine rfl) (fun _ h=>h) kit_NoWord_NoMachine)));refine za ?_ ?_;(· exact (yd (yk EC_NoWord.ek List.mem_cons_self hc (pv 5) rfl bi.isinstance (zO (v:=.ref C_NoReader) rfl n_NoReader rfl) (fun _ h=>h) kit_NoWord_NoReader)));refine za ?_ ?_;(· exact (yd (yk EC_NoWord.ek List.mem_cons_self hc (pv 5) rfl bi.isinstance (zO (v:=.ref C_NoWord) rfl n_NoWord rfl) (fun _ h=>h) kit_NoWord_NoWord)));refine za ?_ ?_;(· exact (yd (yk EC_NoWord.ek List.mem_cons_self hc (pv 5) rfl bi.isinstance (zO (v:=.ref C_NoFate) rfl n_NoFate rfl) (fun _ h=>h) kit_NoWord_NoFate)));exact ze))) (zi (Zo (i:=6) (h1:=y8 PySem.F.plainAttrs_list PySem.F.slot_list_extend PySem.F.type_list_extend wK (pv 6) (yf (z0 (z4 (by refine za ?_ ?_;(· exact (yd (yk EC_NoWord.ek List.mem_cons_self hc (pv 5) rfl bi.isinstance (zO (v:=.ref C_Unlike) rfl n_Unlike rfl) (fun _ h=>h) kit_NoWord_Unlike)));refine za ?_ ?_;(· exact (yd (yk EC_NoWord.ek List.mem_cons_self hc (pv 5) rfl bi.isinstance (zO (v:=.ref C_TooBig) rfl n_TooBig rfl) (fun _ h=>h) kit_NoWord_TooBig)));exact ze))) yx))) (zi (zU (t_w (wr (yq (yd (yk EC_NoWord.ek List.mem_cons_self hc (pv 5) rfl bi.isinstance (zO (v:=.ref C_NoText) rfl n_NoText rfl) (fun _ h=>h) kit_NoWord_NoText))) (wr (xa (yq (yd (yk EC_NoWord.ek List.mem_cons_self hc (pv 5) rfl bi.isinstance (ut (v:=.ty "ValueError") rfl bi.ValueError Boot.«ValueError» rfl) (fun _ h=>h) kit_NoWord_ValueError)))) (wL (zA (xX (by have h:=Room.units hr;exact h)) zy (u5 (y8 PySem.F.plainAttrs_list PySem.F.slot_list_count PySem.F.type_list_count (uB (by have h:=xB hr;exact h)) (zc (pv 6)) (yf yD yx))) zf (zo _)))))) (zk (zH yD)) zB) (zk (zH (v5 (zw (by have h:=Room.units hr;exact h)) zy (u0 (y8 PySem.F.plainAttrs_list PySem.F.slot_list_index PySem.F.type_list_index (ux (by have h:=xB hr;exact h)) (zc (pv 6)) (yf yD yx))) (zc (pv 4)) (zo _)))))))) (XL (ZJ (j:=5) (hb:=(fun a=>(zu (x0 6 (zY (zb (zE 5 a false) (zb (zE 5 a false) (zb (zE 5 a false) (zb (zE 5 a true) zg)))))) (zu (vp 6 (xL (zY (zb (zE 5 a false) (zb (zE 5 a false) zg))))) (zu (sIf (xOr (xT (zE 5 a false)) (xOr (yP (xT (zE 5 a true))) (xT (x2 (mEq true) (x2 wp (zd 6) (xC (.bl true))) (xC (.int 1)))))) (zL (xC (.bl false))) zD) (zL (x2 (mEq false) (x2 wo (zd 6) (xC (.bl true))) (zd 4)))))))) rfl rfl rf_f_law_case_NoFate hr (by decide) rfl (by refine za ?_ ?_;(· exact (zc (pv 0)));refine za ?_ ?_;(· exact (zc (pv 4)));refine za ?_ ?_;(· exact (zq c_Fx hr (by decide) rfl (by refine za ?_ ?_;(· exact (zc (pv 0)));refine za ?_ ?_;(· exact zf);refine za ?_ ?_;(· exact (zj Zz ZH zf zf));exact ze)));refine za ?_ ?_;(· exact (zc (pv 2)));refine za ?_ ?_;(· exact (zc (pv 3)));exact ze) rfl n_HeadError EC_NoFate.kt kt_HeadError mro_NoFate ne_NoFate xN.nd rfl rfl fun a oe hc=>by exact (zi (vA (i:=6) xN.nd rfl (Or.inl rfl) (z4 (by refine za ?_ ?_;(· exact (yd (yk EC_NoFate.ek List.mem_cons_self hc (pv 5) rfl bi.isinstance (zO (v:=.ref C_NoMachine) rfl n_NoMachine rfl) (fun _ h=>h) kit_NoFate_NoMachine)));refine za ?_ ?_;(· exact (yd (yk EC_NoFate.ek List.mem_cons_self hc (pv 5) rfl bi.isinstance (zO (v:=.ref C_NoReader) rfl n_NoReader rfl) (fun _ h=>h) kit_NoFate_NoReader)));refine za ?_ ?_;(· exact (yd (yk EC_NoFate.ek List.mem_cons_self hc (pv 5) rfl bi.isinstance (zO (v:=.ref C_NoWord) rfl n_NoWord rfl) (fun _ h=>h) kit_NoFate_NoWord)));refine za ?_ ?_;(· exact (yd (yk EC_NoFate.ek List.mem_cons_self hc (pv 5) rfl bi.isinstance (zO (v:=.ref C_NoFate) rfl n_NoFate rfl) (fun _ h=>h) kit_NoFate_NoFate)));exact ze))) (zi (Zo (i:=6) (h1:=y8 PySem.F.plainAttrs_list PySem.F.slot_list_extend PySem.F.type_list_extend wK (pv 6) (yf (z0 (z4 (by refine za ?_ ?_;(· exact (yd (yk EC_NoFate.ek List.mem_cons_self hc (pv 5) rfl bi.isinstance (zO (v:=.ref C_Unlike) rfl n_Unlike rfl) (fun _ h=>h) kit_NoFate_Unlike)));refine za ?_ ?_;(· exact (yd (yk EC_NoFate.ek List.mem_cons_self hc (pv 5) rfl bi.isinstance (zO (v:=.ref C_TooBig) rfl n_TooBig rfl) (fun _ h=>h) kit_NoFate_TooBig)));exact ze))) yx))) (zi (zU (t_w (wr (yq (yd (yk EC_NoFate.ek List.mem_cons_self hc (pv 5) rfl bi.isinstance (zO (v:=.ref C_NoText) rfl n_NoText rfl) (fun _ h=>h) kit_NoFate_NoText))) (wr (xa (yq (yd (yk EC_NoFate.ek List.mem_cons_self hc (pv 5) rfl bi.isinstance (ut (v:=.ty "ValueError") rfl bi.ValueError Boot.«ValueError» rfl) (fun _ h=>h) kit_NoFate_ValueError)))) (wL (zA (xX (by have h:=Room.units hr;exact h)) zy (u5 (y8 PySem.F.plainAttrs_list PySem.F.slot_list_count PySem.F.type_list_count (uB (by have h:=xB hr;exact h)) (zc (pv 6)) (yf yD yx))) zf (zo _)))))) (zk (zH yD)) zB) (zk (zH (v5 (zw (by have h:=Room.units hr;exact h)) zy (u0 (y8 PySem.F.plainAttrs_list PySem.F.slot_list_index PySem.F.type_list_index (ux (by have h:=xB hr;exact h)) (zc (pv 6)) (yf yD yx))) (zc (pv 4)) (zo _)))))))) (XL (ZJ (j:=5) (hb:=(fun a=>(zu (x0 6 (zY (zb (zE 5 a false) (zb (zE 5 a false) (zb (zE 5 a false) (zb (zE 5 a false) zg)))))) (zu (vp 6 (xL (zY (zb (zE 5 a true) (zb (zE 5 a false) zg))))) (zu (sIf (xOr (xT (zE 5 a false)) (xOr (yP (xT (zE 5 a true))) (xT (x2 (mEq true) (x2 wp (zd 6) (xC (.bl true))) (xC (.int 1)))))) (zL (xC (.bl false))) zD) (zL (x2 (mEq false) (x2 wo (zd 6) (xC (.bl true))) (zd 4)))))))) rfl rfl rf_f_law_case_Unlike hr (by decide) rfl (by refine za ?_ ?_;(· exact (zc (pv 0)));refine za ?_ ?_;(· exact (zc (pv 4)));refine za ?_ ?_;(· exact (zq c_Fx hr (by decide) rfl (by refine za ?_ ?_;(· exact (zc (pv 0)));refine za ?_ ?_;(· exact zf);refine za ?_ ?_;(· exact (zj Zz ZH zf zf));exact ze)));refine za ?_ ?_;(· exact (zc (pv 2)));refine za ?_ ?_;(· exact (zc (pv 3)));exact ze) rfl n_HeadError EC_Unlike.kt kt_HeadError mro_Unlike ne_Unlike xN.nd rfl rfl fun a oe hc=>by exact (zi (vA (i:=6) xN.nd rfl (Or.inl rfl) (z4 (by refine za ?_ ?_;(· exact (yd (yk EC_Unlike.ek List.mem_cons_self hc (pv 5) rfl bi.isinstance (zO (v:=.ref C_NoMachine) rfl n_NoMachine rfl) (fun _ h=>h) kit_Unlike_NoMachine)));refine za ?_ ?_;(· exact (yd (yk EC_Unlike.ek List.mem_cons_self hc (pv 5) rfl bi.isinstance (zO (v:=.ref C_NoReader) rfl n_NoReader rfl) (fun _ h=>h) kit_Unlike_NoReader)));refine za ?_ ?_;(· exact (yd (yk EC_Unlike.ek List.mem_cons_self hc (pv 5) rfl bi.isinstance (zO (v:=.ref C_NoWord) rfl n_NoWord rfl) (fun _ h=>h) kit_Unlike_NoWord)));refine za ?_ ?_;(· exact (yd (yk EC_Unlike.ek List.mem_cons_self hc (pv 5) rfl bi.isinstance (zO (v:=.ref C_NoFate) rfl n_NoFate rfl) (fun _ h=>h) kit_Unlike_NoFate)));exact ze))) (zi (Zo (i:=6) (h1:=y8 PySem.F.plainAttrs_list PySem.F.slot_list_extend PySem.F.type_list_extend wK (pv 6) (yf (z0 (z4 (by refine za ?_ ?_;(· exact (yd (yk EC_Unlike.ek List.mem_cons_self hc (pv 5) rfl bi.isinstance (zO (v:=.ref C_Unlike) rfl n_Unlike rfl) (fun _ h=>h) kit_Unlike_Unlike)));refine za ?_ ?_;(· exact (yd (yk EC_Unlike.ek List.mem_cons_self hc (pv 5) rfl bi.isinstance (zO (v:=.ref C_TooBig) rfl n_TooBig rfl) (fun _ h=>h) kit_Unlike_TooBig)));exact ze))) yx))) (zi (zU (t_w (wr (yq (yd (yk EC_Unlike.ek List.mem_cons_self hc (pv 5) rfl bi.isinstance (zO (v:=.ref C_NoText) rfl n_NoText rfl) (fun _ h=>h) kit_Unlike_NoText))) (wr (xa (yq (yd (yk EC_Unlike.ek List.mem_cons_self hc (pv 5) rfl bi.isinstance (ut (v:=.ty "ValueError") rfl bi.ValueError Boot.«ValueError» rfl) (fun _ h=>h) kit_Unlike_ValueError)))) (wL (zA (xX (by have h:=Room.units hr;exact h)) zy (u5 (y8 PySem.F.plainAttrs_list PySem.F.slot_list_count PySem.F.type_list_count (uB (by have h:=xB hr;exact h)) (zc (pv 6)) (yf yD yx))) zf (zo _)))))) (zk (zH yD)) zB) (zk (zH (v5 (zw (by have h:=Room.units hr;exact h)) zy (u0 (y8 PySem.F.plainAttrs_list PySem.F.slot_list_index PySem.F.type_list_index (ux (by have h:=xB hr;exact h)) (zc (pv 6)) (yf yD yx))) (zc (pv 4)) (zo _)))))))) (ZJ (j:=5) (hb:=(fun a=>(zu (x0 6 (zY (zb (zE 5 a false) (zb (zE 5 a false) (zb (zE 5 a false) (zb (zE 5 a false) zg)))))) (zu (vp 6 (xL (zY (zb (zE 5 a false) (zb (zE 5 a true) zg))))) (zu (sIf (xOr (xT (zE 5 a false)) (xOr (yP (xT (zE 5 a true))) (xT (x2 (mEq true) (x2 wp (zd 6) (xC (.bl true))) (xC (.int 1)))))) (zL (xC (.bl false))) zD) (zL (x2 (mEq false) (x2 wo (zd 6) (xC (.bl true))) (zd 4)))))))) rfl rfl rf_f_law_case_TooBig hr (by decide) rfl (by refine za ?_ ?_;(· exact (zc (pv 0)));refine za ?_ ?_;(· exact (zc (pv 4)));refine za ?_ ?_;(· exact (zq c_Fx hr (by decide) rfl (by refine za ?_ ?_;(· exact (zc (pv 0)));refine za ?_ ?_;(· exact zf);refine za ?_ ?_;(· exact (zj Zz ZH zf zf));exact ze)));refine za ?_ ?_;(· exact (zc (pv 2)));refine za ?_ ?_;(· exact (zc (pv 3)));exact ze) rfl n_HeadError EC_TooBig.kt kt_HeadError mro_TooBig ne_TooBig xN.nd rfl rfl fun a oe hc=>by exact (zi (vA (i:=6) xN.nd rfl (Or.inl rfl) (z4 (by refine za ?_ ?_;(· exact (yd (yk EC_TooBig.ek List.mem_cons_self hc (pv 5) rfl bi.isinstance (zO (v:=.ref C_NoMachine) rfl n_NoMachine rfl) (fun _ h=>h) kit_TooBig_NoMachine)));refine za ?_ ?_;(· exact (yd (yk EC_TooBig.ek List.mem_cons_self hc (pv 5) rfl bi.isinstance (zO (v:=.ref C_NoReader) rfl n_NoReader rfl) (fun _ h=>h) kit_TooBig_NoReader)));refine za ?_ ?_;(· exact (yd (yk EC_TooBig.ek List.mem_cons_self hc (pv 5) rfl bi.isinstance (zO (v:=.ref C_NoWord) rfl n_NoWord rfl) (fun _ h=>h) kit_TooBig_NoWord)));refine za ?_ ?_;(· exact (yd (yk EC_TooBig.ek List.mem_cons_self hc (pv 5) rfl bi.isinstance (zO (v:=.ref C_NoFate) rfl n_NoFate rfl) (fun _ h=>h) kit_TooBig_NoFate)));exact ze))) (zi (Zo (i:=6) (h1:=y8 PySem.F.plainAttrs_list PySem.F.slot_list_extend PySem.F.type_list_extend wK (pv 6) (yf (z0 (z4 (by refine za ?_ ?_;(· exact (yd (yk EC_TooBig.ek List.mem_cons_self hc (pv 5) rfl bi.isinstance (zO (v:=.ref C_Unlike) rfl n_Unlike rfl) (fun _ h=>h) kit_TooBig_Unlike)));refine za ?_ ?_;(· exact (yd (yk EC_TooBig.ek List.mem_cons_self hc (pv 5) rfl bi.isinstance (zO (v:=.ref C_TooBig) rfl n_TooBig rfl) (fun _ h=>h) kit_TooBig_TooBig)));exact ze))) yx))) (zi (zU (t_w (wr (yq (yd (yk EC_TooBig.ek List.mem_cons_self hc (pv 5) rfl bi.isinstance (zO (v:=.ref C_NoText) rfl n_NoText rfl) (fun _ h=>h) kit_TooBig_NoText))) (wr (xa (yq (yd (yk EC_TooBig.ek List.mem_cons_self hc (pv 5) rfl bi.isinstance (ut (v:=.ty "ValueError") rfl bi.ValueError Boot.«ValueError» rfl) (fun _ h=>h) kit_TooBig_ValueError)))) (wL (zA (xX (by have h:=Room.units hr;exact h)) zy (u5 (y8 PySem.F.plainAttrs_list PySem.F.slot_list_count PySem.F.type_list_count (uB (by have h:=xB hr;exact h)) (zc (pv 6)) (yf yD yx))) zf (zo _)))))) (zk (zH yD)) zB) (zk (zH (v5 (zw (by have h:=Room.units hr;exact h)) zy (u0 (y8 PySem.F.plainAttrs_list PySem.F.slot_list_index PySem.F.type_list_index (ux (by have h:=xB hr;exact h)) (zc (pv 6)) (yf yD yx))) (zc (pv 4)) (zo _))))))))))))) (zk (zH yD))))))))
end
theorem zcU{l:PySem.W.OpenLaw}{w:World}{K:PySem.W.Frag}{h:Heap}{mg:Str→Option Value}{fa:Addr}(X:K.In h)(Gm:h.Ns mainGlobals mg)(hfa:mg "law"=some (.ref fa)) 
  {a_Ft:Addr} (n_Ft:PySem.W.nsIn K mainGlobals "is_number"=some (some (.ref a_Ft)))
  (h_Ft:∃fd,Fun K "is_number" "is_number" JF a_Ft fd)
  {a_Fao:Addr} (n_Fao:PySem.W.nsIn K mainGlobals "is_row"=some (some (.ref a_Fao)))
  (h_Fao:∃fd,Fun K "is_row" "is_row" Ux a_Fao fd)
  {a_Fal:Addr} (n_Fal:PySem.W.nsIn K mainGlobals "ways_at"=some (some (.ref a_Fal)))
  (h_Fal:∃fd,Fun K "ways_at" "ways_at" Uy a_Fal fd)
  {a_Faj:Addr} (n_Faj:PySem.W.nsIn K mainGlobals "is_move"=some (some (.ref a_Faj)))
  (h_Faj:∃fd,Fun K "is_move" "is_move" Uz a_Faj fd)
  {a_Fak:Addr} (n_Fak:PySem.W.nsIn K mainGlobals "is_room"=some (some (.ref a_Fak)))
  (h_Fak:∃fd,Fun K "is_room" "is_room" UA a_Fak fd)
  {a_Fq:Addr} (n_Fq:PySem.W.nsIn K mainGlobals "is_machine"=some (some (.ref a_Fq)))
  (h_Fq:∃fd,Fun K "is_machine" "is_machine" JG a_Fq fd)
  {a_Fai:Addr} (n_Fai:PySem.W.nsIn K mainGlobals "checked"=some (some (.ref a_Fai)))
  (h_Fai:∃fd,Fun K "checked" "checked" WI a_Fai fd)
  {a_Fj:Addr} (n_Fj:PySem.W.nsIn K mainGlobals "checked_word"=some (some (.ref a_Fj)))
  (h_Fj:∃fd,Fun K "checked_word" "checked_word" JH a_Fj fd)
  {a_Fba:Addr} (n_Fba:PySem.W.nsIn K mainGlobals "run"=some (some (.ref a_Fba)))
  (h_Fba:∃fd,Fun K "run" "run" WJ a_Fba fd)
  {a_Fat:Addr} (n_Fat:PySem.W.nsIn K mainGlobals "doing"=some (some (.ref a_Fat)))
  (h_Fat:∃fd,Fun K "doing" "doing" WK a_Fat fd)
  {a_Fam:Addr} (n_Fam:PySem.W.nsIn K mainGlobals "doings"=some (some (.ref a_Fam)))
  (h_Fam:∃fd,Fun K "doings" "doings" UB a_Fam fd)
  {a_Fn:Addr} (n_Fn:PySem.W.nsIn K mainGlobals "are_stands"=some (some (.ref a_Fn)))
  (h_Fn:∃fd,Fun K "are_stands" "are_stands" JI a_Fn fd)
  {a_Fv:Addr} (n_Fv:PySem.W.nsIn K mainGlobals "is_rising"=some (some (.ref a_Fv)))
  (h_Fv:∃fd,Fun K "is_rising" "is_rising" JJ a_Fv fd)
  {a_Fu:Addr} (n_Fu:PySem.W.nsIn K mainGlobals "is_reader"=some (some (.ref a_Fu)))
  (h_Fu:∃fd,Fun K "is_reader" "is_reader" JK a_Fu fd)
  {a_Ff:Addr} (n_Ff:PySem.W.nsIn K mainGlobals "checked_reader"=some (some (.ref a_Ff)))
  (h_Ff:∃fd,Fun K "checked_reader" "checked_reader" UC a_Ff fd)
  {a_Faw:Addr} (n_Faw:PySem.W.nsIn K mainGlobals "takes"=some (some (.ref a_Faw)))
  (h_Faw:∃fd,Fun K "takes" "takes" WL a_Faw fd)
  {a_Fae:Addr} (n_Fae:PySem.W.nsIn K mainGlobals "marks_of"=some (some (.ref a_Fae)))
  (h_Fae:∃fd,Fun K "marks_of" "marks_of" UD a_Fae fd)
  {a_Fau:Addr} (n_Fau:PySem.W.nsIn K mainGlobals "least"=some (some (.ref a_Fau)))
  (h_Fau:∃fd,Fun K "least" "least" UE a_Fau fd)
  {a_Fz:Addr} (n_Fz:PySem.W.nsIn K mainGlobals "reader_of"=some (some (.ref a_Fz)))
  (h_Fz:∃fd,Fun K "reader_of" "reader_of" UF a_Fz fd)
  {a_Fah:Addr} (n_Fah:PySem.W.nsIn K mainGlobals "pairs_of"=some (some (.ref a_Fah)))
  (h_Fah:∃fd,Fun K "pairs_of" "pairs_of" WM a_Fah fd)
  {a_Fap:Addr} (n_Fap:PySem.W.nsIn K mainGlobals "joined"=some (some (.ref a_Fap)))
  (h_Fap:∃fd,Fun K "joined" "joined" WN a_Fap fd)
  {a_Fax:Addr} (n_Fax:PySem.W.nsIn K mainGlobals "both"=some (some (.ref a_Fax)))
  (h_Fax:∃fd,Fun K "both" "both" WO a_Fax fd)
  {a_Fan:Addr} (n_Fan:PySem.W.nsIn K mainGlobals "either"=some (some (.ref a_Fan)))
  (h_Fan:∃fd,Fun K "either" "either" WP a_Fan fd)
  {a_Fay:Addr} (n_Fay:PySem.W.nsIn K mainGlobals "less"=some (some (.ref a_Fay)))
  (h_Fay:∃fd,Fun K "less" "less" WQ a_Fay fd)
  {a_Faa:Addr} (n_Faa:PySem.W.nsIn K mainGlobals "contrary"=some (some (.ref a_Faa)))
  (h_Faa:∃fd,Fun K "contrary" "contrary" UG a_Faa fd)
  {a_Fa:Addr} (n_Fa:PySem.W.nsIn K mainGlobals "first_joined_word"=some (some (.ref a_Fa)))
  (h_Fa:∃fd,Fun K "first_joined_word" "first_joined_word" UH a_Fa fd)
  {a_Fas:Addr} (n_Fas:PySem.W.nsIn K mainGlobals "alike"=some (some (.ref a_Fas)))
  (h_Fas:∃fd,Fun K "alike" "alike" WS a_Fas fd)
  {a_Far:Addr} (n_Far:PySem.W.nsIn K mainGlobals "within"=some (some (.ref a_Far)))
  (h_Far:∃fd,Fun K "within" "within" WT a_Far fd)
  {a_Fp:Addr} (n_Fp:PySem.W.nsIn K mainGlobals "first_word"=some (some (.ref a_Fp)))
  (h_Fp:∃fd,Fun K "first_word" "first_word" JL a_Fp fd)
  {a_Fab:Addr} (n_Fab:PySem.W.nsIn K mainGlobals "how_many"=some (some (.ref a_Fab)))
  (h_Fab:∃fd,Fun K "how_many" "how_many" UI a_Fab fd)
  {a_Fo:Addr} (n_Fo:PySem.W.nsIn K mainGlobals "check_size"=some (some (.ref a_Fo)))
  (h_Fo:∃fd,Fun K "check_size" "check_size" UJ a_Fo fd)
  {a_Fag:Addr} (n_Fag:PySem.W.nsIn K mainGlobals "moved_on"=some (some (.ref a_Fag)))
  (h_Fag:∃fd,Fun K "moved_on" "moved_on" UK a_Fag fd)
  {a_Faf:Addr} (n_Faf:PySem.W.nsIn K mainGlobals "mirrored"=some (some (.ref a_Faf)))
  (h_Faf:∃fd,Fun K "mirrored" "mirrored" UL a_Faf fd)
  {a_Fi:Addr} (n_Fi:PySem.W.nsIn K mainGlobals "mirrored_room"=some (some (.ref a_Fi)))
  (h_Fi:∃fd,Fun K "mirrored_room" "mirrored_room" JM a_Fi fd)
  {a_Faq:Addr} (n_Faq:PySem.W.nsIn K mainGlobals "turned"=some (some (.ref a_Faq)))
  (h_Faq:∃fd,Fun K "turned" "turned" XW a_Faq fd)
  {a_Fb:Addr} (n_Fb:PySem.W.nsIn K mainGlobals "with_yes_going_on"=some (some (.ref a_Fb)))
  (h_Fb:∃fd,Fun K "with_yes_going_on" "with_yes_going_on" JN a_Fb fd)
  {a_Fy:Addr} (n_Fy:PySem.W.nsIn K mainGlobals "one_after"=some (some (.ref a_Fy)))
  (h_Fy:∃fd,Fun K "one_after" "one_after" Wj a_Fy fd)
  {a_Fs:Addr} (n_Fs:PySem.W.nsIn K mainGlobals "machine_of"=some (some (.ref a_Fs)))
  (h_Fs:∃fd,Fun K "machine_of" "machine_of" UM a_Fs fd)
  {a_Fav:Addr} (n_Fav:PySem.W.nsIn K mainGlobals "shown"=some (some (.ref a_Fav)))
  (h_Fav:∃fd,Fun K "shown" "shown" UN a_Fav fd)
  {a_Fl:Addr} (n_Fl:PySem.W.nsIn K mainGlobals "_law_cell_at"=some (some (.ref a_Fl)))
  (h_Fl:∃fd,Fun K "_law_cell_at" "_law_cell_at" JO a_Fl fd)
  {a_Fx:Addr} (n_Fx:PySem.W.nsIn K mainGlobals "_law_mixed"=some (some (.ref a_Fx)))
  (h_Fx:∃fd,Fun K "_law_mixed" "_law_mixed" JP a_Fx fd)
  {a_Fad:Addr} (n_Fad:PySem.W.nsIn K mainGlobals "_law_move"=some (some (.ref a_Fad)))
  (h_Fad:∃fd,Fun K "_law_move" "_law_move" UO a_Fad fd)
  {a_Fm:Addr} (n_Fm:PySem.W.nsIn K mainGlobals "_law_machine"=some (some (.ref a_Fm)))
  (h_Fm:∃fd,Fun K "_law_machine" "_law_machine" JQ a_Fm fd)
  {a_Fr:Addr} (n_Fr:PySem.W.nsIn K mainGlobals "_law_reader"=some (some (.ref a_Fr)))
  (h_Fr:∃fd,Fun K "_law_reader" "_law_reader" JR a_Fr fd)
  {a_Fc:Addr} (n_Fc:PySem.W.nsIn K mainGlobals "_law_with_machine"=some (some (.ref a_Fc)))
  (h_Fc:∃fd,Fun K "_law_with_machine" "_law_with_machine" JS a_Fc fd)
  {a_Fe:Addr} (n_Fe:PySem.W.nsIn K mainGlobals "_law_with_reader"=some (some (.ref a_Fe)))
  (h_Fe:∃fd,Fun K "_law_with_reader" "_law_with_reader" JT a_Fe fd)
  {a_Fh:Addr} (n_Fh:PySem.W.nsIn K mainGlobals "_law_with_word"=some (some (.ref a_Fh)))
  (h_Fh:∃fd,Fun K "_law_with_word" "_law_with_word" JU a_Fh fd)
  {a_Fk:Addr} (n_Fk:PySem.W.nsIn K mainGlobals "_law_with_two"=some (some (.ref a_Fk)))
  (h_Fk:∃fd,Fun K "_law_with_two" "_law_with_two" JV a_Fk fd)
  {a_Fd:Addr} (n_Fd:PySem.W.nsIn K mainGlobals "_law_bad_machine"=some (some (.ref a_Fd)))
  (h_Fd:∃fd,Fun K "_law_bad_machine" "_law_bad_machine" JW a_Fd fd)
  {a_Fg:Addr} (n_Fg:PySem.W.nsIn K mainGlobals "_law_bad_reader"=some (some (.ref a_Fg)))
  (h_Fg:∃fd,Fun K "_law_bad_reader" "_law_bad_reader" JX a_Fg fd)
  {a_Fac:Addr} (n_Fac:PySem.W.nsIn K mainGlobals "_law_case"=some (some (.ref a_Fac)))
  (h_Fac:∃fd,Fun K "_law_case" "_law_case" Zp a_Fac fd)
  {a_Fw:Addr} (n_Fw:PySem.W.nsIn K mainGlobals "_law_edges"=some (some (.ref a_Fw)))
  (h_Fw:∃fd,Fun K "_law_edges" "_law_edges" JY a_Fw fd)
  {a_Faz:Addr} (n_Faz:PySem.W.nsIn K mainGlobals "law"=some (some (.ref a_Faz)))
  (h_Faz:∃fd,Fun K "law" "law" Yg a_Faz fd)
  (z_ValueError:PySem.W.nsIn K mainGlobals "ValueError"=some none)
  (z_all:PySem.W.nsIn K mainGlobals "all"=some none)
  (z_bool:PySem.W.nsIn K mainGlobals "bool"=some none)
  (z_enumerate:PySem.W.nsIn K mainGlobals "enumerate"=some none)
  (z_int:PySem.W.nsIn K mainGlobals "int"=some none)
  (z_isinstance:PySem.W.nsIn K mainGlobals "isinstance"=some none)
  (z_len:PySem.W.nsIn K mainGlobals "len"=some none)
  (z_list:PySem.W.nsIn K mainGlobals "list"=some none)
  (z_range:PySem.W.nsIn K mainGlobals "range"=some none)
  (z_str:PySem.W.nsIn K mainGlobals "str"=some none)
  (z_tuple:PySem.W.nsIn K mainGlobals "tuple"=some none)
  {a_ENDS:Addr} {dd_ENDS:Option Addr} {m_ENDS:Nat} {sl_ENDS:Array (Option Value)} {t0_ENDS t1_ENDS:Tok} (n_ENDS:PySem.W.nsIn K mainGlobals "ENDS"=some (some (.ref a_ENDS)))
  (l_ENDS:K.lookup a_ENDS=some ⟨.type "tuple",dd_ENDS,.seq #[.str "yes" t0_ENDS,.str "no" t1_ENDS] m_ENDS,sl_ENDS⟩)
  {a_FATES:Addr} {dd_FATES:Option Addr} {m_FATES:Nat} {sl_FATES:Array (Option Value)} {t0_FATES t1_FATES t2_FATES:Tok} (n_FATES:PySem.W.nsIn K mainGlobals "FATES"=some (some (.ref a_FATES)))
  (l_FATES:K.lookup a_FATES=some ⟨.type "tuple",dd_FATES,.seq #[.str "yes" t0_FATES,.str "no" t1_FATES,.str "round" t2_FATES] m_FATES,sl_FATES⟩)
  {t_MOST_LETTERS:Tok} (n_MOST_LETTERS:PySem.W.nsIn K mainGlobals "MOST_LETTERS"=some (some (.int 3 t_MOST_LETTERS)))
  {t_MOST_ROOMS:Tok} (n_MOST_ROOMS:PySem.W.nsIn K mainGlobals "MOST_ROOMS"=some (some (.int 12 t_MOST_ROOMS)))
  {t_MOST_STANDS:Tok} (n_MOST_STANDS:PySem.W.nsIn K mainGlobals "MOST_STANDS"=some (some (.int 2000 t_MOST_STANDS)))
  {ad_IN_BOTH:Addr} (no_IN_BOTH:PySem.W.nsIn K mainGlobals "IN_BOTH"=some (some (.ref ad_IN_BOTH)))
  {ad_IN_EITHER:Addr} (no_IN_EITHER:PySem.W.nsIn K mainGlobals "IN_EITHER"=some (some (.ref ad_IN_EITHER)))
  {ad_IN_JUST_ONE:Addr} (no_IN_JUST_ONE:PySem.W.nsIn K mainGlobals "IN_JUST_ONE"=some (some (.ref ad_IN_JUST_ONE)))
  {ad_IN_ONE_ALONE:Addr} (no_IN_ONE_ALONE:PySem.W.nsIn K mainGlobals "IN_ONE_ALONE"=some (some (.ref ad_IN_ONE_ALONE)))
  {fa_f_explored:Addr} (nka_f_explored:PySem.W.nsIn K mainGlobals "explored"=some (some (.ref fa_f_explored)))
  (kb_f_explored:PySem.W.keepIn K (.ref fa_f_explored)=true)
  {C_HeadError:Addr} (n_HeadError:PySem.W.nsIn K mainGlobals "HeadError"=some (some (.ref C_HeadError)))
  {C_NoFate:Addr} (n_NoFate:PySem.W.nsIn K mainGlobals "NoFate"=some (some (.ref C_NoFate)))
  {C_NoMachine:Addr} (n_NoMachine:PySem.W.nsIn K mainGlobals "NoMachine"=some (some (.ref C_NoMachine)))
  {C_NoReader:Addr} (n_NoReader:PySem.W.nsIn K mainGlobals "NoReader"=some (some (.ref C_NoReader)))
  {C_NoText:Addr} (n_NoText:PySem.W.nsIn K mainGlobals "NoText"=some (some (.ref C_NoText)))
  {C_NoWord:Addr} (n_NoWord:PySem.W.nsIn K mainGlobals "NoWord"=some (some (.ref C_NoWord)))
  {C_TooBig:Addr} (n_TooBig:PySem.W.nsIn K mainGlobals "TooBig"=some (some (.ref C_TooBig)))
  {C_Unlike:Addr} (n_Unlike:PySem.W.nsIn K mainGlobals "Unlike"=some (some (.ref C_Unlike)))
  (qex_NoMachine:PySem.W.excIn K C_NoMachine [.type "ValueError",.type "Exception",.type "BaseException",.type "object"] "ValueError.__new__"=true)
  (qkt_NoMachine:PySem.W.ktsIn K C_NoMachine "BaseException"=true)
  (qga_NoMachine:PySem.W.findIn K (.ref C_NoMachine) "__getattribute__"=some (some (.builtin "BaseException.__getattribute__")))
  (qgn_NoMachine:PySem.W.findIn K (.ref C_NoMachine) "__getattr__"=some none)
  (qca_NoMachine:PySem.W.findIn K (.ref C_NoMachine) "__class__"=some (some (.builtin "object.__class__")))
  (qcg_NoMachine:PySem.W.specialIn K (.builtin "object.__class__") "__get__"=some (some (.builtin "getset_descriptor.__get__")))
  (qtk_NoMachine:PySem.W.takesIn K (.builtin "object.__class__")=some true)
  (qmo_NoMachine:PySem.W.mroIn K C_NoMachine (.type "object")=some true)
  (qsb_NoMachine:PySem.W.subIn K (.ref C_NoMachine) (.type "BaseException")=some true)
  (qex_NoReader:PySem.W.excIn K C_NoReader [.type "ValueError",.type "Exception",.type "BaseException",.type "object"] "ValueError.__new__"=true)
  (qkt_NoReader:PySem.W.ktsIn K C_NoReader "BaseException"=true)
  (qga_NoReader:PySem.W.findIn K (.ref C_NoReader) "__getattribute__"=some (some (.builtin "BaseException.__getattribute__")))
  (qgn_NoReader:PySem.W.findIn K (.ref C_NoReader) "__getattr__"=some none)
  (qca_NoReader:PySem.W.findIn K (.ref C_NoReader) "__class__"=some (some (.builtin "object.__class__")))
  (qcg_NoReader:PySem.W.specialIn K (.builtin "object.__class__") "__get__"=some (some (.builtin "getset_descriptor.__get__")))
  (qtk_NoReader:PySem.W.takesIn K (.builtin "object.__class__")=some true)
  (qmo_NoReader:PySem.W.mroIn K C_NoReader (.type "object")=some true)
  (qsb_NoReader:PySem.W.subIn K (.ref C_NoReader) (.type "BaseException")=some true)
  (qex_NoWord:PySem.W.excIn K C_NoWord [.type "ValueError",.type "Exception",.type "BaseException",.type "object"] "ValueError.__new__"=true)
  (qkt_NoWord:PySem.W.ktsIn K C_NoWord "BaseException"=true)
  (qga_NoWord:PySem.W.findIn K (.ref C_NoWord) "__getattribute__"=some (some (.builtin "BaseException.__getattribute__")))
  (qgn_NoWord:PySem.W.findIn K (.ref C_NoWord) "__getattr__"=some none)
  (qca_NoWord:PySem.W.findIn K (.ref C_NoWord) "__class__"=some (some (.builtin "object.__class__")))
  (qcg_NoWord:PySem.W.specialIn K (.builtin "object.__class__") "__get__"=some (some (.builtin "getset_descriptor.__get__")))
  (qtk_NoWord:PySem.W.takesIn K (.builtin "object.__class__")=some true)
  (qmo_NoWord:PySem.W.mroIn K C_NoWord (.type "object")=some true)
  (qsb_NoWord:PySem.W.subIn K (.ref C_NoWord) (.type "BaseException")=some true)
  (qex_NoFate:PySem.W.excIn K C_NoFate [.type "ValueError",.type "Exception",.type "BaseException",.type "object"] "ValueError.__new__"=true)
  (qkt_NoFate:PySem.W.ktsIn K C_NoFate "BaseException"=true)
  (qga_NoFate:PySem.W.findIn K (.ref C_NoFate) "__getattribute__"=some (some (.builtin "BaseException.__getattribute__")))
  (qgn_NoFate:PySem.W.findIn K (.ref C_NoFate) "__getattr__"=some none)
  (qca_NoFate:PySem.W.findIn K (.ref C_NoFate) "__class__"=some (some (.builtin "object.__class__")))
  (qcg_NoFate:PySem.W.specialIn K (.builtin "object.__class__") "__get__"=some (some (.builtin "getset_descriptor.__get__")))
  (qtk_NoFate:PySem.W.takesIn K (.builtin "object.__class__")=some true)
  (qmo_NoFate:PySem.W.mroIn K C_NoFate (.type "object")=some true)
  (qsb_NoFate:PySem.W.subIn K (.ref C_NoFate) (.type "BaseException")=some true)
  (qex_Unlike:PySem.W.excIn K C_Unlike [.type "ValueError",.type "Exception",.type "BaseException",.type "object"] "ValueError.__new__"=true)
  (qkt_Unlike:PySem.W.ktsIn K C_Unlike "BaseException"=true)
  (qga_Unlike:PySem.W.findIn K (.ref C_Unlike) "__getattribute__"=some (some (.builtin "BaseException.__getattribute__")))
  (qgn_Unlike:PySem.W.findIn K (.ref C_Unlike) "__getattr__"=some none)
  (qca_Unlike:PySem.W.findIn K (.ref C_Unlike) "__class__"=some (some (.builtin "object.__class__")))
  (qcg_Unlike:PySem.W.specialIn K (.builtin "object.__class__") "__get__"=some (some (.builtin "getset_descriptor.__get__")))
  (qtk_Unlike:PySem.W.takesIn K (.builtin "object.__class__")=some true)
  (qmo_Unlike:PySem.W.mroIn K C_Unlike (.type "object")=some true)
  (qsb_Unlike:PySem.W.subIn K (.ref C_Unlike) (.type "BaseException")=some true)
  (qex_TooBig:PySem.W.excIn K C_TooBig [.type "ValueError",.type "Exception",.type "BaseException",.type "object"] "ValueError.__new__"=true)
  (qkt_TooBig:PySem.W.ktsIn K C_TooBig "BaseException"=true)
  (qga_TooBig:PySem.W.findIn K (.ref C_TooBig) "__getattribute__"=some (some (.builtin "BaseException.__getattribute__")))
  (qgn_TooBig:PySem.W.findIn K (.ref C_TooBig) "__getattr__"=some none)
  (qca_TooBig:PySem.W.findIn K (.ref C_TooBig) "__class__"=some (some (.builtin "object.__class__")))
  (qcg_TooBig:PySem.W.specialIn K (.builtin "object.__class__") "__get__"=some (some (.builtin "getset_descriptor.__get__")))
  (qtk_TooBig:PySem.W.takesIn K (.builtin "object.__class__")=some true)
  (qmo_TooBig:PySem.W.mroIn K C_TooBig (.type "object")=some true)
  (qsb_TooBig:PySem.W.subIn K (.ref C_TooBig) (.type "BaseException")=some true)
  (kit_NoFate_NoFate:PySem.W.kitOne K (.ref C_NoFate) (.ref C_NoFate)=some true)
  (kit_NoFate_NoMachine:PySem.W.kitOne K (.ref C_NoFate) (.ref C_NoMachine)=some false)
  (kit_NoFate_NoReader:PySem.W.kitOne K (.ref C_NoFate) (.ref C_NoReader)=some false)
  (kit_NoFate_NoText:PySem.W.kitOne K (.ref C_NoFate) (.ref C_NoText)=some false)
  (kit_NoFate_NoWord:PySem.W.kitOne K (.ref C_NoFate) (.ref C_NoWord)=some false)
  (kit_NoFate_TooBig:PySem.W.kitOne K (.ref C_NoFate) (.ref C_TooBig)=some false)
  (kit_NoFate_Unlike:PySem.W.kitOne K (.ref C_NoFate) (.ref C_Unlike)=some false)
  (kit_NoFate_ValueError:PySem.W.kitOne K (.ref C_NoFate) (.type "ValueError")=some true)
  (kit_NoMachine_NoFate:PySem.W.kitOne K (.ref C_NoMachine) (.ref C_NoFate)=some false)
  (kit_NoMachine_NoMachine:PySem.W.kitOne K (.ref C_NoMachine) (.ref C_NoMachine)=some true)
  (kit_NoMachine_NoReader:PySem.W.kitOne K (.ref C_NoMachine) (.ref C_NoReader)=some false)
  (kit_NoMachine_NoText:PySem.W.kitOne K (.ref C_NoMachine) (.ref C_NoText)=some false)
  (kit_NoMachine_NoWord:PySem.W.kitOne K (.ref C_NoMachine) (.ref C_NoWord)=some false)
  (kit_NoMachine_TooBig:PySem.W.kitOne K (.ref C_NoMachine) (.ref C_TooBig)=some false)
  (kit_NoMachine_Unlike:PySem.W.kitOne K (.ref C_NoMachine) (.ref C_Unlike)=some false)
  (kit_NoMachine_ValueError:PySem.W.kitOne K (.ref C_NoMachine) (.type "ValueError")=some true)
  (kit_NoReader_NoFate:PySem.W.kitOne K (.ref C_NoReader) (.ref C_NoFate)=some false)
  (kit_NoReader_NoMachine:PySem.W.kitOne K (.ref C_NoReader) (.ref C_NoMachine)=some false)
  (kit_NoReader_NoReader:PySem.W.kitOne K (.ref C_NoReader) (.ref C_NoReader)=some true)
  (kit_NoReader_NoText:PySem.W.kitOne K (.ref C_NoReader) (.ref C_NoText)=some false)
  (kit_NoReader_NoWord:PySem.W.kitOne K (.ref C_NoReader) (.ref C_NoWord)=some false)
  (kit_NoReader_TooBig:PySem.W.kitOne K (.ref C_NoReader) (.ref C_TooBig)=some false)
  (kit_NoReader_Unlike:PySem.W.kitOne K (.ref C_NoReader) (.ref C_Unlike)=some false)
  (kit_NoReader_ValueError:PySem.W.kitOne K (.ref C_NoReader) (.type "ValueError")=some true)
  (kit_NoWord_NoFate:PySem.W.kitOne K (.ref C_NoWord) (.ref C_NoFate)=some false)
  (kit_NoWord_NoMachine:PySem.W.kitOne K (.ref C_NoWord) (.ref C_NoMachine)=some false)
  (kit_NoWord_NoReader:PySem.W.kitOne K (.ref C_NoWord) (.ref C_NoReader)=some false)
  (kit_NoWord_NoText:PySem.W.kitOne K (.ref C_NoWord) (.ref C_NoText)=some false)
  (kit_NoWord_NoWord:PySem.W.kitOne K (.ref C_NoWord) (.ref C_NoWord)=some true)
  (kit_NoWord_TooBig:PySem.W.kitOne K (.ref C_NoWord) (.ref C_TooBig)=some false)
  (kit_NoWord_Unlike:PySem.W.kitOne K (.ref C_NoWord) (.ref C_Unlike)=some false)
  (kit_NoWord_ValueError:PySem.W.kitOne K (.ref C_NoWord) (.type "ValueError")=some true)
  (kit_TooBig_NoFate:PySem.W.kitOne K (.ref C_TooBig) (.ref C_NoFate)=some false)
  (kit_TooBig_NoMachine:PySem.W.kitOne K (.ref C_TooBig) (.ref C_NoMachine)=some false)
  (kit_TooBig_NoReader:PySem.W.kitOne K (.ref C_TooBig) (.ref C_NoReader)=some false)
  (kit_TooBig_NoText:PySem.W.kitOne K (.ref C_TooBig) (.ref C_NoText)=some false)
  (kit_TooBig_NoWord:PySem.W.kitOne K (.ref C_TooBig) (.ref C_NoWord)=some false)
  (kit_TooBig_TooBig:PySem.W.kitOne K (.ref C_TooBig) (.ref C_TooBig)=some true)
  (kit_TooBig_Unlike:PySem.W.kitOne K (.ref C_TooBig) (.ref C_Unlike)=some false)
  (kit_TooBig_ValueError:PySem.W.kitOne K (.ref C_TooBig) (.type "ValueError")=some true)
  (kit_Unlike_NoFate:PySem.W.kitOne K (.ref C_Unlike) (.ref C_NoFate)=some false)
  (kit_Unlike_NoMachine:PySem.W.kitOne K (.ref C_Unlike) (.ref C_NoMachine)=some false)
  (kit_Unlike_NoReader:PySem.W.kitOne K (.ref C_Unlike) (.ref C_NoReader)=some false)
  (kit_Unlike_NoText:PySem.W.kitOne K (.ref C_Unlike) (.ref C_NoText)=some false)
  (kit_Unlike_NoWord:PySem.W.kitOne K (.ref C_Unlike) (.ref C_NoWord)=some false)
  (kit_Unlike_TooBig:PySem.W.kitOne K (.ref C_Unlike) (.ref C_TooBig)=some false)
  (kit_Unlike_Unlike:PySem.W.kitOne K (.ref C_Unlike) (.ref C_Unlike)=some true)
  (kit_Unlike_ValueError:PySem.W.kitOne K (.ref C_Unlike) (.type "ValueError")=some true)
  (kt_HeadError:PySem.W.ktsIn K C_HeadError "BaseException"=true)
  (mro_NoMachine:PySem.W.mroIn K C_NoMachine (.ref C_HeadError)=some true)
  (ne_NoMachine:C_NoMachine≠C_HeadError)
  (mro_NoReader:PySem.W.mroIn K C_NoReader (.ref C_HeadError)=some true)
  (ne_NoReader:C_NoReader≠C_HeadError)
  (mro_NoWord:PySem.W.mroIn K C_NoWord (.ref C_HeadError)=some true)
  (ne_NoWord:C_NoWord≠C_HeadError)
  (mro_NoFate:PySem.W.mroIn K C_NoFate (.ref C_HeadError)=some true)
  (ne_NoFate:C_NoFate≠C_HeadError)
  (mro_Unlike:PySem.W.mroIn K C_Unlike (.ref C_HeadError)=some true)
  (ne_Unlike:C_Unlike≠C_HeadError)
  (mro_TooBig:PySem.W.mroIn K C_TooBig (.ref C_HeadError)=some true)
  (ne_TooBig:C_TooBig≠C_HeadError) :
  ∃fd:FuncData,(∀(s:Shared) (v:Value),BindsTo s fd ⟨[v],[]⟩ [("_law_script",v)])∧∀base:Heap,K.In base→base.Ns mainGlobals mg→FnOk l.prog w K mg base CX0 10 fa fd ["_law_script"] (spD K YY):=by
 have e:=hfa.symm.trans (PySem.W.mg_of X Gm n_Faz)
 cases e
 have bi:Bi mg:=⟨PySem.W.mg_none_of X Gm z_ValueError,PySem.W.mg_none_of X Gm z_all,PySem.W.mg_none_of X Gm z_bool,PySem.W.mg_none_of X Gm z_enumerate,PySem.W.mg_none_of X Gm z_int,PySem.W.mg_none_of X Gm z_isinstance,PySem.W.mg_none_of X Gm z_len,PySem.W.mg_none_of X Gm z_list,PySem.W.mg_none_of X Gm z_range,PySem.W.mg_none_of X Gm z_str,PySem.W.mg_none_of X Gm z_tuple⟩
 have g_ENDS:GlobT K mg "ENDS" [(.str "yes"),(.str "no")]:=XF ["yes","no"] (PySem.W.mg_of X Gm n_ENDS) l_ENDS (by show 2≤sizeLine;decide) (.cons ⟨_,rfl⟩ (.cons ⟨_,rfl⟩ (.nil)))
 have g_FATES:GlobT K mg "FATES" [(.str "yes"),(.str "no"),(.str "round")]:=XF ["yes","no","round"] (PySem.W.mg_of X Gm n_FATES) l_FATES (by show 3≤sizeLine;decide) (.cons ⟨_,rfl⟩ (.cons ⟨_,rfl⟩ (.cons ⟨_,rfl⟩ (.nil))))
 have g_MOST_LETTERS:=PySem.W.mg_of X Gm n_MOST_LETTERS
 have g_MOST_ROOMS:=PySem.W.mg_of X Gm n_MOST_ROOMS
 have g_MOST_STANDS:=PySem.W.mg_of X Gm n_MOST_STANDS
 have o_IN_BOTH:=PySem.W.mg_of X Gm no_IN_BOTH
 have o_IN_EITHER:=PySem.W.mg_of X Gm no_IN_EITHER
 have o_IN_JUST_ONE:=PySem.W.mg_of X Gm no_IN_JUST_ONE
 have o_IN_ONE_ALONE:=PySem.W.mg_of X Gm no_IN_ONE_ALONE
 have ka_f_explored:=PySem.W.mg_of X Gm nka_f_explored
 obtain ⟨_,F_Ft⟩:=h_Ft
 obtain ⟨_,F_Fao⟩:=h_Fao
 obtain ⟨_,F_Fal⟩:=h_Fal
 obtain ⟨_,F_Faj⟩:=h_Faj
 obtain ⟨_,F_Fak⟩:=h_Fak
 obtain ⟨_,F_Fq⟩:=h_Fq
 obtain ⟨_,F_Fai⟩:=h_Fai
 obtain ⟨_,F_Fj⟩:=h_Fj
 obtain ⟨_,F_Fba⟩:=h_Fba
 obtain ⟨_,F_Fat⟩:=h_Fat
 obtain ⟨_,F_Fam⟩:=h_Fam
 obtain ⟨_,F_Fn⟩:=h_Fn
 obtain ⟨_,F_Fv⟩:=h_Fv
 obtain ⟨_,F_Fu⟩:=h_Fu
 obtain ⟨_,F_Ff⟩:=h_Ff
 obtain ⟨_,F_Faw⟩:=h_Faw
 obtain ⟨_,F_Fae⟩:=h_Fae
 obtain ⟨_,F_Fau⟩:=h_Fau
 obtain ⟨_,F_Fz⟩:=h_Fz
 obtain ⟨_,F_Fah⟩:=h_Fah
 obtain ⟨_,F_Fap⟩:=h_Fap
 obtain ⟨_,F_Fax⟩:=h_Fax
 obtain ⟨_,F_Fan⟩:=h_Fan
 obtain ⟨_,F_Fay⟩:=h_Fay
 obtain ⟨_,F_Faa⟩:=h_Faa
 obtain ⟨_,F_Fa⟩:=h_Fa
 obtain ⟨_,F_Fas⟩:=h_Fas
 obtain ⟨_,F_Far⟩:=h_Far
 obtain ⟨_,F_Fp⟩:=h_Fp
 obtain ⟨_,F_Fab⟩:=h_Fab
 obtain ⟨_,F_Fo⟩:=h_Fo
 obtain ⟨_,F_Fag⟩:=h_Fag
 obtain ⟨_,F_Faf⟩:=h_Faf
 obtain ⟨_,F_Fi⟩:=h_Fi
 obtain ⟨_,F_Faq⟩:=h_Faq
 obtain ⟨_,F_Fb⟩:=h_Fb
 obtain ⟨_,F_Fy⟩:=h_Fy
 obtain ⟨_,F_Fs⟩:=h_Fs
 obtain ⟨_,F_Fav⟩:=h_Fav
 obtain ⟨_,F_Fl⟩:=h_Fl
 obtain ⟨_,F_Fx⟩:=h_Fx
 obtain ⟨_,F_Fad⟩:=h_Fad
 obtain ⟨_,F_Fm⟩:=h_Fm
 obtain ⟨_,F_Fr⟩:=h_Fr
 obtain ⟨_,F_Fc⟩:=h_Fc
 obtain ⟨_,F_Fe⟩:=h_Fe
 obtain ⟨_,F_Fh⟩:=h_Fh
 obtain ⟨_,F_Fk⟩:=h_Fk
 obtain ⟨_,F_Fd⟩:=h_Fd
 obtain ⟨_,F_Fg⟩:=h_Fg
 obtain ⟨_,F_Fac⟩:=h_Fac
 obtain ⟨_,F_Fw⟩:=h_Fw
 obtain ⟨_,⟨oc,od,kV,dc,pm,an,cd,ct,sl,rfl,l_Faz,e_Faz⟩,k_Faz⟩:=h_Faz
 refine ⟨PySem.W.fnOf "law" "law" (ZA Yg) (vz Yg) (zr Yg) .none kV dc pm an cd ct,fun s v=>.of_eq rfl,fun base _ _=>?_⟩
 have EC_NoMachine:ErrC K mg "NoMachine" C_NoMachine:=X7 (PySem.W.mg_of X Gm n_NoMachine) qex_NoMachine qkt_NoMachine qga_NoMachine qgn_NoMachine qca_NoMachine qcg_NoMachine qtk_NoMachine qmo_NoMachine qsb_NoMachine
 have EC_NoReader:ErrC K mg "NoReader" C_NoReader:=X7 (PySem.W.mg_of X Gm n_NoReader) qex_NoReader qkt_NoReader qga_NoReader qgn_NoReader qca_NoReader qcg_NoReader qtk_NoReader qmo_NoReader qsb_NoReader
 have EC_NoWord:ErrC K mg "NoWord" C_NoWord:=X7 (PySem.W.mg_of X Gm n_NoWord) qex_NoWord qkt_NoWord qga_NoWord qgn_NoWord qca_NoWord qcg_NoWord qtk_NoWord qmo_NoWord qsb_NoWord
 have EC_NoFate:ErrC K mg "NoFate" C_NoFate:=X7 (PySem.W.mg_of X Gm n_NoFate) qex_NoFate qkt_NoFate qga_NoFate qgn_NoFate qca_NoFate qcg_NoFate qtk_NoFate qmo_NoFate qsb_NoFate
 have EC_Unlike:ErrC K mg "Unlike" C_Unlike:=X7 (PySem.W.mg_of X Gm n_Unlike) qex_Unlike qkt_Unlike qga_Unlike qgn_Unlike qca_Unlike qcg_Unlike qtk_Unlike qmo_Unlike qsb_Unlike
 have EC_TooBig:ErrC K mg "TooBig" C_TooBig:=X7 (PySem.W.mg_of X Gm n_TooBig) qex_TooBig qkt_TooBig qga_TooBig qgn_TooBig qca_TooBig qcg_TooBig qtk_TooBig qmo_TooBig qsb_TooBig
 have c_Ft:=zdw (P:=l.prog) (w:=w) (base:=base) F_Ft (PySem.W.mg_of X Gm n_Ft) bi
 have c_Fao:=zcA (P:=l.prog) (w:=w) (base:=base) F_Fao (PySem.W.mg_of X Gm n_Fao) bi
 have c_Fal:=zcC (P:=l.prog) (w:=w) (base:=base) F_Fal (PySem.W.mg_of X Gm n_Fal) bi
 have c_Faj:=zcE (P:=l.prog) (w:=w) (base:=base) F_Faj (PySem.W.mg_of X Gm n_Faj) bi c_Fao c_Ft g_ENDS
 have c_Fak:=zcG (P:=l.prog) (w:=w) (base:=base) F_Fak (PySem.W.mg_of X Gm n_Fak) bi c_Fao c_Fal c_Faj
 have c_Fq:=zdx (P:=l.prog) (w:=w) (base:=base) F_Fq (PySem.W.mg_of X Gm n_Fq) bi c_Fao c_Ft c_Fak g_MOST_LETTERS g_MOST_ROOMS
 have c_Fai:=zcH (P:=l.prog) (w:=w) (base:=base) F_Fai (PySem.W.mg_of X Gm n_Fai) bi c_Fq
 have rf_f_checked_NoMachine:=Zg (P:=l.prog) (w:=w) (base:=base) F_Fai (PySem.W.mg_of X Gm n_Fai) bi c_Fq EC_NoMachine
 have rf_f_checked_word_NoWord:=uS (P:=l.prog) (w:=w) (base:=base) F_Fj (PySem.W.mg_of X Gm n_Fj) bi c_Ft EC_NoWord
 have rf_f_run_NoMachine:=Yh (P:=l.prog) (w:=w) (base:=base) F_Fba (PySem.W.mg_of X Gm n_Fba) bi EC_NoMachine rf_f_checked_NoMachine
 have rf_f_run_NoWord:=Xm (P:=l.prog) (w:=w) (base:=base) F_Fba (PySem.W.mg_of X Gm n_Fba) bi c_Fai EC_NoWord rf_f_checked_word_NoWord
 have rf_f_doing_NoMachine:=ZR (P:=l.prog) (w:=w) (base:=base) F_Fat (PySem.W.mg_of X Gm n_Fat) bi EC_NoMachine rf_f_checked_NoMachine
 have rf_f_doing_NoWord:=YH (P:=l.prog) (w:=w) (base:=base) F_Fat (PySem.W.mg_of X Gm n_Fat) bi c_Fai EC_NoWord rf_f_checked_word_NoWord
 have rf_f_doings_NoMachine:=Zu (P:=l.prog) (w:=w) (base:=base) F_Fam (PySem.W.mg_of X Gm n_Fam) bi ka_f_explored kb_f_explored EC_NoMachine rf_f_checked_NoMachine
 have c_Fn:=zdA (P:=l.prog) (w:=w) (base:=base) F_Fn (PySem.W.mg_of X Gm n_Fn) bi c_Ft
 have c_Fv:=zdC (P:=l.prog) (w:=w) (base:=base) F_Fv (PySem.W.mg_of X Gm n_Fv) bi
 have c_Fu:=zdD (P:=l.prog) (w:=w) (base:=base) F_Fu (PySem.W.mg_of X Gm n_Fu) bi c_Fao c_Ft c_Fn c_Fv g_MOST_LETTERS g_MOST_STANDS
 have c_Ff:=zdE (P:=l.prog) (w:=w) (base:=base) F_Ff (PySem.W.mg_of X Gm n_Ff) bi c_Fu
 have rf_f_checked_reader_NoReader:=uo (P:=l.prog) (w:=w) (base:=base) F_Ff (PySem.W.mg_of X Gm n_Ff) bi c_Fu EC_NoReader
 have rf_f_takes_NoReader:=Yc (P:=l.prog) (w:=w) (base:=base) F_Faw (PySem.W.mg_of X Gm n_Faw) bi EC_NoReader rf_f_checked_reader_NoReader
 have rf_f_takes_NoWord:=YI (P:=l.prog) (w:=w) (base:=base) F_Faw (PySem.W.mg_of X Gm n_Faw) bi c_Ff EC_NoWord rf_f_checked_word_NoWord
 have c_Fae:=zcJ (P:=l.prog) (w:=w) (base:=base) F_Fae (PySem.W.mg_of X Gm n_Fae) bi
 have rf_f_least_NoReader:=Yd (P:=l.prog) (w:=w) (base:=base) F_Fau (PySem.W.mg_of X Gm n_Fau) bi EC_NoReader rf_f_checked_reader_NoReader
 have rf_f_reader_of_NoMachine:=uT (P:=l.prog) (w:=w) (base:=base) F_Fz (PySem.W.mg_of X Gm n_Fz) bi EC_NoMachine rf_f_checked_NoMachine
 have rf_f_reader_of_NoFate:=Zv (P:=l.prog) (w:=w) (base:=base) F_Fz (PySem.W.mg_of X Gm n_Fz) bi c_Fai g_FATES EC_NoFate
 have rf_f_pairs_of_NoReader:=Zh (P:=l.prog) (w:=w) (base:=base) F_Fah (PySem.W.mg_of X Gm n_Fah) bi c_Ff EC_NoReader rf_f_checked_reader_NoReader
 have rf_f_pairs_of_Unlike:=ZS (P:=l.prog) (w:=w) (base:=base) F_Fah (PySem.W.mg_of X Gm n_Fah) bi c_Ff EC_Unlike
 have rf_f_joined_NoReader:=ZT (P:=l.prog) (w:=w) (base:=base) F_Fap (PySem.W.mg_of X Gm n_Fap) bi EC_NoReader rf_f_pairs_of_NoReader
 have rf_f_joined_Unlike:=Yi (P:=l.prog) (w:=w) (base:=base) F_Fap (PySem.W.mg_of X Gm n_Fap) bi EC_Unlike rf_f_pairs_of_Unlike
 have rf_f_both_NoReader:=Yj (P:=l.prog) (w:=w) (base:=base) F_Fax (PySem.W.mg_of X Gm n_Fax) bi o_IN_BOTH EC_NoReader rf_f_joined_NoReader
 have rf_f_both_Unlike:=Y5 (P:=l.prog) (w:=w) (base:=base) F_Fax (PySem.W.mg_of X Gm n_Fax) bi o_IN_BOTH EC_Unlike rf_f_joined_Unlike
 have rf_f_either_NoReader:=ZU (P:=l.prog) (w:=w) (base:=base) F_Fan (PySem.W.mg_of X Gm n_Fan) bi o_IN_EITHER EC_NoReader rf_f_joined_NoReader
 have rf_f_either_Unlike:=Yk (P:=l.prog) (w:=w) (base:=base) F_Fan (PySem.W.mg_of X Gm n_Fan) bi o_IN_EITHER EC_Unlike rf_f_joined_Unlike
 have rf_f_less_NoReader:=Yl (P:=l.prog) (w:=w) (base:=base) F_Fay (PySem.W.mg_of X Gm n_Fay) bi o_IN_ONE_ALONE EC_NoReader rf_f_joined_NoReader
 have rf_f_less_Unlike:=Y6 (P:=l.prog) (w:=w) (base:=base) F_Fay (PySem.W.mg_of X Gm n_Fay) bi o_IN_ONE_ALONE EC_Unlike rf_f_joined_Unlike
 have rf_f_contrary_NoReader:=Zi (P:=l.prog) (w:=w) (base:=base) F_Faa (PySem.W.mg_of X Gm n_Faa) bi EC_NoReader rf_f_checked_reader_NoReader
 have rf_f_first_joined_word_NoReader:=vV (P:=l.prog) (w:=w) (base:=base) F_Fa (PySem.W.mg_of X Gm n_Fa) bi EC_NoReader rf_f_pairs_of_NoReader
 have rf_f_first_joined_word_Unlike:=ul (P:=l.prog) (w:=w) (base:=base) F_Fa (PySem.W.mg_of X Gm n_Fa) bi EC_Unlike rf_f_pairs_of_Unlike
 have rf_f_alike_NoReader:=Ye (P:=l.prog) (w:=w) (base:=base) F_Fas (PySem.W.mg_of X Gm n_Fas) bi o_IN_JUST_ONE EC_NoReader rf_f_first_joined_word_NoReader
 have rf_f_alike_Unlike:=YJ (P:=l.prog) (w:=w) (base:=base) F_Fas (PySem.W.mg_of X Gm n_Fas) bi o_IN_JUST_ONE EC_Unlike rf_f_first_joined_word_Unlike
 have rf_f_within_NoReader:=ZV (P:=l.prog) (w:=w) (base:=base) F_Far (PySem.W.mg_of X Gm n_Far) bi o_IN_ONE_ALONE EC_NoReader rf_f_first_joined_word_NoReader
 have rf_f_within_Unlike:=Ym (P:=l.prog) (w:=w) (base:=base) F_Far (PySem.W.mg_of X Gm n_Far) bi o_IN_ONE_ALONE EC_Unlike rf_f_first_joined_word_Unlike
 have rf_f_first_word_NoReader:=uU (P:=l.prog) (w:=w) (base:=base) F_Fp (PySem.W.mg_of X Gm n_Fp) bi EC_NoReader rf_f_least_NoReader
 have rf_f_how_many_NoReader:=Zj (P:=l.prog) (w:=w) (base:=base) F_Fab (PySem.W.mg_of X Gm n_Fab) bi EC_NoReader rf_f_least_NoReader
 have c_Fo:=zdF (P:=l.prog) (w:=w) (base:=base) F_Fo (PySem.W.mg_of X Gm n_Fo) bi g_MOST_ROOMS
 have rf_f_check_size_TooBig:=Zk (P:=l.prog) (w:=w) (base:=base) F_Fo (PySem.W.mg_of X Gm n_Fo) bi g_MOST_ROOMS EC_TooBig
 have c_Fag:=zcN (P:=l.prog) (w:=w) (base:=base) F_Fag (PySem.W.mg_of X Gm n_Fag) bi
 have c_Faf:=zcP (P:=l.prog) (w:=w) (base:=base) F_Faf (PySem.W.mg_of X Gm n_Faf) bi
 have c_Fi:=zdG (P:=l.prog) (w:=w) (base:=base) F_Fi (PySem.W.mg_of X Gm n_Fi) bi c_Faf
 have c_Faq:=zcQ (P:=l.prog) (w:=w) (base:=base) F_Faq (PySem.W.mg_of X Gm n_Faq) bi c_Fai c_Fo c_Faf c_Fi
 have rf_f_turned_NoMachine:=Zw (P:=l.prog) (w:=w) (base:=base) F_Faq (PySem.W.mg_of X Gm n_Faq) bi EC_NoMachine rf_f_checked_NoMachine
 have rf_f_turned_TooBig:=Yn (P:=l.prog) (w:=w) (base:=base) F_Faq (PySem.W.mg_of X Gm n_Faq) bi c_Fai EC_TooBig rf_f_check_size_TooBig
 have c_Fb:=zdH (P:=l.prog) (w:=w) (base:=base) F_Fb (PySem.W.mg_of X Gm n_Fb) bi
 have c_Fy:=zdI (P:=l.prog) (w:=w) (base:=base) F_Fy (PySem.W.mg_of X Gm n_Fy) bi c_Fai c_Fo c_Fb c_Fag
 have rf_f_one_after_NoMachine:=uV (P:=l.prog) (w:=w) (base:=base) F_Fy (PySem.W.mg_of X Gm n_Fy) bi c_Fai EC_NoMachine rf_f_checked_NoMachine
 have rf_f_one_after_Unlike:=Zx (P:=l.prog) (w:=w) (base:=base) F_Fy (PySem.W.mg_of X Gm n_Fy) bi c_Fai EC_Unlike
 have rf_f_one_after_TooBig:=Zy (P:=l.prog) (w:=w) (base:=base) F_Fy (PySem.W.mg_of X Gm n_Fy) bi c_Fai EC_TooBig rf_f_check_size_TooBig
 have c_Fs:=zdJ (P:=l.prog) (w:=w) (base:=base) F_Fs (PySem.W.mg_of X Gm n_Fs) bi c_Ff c_Fo c_Fae
 have rf_f_machine_of_NoReader:=uW (P:=l.prog) (w:=w) (base:=base) F_Fs (PySem.W.mg_of X Gm n_Fs) bi EC_NoReader rf_f_checked_reader_NoReader
 have rf_f_shown_NoMachine:=ZW (P:=l.prog) (w:=w) (base:=base) F_Fav (PySem.W.mg_of X Gm n_Fav) bi EC_NoMachine rf_f_checked_NoMachine
 have c_Fl:=zdL (P:=l.prog) (w:=w) (base:=base) F_Fl (PySem.W.mg_of X Gm n_Fl) bi
 have c_Fx:=zdM (P:=l.prog) (w:=w) (base:=base) F_Fx (PySem.W.mg_of X Gm n_Fx) bi c_Fl
 have c_Fad:=zcS (P:=l.prog) (w:=w) (base:=base) F_Fad (PySem.W.mg_of X Gm n_Fad) bi c_Fx
 have c_Fm:=zdN (P:=l.prog) (w:=w) (base:=base) F_Fm (PySem.W.mg_of X Gm n_Fm) bi c_Fx c_Fad
 have c_Fr:=zdO (P:=l.prog) (w:=w) (base:=base) F_Fr (PySem.W.mg_of X Gm n_Fr) bi c_Fx
 have rf_f_law_with_machine_NoMachine:=vW (P:=l.prog) (w:=w) (base:=base) F_Fc (PySem.W.mg_of X Gm n_Fc) bi c_Fy c_Faq EC_NoMachine rf_f_run_NoMachine rf_f_doing_NoMachine rf_f_doings_NoMachine rf_f_reader_of_NoMachine rf_f_turned_NoMachine rf_f_one_after_NoMachine rf_f_shown_NoMachine
 have rf_f_law_with_reader_NoReader:=um (P:=l.prog) (w:=w) (base:=base) F_Fe (PySem.W.mg_of X Gm n_Fe) bi c_Fs c_Ff EC_NoReader rf_f_checked_reader_NoReader rf_f_takes_NoReader rf_f_least_NoReader rf_f_contrary_NoReader rf_f_first_word_NoReader rf_f_how_many_NoReader rf_f_machine_of_NoReader rf_f_both_NoReader rf_f_either_NoReader rf_f_less_NoReader rf_f_alike_NoReader rf_f_within_NoReader
 have rf_f_law_with_word_NoWord:=uO (P:=l.prog) (w:=w) (base:=base) F_Fh (PySem.W.mg_of X Gm n_Fh) bi EC_NoWord rf_f_run_NoWord rf_f_doing_NoWord rf_f_takes_NoWord
 have rf_f_law_with_two_Unlike:=uX (P:=l.prog) (w:=w) (base:=base) F_Fk (PySem.W.mg_of X Gm n_Fk) bi c_Fy EC_Unlike rf_f_one_after_Unlike rf_f_both_Unlike rf_f_either_Unlike rf_f_less_Unlike rf_f_alike_Unlike rf_f_within_Unlike
 have c_Fd:=zdS (P:=l.prog) (w:=w) (base:=base) F_Fd (PySem.W.mg_of X Gm n_Fd) bi
 have c_Fg:=zdT (P:=l.prog) (w:=w) (base:=base) F_Fg (PySem.W.mg_of X Gm n_Fg) bi
 have rf_f_law_case_NoMachine:=Zf (P:=l.prog) (w:=w) (base:=base) F_Fac (PySem.W.mg_of X Gm n_Fac) bi c_Fd c_Faq EC_NoMachine rf_f_law_with_machine_NoMachine rf_f_reader_of_NoMachine rf_f_turned_NoMachine rf_f_one_after_NoMachine
 have rf_f_law_case_NoReader:=Zl (P:=l.prog) (w:=w) (base:=base) F_Fac (PySem.W.mg_of X Gm n_Fac) bi c_Fg EC_NoReader rf_f_law_with_reader_NoReader
 have rf_f_law_case_NoWord:=ZX (P:=l.prog) (w:=w) (base:=base) F_Fac (PySem.W.mg_of X Gm n_Fac) bi EC_NoWord rf_f_law_with_word_NoWord
 have rf_f_law_case_NoFate:=ZY (P:=l.prog) (w:=w) (base:=base) F_Fac (PySem.W.mg_of X Gm n_Fac) bi EC_NoFate rf_f_reader_of_NoFate
 have rf_f_law_case_Unlike:=ZZ (P:=l.prog) (w:=w) (base:=base) F_Fac (PySem.W.mg_of X Gm n_Fac) bi c_Faq EC_Unlike rf_f_law_with_two_Unlike rf_f_one_after_Unlike
 have rf_f_law_case_TooBig:=Z0 (P:=l.prog) (w:=w) (base:=base) F_Fac (PySem.W.mg_of X Gm n_Fac) bi c_Faq EC_TooBig rf_f_turned_TooBig rf_f_one_after_TooBig
 have c_Fw:=zdU (P:=l.prog) (w:=w) (base:=base) F_Fw (PySem.W.mg_of X Gm n_Fw) bi c_Ff c_Faq c_Fs c_Fy
 exact zcT (zN (st:=Yg) l_Faz e_Faz k_Faz) bi c_Fx c_Fm c_Fr c_Ff c_Fw EC_NoFate EC_NoMachine EC_NoReader EC_NoWord EC_TooBig EC_Unlike rf_f_law_case_TooBig rf_f_law_case_Unlike rf_f_law_case_NoFate rf_f_law_case_NoWord rf_f_law_case_NoReader rf_f_law_case_NoMachine (PySem.W.mg_of X Gm n_HeadError) (PySem.W.mg_of X Gm n_NoFate) (PySem.W.mg_of X Gm n_NoMachine) (PySem.W.mg_of X Gm n_NoReader) (PySem.W.mg_of X Gm n_NoText) (PySem.W.mg_of X Gm n_NoWord) (PySem.W.mg_of X Gm n_TooBig) (PySem.W.mg_of X Gm n_Unlike) kit_NoFate_NoFate kit_NoFate_NoMachine kit_NoFate_NoReader kit_NoFate_NoText kit_NoFate_NoWord kit_NoFate_TooBig kit_NoFate_Unlike kit_NoFate_ValueError kit_NoMachine_NoFate kit_NoMachine_NoMachine kit_NoMachine_NoReader kit_NoMachine_NoText kit_NoMachine_NoWord kit_NoMachine_TooBig kit_NoMachine_Unlike kit_NoMachine_ValueError kit_NoReader_NoFate kit_NoReader_NoMachine kit_NoReader_NoReader kit_NoReader_NoText kit_NoReader_NoWord kit_NoReader_TooBig kit_NoReader_Unlike kit_NoReader_ValueError kit_NoWord_NoFate kit_NoWord_NoMachine kit_NoWord_NoReader kit_NoWord_NoText kit_NoWord_NoWord kit_NoWord_TooBig kit_NoWord_Unlike kit_NoWord_ValueError kit_TooBig_NoFate kit_TooBig_NoMachine kit_TooBig_NoReader kit_TooBig_NoText kit_TooBig_NoWord kit_TooBig_TooBig kit_TooBig_Unlike kit_TooBig_ValueError kit_Unlike_NoFate kit_Unlike_NoMachine kit_Unlike_NoReader kit_Unlike_NoText kit_Unlike_NoWord kit_Unlike_TooBig kit_Unlike_Unlike kit_Unlike_ValueError kt_HeadError mro_TooBig ne_TooBig mro_Unlike ne_Unlike mro_NoFate ne_NoFate mro_NoWord ne_NoWord mro_NoReader ne_NoReader mro_NoMachine ne_NoMachine
theorem zeL{l:PySem.W.OpenLaw}{qq:Program}{loose:List Str}{XP:(Str→Option Value)→Heap→Prop}{YP:World→Heap→Prop}{d:DefRec}{K:Params→PySem.W.Frag}(good:∀ns:List Int,ns.length≤63→YY [.scr ns]=some (.bl true))(hn:l.most=some 63)(hdf:d.params.defaults=[]) 
  (hY:∀(w:World) (h:Heap),YP w h→(K w.params).In h)
  (F:∀(w:World) (mg:Str→Option Value) (fa:Addr) (h:Heap),(K w.params).In h→h.Ns mainGlobals mg→mg d.name=some (.ref fa) →
   ∃fd:FuncData,(∀(s:Shared) (u:Value),BindsTo s fd ⟨[u],[]⟩ [("_law_script",u)])∧∀base:Heap,(K w.params).In base→base.Ns mainGlobals mg→FnOk l.prog w (K w.params) mg base CX0 10 fa fd ["_law_script"] (spD (K w.params) YY)) :
  PySem.W.WalkO qq loose XP YP l.row.toRowW d [] (fun f vs=>PySem.call f vs) :=
 L2.zaJ (n:=63) (k:=10) (x:="_law_script") (CX:=fun _=>CX0) (sp:=fun w=>spD (K w.params) YY) hn (by decide) hdf ⟨rfl,by decide,by decide⟩ hY F (fun _ _ a ns hl _ hS=>zbW hS (good ns hl)) fun _ _ _ _ _ z=>z
end Py
open PySem PySem.W PyProof.Rows
namespace PySem.W.Fast
def tw16877945574119332926:=1
def tw2348220201704559742:=1
def tw9342527722566449487:=1
def tw15043306361079931009:=1
def tw2374775403478894845:=1
def tw2441689291982608131:=1
def tw17076626528502084852:=1
def tw3590144501848526658:=1
def tw13741566056851137096:=1
def tw4907789700233091416:=1
def tw4424914396737140568:=1
def tw2677287702397944781:=1
def tw7335552852354909901:=1
def tw11819332501785705397:=1
def tw16110632529588508390:=1
def tw16777749185955094727:=1
def tw9344708983882625424:=1
def tw104885346313632779:=1
def tw2166122603070551166:=1
def tw8056163810856595626:=1
def tw2134865151048501751:=1
def tw5812214374957501934:=1
def tw15763446686751856604:=1
def tw17825875612876027502:=1
def tw17702803436559153137:=1
def tw16259503584830891669:=1
def tw12212305962282544352:=1
def tw6904051181771241776:=1
def tw2753322960378810706:=1
def tw17430994180842096533:=1
def tw6906645241071242378:=1
def tw2607325998930326098:=1
def tw6825794255516186424:=1
def tw4315356394122778507:=1
def tw16377105090282831634:=1
def tw3967599814552182863:=1
def tw17956763755096153741:=1
def tw17342336685516921236:=1
def tw10609501734921525826:=1
def tw4006829497424738634:=1
def tw4532198790162012005:=1
def tw1573451284710239719:=1
def tw17282629233692067666:=1
def tw16051538216806500929:=1
def tw14430937588522279152:=1
def tw3624003818511688191:=1
def tw10789685399776185:=1
def tw875630783086335075:=1
def tw10540997774926527888:=1
def tw17431985545473625738:=1
def tw8775233978514216644:=1
def tw13028045082135235353:=1
def tw11331380312652638958:=1
def tw14361967954798553846:=1
def tw7780922788359605390:=1
def tw10794893785330689701:=1
def tw3709126994472092908:=1
def tw12253604375032397397:=1
def tw3091136858817286340:=1
def tw4575904661018835299:=1
def tw4658992314761098618:=1
def tw13579731227658806327:=1
def tw3230886961522650788:=1
def tw17352850555806431261:=1
def tw17372099377596058527:=1
def tw13217045015749689089:=1
def tw3593630973832581180:=1
def tw16880150002085876123:=1
def tw6976424318907559290:=1
def tw5044201852782206603:=1
def tw3641148207101887475:=1
def tw6938000983990672696:=1
def tw5060956289167173466:=1
def tw17758654148321237410:=1
def tw1574026758071140623:=1
def tw4465036603259997437:=1
def tw619252370199364492:=1
def tw166451729728587969:=1
def tw14622446608370652985:=1
def tw6240628764073819644:=1
def tw10907560783911649029:=1
def tw9530890299543824869:=1
def tw6044307802320265854:=1
def tw13287091617157635707:=1
def tw3660800971524892339:=1
def tw12841961314572171258:=1
def tw17990468484288720923:=1
def tw6959859937885310974:=1
def tw8713126537752794776:=1
def tw4587525272270749585:=1
def tw7518118375353061523:=1
def tw8272532370232249564:=1
def tw12951553131328848672:=1
def tw12719951763322682560:=1
def tw533108638261250963:=1
def tw11894694994335318854:=1
def tw17450968884694162707:=1
def tw9662470620821908511:=1
def tw5357119537835452521:=1
def tw18053731804304288893:=1
def tw13521997936082362690:=1
def tw15279057794953954500:=1
def tw4772630772809776631:=1
def tw13864374805423420626:=1
def tw13991941853644523262:=1
def tw1357781425723011389:=1
def tw7186348255622733991:=1
def tw14097455933164881941:=1
def tw9532247625183428894:=1
def tw11285790168799567862:=1
def tw13301354149081687557:=1
def tw17066977954334785338:=1
def tw8786462236396629240:=1
def tw10394434880240100828:=1
def tw14910325178976525069:=1
def tw14296940195041981219:=1
def tw10676418554244573355:=1
def tw16558736364533639118:=1
def tw7335308961198118911:=1
def tw9768482309346199185:=1
def tw11426221360111833176:=1
def tw3436610729008068875:=1
def tw2328728753740052597:=1
def tw10083850178835200127:=1
def tw14140827078816345930:=1
def tw9884770468501785873:=1
def tw17320836209692740697:=1
def tw14887605451153260311:=1
def tw11521460875095612897:=1
def tw12001749322148246618:=1
def tw8926390768138400968:=1
def tw4297870787124164777:=1
def tw1037110543611083658:=1
def tw5315291595608931722:=1
def tw9257844200473559885:=1
def tw4404017991325492991:=1
def tw4102067478709699643:=1
def tw3841472195718625694:=1
def tw16943144747702651202:=1
def tw7419511248003044269:=1
def tw15866803058709045574:=1
def tw3880019925579494287:=1
def tw8953961098174329984:=1
def tw1230954377538913260:=1
def tw3238861317098500389:=1
def tw15575366478669180376:=1
def tw897176958576136981:=1
def tw2268087481685505968:=1
def tw11636130292092735311:=1
def tw7394447925863135022:=1
def tw17500269568771825760:=1
def tw2939345901680271525:=1
def tw3759855982894157962:=1
def tw15095829267747195288:=1
def tw9122802592436002223:=1
def tw11510792190930562007:=1
def tw17168583025044364112:=1
def tw15120929104276983147:=1
def tw5482748232590589173:=1
def tw3755794660190979648:=1
def tw10583004870057394791:=1
def tw15205519173975243002:=1
def tw12620774831824786436:=1
def tw6057782033880622846:=1
def tw17594669607000335097:=1
def tw3302796104449416071:=1
def tw1979949672887238304:=1
def tw12460961389107674592:=1
def tw8733117395604011484:=1
def tw4058335936690596627:=1
def tw13626461633490313192:=1
def tw16583929631067573270:=1
def tw390817626639595969:=1
def tw15100163808021471756:=1
def tw14475917890214007644:=1
def tw17935827458315905978:=1
def tw9808039612174927896:=1
def tw11931806039554098456:=1
def tw6561538625797234930:=1
def tw6941363864380895318:=1
def tw3139776048745436276:=1
def tw9320164370248698644:=1
def tw8783735320827628814:=1
def tw3105215530868177869:=1
def tw8752130641259976940:=1
def tw5270728174644680945:=1
def tw12202121252783140674:=1
def tw17997773631118323294:=1
def tw16608416722236553328:=1
def tw12427433999458338205:=1
def tw17044922065602282906:=1
def tw16519046806462925097:=1
def tw13544673559552373481:=1
def tw15487404834268911578:=1
def tw7343301096486704700:=1
def tw4894400776609209001:=1
def tw5827461300652702867:=1
def tw8952202227250201566:=1
def tw4550572753129044677:=1
def tw2312222150682963573:=1
def tw15046193605965027707:=1
def tw11115606709644846551:=1
def tw5099721533877478807:=1
def tw14778182615699230918:=1
def tw10848171535649549790:=1
def tw753571183643705747:=1
def tw17159277637853830020:=1
def tw2277327232275605539:=1
def tw17283782308009481840:=1
def tw13950882501734852466:=1
def tw6849151138779766651:=1
def tw6021131531583974826:=1
def tw6684103783571565880:=1
def tw14145387787309762995:=1
def tw17544404959078230190:=1
def tw14264182298107356523:=1
def tw16967094553501312705:=1
def tw7394398079345107994:=1
def tw12194599643255534566:=1
def tw2479293977564768512:=1
def tw16553874798938043072:=1
def tw10245481468004377290:=1
def tw16836738157267206967:=1
def tw10296494620343428827:=1
def tw3456035573846669823:=1
def tw1880309585991760750:=1
def tw1748753462409816613:=1
def tw6945900674237888146:=1
def tw15313584971508596069:=1
def tw15511928895269398354:=1
def tw13154313488080422899:=1
def tw16752328580447074116:=1
def tw6792865314931347277:=1
def tw3821970325156171435:=1
def tw15261555235566017586:=1
def tw1716287283637666105:=1
def tw8228714738381887269:=1
def tw11118133548976993824:=1
def tw12098969743953662695:=1
def tw1539981563068616207:=1
def tw6419354557514261495:=1
def tw9282355952385617742:=1
def tw11537089551438997347:=1
def tw3107933569390870979:=1
def tw11497661011561170611:=1
def tw14117839562315945685:=1
def tw2948280603243675379:=1
def tw4542666407467128978:=1
def tw334065888006716163:=1
def tw10693918607918667373:=1
def tw15010275562742117837:=1
def tw12142917330335800274:=1
def tw10630429766317137272:=1
def tw728365434809802068:=1
def tw10955673089679554044:=1
def tw6482650884002906137:=1
def tw2168626770203477695:=1
def tw15339909851549710587:=1
def tw4732882965290205203:=1
def tw5568485315368512920:=1
def tw8184417369987015095:=1
def tw12940843695347478515:=1
def tw11743959062099945847:=1
def tw8711153551953291985:=1
def tw9379861183134456976:=1
def tw10631523142345785564:=1
def tw7722579506569820695:=1
def tw14890647054398383754:=1
def tw12588737159340325551:=1
def tw7399172602229117461:=1
def tw17777577791288427553:=1
def tw14652575695435559596:=1
def tw136740018492266215:=1
def tw14644927653948563083:=1
def tw9936556735014275023:=1
def tw14652315355288130601:=1
def tw805055969982448728:=1
def tw17007854952302314524:=1
def tw6038733723237431871:=1
def tw16486336025858824577:=1
def tw2880961112470605060:=1
def tw16223795725648268577:=1
def tw8009388958959974607:=1
def tw15798816423787793734:=1
def tw17892268786368924846:=1
def tw8671960497546538542:=1
def tw13784853659481879490:=1
def tw11303633089361412844:=1
def tw14843482757946880663:=1
def tw17211979996878210816:=1
def tw10007547955911621454:=1
def tw11883474004149058721:=1
def tw16778408428259410502:=1
def tw5923463645428865411:=1
def tw14378766947552839667:=1
def tw4739921851319572934:=1
def tw4630763800932289993:=1
def tw9990483065542919814:=1
def tw1851960194702624439:=1
def tw2590108966846023943:=1
def tw2519179570914728236:=1
def tw11884957698361855466:=1
def tw12402786722040068421:=1
def tw15734794406335662796:=1
def tw12085629661560686805:=1
def tw17858541177670579447:=1
def tw4182926145370228964:=1
def tw4668159658907726643:=1
def tw12762431906270826895:=1
def tw3122875931532293878:=1
def tw6876186899667199236:=1
def tw16110307627410640902:=1
def tw387074038191436957:=1
def tw17107703287548805429:=1
def tw5369129768250930613:=1
def tw2924413199847085226:=1
def tw5350135499650882411:=1
def tw4901641202553598798:=1
def tw1630955000023295283:=1
def tw3171213224519693038:=1
def tw5472180444232175244:=1
def tw5933491636195543454:=1
def tw6773933873683194291:=1
def tw13975659412863249341:=1
def tw14608162045176780693:=1
def tw15785195705519621182:=1
def tw11802734592041233616:=1
def tw2592929777564105049:=1
def tw93151695043253467:=1
def tw6384017926613746320:=1
def tw5942461116351439663:=1
def tw14909019036756942782:=1
def tw3870080671363570236:=1
def tw14046181483263070132:=1
def tw11638167226953101128:=1
def tw1910624278354436879:=1
def tw6303693051681698266:=1
def tw11502838454498398184:=1
def tw8666158788646758418:=1
def tw3184284282884166044:=1
def tw9635192316691665240:=1
def tw8146355088109191625:=1
def tw2697387823572241921:=1
def tw14309815918795583474:=1
def tw13268698750754393073:=1
def tw9375172703024740338:=1
def tw16400563267907539971:=1
def tw15406055378102145537:=1
def tw12029336367540748916:=1
def tw14867052114014444075:=1
def tw3065060277650553909:=1
def tw15112533066040774335:=1
def tw1760536581174316296:=1
def tw2726890170481219278:=1
def tw9608208644722146710:=1
def tw13634681433433223691:=1
def tw15925161320324171202:=1
def tw5970824593806220208:=1
def tw12876886168215287720:=1
end PySem.W.Fast
set_option maxRecDepth 100000 in
set_option maxHeartbeats 0 in
theorem PySem.Challenge.cw_backhead_k16_refused_holds : PySem.Challenge.rw_backhead_k16_refused.Holds := by
 w_on;o_law;k_head;(case hw=>w_witness2)
 k_fill
 refine Py.zeL (l:=PySem.Challenge.rw_backhead_k16_refused) Py.good rfl rfl (fun w h Y=>PySem.W.kIn_of Y) ?F
 case F =>
  intro w mg fa h KX G hmg
  refine' Py.zcU KX G hmg ?n_Ft ?h_Ft ?n_Fao ?h_Fao ?n_Fal ?h_Fal ?n_Faj ?h_Faj ?n_Fak ?h_Fak ?n_Fq ?h_Fq ?n_Fai ?h_Fai ?n_Fj ?h_Fj ?n_Fba ?h_Fba ?n_Fat ?h_Fat ?n_Fam ?h_Fam ?n_Fn ?h_Fn ?n_Fv ?h_Fv ?n_Fu ?h_Fu ?n_Ff ?h_Ff ?n_Faw ?h_Faw ?n_Fae ?h_Fae ?n_Fau ?h_Fau ?n_Fz ?h_Fz ?n_Fah ?h_Fah ?n_Fap ?h_Fap ?n_Fax ?h_Fax ?n_Fan ?h_Fan ?n_Fay ?h_Fay ?n_Faa ?h_Faa ?n_Fa ?h_Fa ?n_Fas ?h_Fas ?n_Far ?h_Far ?n_Fp ?h_Fp ?n_Fab ?h_Fab ?n_Fo ?h_Fo ?n_Fag ?h_Fag ?n_Faf ?h_Faf ?n_Fi ?h_Fi ?n_Faq ?h_Faq ?n_Fb ?h_Fb ?n_Fy ?h_Fy ?n_Fs ?h_Fs ?n_Fav ?h_Fav ?n_Fl ?h_Fl ?n_Fx ?h_Fx ?n_Fad ?h_Fad ?n_Fm ?h_Fm ?n_Fr ?h_Fr ?n_Fc ?h_Fc ?n_Fe ?h_Fe ?n_Fh ?h_Fh ?n_Fk ?h_Fk ?n_Fd ?h_Fd ?n_Fg ?h_Fg ?n_Fac ?h_Fac ?n_Fw ?h_Fw ?n_Faz ?h_Faz ?z_ValueError ?z_all ?z_bool ?z_enumerate ?z_int ?z_isinstance ?z_len ?z_list ?z_range ?z_str ?z_tuple ?n_ENDS ?l_ENDS ?n_FATES ?l_FATES ?n_MOST_LETTERS ?n_MOST_ROOMS ?n_MOST_STANDS ?no_IN_BOTH ?no_IN_EITHER ?no_IN_JUST_ONE ?no_IN_ONE_ALONE ?nka_f_explored ?kb_f_explored ?n_HeadError ?n_NoFate ?n_NoMachine ?n_NoReader ?n_NoText ?n_NoWord ?n_TooBig ?n_Unlike ?qex_NoMachine ?qkt_NoMachine ?qga_NoMachine ?qgn_NoMachine ?qca_NoMachine ?qcg_NoMachine ?qtk_NoMachine ?qmo_NoMachine ?qsb_NoMachine ?qex_NoReader ?qkt_NoReader ?qga_NoReader ?qgn_NoReader ?qca_NoReader ?qcg_NoReader ?qtk_NoReader ?qmo_NoReader ?qsb_NoReader ?qex_NoWord ?qkt_NoWord ?qga_NoWord ?qgn_NoWord ?qca_NoWord ?qcg_NoWord ?qtk_NoWord ?qmo_NoWord ?qsb_NoWord ?qex_NoFate ?qkt_NoFate ?qga_NoFate ?qgn_NoFate ?qca_NoFate ?qcg_NoFate ?qtk_NoFate ?qmo_NoFate ?qsb_NoFate ?qex_Unlike ?qkt_Unlike ?qga_Unlike ?qgn_Unlike ?qca_Unlike ?qcg_Unlike ?qtk_Unlike ?qmo_Unlike ?qsb_Unlike ?qex_TooBig ?qkt_TooBig ?qga_TooBig ?qgn_TooBig ?qca_TooBig ?qcg_TooBig ?qtk_TooBig ?qmo_TooBig ?qsb_TooBig ?kit_NoFate_NoFate ?kit_NoFate_NoMachine ?kit_NoFate_NoReader ?kit_NoFate_NoText ?kit_NoFate_NoWord ?kit_NoFate_TooBig ?kit_NoFate_Unlike ?kit_NoFate_ValueError ?kit_NoMachine_NoFate ?kit_NoMachine_NoMachine ?kit_NoMachine_NoReader ?kit_NoMachine_NoText ?kit_NoMachine_NoWord ?kit_NoMachine_TooBig ?kit_NoMachine_Unlike ?kit_NoMachine_ValueError ?kit_NoReader_NoFate ?kit_NoReader_NoMachine ?kit_NoReader_NoReader ?kit_NoReader_NoText ?kit_NoReader_NoWord ?kit_NoReader_TooBig ?kit_NoReader_Unlike ?kit_NoReader_ValueError ?kit_NoWord_NoFate ?kit_NoWord_NoMachine ?kit_NoWord_NoReader ?kit_NoWord_NoText ?kit_NoWord_NoWord ?kit_NoWord_TooBig ?kit_NoWord_Unlike ?kit_NoWord_ValueError ?kit_TooBig_NoFate ?kit_TooBig_NoMachine ?kit_TooBig_NoReader ?kit_TooBig_NoText ?kit_TooBig_NoWord ?kit_TooBig_TooBig ?kit_TooBig_Unlike ?kit_TooBig_ValueError ?kit_Unlike_NoFate ?kit_Unlike_NoMachine ?kit_Unlike_NoReader ?kit_Unlike_NoText ?kit_Unlike_NoWord ?kit_Unlike_TooBig ?kit_Unlike_Unlike ?kit_Unlike_ValueError ?kt_HeadError ?mro_NoMachine ?ne_NoMachine ?mro_NoReader ?ne_NoReader ?mro_NoWord ?ne_NoWord ?mro_NoFate ?ne_NoFate ?mro_Unlike ?ne_Unlike ?mro_TooBig ?ne_TooBig
  (case n_Ft=>k_is)
  (case h_Ft=>refine' ⟨_,L2.zN ?l ?c ?k⟩;(case l=>k_is);(case c=>k_is);(case k=>k_is))
  (case n_Fao=>k_is)
  (case h_Fao=>refine' ⟨_,L2.zN ?l ?c ?k⟩;(case l=>k_is);(case c=>k_is);(case k=>k_is))
  (case n_Fal=>k_is)
  (case h_Fal=>refine' ⟨_,L2.zN ?l ?c ?k⟩;(case l=>k_is);(case c=>k_is);(case k=>k_is))
  (case n_Faj=>k_is)
  (case h_Faj=>refine' ⟨_,L2.zN ?l ?c ?k⟩;(case l=>k_is);(case c=>k_is);(case k=>k_is))
  (case n_Fak=>k_is)
  (case h_Fak=>refine' ⟨_,L2.zN ?l ?c ?k⟩;(case l=>k_is);(case c=>k_is);(case k=>k_is))
  (case n_Fq=>k_is)
  (case h_Fq=>refine' ⟨_,L2.zN ?l ?c ?k⟩;(case l=>k_is);(case c=>k_is);(case k=>k_is))
  (case n_Fai=>k_is)
  (case h_Fai=>refine' ⟨_,L2.zN ?l ?c ?k⟩;(case l=>k_is);(case c=>k_is);(case k=>k_is))
  (case n_Fj=>k_is)
  (case h_Fj=>refine' ⟨_,L2.zN ?l ?c ?k⟩;(case l=>k_is);(case c=>k_is);(case k=>k_is))
  (case n_Fba=>k_is)
  (case h_Fba=>refine' ⟨_,L2.zN ?l ?c ?k⟩;(case l=>k_is);(case c=>k_is);(case k=>k_is))
  (case n_Fat=>k_is)
  (case h_Fat=>refine' ⟨_,L2.zN ?l ?c ?k⟩;(case l=>k_is);(case c=>k_is);(case k=>k_is))
  (case n_Fam=>k_is)
  (case h_Fam=>refine' ⟨_,L2.zN ?l ?c ?k⟩;(case l=>k_is);(case c=>k_is);(case k=>k_is))
  (case n_Fn=>k_is)
  (case h_Fn=>refine' ⟨_,L2.zN ?l ?c ?k⟩;(case l=>k_is);(case c=>k_is);(case k=>k_is))
  (case n_Fv=>k_is)
  (case h_Fv=>refine' ⟨_,L2.zN ?l ?c ?k⟩;(case l=>k_is);(case c=>k_is);(case k=>k_is))
  (case n_Fu=>k_is)
  (case h_Fu=>refine' ⟨_,L2.zN ?l ?c ?k⟩;(case l=>k_is);(case c=>k_is);(case k=>k_is))
  (case n_Ff=>k_is)
  (case h_Ff=>refine' ⟨_,L2.zN ?l ?c ?k⟩;(case l=>k_is);(case c=>k_is);(case k=>k_is))
  (case n_Faw=>k_is)
  (case h_Faw=>refine' ⟨_,L2.zN ?l ?c ?k⟩;(case l=>k_is);(case c=>k_is);(case k=>k_is))
  (case n_Fae=>k_is)
  (case h_Fae=>refine' ⟨_,L2.zN ?l ?c ?k⟩;(case l=>k_is);(case c=>k_is);(case k=>k_is))
  (case n_Fau=>k_is)
  (case h_Fau=>refine' ⟨_,L2.zN ?l ?c ?k⟩;(case l=>k_is);(case c=>k_is);(case k=>k_is))
  (case n_Fz=>k_is)
  (case h_Fz=>refine' ⟨_,L2.zN ?l ?c ?k⟩;(case l=>k_is);(case c=>k_is);(case k=>k_is))
  (case n_Fah=>k_is)
  (case h_Fah=>refine' ⟨_,L2.zN ?l ?c ?k⟩;(case l=>k_is);(case c=>k_is);(case k=>k_is))
  (case n_Fap=>k_is)
  (case h_Fap=>refine' ⟨_,L2.zN ?l ?c ?k⟩;(case l=>k_is);(case c=>k_is);(case k=>k_is))
  (case n_Fax=>k_is)
  (case h_Fax=>refine' ⟨_,L2.zN ?l ?c ?k⟩;(case l=>k_is);(case c=>k_is);(case k=>k_is))
  (case n_Fan=>k_is)
  (case h_Fan=>refine' ⟨_,L2.zN ?l ?c ?k⟩;(case l=>k_is);(case c=>k_is);(case k=>k_is))
  (case n_Fay=>k_is)
  (case h_Fay=>refine' ⟨_,L2.zN ?l ?c ?k⟩;(case l=>k_is);(case c=>k_is);(case k=>k_is))
  (case n_Faa=>k_is)
  (case h_Faa=>refine' ⟨_,L2.zN ?l ?c ?k⟩;(case l=>k_is);(case c=>k_is);(case k=>k_is))
  (case n_Fa=>k_is)
  (case h_Fa=>refine' ⟨_,L2.zN ?l ?c ?k⟩;(case l=>k_is);(case c=>k_is);(case k=>k_is))
  (case n_Fas=>k_is)
  (case h_Fas=>refine' ⟨_,L2.zN ?l ?c ?k⟩;(case l=>k_is);(case c=>k_is);(case k=>k_is))
  (case n_Far=>k_is)
  (case h_Far=>refine' ⟨_,L2.zN ?l ?c ?k⟩;(case l=>k_is);(case c=>k_is);(case k=>k_is))
  (case n_Fp=>k_is)
  (case h_Fp=>refine' ⟨_,L2.zN ?l ?c ?k⟩;(case l=>k_is);(case c=>k_is);(case k=>k_is))
  (case n_Fab=>k_is)
  (case h_Fab=>refine' ⟨_,L2.zN ?l ?c ?k⟩;(case l=>k_is);(case c=>k_is);(case k=>k_is))
  (case n_Fo=>k_is)
  (case h_Fo=>refine' ⟨_,L2.zN ?l ?c ?k⟩;(case l=>k_is);(case c=>k_is);(case k=>k_is))
  (case n_Fag=>k_is)
  (case h_Fag=>refine' ⟨_,L2.zN ?l ?c ?k⟩;(case l=>k_is);(case c=>k_is);(case k=>k_is))
  (case n_Faf=>k_is)
  (case h_Faf=>refine' ⟨_,L2.zN ?l ?c ?k⟩;(case l=>k_is);(case c=>k_is);(case k=>k_is))
  (case n_Fi=>k_is)
  (case h_Fi=>refine' ⟨_,L2.zN ?l ?c ?k⟩;(case l=>k_is);(case c=>k_is);(case k=>k_is))
  (case n_Faq=>k_is)
  (case h_Faq=>refine' ⟨_,L2.zN ?l ?c ?k⟩;(case l=>k_is);(case c=>k_is);(case k=>k_is))
  (case n_Fb=>k_is)
  (case h_Fb=>refine' ⟨_,L2.zN ?l ?c ?k⟩;(case l=>k_is);(case c=>k_is);(case k=>k_is))
  (case n_Fy=>k_is)
  (case h_Fy=>refine' ⟨_,L2.zN ?l ?c ?k⟩;(case l=>k_is);(case c=>k_is);(case k=>k_is))
  (case n_Fs=>k_is)
  (case h_Fs=>refine' ⟨_,L2.zN ?l ?c ?k⟩;(case l=>k_is);(case c=>k_is);(case k=>k_is))
  (case n_Fav=>k_is)
  (case h_Fav=>refine' ⟨_,L2.zN ?l ?c ?k⟩;(case l=>k_is);(case c=>k_is);(case k=>k_is))
  (case n_Fl=>k_is)
  (case h_Fl=>refine' ⟨_,L2.zN ?l ?c ?k⟩;(case l=>k_is);(case c=>k_is);(case k=>k_is))
  (case n_Fx=>k_is)
  (case h_Fx=>refine' ⟨_,L2.zN ?l ?c ?k⟩;(case l=>k_is);(case c=>k_is);(case k=>k_is))
  (case n_Fad=>k_is)
  (case h_Fad=>refine' ⟨_,L2.zN ?l ?c ?k⟩;(case l=>k_is);(case c=>k_is);(case k=>k_is))
  (case n_Fm=>k_is)
  (case h_Fm=>refine' ⟨_,L2.zN ?l ?c ?k⟩;(case l=>k_is);(case c=>k_is);(case k=>k_is))
  (case n_Fr=>k_is)
  (case h_Fr=>refine' ⟨_,L2.zN ?l ?c ?k⟩;(case l=>k_is);(case c=>k_is);(case k=>k_is))
  (case n_Fc=>k_is)
  (case h_Fc=>refine' ⟨_,L2.zN ?l ?c ?k⟩;(case l=>k_is);(case c=>k_is);(case k=>k_is))
  (case n_Fe=>k_is)
  (case h_Fe=>refine' ⟨_,L2.zN ?l ?c ?k⟩;(case l=>k_is);(case c=>k_is);(case k=>k_is))
  (case n_Fh=>k_is)
  (case h_Fh=>refine' ⟨_,L2.zN ?l ?c ?k⟩;(case l=>k_is);(case c=>k_is);(case k=>k_is))
  (case n_Fk=>k_is)
  (case h_Fk=>refine' ⟨_,L2.zN ?l ?c ?k⟩;(case l=>k_is);(case c=>k_is);(case k=>k_is))
  (case n_Fd=>k_is)
  (case h_Fd=>refine' ⟨_,L2.zN ?l ?c ?k⟩;(case l=>k_is);(case c=>k_is);(case k=>k_is))
  (case n_Fg=>k_is)
  (case h_Fg=>refine' ⟨_,L2.zN ?l ?c ?k⟩;(case l=>k_is);(case c=>k_is);(case k=>k_is))
  (case n_Fac=>k_is)
  (case h_Fac=>refine' ⟨_,L2.zN ?l ?c ?k⟩;(case l=>k_is);(case c=>k_is);(case k=>k_is))
  (case n_Fw=>k_is)
  (case h_Fw=>refine' ⟨_,L2.zN ?l ?c ?k⟩;(case l=>k_is);(case c=>k_is);(case k=>k_is))
  (case n_Faz=>k_is)
  (case h_Faz=>refine' ⟨_,L2.zN ?l ?c ?k⟩;(case l=>k_is);(case c=>k_is);(case k=>k_is))
  (case z_ValueError=>k_is)
  (case z_all=>k_is)
  (case z_bool=>k_is)
  (case z_enumerate=>k_is)
  (case z_int=>k_is)
  (case z_isinstance=>k_is)
  (case z_len=>k_is)
  (case z_list=>k_is)
  (case z_range=>k_is)
  (case z_str=>k_is)
  (case z_tuple=>k_is)
  (case n_ENDS=>k_is)
  (case l_ENDS=>k_is)
  (case n_FATES=>k_is)
  (case l_FATES=>k_is)
  (case n_MOST_LETTERS=>k_is)
  (case n_MOST_ROOMS=>k_is)
  (case n_MOST_STANDS=>k_is)
  (case no_IN_BOTH=>k_is)
  (case no_IN_EITHER=>k_is)
  (case no_IN_JUST_ONE=>k_is)
  (case no_IN_ONE_ALONE=>k_is)
  (case nka_f_explored=>k_is)
  (case kb_f_explored=>k_is)
  (case n_HeadError=>k_is)
  (case n_NoFate=>k_is)
  (case n_NoMachine=>k_is)
  (case n_NoReader=>k_is)
  (case n_NoText=>k_is)
  (case n_NoWord=>k_is)
  (case n_TooBig=>k_is)
  (case n_Unlike=>k_is)
  (case qex_NoMachine=>k_exc)
  (case qkt_NoMachine=>kts_isx)
  (case qga_NoMachine=>k_is)
  (case qgn_NoMachine=>k_is)
  (case qca_NoMachine=>k_is)
  (case qcg_NoMachine=>k_is)
  (case qtk_NoMachine=>k_is)
  (case qmo_NoMachine=>k_is)
  (case qsb_NoMachine=>k_is)
  (case qex_NoReader=>k_exc)
  (case qkt_NoReader=>kts_isx)
  (case qga_NoReader=>k_is)
  (case qgn_NoReader=>k_is)
  (case qca_NoReader=>k_is)
  (case qcg_NoReader=>k_is)
  (case qtk_NoReader=>k_is)
  (case qmo_NoReader=>k_is)
  (case qsb_NoReader=>k_is)
  (case qex_NoWord=>k_exc)
  (case qkt_NoWord=>kts_isx)
  (case qga_NoWord=>k_is)
  (case qgn_NoWord=>k_is)
  (case qca_NoWord=>k_is)
  (case qcg_NoWord=>k_is)
  (case qtk_NoWord=>k_is)
  (case qmo_NoWord=>k_is)
  (case qsb_NoWord=>k_is)
  (case qex_NoFate=>k_exc)
  (case qkt_NoFate=>kts_isx)
  (case qga_NoFate=>k_is)
  (case qgn_NoFate=>k_is)
  (case qca_NoFate=>k_is)
  (case qcg_NoFate=>k_is)
  (case qtk_NoFate=>k_is)
  (case qmo_NoFate=>k_is)
  (case qsb_NoFate=>k_is)
  (case qex_Unlike=>k_exc)
  (case qkt_Unlike=>kts_isx)
  (case qga_Unlike=>k_is)
  (case qgn_Unlike=>k_is)
  (case qca_Unlike=>k_is)
  (case qcg_Unlike=>k_is)
  (case qtk_Unlike=>k_is)
  (case qmo_Unlike=>k_is)
  (case qsb_Unlike=>k_is)
  (case qex_TooBig=>k_exc)
  (case qkt_TooBig=>kts_isx)
  (case qga_TooBig=>k_is)
  (case qgn_TooBig=>k_is)
  (case qca_TooBig=>k_is)
  (case qcg_TooBig=>k_is)
  (case qtk_TooBig=>k_is)
  (case qmo_TooBig=>k_is)
  (case qsb_TooBig=>k_is)
  (case kit_NoFate_NoFate=>kit_is)
  (case kit_NoFate_NoMachine=>kit_is)
  (case kit_NoFate_NoReader=>kit_is)
  (case kit_NoFate_NoText=>kit_is)
  (case kit_NoFate_NoWord=>kit_is)
  (case kit_NoFate_TooBig=>kit_is)
  (case kit_NoFate_Unlike=>kit_is)
  (case kit_NoFate_ValueError=>kit_is)
  (case kit_NoMachine_NoFate=>kit_is)
  (case kit_NoMachine_NoMachine=>kit_is)
  (case kit_NoMachine_NoReader=>kit_is)
  (case kit_NoMachine_NoText=>kit_is)
  (case kit_NoMachine_NoWord=>kit_is)
  (case kit_NoMachine_TooBig=>kit_is)
  (case kit_NoMachine_Unlike=>kit_is)
  (case kit_NoMachine_ValueError=>kit_is)
  (case kit_NoReader_NoFate=>kit_is)
  (case kit_NoReader_NoMachine=>kit_is)
  (case kit_NoReader_NoReader=>kit_is)
  (case kit_NoReader_NoText=>kit_is)
  (case kit_NoReader_NoWord=>kit_is)
  (case kit_NoReader_TooBig=>kit_is)
  (case kit_NoReader_Unlike=>kit_is)
  (case kit_NoReader_ValueError=>kit_is)
  (case kit_NoWord_NoFate=>kit_is)
  (case kit_NoWord_NoMachine=>kit_is)
  (case kit_NoWord_NoReader=>kit_is)
  (case kit_NoWord_NoText=>kit_is)
  (case kit_NoWord_NoWord=>kit_is)
  (case kit_NoWord_TooBig=>kit_is)
  (case kit_NoWord_Unlike=>kit_is)
  (case kit_NoWord_ValueError=>kit_is)
  (case kit_TooBig_NoFate=>kit_is)
  (case kit_TooBig_NoMachine=>kit_is)
  (case kit_TooBig_NoReader=>kit_is)
  (case kit_TooBig_NoText=>kit_is)
  (case kit_TooBig_NoWord=>kit_is)
  (case kit_TooBig_TooBig=>kit_is)
  (case kit_TooBig_Unlike=>kit_is)
  (case kit_TooBig_ValueError=>kit_is)
  (case kit_Unlike_NoFate=>kit_is)
  (case kit_Unlike_NoMachine=>kit_is)
  (case kit_Unlike_NoReader=>kit_is)
  (case kit_Unlike_NoText=>kit_is)
  (case kit_Unlike_NoWord=>kit_is)
  (case kit_Unlike_TooBig=>kit_is)
  (case kit_Unlike_Unlike=>kit_is)
  (case kit_Unlike_ValueError=>kit_is)
  (case kt_HeadError=>kts_isx)
  (case mro_NoMachine=>k_is)
  (case ne_NoMachine=>decide)
  (case mro_NoReader=>k_is)
  (case ne_NoReader=>decide)
  (case mro_NoWord=>k_is)
  (case ne_NoWord=>decide)
  (case mro_NoFate=>k_is)
  (case ne_NoFate=>decide)
  (case mro_Unlike=>k_is)
  (case ne_Unlike=>decide)
  (case mro_TooBig=>k_is)
  (case ne_TooBig=>decide)
