import PyProof.Rows.All
import Wide.All
import OpenK.AllK
import Wide.FinOn
import Lean
import PyProof.EqAt
import PyProof.EqKinds
import PyProof.TupleCall
import PyProof.NeKinds
import PyProof.CompFree
import PyProof.ListRange
import PyProof.Rows.SortWalk
import PyProof.ExcArgsOwn
import PyProof.ExcAttrAll.ValueError
import KE.KTryMore
import PyProof.GenCompD
import PyProof.StrWalks
import PyProof.ConsumeS
import PyProof.StrOps2
import PyProof.CompMap
import KE.KRevIter
import PyProof.ZipIter
import PyProof.DictWalks
import PyProof.DictCompW
import PyProof.DictRoads
import PyProof.MeetsDictList
import KE.KDictList
import PyProof.EnumFor
import PyProof.EnumMake
import PyProof.WalksEnum
import PySem.Challenge.RW_overhaul_k20_leaving
noncomputable section
set_option Elab.async false
set_option linter.all false
set_option maxRecDepth 100000
namespace L2
open PySem PySem.Spec PyProof.Rows
abbrev Key:=Sum Int Str
def Dl:Key→Value→Bool
 | .inl k,v=>Value.isInt k v
 | .inr x,v=>Value.isStrOf x v
def Je (w:World):Key→Int
 | .inl k=>hashInt k
 | .inr x=>hashStr w x
theorem bV:∀ {k:Key} {v:Value},Dl k v=true→(∃ i t,k=Sum.inl i∧v=Value.int i t)∨(∃ x t,k=Sum.inr x∧v=Value.str x t)
 | .inl i,v,h=>by
  obtain ⟨t,e⟩:=Value.isInt_shape (k:=i) (v:=v) h
  exact .inl ⟨i,t,rfl,e⟩
 | .inr x,v,h=>by
  obtain ⟨t,e⟩:=Value.isStrOf_shape (x:=x) (v:=v) h
  exact .inr ⟨x,t,rfl,e⟩
theorem Ex (a b:Int):decide ((Sum.inl a:Key)=Sum.inl b)=(a == b):=by
 by_cases e:a=b
 ·subst e;simp
 ·have h:¬ (Sum.inl a:Key)=Sum.inl b:=fun q=>e (Sum.inl.inj q)
  rw [decide_eq_false h]
  exact (beq_eq_false_iff_ne.mpr e).symm
theorem EA (a b:Str):decide ((Sum.inr a:Key)=Sum.inr b)=decide (a=b):=by
 by_cases e:a=b
 ·subst e;simp
 ·have h:¬ (Sum.inr a:Key)=Sum.inr b:=fun q=>e (Sum.inr.inj q)
  rw [decide_eq_false h,decide_eq_false e]
theorem Ey (a:Int) (b:Str):decide ((Sum.inl a:Key)=Sum.inr b)=false:=decide_eq_false (fun q=>nomatch q)
theorem Ez (a:Str) (b:Int):decide ((Sum.inr a:Key)=Sum.inl b)=false:=decide_eq_false (fun q=>nomatch q)
def BS (prog:Program) (w:World):PySem.KeyKind prog w Key where
 is:=Dl
 hash:=Je w
 inj:=fun v a b ha hb=>by
  rcases bV ha with ⟨i,t,rfl,rfl⟩ | ⟨x,t,rfl,rfl⟩
  ·rcases bV hb with ⟨j,u,rfl,e⟩ | ⟨y,u,rfl,e⟩
   ·injection e with e1 _;rw [e1]
   ·exact nomatch e
  ·rcases bV hb with ⟨j,u,rfl,e⟩ | ⟨y,u,rfl,e⟩
   ·exact nomatch e
   ·injection e with e1 _;rw [e1]
 byValue:=fun k v h=>by
  rcases bV h with ⟨i,t,rfl,rfl⟩ | ⟨x,t,rfl,rfl⟩ <;> rfl
 pyHash:=fun hv h=>by
  rcases bV hv with ⟨i,t,rfl,rfl⟩ | ⟨x,t,rfl,rfl⟩
  ·exact wpAny_pyHash_int h
  ·exact wpAny_pyHash_str h
 eqBool:=fun hu hv h=>by
  rcases bV hu with ⟨i,t,rfl,rfl⟩ | ⟨x,t,rfl,rfl⟩
  ·rcases bV hv with ⟨j,u,rfl,rfl⟩ | ⟨y,u,rfl,rfl⟩
   ·rw [Ex] at h;exact wpAny_eqBool_int h
   ·rw [Ey] at h;exact SeqAt.EqAt.int_str i t y u _ _ _ _ h
  ·rcases bV hv with ⟨j,u,rfl,rfl⟩ | ⟨y,u,rfl,rfl⟩
   ·rw [Ez] at h;exact SeqAt.EqAt.str_int x t j u _ _ _ _ h
   ·rw [EA] at h;exact wpAny_eqBool_str h
 «strs»:=fun k x t v h=>by
  rcases bV h with ⟨i,u,rfl,e⟩ | ⟨y,u,rfl,e⟩
  ·exact nomatch e
  ·injection e with e1 _
   subst e1
   cases v <;> rfl
end L2
namespace L2
open PySem PySem.Spec PyProof.Rows
inductive V where
 | non | bl (b:Bool) | int (i:Int) | str (x:Str) | byt (b:Array UInt8) | flt (b:UInt64) | ref (a:Addr) | ty (n:String)
 deriving DecidableEq
def RelV:V→Value→Prop
 | .non,u=>u=Value.none
 | .bl b,u=>u=Value.bool b
 | .int i,u=>∃ t,u=Value.int i t
 | .str x,u=>∃ t,u=Value.str x t
 | .byt b,u=>∃ t,u=Value.bytes b t
 | .flt b,u=>∃ t,u=Value.float b t
 | .ref a,u=>u=Value.ref a
 | .ty n,u=>u=Value.type n
abbrev Vals:List V→List Value→Prop:=Paired RelV
theorem Vals.length {xs:List V} {us:List Value} (r:Vals xs us):xs.length=us.length:=Paired.length r
theorem Vals.get:∀ {xs:List V} {us:List Value} {i:Nat} {x:V},Vals xs us→xs[i]?=some x→∃ u,us[i]?=some u∧RelV x u
 | _,_,_,_,.nil,e=>by simp at e
 | _,_,0,_,.cons r _,e=>by simp at e;subst e;exact ⟨_,rfl,r⟩
 | _,_,i + 1,x,.cons _ t,e=>by
  obtain ⟨u,h1,h2⟩:=Vals.get (i:=i) (x:=x) t (by simpa using e)
  exact ⟨u,by simpa using h1,h2⟩
theorem Vals.set {x:V} {u:Value} (r:RelV x u):∀ {xs:List V} {us:List Value} (i:Nat),Vals xs us→Vals (xs.set i x) (us.set i u)
 | _,_,_,.nil=>.nil
 | _,_,0,.cons _ t=>.cons r t
 | _,_,i + 1,.cons q t=>.cons q (Vals.set r i t)
theorem Vals.append:∀ {xs ys:List V} {us ws:List Value},Vals xs us→Vals ys ws→Vals (xs ++ ys) (us ++ ws)
 | _,_,_,_,.nil,s=>s
 | _,_,_,_,.cons r t,s=>.cons r (Vals.append t s)
theorem Vals.take:∀ {xs:List V} {us:List Value} (n:Nat),Vals xs us→Vals (xs.take n) (us.take n)
 | _,_,0,_=>.nil
 | _,_,_ + 1,.nil=>.nil
 | _,_,n + 1,.cons r t=>.cons r (Vals.take n t)
theorem Vals.drop:∀ {xs:List V} {us:List Value} (n:Nat),Vals xs us→Vals (xs.drop n) (us.drop n)
 | _,_,0,r=>r
 | _,_,_ + 1,.nil=>.nil
 | _,_,n + 1,.cons _ t=>Vals.drop n t
def nN:Option V→Option Value→Prop
 | some v,some u=>RelV v u
 | none,none=>True
 | _,_=>False
def KV {κ:Type}:List (κ × V)→List (κ × Value)→Prop:=Paired fun (p:κ × V) (q:κ × Value)=>p.1=q.1∧RelV p.2 q.2
def kV:Key→V
 | .inl i=>.int i
 | .inr x=>.str x
inductive HO where
 | lst (xs:List V)
 | tup (xs:List V)
 | dK (kvs:List (Key × V)) | dE (kvs:List (Str × V)) (ep:Nat)
 | set (S:Int→Bool) (n:Nat)
 | ins (C dx:Addr) (fs:List (Str × V))
 | own (x:Addr)
 | xd (fs:List (Str × V))
 | met (f x:Addr)
 | FV (lo hi:Int)
 | my (o:Obj) (u:HO)
 | tbl (ps:Array Value)
 | ext (φ:Heap→Prop)
abbrev Hp:=Addr→Option HO
def upd (H:Hp) (a:Addr) (o:HO):Hp:=fun b=>if b=a then some o else H b
theorem aB {H:Hp} {a:Addr} {o:HO}:upd H a o a=some o:=by unfold upd;rw [if_pos rfl]
theorem aK {H:Hp} {a b:Addr} {o:HO} (h:b≠a):upd H a o b=H b:=by unfold upd;rw [if_neg h]
theorem bN {H:Hp} {a b:Addr} {o:HO} (h:H a=some o) (h':H b=none):a≠b:=by
 intro e;subst e;rw [h] at h';cases h'
section
variable (P:Program) (w:World)
def cI (H:Hp) (h:Heap) (a:Addr):HO→Prop
 | .lst xs=>xs.length≤sizeLine∧∃ (its:List Value) (n:Nat),Vals xs its∧h.get? a=some { cls:=.type "list",data:=.seq its.toArray n }
 | .tup xs=>xs.length≤sizeLine∧∃ its:List Value,Vals xs its∧IsTup h a its.toArray
 | .dK kvs=>kvs.length≤sizeLine∧(a == sysModules)=false∧∃ vs,KV kvs vs∧h.DictOf (BS P w) a vs
 | .dE kvs ep=>kvs.length≤sizeLine∧(a == sysModules)=false∧∃ vs,KV kvs vs∧h.DictAt (strKind P w) a vs ep
 | .set S n=>h.SetOf (intKind P w) a S n
 | .ins C dx fs=>H dx=some (.own a)∧fs.length≤1000∧dx≠a∧h.get? a=some (PySem.W.instObj C dx) ∧
   ∃ mA,h.Ns1 dx mA∧(∀ f,nN (fs.lookup f) (mA f))∧PySem.Within mA (fs.map (·.1))
 | .own _=>∃ o,h.get? a=some o
 | .xd fs=>∃ mA,h.Ns1 a mA∧∀ f,nN (fs.lookup f) (mA f)
 | .FV lo hi=>∃ t u v,h.get? a=some { cls:=.type "range",data:=.fields #[.int lo t,.int hi u,.int 1 v] }
 | .my o u=>h.get? a=some o∧cI H h a u
 | .tbl ps=>h.get? a=some { cls:=.none,data:=.fields ps }
 | .met f x=>h.get? a=some (PySem.W.methodObj (.ref f) (.ref x))
 | .ext φ=>φ h∧(∃ o,h.get? a=some o)∧∀ h1 h2:Heap,φ h1→(∀ o,h1.get? a=some o→h2.get? a=some o)→φ h2
def jE (H:Hp) (h:Heap):Prop:=∀ a o,H a=some o→cI P w H h a o
end
section
variable {P:Program} {w:World} {H H':Hp} {h h':Heap} {a:Addr} {o:HO}
theorem cI.lt (x:cI P w H h a o):a < h.objs.size:=by
 cases o with
 | lst xs=>obtain ⟨_,_,_,_,e⟩:=x;exact Heap.lt_size e
 | tup xs=>obtain ⟨_,_,_,p⟩:=x;exact p.lt
 | dK kvs=>obtain ⟨_,_,_,_,o,_,_,e,_⟩:=x;exact Heap.lt_size e
 | dE kvs ep=>obtain ⟨_,_,_,_,o,_,e,_⟩:=x;exact Heap.lt_size e
 | set S n=>obtain ⟨o,_,_,_,e,_⟩:=x;exact Heap.lt_size e
 | ins C dx fs=>obtain ⟨_,_,_,e,_⟩:=x;exact Heap.lt_size e
 | own y=>obtain ⟨_,e⟩:=x;exact Heap.lt_size e
 | xd fs=>obtain ⟨_,⟨_,_,_,e,_⟩,_⟩:=x;exact Heap.lt_size e
 | FV lo hi=>obtain ⟨_,_,_,e⟩:=x;exact Heap.lt_size e
 | my ob u=>obtain ⟨e,_⟩:=x;exact Heap.lt_size e
 | tbl ps=>exact Heap.lt_size (show h.get? a=some _ from x)
 | met f y=>exact Heap.lt_size (show h.get? a=some _ from x)
 | ext φ=>obtain ⟨_,⟨_,e⟩,_⟩:=x;exact Heap.lt_size e
theorem cI.nC (x:cI P w H h a o) (k:∀ b u,(b=a∨H b=some (.own a))→h.get? b=some u→h'.get? b=some u)
  (ho:∀ b,H b=some (.own a)→H' b=some (.own a)) (ht:∀ b xs,H b=some (.tup xs)→H' b=some (.tup xs)):cI P w H' h' a o:=by
 induction o with
 | lst xs=>obtain ⟨z,its,n,r,e⟩:=x;exact ⟨z,its,n,r,k _ _ (.inl rfl) e⟩
 | tup xs=>obtain ⟨z,its,r,ob,e,c⟩:=x;exact ⟨z,its,r,ob,k _ _ (.inl rfl) e,c⟩
 | dK kvs=>obtain ⟨z,y,vs,r,ob,es,ep,e,c⟩:=x;exact ⟨z,y,vs,r,ob,es,ep,k _ _ (.inl rfl) e,c⟩
 | dE kvs ep=>obtain ⟨z,y,vs,r,ob,es,e,c⟩:=x;exact ⟨z,y,vs,r,ob,es,k _ _ (.inl rfl) e,c⟩
 | set S n=>obtain ⟨ob,es,ep,t,e,c⟩:=x;exact ⟨ob,es,ep,t,k _ _ (.inl rfl) e,c⟩
 | ins C dx fs =>
  obtain ⟨d,z,ne,e,mA,⟨od,es,ep,e2,c⟩,r⟩:=x
  exact ⟨ho _ d,z,ne,k _ _ (.inl rfl) e,mA,⟨od,es,ep,k _ _ (.inr d) e2,c⟩,r⟩
 | own y=>obtain ⟨ob,e⟩:=x;exact ⟨ob,k _ _ (.inl rfl) e⟩
 | xd fs=>obtain ⟨mA,⟨od,es,ep,e,c⟩,r⟩:=x;exact ⟨mA,⟨od,es,ep,k _ _ (.inl rfl) e,c⟩,r⟩
 | FV lo hi=>obtain ⟨t,u,v,e⟩:=x;exact ⟨t,u,v,k _ _ (.inl rfl) e⟩
 | my ob u ih=>obtain ⟨e,q⟩:=x;exact ⟨k _ _ (.inl rfl) e,ih q⟩
 | tbl ps =>
  have e:h.get? a=some { cls:=.none,data:=.fields ps }:=x
  show h'.get? a=some { cls:=.none,data:=.fields ps }
  exact k a _ (.inl rfl) e
 | met f y =>
  have e:h.get? a=some (PySem.W.methodObj (.ref f) (.ref y)):=x
  show h'.get? a=some (PySem.W.methodObj (.ref f) (.ref y))
  exact k a _ (.inl rfl) e
 | ext φ=>obtain ⟨p,⟨o,e⟩,st⟩:=x;exact ⟨st _ _ p fun o q=>k _ _ (.inl rfl) q,⟨o,k _ _ (.inl rfl) e⟩,st⟩
theorem jE.lt (x:jE P w H h) (e:H a=some o):a < h.objs.size:=(x a o e).lt
theorem jE.fresh (x:jE P w H h) (e:h.objs.size≤a):H a=none:=by
 cases q:H a with
 | none=>rfl
 | some u=>exact absurd (Nat.lt_of_lt_of_le (x.lt q) e) (Nat.lt_irrefl _)
theorem jE.kept (x:jE P w H h) (k:∀ b u,h.get? b=some u→h'.get? b=some u):jE P w H h':=fun a o e =>
 (x a o e).nC (fun b u _ q=>k b u q) (fun _ q=>q) fun _ _ q=>q
theorem jE.laid (x:jE P w H h) (k:∀ b u,h.get? b=some u→h'.get? b=some u) (hp:h.objs.size≤a) (new:cI P w (upd H a o) h' a o):jE P w (upd H a o) h':=fun b u e=>by
 have hn:=x.fresh hp
 by_cases hb:b=a
 ·subst hb;rw [aB] at e;cases e;exact new
 ·rw [aK hb] at e
  exact (x b u e).nC (fun c v _ q=>k c v q) (fun c q=>by rw [aK (bN q hn)];exact q) fun c xs q=>by rw [aK (bN q hn)];exact q
end
def Rd (H:Hp) (a:Addr) (u:HO):Prop:=H a=some u∨∃ o,H a=some (.my o u)
theorem Rd.ok {P:Program} {w:World} {H:Hp} {h:Heap} {a:Addr} {u:HO} (r:Rd H a u) (x:jE P w H h):cI P w H h a u:=by
 rcases r with r | ⟨o,r⟩
 ·exact x a u r
 ·obtain ⟨_,q⟩:=x a _ r
  exact q
def Ia:Option HO→Prop
 | some (.lst _)=>True
 | some (.dK _)=>True
 | some (.dE _ _)=>True
 | some (.set _ _)=>True
 | some (.ins _ _ _)=>True
 | some (.ext _)=>True
 | _=>False
section
variable {P:Program} {w:World} {H:Hp} {h h':Heap} {x e:Addr} {o':HO}
theorem jE.write (ok:jE P w H h) (mu:Ia (H x)) (he:e=x∨H e=some (.own x)) (k:∀ b u,b≠e→h.get? b=some u→h'.get? b=some u) (heo:∃ u,h'.get? e=some u)
  (new:cI P w (upd H x o') h' x o'):jE P w (upd H x o') h':=fun b u q=>by
 have nown:∀ c y,H c=some (.own y)→c≠x:=fun c y r z=>by subst z;rw [r] at mu;exact mu
 have ntup:∀ c xs,H c=some (.tup xs)→c≠x:=fun c xs r z=>by subst z;rw [r] at mu;exact mu
 by_cases hb:b=x
 ·subst hb;rw [aB] at q;cases q;exact new
 ·rw [aK hb] at q
  by_cases hbe:b=e
  ·have q':H b=some (.own x):=by
    rcases he with z | z
    ·exact absurd (hbe.trans z) hb
    ·rw [hbe];exact z
   rw [q] at q';cases q'
   obtain ⟨v,hv⟩:=heo
   exact ⟨v,by rw [hbe];exact hv⟩
  ·refine (ok b u q).nC (fun c v hc r=>k c v ?_ r) (fun c r=>by rw [aK (nown c b r)];exact r) fun c xs r=>by rw [aK (ntup c xs r)];exact r
   rcases hc with rfl | hc
   ·exact hbe
   ·rintro rfl
    rcases he with z | z
    ·exact nown c b hc z
    ·rw [hc] at z;cases z;exact hb rfl
end
structure Un (fs ex:List Addr) (H H':Hp) (h h':Heap):Prop where
 keep:∀ b o,h.get? b=some o→H b=none→b ∉ fs→b ∉ ex→h'.get? b=some o
 slot:∀ b o,h.get? b=some o→H b=none→b∈fs→b ∉ ex→∃ sl,h'.get? b=some { o with slots:=sl }
 free:∀ b o,h.get? b=some o→H b=none→b ∉ ex→H' b=none
 there:∀ b o,h.get? b=some o→b ∉ ex→∃ o',h'.get? b=some o'
 tups:∀ b xs,H b=some (.tup xs)→H' b=some (.tup xs)
 frzs:∀ b o u,H b=some (.my o u)→H' b=some (.my o u)
 tbls:∀ b ps,H b=some (.tbl ps)→∃ more,H' b=some (.tbl (ps ++ more))
section
variable {fs fs' ex ex':List Addr} {H H1 H2:Hp} {h h1 h2 h':Heap} {a x e:Addr} {o:HO}
theorem Un.any (u:Un fs ex H H1 h h1) {b:Addr} {ob:Obj} (q:h.get? b=some ob) (n:H b=none) (hx:b ∉ ex):∃ sl,h1.get? b=some { ob with slots:=sl }:=by
 by_cases hb:b∈fs
 ·exact u.slot b ob q n hb hx
 ·exact ⟨ob.slots,u.keep b ob q n hb hx⟩
theorem Un.kept (k:∀ b u,h.get? b=some u→h'.get? b=some u):Un fs ex H H h h' :=
 ⟨fun b ob q _ _ _=>k b ob q,fun b ob q _ _ _=>⟨ob.slots,k b ob q⟩,fun _ _ _ n _=>n,fun b ob q _=>⟨ob,k b ob q⟩,fun _ _ q=>q,fun _ _ _ q=>q,fun _ ps q=>⟨#[],by rw [q];simp⟩⟩
theorem Un.refl:Un fs ex H H h h:=Un.kept fun _ _ q=>q
theorem Un.laid (k:∀ b u,h.get? b=some u→h'.get? b=some u) (hp:h.objs.size≤a) (hn:H a=none):Un fs ex H (upd H a o) h h' where
 keep:=fun b u q _ _ _=>k b u q
 slot:=fun b u q _ _ _=>⟨u.slots,k b u q⟩
 free:=fun b u q n _=>by rw [aK (Nat.ne_of_lt (Nat.lt_of_lt_of_le (Heap.lt_size q) hp))];exact n
 there:=fun b u q _=>⟨u,k b u q⟩
 tups:=fun b xs q=>by rw [aK (bN q hn)];exact q
 frzs:=fun b u xs q=>by rw [aK (bN q hn)];exact q
 tbls:=fun b ps q=>⟨#[],by rw [aK (bN q hn),q];simp⟩
theorem Un.write (mu:Ia (H x)) (he:e=x∨H e=some (.own x)) (k:∀ b u,b≠e→h.get? b=some u→h'.get? b=some u) (heo:∃ u,h'.get? e=some u):Un fs ex H (upd H x o) h h':=by
 have hx:∀ b,H b=none→b≠x:=fun b n z=>by subst z;rw [n] at mu;exact mu
 have hb:∀ b,H b=none→b≠e:=fun b n z=>by
  subst z
  rcases he with r | r
  ·exact hx b n r
  ·rw [n] at r;cases r
 have hm:∀ b u,H b=some u→¬ Ia (some u)→b≠x:=fun b u q nm z=>by subst z;rw [q] at mu;exact nm mu
 refine ⟨fun b u q n _ _=>k b u (hb b n) q,fun b u q n _ _=>⟨u.slots,k b u (hb b n) q⟩,fun b u q n _=>by rw [aK (hx b n)];exact n,fun b u q _=>?_,
  fun b xs q=>by rw [aK (hm b _ q fun z=>z)];exact q,fun b u xs q=>by rw [aK (hm b _ q fun z=>z)];exact q,fun b ps q=>⟨#[],by rw [aK (hm b _ q fun z=>z),q];simp⟩⟩
 by_cases hbe:b=e
 ·subst hbe;exact heo
 ·exact ⟨u,k b u hbe q⟩
end
def Iu (h:Heap) (H:Hp):List Addr:=(List.range h.objs.size).filter fun a=>(H a).isSome
def nS (h:Heap) (H:Hp):Heap:=PySem.W.hideAll h (Iu h H)
theorem xI (h:Heap) (H:Hp):(nS h H).objs.size=h.objs.size:=PySem.W.hideAll_size _ _
theorem zk {h:Heap} {H:Hp} {b:Addr} {o:Obj} (e:h.get? b=some o) (n:H b=none):(nS h H).get? b=some o :=
 PySem.W.hideAll_get _ e fun hm=>by
  have q:(H b).isSome=true:=(List.mem_filter.mp hm).2
  rw [n] at q;simp at q
theorem B1 {h:Heap} {H:Hp} {b:Addr} {o:Obj} (e:(nS h H).get? b=some o):h.get? b=some o∧H b=none:=by
 have e':h.get? b=some o:=PySem.W.of_hideAll (Iu h H) e
 refine ⟨e',?_⟩
 cases q:H b with
 | none=>rfl
 | some x =>
  have hm:b∈Iu h H:=List.mem_filter.mpr ⟨List.mem_range.mpr (Heap.lt_size e'),by simp [q]⟩
  have z:(nS h H).get? b=none:=PySem.W.hideAll_none (Iu h H) hm
  rw [z] at e;cases e
def Br (g h:Heap) (L:Addr):List (Addr × Obj):=(List.range h.objs.size).filterMap fun a=>if a=L∨(g.get? a).isSome=true then none else (h.get? a).map fun o=>(a,o)
def rest (g h:Heap) (L d:Addr):List (Addr × Obj):=(Br g h L).filter fun p=>decide (p.1≠d)
end L2
namespace L2
open PySem PySem.Spec PyProof.Rows
structure Mod (K:PySem.W.Frag) (mg:Str→Option Value) (base:Heap):Prop where
 kin:K.In base
 glob:base.Ns mainGlobals mg
 blt:∃ mb,base.Ns builtinsNs mb∧∀ x:Str,x≠"__name__"→mb x=bootBuiltins x
 nolimit:base.NoLimit
structure Cx where
 prog:Program
 w:World
 K:PySem.W.Frag
 mg:Str→Option Value
 base:Heap
 A:Around
 N:List Str
 s₀:Shared
 H₀:Hp
 env:Env
 outer:List Env
 stack:List Env
 ex:List Addr
 fn:Str→Bool
 calm:Bool
 pn:List (Addr × Obj)
 xe:Value→Shared→Prop
def gT (l:List Env):List Addr:=l.filterMap (·.frame)
abbrev Cx.fs (X:Cx):List Addr:=gT X.outer
def rq (sc:Scope) (x:Str):Prop:=sc.names.lookup x=some .local∨sc.names.lookup x=some .cell∨sc.names.lookup x=some .free
def Loc (sc:Scope) (x:Str):Prop:=sc.names.lookup x=some .local∨sc.names.lookup x=some .cell
def Look (env:Env) (h:Heap) (m:Str→Option Value) (x:Str) (u:Value):Prop :=
 (env.kindOf x=some .local∧m x=some u)∨((env.kindOf x=some .cell∨env.kindOf x=some .free)∧∃ c,env.cells.lookup x=some c∧h.IsCell c (some u))
structure Cx.Ok (X:Cx):Prop where
 mod:Mod X.K X.mg X.base
 kind:X.env.scope.kind=.function
 glob:X.env.globals=mainGlobals
 blt:X.env.builtins=builtinsNs
 above:X.s₀.heap.objs.size≤X.env.locals
 inj:∀ x y c,X.env.cells.lookup x=some c→X.env.cells.lookup y=some c→x=y
 has:∀ x,(X.env.kindOf x=some .cell∨X.env.kindOf x=some .free)→∃ c,X.env.cells.lookup x=some c
 cab:∀ x c,X.fn x=true→X.env.cells.lookup x=some c→X.s₀.heap.objs.size≤c
 hd:X.calm=true→X.A.handled=none
 frames:X.A.frames=some X.stack
 stk:X.stack=X.outer∨(X.stack=X.env :: X.outer∧X.env.frame=some X.env.locals)
 exf:∀ b∈X.ex,b≠X.env.locals∧∀ x c,X.env.cells.lookup x=some c→c≠b
 bs:∀ b o,X.base.get? b=some o→X.s₀.heap.get? b=some o∧X.H₀ b=none
 bsz:X.base.objs.size≤X.s₀.heap.objs.size
 noex:∀ b o,X.base.get? b=some o→b ∉ X.ex
 exfs:∀ b∈X.ex,b ∉ X.fs
 kD:X.s₀.heap.FunFrames X.base X.outer
 frf:∀ b∈X.fs,X.H₀ b=none
structure Inv (X:Cx) (pins:List (Addr × Obj)) (σ:List (Option V)) (H:Hp) (s:Shared):Prop where
 ok:X.Ok
 os:s.os=X.s₀.os
 bare:AllBare s.gens
 base:Un X.fs X.ex X.H₀ H X.s₀.heap s.heap
 loc:∃ m,s.heap.Ns X.env.locals m∧∀ (i:Nat) (x:Str) (v:V),X.N[i]?=some x→σ[i]?=some (some v)→rq X.env.scope x→∃ u,RelV v u∧Look X.env s.heap m x u
 cell:∀ x c,X.env.cells.lookup x=some c→∃ v,s.heap.IsCell c v
 free:H X.env.locals=none
 freeC:∀ x c,X.env.cells.lookup x=some c→H c=none
 pin:∀ p∈X.pn ++ pins,s.heap.get? p.1=some p.2∧H p.1=none∧p.1≠X.env.locals∧p.1 ∉ X.fs∧∀ v,p.2.data≠.cell v
 hok:jE X.prog X.w H s.heap
 len:σ.length=X.N.length
section
variable {X:Cx} {pins:List (Addr × Obj)} {σ:List (Option V)} {H H':Hp} {s:Shared} {h':Heap}
theorem Cx.Ok.Jq (ok:X.Ok) {b:Addr} {o:Obj} (e:X.base.get? b=some o):b ∉ X.fs:=fun hb=>by
 have:=(ok.kD.mem hb).1
 rw [e] at this;cases this
theorem Inv.bs (I:Inv X pins σ H s):∀ b o,X.base.get? b=some o→s.heap.get? b=some o∧H b=none:=fun b o e =>
 ⟨I.base.keep b o (I.ok.bs b o e).1 (I.ok.bs b o e).2 (I.ok.Jq e) (I.ok.noex b o e),I.base.free b o (I.ok.bs b o e).1 (I.ok.bs b o e).2 (I.ok.noex b o e)⟩
theorem Inv.bk (I:Inv X pins σ H s):∀ b o,X.base.get? b=some o→s.heap.get? b=some o:=fun b o e=>(I.bs b o e).1
theorem Inv.mod (I:Inv X pins σ H s):Mod X.K X.mg X.base:=I.ok.mod
theorem Inv.jP (I:Inv X pins σ H s):X.K.In s.heap:=I.ok.mod.kin.keeps I.bk
theorem Inv.nolimit (I:Inv X pins σ H s):s.heap.NoLimit:=I.ok.mod.nolimit.keeps I.bk
theorem Inv.fr (I:Inv X pins σ H s):∃ m,Fr X.base X.env.locals s.heap m :=
 let ⟨m,hn,_⟩:=I.loc
 ⟨m,hn,I.bk,Nat.le_trans I.ok.bsz I.ok.above⟩
theorem Inv.lt (I:Inv X pins σ H s):X.env.locals < s.heap.objs.size:=let ⟨_,hn,_⟩:=I.loc;hn.lt
theorem Inv.sz (I:Inv X pins σ H s):X.s₀.heap.objs.size≤s.heap.objs.size:=Nat.le_trans I.ok.above (Nat.le_of_lt I.lt)
theorem Inv.Jr (I:Inv X pins σ H s) {a:Addr} (h:s.heap.objs.size≤a):a ∉ X.fs:=fun hb=>by
 obtain ⟨_,o,ho,_⟩:=I.ok.kD.mem hb
 exact absurd (Nat.lt_of_lt_of_le (Heap.lt_size ho) (Nat.le_trans I.sz h)) (Nat.lt_irrefl _)
theorem Inv.Ee (I:Inv X pins σ H s):∀ x c,X.env.cells.lookup x=some c→c≠X.env.locals:=fun x c e z=>by
 obtain ⟨v,o,ho,hd⟩:=I.cell x c e
 obtain ⟨m,⟨o',es,ep,ho',hd',_⟩,_⟩:=I.loc
 rw [z,ho'] at ho;cases ho;rw [hd'] at hd;cases hd
theorem Inv.kD (I:Inv X pins σ H s):s.heap.FunFrames X.base X.outer:=by
 have all:∀ (l:List Env),(∀ b∈gT l,b∈X.fs)→X.s₀.heap.FunFrames X.base l→s.heap.FunFrames X.base l:=by
  intro l
  induction l with
  | nil=>intro _ _;trivial
  | cons env r ih =>
   intro hs hl
   obtain ⟨hk,⟨L,o,hf,hn,ho,hd⟩,hr⟩:=hl
   have hL:L∈X.fs:=hs L (by unfold gT;rw [List.filterMap_cons,hf];exact List.mem_cons_self)
   obtain ⟨sl,e⟩:=I.base.slot L o ho (I.ok.frf L hL) hL fun z=>I.ok.exfs L z hL
   exact ⟨hk,⟨L,_,hf,hn,e,hd⟩,ih (fun b hb=>hs b (by unfold gT;rw [List.filterMap_cons,hf];exact List.mem_cons_of_mem _ hb)) hr⟩
 exact all X.outer (fun _ hb=>hb) I.ok.kD
theorem Inv.stack (I:Inv X pins σ H s):s.heap.FunFrames X.base X.stack:=by
 rcases I.ok.stk with e | ⟨e,hf⟩
 ·rw [e];exact I.kD
 ·rw [e]
  obtain ⟨m,hn,_⟩:=I.loc
  refine .cons (by rw [I.ok.kind];decide) hf hn ?_ I.kD
  exact Heap.get?_none_of_le (Nat.le_trans I.ok.bsz I.ok.above)
theorem Inv.jA (I:Inv X pins σ H s):∀ b∈gT X.stack,b∈X.env.locals :: X.fs:=fun b hb=>by
 rcases I.ok.stk with e | ⟨e,hf⟩
 ·rw [e] at hb;exact List.mem_cons_of_mem _ hb
 ·rw [e] at hb
  unfold gT at hb
  rw [List.filterMap_cons,hf] at hb
  exact hb
theorem Inv.q_ (I:Inv X pins σ H s):∀ b∈gT X.stack,H b=none:=fun b hb=>by
 rcases List.mem_cons.mp (I.jA b hb) with e | hb
 ·rw [e];exact I.free
 ·obtain ⟨_,o,ho,_⟩:=I.ok.kD.mem hb
  exact I.base.free b o ho (I.ok.frf b hb) fun z=>I.ok.exfs b z hb
theorem Inv.step {g':Array GenState} {t':Nat} {d':Drawn} {ch:List Addr} (I:Inv X pins σ H s)
  (hch:∀ b∈ch,(b∈X.ex∨X.s₀.heap.objs.size≤b)∧b≠X.env.locals∧(∀ x c,X.env.cells.lookup x=some c→c≠b)∧∀ p∈X.pn ++ pins,p.1≠b)
  (keep:∀ b o,b≠X.env.locals→b ∉ X.fs→b ∉ ch→s.heap.get? b=some o→H b=none→h'.get? b=some o)
  (slot:∀ b o,b≠X.env.locals→b∈X.fs→b ∉ ch→s.heap.get? b=some o→H b=none→∃ sl,h'.get? b=some { o with slots:=sl }) (free:∀ b o,b ∉ ch→s.heap.get? b=some o→H b=none→H' b=none)
  (there:∀ b o,b ∉ ch→s.heap.get? b=some o→∃ o',h'.get? b=some o')
  (tups:∀ b xs,H b=some (.tup xs)→H' b=some (.tup xs)) (frzs:∀ b o u,H b=some (.my o u)→H' b=some (.my o u)) (tbls:∀ b ps,H b=some (.tbl ps)→∃ more,H' b=some (.tbl (ps ++ more)))
  (ns:∀ m,s.heap.Ns X.env.locals m→h'.Ns X.env.locals m) (hok:jE X.prog X.w H' h') (hg:AllBare g') :
  Inv X pins σ H' { s with heap:=h',gens:=g',drawn:=d',toks:=t' }:=by
 have neL:∀ b o,X.s₀.heap.get? b=some o→b≠X.env.locals:=fun b o e=>Nat.ne_of_lt (Nat.lt_of_lt_of_le (Heap.lt_size e) I.ok.above)
 have neC:∀ b o,X.s₀.heap.get? b=some o→b ∉ X.ex→b ∉ ch:=fun b o e hx hb=>by
  rcases (hch b hb).1 with z | z
  ·exact hx z
  ·exact absurd (Nat.lt_of_lt_of_le (Heap.lt_size e) z) (Nat.lt_irrefl _)
 have cellK:∀ x c,X.env.cells.lookup x=some c→∀ v,s.heap.IsCell c v→h'.IsCell c v:=fun x c e v ⟨o,ho,hd⟩=>by
  have nch:c ∉ ch:=fun z=>(hch c z).2.2.1 x c e rfl
  by_cases hc:c∈X.fs
  ·obtain ⟨sl,q⟩:=slot c o (I.Ee x c e) hc nch ho (I.freeC x c e)
   exact ⟨_,q,hd⟩
  ·exact ⟨o,keep c o (I.Ee x c e) hc nch ho (I.freeC x c e),hd⟩
 refine ⟨I.ok,I.os,hg,⟨fun b o e n hb hx=>?_,fun b o e n hb hx=>?_,fun b o e n hx=>?_,fun b o e hx=>?_,fun b xs e=>tups b xs (I.base.tups b xs e),fun b o xs e=>frzs b o xs (I.base.frzs b o xs e),fun b ps e=>?_⟩,?_,fun x c e=>?_,?_,fun x c e=>?_,fun p hp=>?_,hok,I.len⟩
 ·exact keep b o (neL b o e) hb (neC b o e hx) (I.base.keep b o e n hb hx) (I.base.free b o e n hx)
 ·obtain ⟨sl,e1⟩:=I.base.slot b o e n hb hx
  obtain ⟨sl',e2⟩:=slot b _ (neL b o e) hb (neC b o e hx) e1 (I.base.free b o e n hx)
  exact ⟨sl',e2⟩
 ·obtain ⟨o',e1⟩:=I.base.there b o e hx
  exact free b o' (neC b o e hx) e1 (I.base.free b o e n hx)
 ·obtain ⟨o',e1⟩:=I.base.there b o e hx
  exact there b o' (neC b o e hx) e1
 ·obtain ⟨m1,e1⟩:=I.base.tbls b ps e
  obtain ⟨m2,e2⟩:=tbls b _ e1
  exact ⟨m1 ++ m2,by rw [e2,Array.append_assoc]⟩
 ·obtain ⟨m,hn,hl⟩:=I.loc
  refine ⟨m,ns m hn,fun i x v e1 e2 e3=>?_⟩
  obtain ⟨u,r,l⟩:=hl i x v e1 e2 e3
  refine ⟨u,r,?_⟩
  rcases l with l | ⟨k,c,e,z⟩
  ·exact .inl l
  ·exact .inr ⟨k,c,e,cellK x c e _ z⟩
 ·obtain ⟨v,z⟩:=I.cell x c e
  exact ⟨v,cellK x c e v z⟩
 ·obtain ⟨m,⟨o,_,_,ho,_⟩,_⟩:=I.loc
  exact free _ o (fun z=>(hch _ z).2.1 rfl) ho I.free
 ·obtain ⟨v,o,ho,hd⟩:=I.cell x c e
  exact free c o (fun z=>(hch c z).2.2.1 x c e rfl) ho (I.freeC x c e)
 ·obtain ⟨e,n,ne,nf,d⟩:=I.pin p hp
  have nch:p.1 ∉ ch:=fun z=>(hch p.1 z).2.2.2 p hp rfl
  exact ⟨keep p.1 p.2 ne nf nch e n,free p.1 p.2 nch e n,ne,nf,d⟩
theorem Inv.un {t':Nat} (I:Inv X pins σ H s) (u:Un X.fs [] H H' s.heap h') (hok:jE X.prog X.w H' h'):Inv X pins σ H' { s with heap:=h',toks:=t' }:=by
 obtain ⟨m,⟨o,es,ep,ho,r⟩,_⟩:=id I.loc
 obtain ⟨sl,hL⟩:=u.any ho I.free (by simp)
 exact I.step (g':=s.gens) (d':=s.drawn) (ch:=[]) (fun _ z=>nomatch z) (fun b o _ hb _ e n=>u.keep b o e n hb (by simp)) (fun b o _ hb _ e n=>u.slot b o e n hb (by simp)) (fun b o _ e n=>u.free b o e n (by simp)) (fun b o _ e=>u.there b o e (by simp)) u.tups u.frzs u.tbls (fun m' hm=>by
  obtain ⟨o',es',ep',ho',r'⟩:=hm
  rw [ho] at ho';cases ho'
  exact ⟨_,es',ep',hL,r'⟩) hok I.bare
theorem Inv.call {g':Array GenState} {t':Nat} {d':Drawn} {ch:List Addr} (I:Inv X pins σ H s) (u:Un (gT X.stack) ch H H' s.heap h') (hok:jE X.prog X.w H' h') (hg:AllBare g')
  (hch:∀ b∈ch,(b∈X.ex∨X.s₀.heap.objs.size≤b)∧b≠X.env.locals∧(∀ x c,X.env.cells.lookup x=some c→c≠b)∧∀ p∈X.pn ++ pins,p.1≠b) :
  Inv X pins σ H' { s with heap:=h',gens:=g',drawn:=d',toks:=t' }:=by
 obtain ⟨m,⟨o,es,ep,ho,r⟩,_⟩:=id I.loc
 obtain ⟨sl,hL⟩:=u.any ho I.free fun z=>(hch _ z).2.1 rfl
 exact I.step (ch:=ch) hch (fun b o hL hb hc e n=>u.keep b o e n (fun z=>(List.mem_cons.mp (I.jA b z)).elim hL hb) hc) (fun b o _ _ hc e n=>u.any e n hc) (fun b o hc e n=>u.free b o e n hc) (fun b o hc e=>u.there b o e hc) u.tups u.frzs u.tbls (fun m' hm=>by
  obtain ⟨o',es',ep',ho',r'⟩:=hm
  rw [ho] at ho';cases ho'
  exact ⟨_,es',ep',hL,r'⟩) hok hg
theorem Inv.turned {t':Nat} {it:Addr} (I:Inv X pins σ H s) (k:∀ b o,b≠it→s.heap.get? b=some o→h'.get? b=some o) (hn:H it=none) (hL:it≠X.env.locals)
  (h1:it∈X.ex∨X.s₀.heap.objs.size≤it) (h2:∀ x c,X.env.cells.lookup x=some c→c≠it) (h3:∀ p∈X.pn ++ pins,p.1≠it):Inv X pins σ H { s with heap:=h',toks:=t' }:=by
 have nit:∀ b u,H b=some u→b≠it:=fun b u e z=>by rw [z,hn] at e;cases e
 refine I.step (g':=s.gens) (d':=s.drawn) (ch:=[it]) (fun b hb=>?_) (fun b o _ _ hc e _=>k b o (fun z=>hc (by simp [z])) e) (fun b o _ _ hc e _=>⟨o.slots,k b o (fun z=>hc (by simp [z])) e⟩) (fun _ _ _ _ n=>n)
  (fun b o hc e=>⟨o,k b o (fun z=>hc (by simp [z])) e⟩) (fun _ _ e=>e) (fun _ _ _ e=>e) (fun b ps e=>⟨#[],by rw [e];simp⟩) (fun m hm=>?_) (fun b u e=>?_) I.bare
 ·have e:b=it:=by simpa using hb
  subst e
  exact ⟨h1,hL,h2,h3⟩
 ·obtain ⟨o,es,ep,ho,r⟩:=hm
  exact ⟨o,es,ep,k _ o (Ne.symm hL) ho,r⟩
 ·refine (I.hok b u e).nC (fun c v hc q=>k c v ?_ q) (fun _ q=>q) fun _ _ q=>q
  rcases hc with z | z
  ·rw [z];exact nit b u e
  ·exact nit c _ z
theorem Inv.tok (I:Inv X pins σ H s) (t:Nat):Inv X pins σ H { s with toks:=t }:=I.un (h':=s.heap) (t':=t) Un.refl I.hok
theorem Inv.kept {t':Nat} (I:Inv X pins σ H s) (k:∀ b u,s.heap.get? b=some u→h'.get? b=some u):Inv X pins σ H { s with heap:=h',toks:=t' }:=I.un (Un.kept k) (I.hok.kept k)
theorem Inv.laid {a:Addr} {o:HO} {t':Nat} (I:Inv X pins σ H s) (k:∀ b u,s.heap.get? b=some u→h'.get? b=some u) (hp:s.heap.objs.size≤a) (new:cI X.prog X.w (upd H a o) h' a o) :
  Inv X pins σ (upd H a o) { s with heap:=h',toks:=t' }:=I.un (Un.laid k hp (I.hok.fresh hp)) (I.hok.laid k hp new)
theorem Inv.write {x e:Addr} {o:HO} {t':Nat} (I:Inv X pins σ H s) (mu:Ia (H x)) (he:e=x∨H e=some (.own x)) (k:∀ b u,b≠e→s.heap.get? b=some u→h'.get? b=some u) (heo:∃ u,h'.get? e=some u)
  (new:cI X.prog X.w (upd H x o) h' x o):Inv X pins σ (upd H x o) { s with heap:=h',toks:=t' }:=I.un (Un.write mu he k heo) (I.hok.write mu he k heo new)
theorem Inv.wz {pins':List (Addr × Obj)} (I:Inv X pins σ H s) (h:∀ p∈pins',s.heap.get? p.1=some p.2∧H p.1=none∧p.1≠X.env.locals∧p.1 ∉ X.fs∧∀ v,p.2.data≠.cell v):Inv X pins' σ H s :=
 ⟨I.ok,I.os,I.bare,I.base,I.loc,I.cell,I.free,I.freeC,fun p hp=>(List.mem_append.mp hp).elim (fun z=>I.pin p (List.mem_append_left _ z)) (h p),I.hok,I.len⟩
theorem su {N:List Str} (hN:N.Nodup) {i j:Nat} {x:Str} (a:N[i]?=some x) (b:N[j]?=some x):i=j:=by
 obtain ⟨h1,e1⟩:=List.getElem?_eq_some_iff.mp a
 obtain ⟨h2,e2⟩:=List.getElem?_eq_some_iff.mp b
 exact (List.getElem_inj hN).mp (e1.trans e2.symm)
theorem k6 {M:Model} {A:Around} {E:Value→Shared→Prop} {i:Nat} {x:Str} {v:V} {u:Value} {Q:Unit→Shared→Prop} (I:Inv X pins σ H s) (hN:X.N.Nodup) (hi:X.N[i]?=some x) (hx:Loc X.env.scope x) (r:RelV v u)
  (h:∀ s',Inv X pins (σ.set i (some v)) H s'→(∃ a,Heap.SameBut a s.heap s'.heap∧(a=X.env.locals∨X.env.cells.lookup x=some a))→Q () s') (hf:X.fn x=true∨X.env.scope.names.lookup x=some .local:=by first | exact .inl rfl | exact .inr rfl | assumption):wpAny M A (storeName X.env x u) Q E s:=by
 obtain ⟨m,hn,hl⟩:=id I.loc
 have hcls:(X.env.scope.kind == .class || (X.env.scope.kind == .module && X.env.locals != X.env.globals))=false:=by rw [I.ok.kind];rfl
 have hiσ:i < σ.length:=by rw [I.len];exact (List.getElem?_eq_some_iff.mp hi).1
 have Ee:=I.Ee
 have tracked:∀ {a:Addr} {h':Heap},(∃ o,s.heap.get? a=some o∧H a=none)→Heap.SameBut a s.heap h'→jE X.prog X.w H h':=fun {a h'} ha hs b ob e=>by
  obtain ⟨_,_,hfree⟩:=ha
  refine (I.hok b ob e).nC (fun c w' hc q=>(hs.2 c ?_).trans q) (fun _ q=>q) fun _ _ q=>q
  rintro rfl
  rcases hc with rfl | hc
  ·rw [hfree] at e;cases e
  ·rw [hfree] at hc;cases hc
 rcases hx with hk | hk
 ·refine wpAny_storeName_local hk hn (fun h' hn' hs=>?_) hcls
  obtain ⟨oL,_,_,hoL,_⟩:=id hn
  refine h _ ⟨I.ok,I.os,I.bare,⟨fun b o e n hb hx=>?_,fun b o e n hb hx=>?_,I.base.free,fun b o e hx=>?_,I.base.tups,I.base.frzs,I.base.tbls⟩,⟨_,hn',fun j y v' e1 e2 e3=>?_⟩,fun y c e=>?_,I.free,I.freeC,fun p hp=>?_,tracked ⟨oL,hoL,I.free⟩ hs,by simpa using I.len⟩ ⟨_,hs,.inl rfl⟩
  ·exact (hs.2 b (Nat.ne_of_lt (Nat.lt_of_lt_of_le (Heap.lt_size e) I.ok.above))).trans (I.base.keep b o e n hb hx)
  ·obtain ⟨sl,e1⟩:=I.base.slot b o e n hb hx
   exact ⟨sl,(hs.2 b (Nat.ne_of_lt (Nat.lt_of_lt_of_le (Heap.lt_size e) I.ok.above))).trans e1⟩
  ·obtain ⟨o',e1⟩:=I.base.there b o e hx
   exact ⟨o',(hs.2 b (Nat.ne_of_lt (Nat.lt_of_lt_of_le (Heap.lt_size e) I.ok.above))).trans e1⟩
  ·by_cases hj:j=i
   ·subst hj
    rw [hi] at e1;cases e1
    rw [List.getElem?_set_self hiσ] at e2
    cases e2
    exact ⟨u,r,.inl ⟨hk,by simp⟩⟩
   ·rw [List.getElem?_set_ne (Ne.symm hj)] at e2
    obtain ⟨u',r',q⟩:=hl j y v' e1 e2 e3
    refine ⟨u',r',?_⟩
    rcases q with ⟨k,e⟩ | ⟨k,c,e,z⟩
    ·refine .inl ⟨k,?_⟩
     have:y≠x:=fun e=>hj (su hN e1 (e ▸ hi))
     simp [this,e]
    ·exact .inr ⟨k,c,e,z.sameBut hs (Ee y c e)⟩
  ·obtain ⟨w',z⟩:=I.cell y c e
   exact ⟨w',z.sameBut hs (Ee y c e)⟩
  ·obtain ⟨e,n,ne,nf,d⟩:=I.pin p hp
   exact ⟨(hs.2 p.1 ne).trans e,n,ne,nf,d⟩
 ·have hfn:X.fn x=true:=by
   rcases hf with z | z
   ·exact z
   ·rw [z] at hk;cases hk
  obtain ⟨c,hc⟩:=I.ok.has x (.inl hk)
  obtain ⟨w',z⟩:=I.cell x c hc
  refine wpAny_storeName_cell I.ok.kind hk hc z (fun h' hc' hs=>?_)
  obtain ⟨oc,hoc,hocd⟩:=id z
  refine h { s with heap:=h' } ⟨I.ok,I.os,I.bare,⟨fun b o e n hb hx=>?_,fun b o e n hb hx=>?_,I.base.free,fun b o e hx=>?_,I.base.tups,I.base.frzs,I.base.tbls⟩,⟨m,hn.sameBut hs (Ne.symm (Ee x c hc)),fun j y v' e1 e2 e3=>?_⟩,fun y c' e=>?_,I.free,I.freeC,fun p hp=>?_,tracked ⟨oc,hoc,I.freeC x c hc⟩ hs,by simpa using I.len⟩ ⟨c,hs,.inr hc⟩
  ·exact (hs.2 b (Nat.ne_of_lt (Nat.lt_of_lt_of_le (Heap.lt_size e) (I.ok.cab x c hfn hc)))).trans (I.base.keep b o e n hb hx)
  ·obtain ⟨sl,e1⟩:=I.base.slot b o e n hb hx
   exact ⟨sl,(hs.2 b (Nat.ne_of_lt (Nat.lt_of_lt_of_le (Heap.lt_size e) (I.ok.cab x c hfn hc)))).trans e1⟩
  ·obtain ⟨o',e1⟩:=I.base.there b o e hx
   exact ⟨o',(hs.2 b (Nat.ne_of_lt (Nat.lt_of_lt_of_le (Heap.lt_size e) (I.ok.cab x c hfn hc)))).trans e1⟩
  ·by_cases hj:j=i
   ·subst hj
    rw [hi] at e1;cases e1
    rw [List.getElem?_set_self hiσ] at e2
    cases e2
    exact ⟨u,r,.inr ⟨.inl hk,c,hc,hc'⟩⟩
   ·rw [List.getElem?_set_ne (Ne.symm hj)] at e2
    obtain ⟨u',r',q⟩:=hl j y v' e1 e2 e3
    refine ⟨u',r',?_⟩
    rcases q with q | ⟨k,c',e,z'⟩
    ·exact .inl q
    ·refine .inr ⟨k,c',e,z'.sameBut hs ?_⟩
     rintro rfl
     exact hj (su hN e1 (I.ok.inj _ _ _ e hc ▸ hi))
  ·by_cases hcc:c'=c
   ·subst hcc;exact ⟨_,hc'⟩
   ·obtain ⟨w2,z2⟩:=I.cell y c' e
    exact ⟨w2,z2.sameBut hs hcc⟩
  ·obtain ⟨e,n,ne,nf,d⟩:=I.pin p hp
   refine ⟨(hs.2 p.1 ?_).trans e,n,ne,nf,d⟩
   intro q
   rw [q,hoc] at e
   have q':oc=p.2:=Option.some.inj e
   exact d w' (by rw [← q'];exact hocd)
theorem eh {M:Model} {A:Around} {E:Value→Shared→Prop} {i:Nat} {x:Str} {v:V} {u:Value} {Q:Unit→Shared→Prop} (I:Inv X pins σ H s) (hN:X.N.Nodup) (hi:X.N[i]?=some x) (hx:Loc X.env.scope x) (r:RelV v u)
  (h:∀ s',Inv X pins (σ.set i (some v)) H s'→Q () s') (hf:X.fn x=true∨X.env.scope.names.lookup x=some .local:=by first | exact .inl rfl | exact .inr rfl | assumption):wpAny M A (storeName X.env x u) Q E s :=
 k6 I hN hi hx r (fun s' I' _=>h s' I') hf
theorem Inv.Ge {s':Shared} {ch:List Addr} (I:Inv X pins σ H s) (ho:s'.os=s.os) (u:Un (gT X.stack) ch H H' s.heap s'.heap) (hok:jE X.prog X.w H' s'.heap) (hg:AllBare s'.gens)
  (hch:∀ b∈ch,(b∈X.ex∨X.s₀.heap.objs.size≤b)∧b≠X.env.locals∧(∀ x c,X.env.cells.lookup x=some c→c≠b)∧∀ p∈X.pn ++ pins,p.1≠b):Inv X pins σ H' s':=by
 obtain ⟨h',g',d',t',o'⟩:=s'
 have e:o'=s.os:=ho
 subst e
 exact I.call (g':=g') (t':=t') (d':=d') u hok hg hch
end
abbrev XK:=Value→Option Addr→Hp→Prop
abbrev St:=List (Option V)
abbrev VK:=V→Hp→Prop
abbrev TE:=St→Hp→VK→Prop
abbrev TT:=St→Hp→(Bool→Hp→Prop)→Prop
abbrev TA:=St→Hp→(List V→Hp→Prop)→Prop
structure Ends where
 nx:St→Hp→Prop
 rt:VK
 bk:St→Hp→Prop:=fun _ _=>False
 ct:St→Hp→Prop:=fun _ _=>False
abbrev TS:=Ends→St→Hp→Prop
def EP (X:Cx) (pins:List (Addr × Obj)) (σ:St) (Q:VK) (u:Value) (s':Shared):Prop:=∃ v H',Inv X pins σ H' s'∧RelV v u∧Q v H'
def TP (X:Cx) (pins:List (Addr × Obj)) (σ:St) (Q:Bool→Hp→Prop) (b:Bool) (s':Shared):Prop:=∃ H',Inv X pins σ H' s'∧Q b H'
def AP (X:Cx) (pins:List (Addr × Obj)) (σ:St) (Q:List V→Hp→Prop) (us:List Value) (s':Shared):Prop:=∃ vs H',Inv X pins σ H' s'∧Vals vs us∧Q vs H'
def SP (X:Cx) (pins:List (Addr × Obj)) (D:Ends) (f:Flow) (s':Shared):Prop :=
 match f with
 | .next=>∃ σ' H',Inv X pins σ' H' s'∧D.nx σ' H'
 | .brk=>∃ σ' H',Inv X pins σ' H' s'∧D.bk σ' H'
 | .cont=>∃ σ' H',Inv X pins σ' H' s'∧D.ct σ' H'
 | .ret u=>∃ v σ' H',Inv X pins σ' H' s'∧RelV v u∧D.rt v H'
def PE (X:Cx) (e:Expr) (t:TE):Prop :=
 ∀ (pins:List (Addr × Obj)) (s:Shared) (σ:St) (H:Hp) (Q:VK),Inv X pins σ H s→t σ H Q→wpAny (model X.prog X.w) X.A (eval e X.env) (EP X pins σ Q) X.xe s
def PT (X:Cx) (e:Expr) (t:TT):Prop :=
 ∀ (pins:List (Addr × Obj)) (s:Shared) (σ:St) (H:Hp) (Q:Bool→Hp→Prop),Inv X pins σ H s→t σ H Q→wpAny (model X.prog X.w) X.A (isTrue e X.env (eval e X.env)) (TP X pins σ Q) X.xe s
def PW (X:Cx) (e:Expr) (t:TT):Prop :=
 ∀ (whole:Sem Value) (pins:List (Addr × Obj)) (s:Shared) (σ:St) (H:Hp) (Q:Bool→Hp→Prop),Inv X pins σ H s→t σ H Q→wpAny (model X.prog X.w) X.A (isTrue e X.env whole) (TP X pins σ Q) X.xe s
theorem PW.pt {X:Cx} {e:Expr} {t:TT} (h:PW X e t):PT X e t:=h _
def PA (X:Cx) (es:List Expr) (t:TA):Prop :=
 ∀ (pos:Pos) (pins:List (Addr × Obj)) (s:Shared) (σ:St) (H:Hp) (Q:List V→Hp→Prop),Inv X pins σ H s→t σ H Q→wpAny (model X.prog X.w) X.A (spliced (backTo pos (starEach es X.env))) (AP X pins σ Q) X.xe s
def PS (X:Cx) (st:Stmt) (t:TS):Prop :=
 ∀ (pins:List (Addr × Obj)) (s:Shared) (σ:St) (H:Hp) (D:Ends),Inv X pins σ H s→t D σ H→wpAny (model X.prog X.w) X.A (exec st X.env) (SP X pins D) X.xe s
def oI (X:Cx) (st:List Stmt) (t:TS):Prop :=
 ∀ (pins:List (Addr × Obj)) (s:Shared) (σ:St) (H:Hp) (D:Ends),Inv X pins σ H s→t D σ H→wpAny (model X.prog X.w) X.A (execs st X.env) (SP X pins D) X.xe s
theorem bK {α:Type} {t:Sem α} {Q Q':α→Shared→Prop} {M:Model} {A:Around} {E:Value→Shared→Prop} {s:Shared} (h:wpAny M A t Q E s) (hQ:∀ a s,Q a s→Q' a s):wpAny M A t Q' E s:=wpAny_mono h hQ fun _ _ x=>x
end L2
namespace L2
open PySem PySem.Spec PyProof.Rows
section
variable {X:Cx}
def yw (i:Nat):TE:=fun σ H Q=>∃ v,σ[i]?=some (some v)∧Q v H
def tC (v:V):TE:=fun _ H Q=>Q v H
theorem uW {i:Nat} {x:Str} {pos:Pos} (hN:X.N[i]?=some x) (hv:rq X.env.scope x) (hd:(x == ("__debug__":Str))=false:=by decide) (hcd:(x == ("__classdict__":Str))=false:=by decide):PE X (.Name x pos) (yw i):=by
 intro pins s σ H Q I h
 obtain ⟨v,e,h⟩:=h
 obtain ⟨m,hn,hl⟩:=I.loc
 obtain ⟨u,r,l⟩:=hl i x v hN e hv
 have fin:EP X pins σ Q u s:=⟨v,H,I,r,h⟩
 rcases l with ⟨hk,hm⟩ | ⟨hk,c,hc,hcell⟩
 ·exact wpAny_Name (wpAny_loadName_local I.ok.kind hk hn hm fin) hd
 ·rcases hk with hk | hk
  ·exact wpAny_Name (wpAny_loadName_cell I.ok.kind hk hc hcell fin) hd
  ·exact wpAny_Name (wpAny_loadName_free I.ok.kind hk hc hcell fin hcd) hd
theorem aI {i j pos}:PE X (.Constant (.int i) j pos) (tC (.int i)):=fun _ _ _ H _ I h=>wpAny_Constant_int ⟨.int i,H,I.tok _,⟨_,rfl⟩,h⟩
theorem sT {b j pos}:PE X (.Constant (.bool b) j pos) (tC (.bl b)):=fun _ _ _ H _ I h=>Constant_bool ⟨.bl b,H,I,rfl,h⟩
theorem uT {j pos}:PE X (.Constant .none j pos) (tC .non):=fun _ _ _ H _ I h=>Constant_none ⟨.non,H,I,rfl,h⟩
theorem kL {x j pos}:PE X (.Constant (.str x) j pos) (tC (.str x)):=fun _ _ _ H _ I h=>Calls.Constant_str ⟨.str x,H,I.tok _,⟨_,rfl⟩,h⟩
def Gl (X:Cx) (x:Str):Prop:=X.env.kindOf x=some .globalImplicit
theorem jQ {E:Value→Shared→Prop} {pins:List (Addr × Obj)} {s:Shared} {σ:St} {H:Hp} {x:Str} {u:Value} {pos:Pos} {Q:Value→Shared→Prop} (I:Inv X pins σ H s) (hg:Gl X x) (hm:X.mg x=some u) (h:Q u s)
  (hd:(x == ("__debug__":Str))=false:=by decide):wpAny (model X.prog X.w) X.A (eval (.Name x pos) X.env) Q E s :=
 Calls.Name_function_global I.ok.kind hg (Calls.loadGlobal_global (by rw [I.ok.glob];exact I.mod.glob.keeps I.bk) hm h) hd
theorem jq {E:Value→Shared→Prop} {pins:List (Addr × Obj)} {s:Shared} {σ:St} {H:Hp} {x:Str} {u:Value} {pos:Pos} {Q:Value→Shared→Prop} (I:Inv X pins σ H s) (hg:Gl X x) (hm:X.mg x=none) (hv:bootBuiltins x=some u) (h:Q u s)
  (hn:x≠"__name__":=by decide) (hd:(x == ("__debug__":Str))=false:=by decide):wpAny (model X.prog X.w) X.A (eval (.Name x pos) X.env) Q E s:=by
 obtain ⟨mb,h1,h2⟩:=I.mod.blt
 exact Calls.Name_function_global I.ok.kind hg (Calls.loadGlobal_builtin (by rw [I.ok.glob];exact I.mod.glob.keeps I.bk) hm (by rw [I.ok.blt];exact h1.keeps I.bk) ((h2 x hn).trans hv) h) hd
theorem lR {x:Str} {v:V} {u:Value} {pos:Pos} (hg:Gl X x) (hm:X.mg x=some u) (r:RelV v u) (hd:(x == ("__debug__":Str))=false:=by decide):PE X (.Name x pos) (tC v) :=
 fun _ _ _ H _ I h=>jQ I hg hm ⟨v,H,I,r,h⟩ hd
theorem qh {x:Str} {v:V} {u:Value} {pos:Pos} (hg:Gl X x) (hm:X.mg x=none) (hv:bootBuiltins x=some u) (r:RelV v u) (hn:x≠"__name__":=by decide) (hd:(x == ("__debug__":Str))=false:=by decide):PE X (.Name x pos) (tC v) :=
 fun _ _ _ H _ I h=>jq I hg hm hv ⟨v,H,I,r,h⟩ hn hd
variable {a b:Expr} {ta tb:TE} {pos:Pos}
def tB (t:TE):TT:=fun σ H Q=>t σ H fun x H1=>∃ c,x=.bl c∧Q c H1
theorem vb {e:Expr} {t:TE} (h:PE X e t) (he:∀ whole,isTrue e X.env whole=(do let v ← whole;standAt e.pos;holding [v] (truthy v)):=by intro _;rfl):PT X e (tB t):=by
 intro pins s σ H Q I hw
 refine isTrue_plain (bK (h pins s σ H _ I hw) fun v s1 ⟨x,H1,I1,r1,q1⟩=>?_) (he _)
 obtain ⟨d,rfl,q⟩:=q1
 cases r1
 exact wpAny_truthy_bool ⟨H1,I1,q⟩
variable {tA tB':TT} {rest:List Expr}
def A5 (t u:TT):TT:=fun σ H Q=>t σ H fun c H1=>if c=true then u σ H1 Q else Q false H1
def HL (t u:TT):TT:=fun σ H Q=>t σ H fun c H1=>if c=true then Q true H1 else u σ H1 Q
def C0 (t:TT):TT:=fun σ H Q=>t σ H fun c H1=>Q (!c) H1
theorem lU (ha:PT X a tA):PW X (.BoolOp .And [a] pos) tA:=by
 intro wh pins s σ H Q I h
 refine isTrue_and (bK (ha pins s σ H Q I h) fun c s1 e=>?_)
 cases c with
 | true=>exact isTrue_and_nil e
 | false=>exact e
theorem qw (ha:PT X a tA):PW X (.BoolOp .Or [a] pos) tA:=by
 intro wh pins s σ H Q I h
 refine isTrue_or (bK (ha pins s σ H Q I h) fun c s1 e=>?_)
 cases c with
 | false=>exact isTrue_or_nil e
 | true=>exact e
theorem qv (ha:PT X a tA) (hb:PW X (.BoolOp .And (b :: rest) pos) tB'):PW X (.BoolOp .And (a :: b :: rest) pos) (A5 tA tB'):=by
 intro wh pins s σ H Q I h
 refine isTrue_and (bK (ha pins s σ H _ I h) fun c s1 ⟨H1,I1,q1⟩=>?_)
 cases c with
 | true=>exact hb wh pins s1 σ H1 Q I1 q1
 | false=>exact ⟨H1,I1,q1⟩
theorem wB (ha:PT X a tA) (hb:PW X (.BoolOp .Or (b :: rest) pos) tB'):PW X (.BoolOp .Or (a :: b :: rest) pos) (HL tA tB'):=by
 intro wh pins s σ H Q I h
 refine isTrue_or (bK (ha pins s σ H _ I h) fun c s1 ⟨H1,I1,q1⟩=>?_)
 cases c with
 | true=>exact ⟨H1,I1,q1⟩
 | false=>exact hb wh pins s1 σ H1 Q I1 q1
theorem u_ (ha:PT X a tA):PT X (.UnaryOp .Not a pos) (C0 tA):=by
 intro pins s σ H Q I h
 exact isTrue_not (ha pins s σ H (fun c H1=>Q (!c) H1) I h)
def xf (ta tb:TE):TE:=fun σ H Q=>ta σ H fun x H1=>∃ c,x=.bl c∧if c=true then tb σ H1 Q else Q (.bl false) H1
def C1 (ta tb:TE):TE:=fun σ H Q=>ta σ H fun x H1=>∃ c,x=.bl c∧if c=true then Q (.bl true) H1 else tb σ H1 Q
def xi (ta:TE):TE:=fun σ H Q=>ta σ H fun x H1=>∃ c,x=.bl c∧Q (.bl (!c)) H1
theorem uV {op} {t:TE} (h:PE X a t):PE X (.BoolOp op [a] pos) t:=fun pins s σ H Q I hw=>BoolOp_one (h pins s σ H Q I hw)
theorem uS (ha:PE X a ta) (hb:PE X (.BoolOp .And (b :: rest) pos) tb):PE X (.BoolOp .And (a :: b :: rest) pos) (xf ta tb):=by
 intro pins s σ H Q I h
 refine BoolOp_and (bK (ha pins s σ H _ I h) fun v s1 ⟨x,H1,I1,r1,q1⟩=>?_)
 obtain ⟨c,rfl,q1⟩:=q1
 cases r1
 refine wpAny_truthy_bool ?_
 cases c with
 | true=>exact hb pins s1 σ H1 Q I1 q1
 | false=>exact ⟨.bl false,H1,I1,rfl,q1⟩
theorem Aj (ha:PE X a ta) (hb:PE X (.BoolOp .Or (b :: rest) pos) tb):PE X (.BoolOp .Or (a :: b :: rest) pos) (C1 ta tb):=by
 intro pins s σ H Q I h
 refine BoolOp_or (bK (ha pins s σ H _ I h) fun v s1 ⟨x,H1,I1,r1,q1⟩=>?_)
 obtain ⟨c,rfl,q1⟩:=q1
 cases r1
 refine wpAny_truthy_bool ?_
 cases c with
 | false=>exact hb pins s1 σ H1 Q I1 q1
 | true=>exact ⟨.bl true,H1,I1,rfl,q1⟩
theorem uU (ha:PE X a ta):PE X (.UnaryOp .Not a pos) (xi ta):=by
 intro pins s σ H Q I h
 refine UnaryOp_ (bK (ha pins s σ H _ I h) fun v s1 ⟨x,H1,I1,r1,q1⟩=>?_)
 obtain ⟨c,rfl,q1⟩:=q1
 cases r1
 exact not_of (wpAny_truthy_bool ⟨.bl (!c),H1,I1,rfl,q1⟩)
def Io (t:TT) (ta tb:TE):TE:=fun σ H Q=>t σ H fun c H1=>if c=true then ta σ H1 Q else tb σ H1 Q
theorem mU {c:Expr} (hc:PT X c tA) (ha:PE X a ta) (hb:PE X b tb):PE X (.IfExp c a b pos) (Io tA ta tb):=by
 intro pins s σ H Q I h
 refine wpAny_IfExp (bK (hc pins s σ H _ I h) fun d s1 ⟨H1,I1,q1⟩=>?_)
 cases d with
 | true=>exact ha pins s1 σ H1 Q I1 q1
 | false=>exact hb pins s1 σ H1 Q I1 q1
end
end L2
namespace L2
open PySem PySem.Spec PyProof.Rows
def cD (K:PySem.W.Frag) (H:Hp) (a:Addr) (xs:List V):Prop :=
 Rd H a (.lst xs) ∨
  ∃ (o:Obj) (its:Array Value) (n:Nat),K.lookup a=some o∧o.cls=.type "list"∧o.dict=none∧o.data=.seq its n∧its.size≤sizeLine∧Vals xs its.toList
def fQ (K:PySem.W.Frag) (H:Hp) (a:Addr) (xs:List V):Prop :=
 Rd H a (.tup xs) ∨
  ∃ (o:Obj) (its:Array Value) (n:Nat),K.lookup a=some o∧o.cls=.type "tuple"∧o.data=.seq its n∧its.size≤sizeLine∧Vals xs its.toList
def IF:Value→Option V
 | .none=>some .non
 | .bool b=>some (.bl b)
 | .int i _=>some (.int i)
 | .str x _=>some (.str x)
 | .bytes b _=>some (.byt b)
 | .float b _=>some (.flt b)
 | .ref a=>some (.ref a)
 | .type n=>some (.ty n)
 | _=>none
theorem RelV.abs {x:V} {u:Value} (r:RelV x u):IF u=some x:=by
 cases x with
 | non=>cases r;rfl
 | bl _=>cases r;rfl
 | int _=>obtain ⟨t,rfl⟩:=r;rfl
 | str _=>obtain ⟨t,rfl⟩:=r;rfl
 | byt _=>obtain ⟨t,rfl⟩:=r;rfl
 | flt _=>obtain ⟨t,rfl⟩:=r;rfl
 | ref _=>cases r;rfl
 | ty _=>cases r;rfl
theorem RelV.inj {x y:V} {u:Value} (r:RelV x u) (q:RelV y u):x=y:=Option.some.inj (r.abs.symm.trans q.abs)
theorem Vals.inj:∀ {xs ys:List V} {us:List Value},Vals xs us→Vals ys us→xs=ys
 | _,_,_,.nil,.nil=>rfl
 | _,_,_,.cons r t,.cons r' t'=>by rw [r.inj r',Vals.inj t t']
section
variable {X:Cx} {pins:List (Addr × Obj)} {σ:St} {H:Hp} {s:Shared} {a:Addr} {xs ys:List V}
theorem cD.of {K:PySem.W.Frag} (h:H a=some (.lst xs)):cD K H a xs:=.inl (.inl h)
theorem fQ.of {K:PySem.W.Frag} (h:H a=some (.tup xs)):fQ K H a xs:=.inl (.inl h)
theorem Inv.list (I:Inv X pins σ H s) (h:cD X.K H a xs):∃ its:List Value,Vals xs its∧PlainL s.heap a its.toArray∧xs.length≤sizeLine:=by
 rcases h with h | ⟨o,its,n,hk,hc,hd,hs,hz,r⟩
 ·obtain ⟨z,its,n,r,e⟩:=h.ok I.hok
  exact ⟨its,r,⟨_,n,e,rfl,rfl,rfl⟩,z⟩
 ·refine ⟨its.toList,r,⟨o,n,I.jP a o hk,hc,hd,by simpa using hs⟩,?_⟩
  have e:=r.length
  simp only [Array.length_toList] at e
  omega
theorem Inv.tuple (I:Inv X pins σ H s) (h:fQ X.K H a xs):∃ its:List Value,Vals xs its∧IsTup s.heap a its.toArray∧xs.length≤sizeLine:=by
 rcases h with h | ⟨o,its,n,hk,hc,hs,hz,r⟩
 ·obtain ⟨z,its,r,p⟩:=h.ok I.hok
  exact ⟨its,r,p,z⟩
 ·refine ⟨its.toList,r,⟨o,I.jP a o hk,hc,n,by simpa using hs⟩,?_⟩
  have e:=r.length
  simp only [Array.length_toList] at e
  omega
theorem Inv.g_ (I:Inv X pins σ H s) (h:cD X.K H a xs) (h':cD X.K H a ys):xs=ys:=by
 obtain ⟨its,r,⟨o,n,e,_,_,d⟩,_⟩:=I.list h
 obtain ⟨its',r',⟨o',n',e',_,_,d'⟩,_⟩:=I.list h'
 rw [e] at e';cases e'
 rw [d] at d'
 injection d' with d1 _
 have:its=its':=by simpa using congrArg Array.toList d1
 subst this
 exact r.inj r'
theorem Inv.yx (I:Inv X pins σ H s) (h:fQ X.K H a xs) (h':fQ X.K H a ys):xs=ys:=by
 obtain ⟨its,r,⟨o,e,_,n,d⟩,_⟩:=I.tuple h
 obtain ⟨its',r',⟨o',e',_,n',d'⟩,_⟩:=I.tuple h'
 rw [e] at e';cases e'
 rw [d] at d'
 injection d' with d1 _
 have:its=its':=by simpa using congrArg Array.toList d1
 subst this
 exact r.inj r'
end
abbrev Cx.nH (X:Cx) (E:Value→Shared→Prop):Cx:={ X with xe:=E }
abbrev Cx.EM (X:Cx):Cx:=X.nH fun _ _=>False
theorem Cx.Ok.nH {X:Cx} (ok:X.Ok) (E:Value→Shared→Prop):(X.nH E).Ok :=
 ⟨ok.mod,ok.kind,ok.glob,ok.blt,ok.above,ok.inj,ok.has,ok.cab,ok.hd,ok.frames,ok.stk,ok.exf,ok.bs,ok.bsz,ok.noex,ok.exfs,ok.kD,ok.frf⟩
theorem Cx.Ok.iq {X:Cx} {E:Value→Shared→Prop} (ok:(X.nH E).Ok):X.Ok :=
 ⟨ok.mod,ok.kind,ok.glob,ok.blt,ok.above,ok.inj,ok.has,ok.cab,ok.hd,ok.frames,ok.stk,ok.exf,ok.bs,ok.bsz,ok.noex,ok.exfs,ok.kD,ok.frf⟩
section
variable {X:Cx} {pins:List (Addr × Obj)} {σ:St} {H:Hp} {s:Shared} {E:Value→Shared→Prop}
theorem Inv.nH (I:Inv X pins σ H s) (E:Value→Shared→Prop):Inv (X.nH E) pins σ H s:=⟨I.ok.nH E,I.os,I.bare,I.base,I.loc,I.cell,I.free,I.freeC,I.pin,I.hok,I.len⟩
theorem Inv.iq (I:Inv (X.nH E) pins σ H s):Inv X pins σ H s:=⟨I.ok.iq,I.os,I.bare,I.base,I.loc,I.cell,I.free,I.freeC,I.pin,I.hok,I.len⟩
theorem SP.iq {D:Ends} {f:Flow} {s':Shared} (h:SP (X.nH E) pins D f s'):SP X pins D f s':=by
 cases f with
 | next=>obtain ⟨σ',H',I,q⟩:=h;exact ⟨σ',H',I.iq,q⟩
 | brk=>obtain ⟨σ',H',I,q⟩:=h;exact ⟨σ',H',I.iq,q⟩
 | cont=>obtain ⟨σ',H',I,q⟩:=h;exact ⟨σ',H',I.iq,q⟩
 | ret u=>obtain ⟨v,σ',H',I,r,q⟩:=h;exact ⟨v,σ',H',I.iq,r,q⟩
theorem oI.EM {st:List Stmt} {t:TS} (h:oI X.EM st t):oI X st t:=fun pins s σ H D I hw =>
 wpAny_mono (h pins s σ H D (I.nH _) hw) (fun _ _ q=>q.iq) fun _ _ z=>False.elim z
end
section
variable {X:Cx} {st:Stmt} {rest:List Stmt} {t u:TS} {e:Expr} {te:TE} {pos:Pos}
def xh:TS:=fun D σ H=>D.nx σ H
def C4 (t u:TS):TS:=fun D σ H=>t { D with nx:=u D } σ H
theorem eK:oI X [] xh:=fun _ _ σ H _ I h=>wpAny_execs_nil ⟨σ,H,I,h⟩
theorem aQ (h1:PS X st t) (h2:oI X rest u):oI X (st :: rest) (C4 t u):=by
 intro pins s σ H D I h
 refine wpAny_execs_cons (bK (h1 pins s σ H { D with nx:=u D } I h) fun f s1 q=>?_)
 cases f with
 | next =>
  obtain ⟨σ',H',I',q⟩:=q
  exact h2 pins s1 σ' H' D I' q
 | ret v=>exact q
 | brk=>exact q
 | cont=>exact q
theorem bx (h1:PS X st t):oI X [st] t:=by
 intro pins s σ H D I h
 refine wpAny_execs_cons (bK (h1 pins s σ H D I h) fun f s1 q=>?_)
 cases f with
 | next=>exact wpAny_execs_nil q
 | ret v=>exact q
 | brk=>exact q
 | cont=>exact q
def Fy:TS:=fun D σ H=>D.bk σ H
def HH:TS:=fun D σ H=>D.ct σ H
theorem Inv.quiet {pins:List (Addr × Obj)} {σ:St} {H:Hp} {s:Shared} (I:Inv X pins σ H s):interactive X.env=false:=by simp [interactive,I.ok.kind]
def xg (te:TE):TS:=fun D σ H=>te σ H fun _ H1=>D.nx σ H1
theorem iJ (he:PE X e te) (hs:swapsWith e none pos.line X.env=pure false:=by rfl):PS X (.Expr e pos) (xg te):=by
 intro pins s σ H D I h
 exact wpAny_Expr_any (bK (he pins s σ H _ I h) fun v s1 ⟨x,H1,I1,r1,q1⟩=>⟨σ,H1,I1,q1⟩) I.quiet hs
def C3 (te:TE):TS:=fun D σ H=>te σ H D.rt
theorem c7 (he:PE X e te):PS X (.Return (some e) pos) (C3 te):=by
 intro pins s σ H D I h
 exact wpAny_Return_some (bK (he pins s σ H _ I h) fun v s1 ⟨x,H1,I1,r1,q1⟩=>⟨x,σ,H1,I1,r1,q1⟩)
def xk:TS:=fun D _ H=>D.rt .non H
theorem qm:PS X (.Return none pos) xk:=fun _ _ σ H _ I h=>wpAny_Return_none ⟨.non,σ,H,I,rfl,h⟩
def CZ (c:TT) (t u:TS):TS:=fun D σ H=>c σ H fun b H1=>if b=true then t D σ H1 else u D σ H1
theorem jY {c:Expr} {a b:List Stmt} {tc:TT} (hc:PT X c tc) (ha:oI X a t) (hb:oI X b u):PS X (.If c a b pos) (CZ tc t u):=by
 intro pins s σ H D I h
 refine wpAny_If (bK (hc pins s σ H _ I h) fun d s1 ⟨H1,I1,q1⟩=>?_)
 cases d with
 | true=>exact ha pins s1 σ H1 D I1 q1
 | false=>exact hb pins s1 σ H1 D I1 q1
def vA:TS:=fun _ _ _=>False
theorem kP {sts:List Stmt}:oI X sts vA:=fun _ _ _ _ _ _ h=>h.elim
end
abbrev TG:=V→St→Hp→(St→Hp→Prop)→Prop
abbrev mi:=List V→St→Hp→(St→Hp→Prop)→Prop
def PG (X:Cx) (target:Expr) (t:TG):Prop :=
 ∀ (pins:List (Addr × Obj)) (s:Shared) (σ:St) (H:Hp) (v:V) (u:Value) (Q:St→Hp→Prop),Inv X pins σ H s→RelV v u→t v σ H Q →
  wpAny (model X.prog X.w) X.A (assign target X.env u) (fun _ s'=>∃ σ' H',Inv X pins σ' H' s'∧Q σ' H') X.xe s
def Dd (X:Cx) (ts:List Expr) (t:mi):Prop :=
 ∀ (pins:List (Addr × Obj)) (s:Shared) (σ:St) (H:Hp) (vs:List V) (us:List Value) (Q:St→Hp→Prop),Inv X pins σ H s→Vals vs us→t vs σ H Q →
  wpAny (model X.prog X.w) X.A (assignInOrder ((assignEach ts X.env).map (·.2)) us) (fun _ s'=>∃ σ' H',Inv X pins σ' H' s'∧Q σ' H') X.xe s
abbrev i5:=V→V→V→Hp→(Hp→Prop)→Prop
def i4 (X:Cx) (t:i5):Prop :=
 ∀ (pins:List (Addr × Obj)) (s:Shared) (σ:St) (H:Hp) (o i v:V) (ov iv u:Value) (Q:Hp→Prop),Inv X pins σ H s→RelV o ov→RelV i iv→RelV v u→t o i v H Q →
  wpAny (model X.prog X.w) X.A (setItem ov iv u) (fun _ s'=>∃ H',Inv X pins σ H' s'∧Q H') X.xe s
abbrev Ie:=V→V→Hp→VK→Prop
def IB (X:Cx) (op:Operator) (t:Ie):Prop :=
 ∀ (pins:List (Addr × Obj)) (s:Shared) (σ:St) (H:Hp) (x y:V) (v u:Value) (Q:VK),Inv X pins σ H s→RelV x v→RelV y u→t x y H Q →
  wpAny (model X.prog X.w) X.A (inplaceOp op v u) (EP X pins σ Q) X.xe s
section
variable {X:Cx} {pos:Pos}
def mz (i:Nat):TG:=fun v σ H Q=>Q (σ.set i (some v)) H
theorem iH {i:Nat} {x:Str} (hN:X.N.Nodup) (hi:X.N[i]?=some x) (hx:Loc X.env.scope x) (hf:X.fn x=true∨X.env.scope.names.lookup x=some .local:=by first | exact .inl rfl | exact .inr rfl | assumption):PG X (.Name x pos) (mz i):=by
 intro pins s σ H v u Q I r h
 exact wpAny_assign_Name (eh I hN hi hx r (fun s' I'=>⟨_,H,I',h⟩) hf)
def Bz:mi:=fun vs σ H Q=>vs=[]∧Q σ H
def vW (t:TG) (u:mi):mi:=fun vs σ H Q=>∃ v r,vs=v :: r∧t v σ H fun σ' H'=>u r σ' H' Q
theorem qj:Dd X [] Bz:=by
 intro pins s σ H vs us Q I r h
 obtain ⟨e,h⟩:=h
 subst e
 cases r
 exact assignInOrder_nil ⟨σ,H,I,h⟩
theorem mW {e:Expr} {es:List Expr} {t:TG} {u:mi} (h1:PG X e t) (h2:Dd X es u)
  (hs:(assignEach (e :: es) X.env).map (·.2)=assign e X.env :: (assignEach es X.env).map (·.2):=by rfl):Dd X (e :: es) (vW t u):=by
 intro pins s σ H vs us Q I r h
 obtain ⟨v,vr,e1,h⟩:=h
 subst e1
 cases r with
 | cons r rr =>
  rw [hs]
  refine assignInOrder_cons (bK (h1 pins s σ H _ _ _ I r h) fun _ s1 ⟨σ1,H1,I1,q1⟩=>?_)
  exact h2 pins s1 σ1 H1 _ _ Q I1 rr q1
def BC (K:PySem.W.Frag) (n:Nat) (t:mi):TG:=fun v σ H Q=>∃ a xs,v=.ref a∧fQ K H a xs∧xs.length=n∧t xs σ H Q
theorem uX {es:List Expr} {k:Nat} {t:mi} {n:Nat} (hc:X.calm=true) (h:Dd X es t)
  (hn:(assignEach es X.env).length=n:=by rfl) (hst:(assignEach es X.env).findIdx? (·.1)=none:=by rfl):PG X (.Tuple es k pos) (BC X.K n t):=by
 intro pins s σ H v u Q I r hw
 obtain ⟨a,xs,e1,hq,hl,hw⟩:=hw
 subst e1
 cases r
 obtain ⟨its,rv,ht,hz⟩:=I.tuple hq
 refine assign_Tuple_tuple (I.ok.hd hc) ht (by simp [hn,← hl,rv.length]) hst fun h' hx=>?_
 have I1:Inv X pins σ H { s with heap:=h' }:=I.kept (t':=s.toks) fun b o e=>hx b o (Nat.ne_of_lt (Heap.lt_size e)) e
 exact h pins _ σ H xs _ Q I1 (by simpa using rv) hw
def BB (to ti:TE) (t:i5):TG:=fun v σ H Q=>to σ H fun o H1=>ti σ H1 fun i H2=>t o i v H2 fun H3=>Q σ H3
theorem qi {o i:Expr} {to ti:TE} {t:i5} (ho:PE X o to) (hi:PE X i ti) (hs:i4 X t)
  (ha:∀ v,assign (.Subscript o i pos) X.env v=(do
   let ov ← holding [v] (eval o X.env)
   let iv ← holding [v,ov] (eval i X.env)
   standAt pos
   holding [v,ov,iv] (setItem ov iv v)
   release [v,ov,iv] []):=by intro _;rfl):PG X (.Subscript o i pos) (BB to ti t):=by
 intro pins s σ H v u Q I r h
 rw [ha]
 refine wpAny_bind (wpAny_holding (bK (ho pins s σ H _ I h) fun ov s1 ⟨x,H1,I1,r1,q1⟩=>?_))
 refine wpAny_bind (wpAny_holding (bK (hi pins s1 σ H1 _ I1 q1) fun iv s2 ⟨y,H2,I2,r2,q2⟩=>?_))
 refine wpAny_bind (wpAny_standAt (wpAny_bind (wpAny_holding (bK (hs pins s2 σ H2 x y v ov iv u _ I2 r1 r2 r q2) fun _ s3 ⟨H3,I3,q3⟩=>?_))))
 exact wpAny_release ⟨σ,H3,I3,q3⟩
def vw (te:TE) (g:TG):TS:=fun D σ H=>te σ H fun x H1=>g x σ H1 D.nx
theorem ql {tg e:Expr} {te:TE} {g:TG} (he:PE X e te) (hg:PG X tg g) (hs:swapsWithSole [tg] e pos.line X.env=pure false:=by rfl) (hw:swappedStores [tg] e X.env=pure none:=by rfl)
  (h1:(assignEach [tg] X.env).map (·.2)=[assign tg X.env]:=by rfl):PS X (.Assign [tg] e pos) (vw te g):=by
 intro pins s σ H D I h
 refine wpAny_Assign_stores (bK (he pins s σ H _ I h) fun v s1 ⟨x,H1,I1,r1,q1⟩=>?_) hs hw
 rw [h1]
 exact bK (hg pins s1 σ H1 x v _ I1 r1 q1) fun _ s2 q=>q
theorem cq {i:Nat} {x:Str} {e:Expr} {te:TE} {pos':Pos} (hN:X.N.Nodup) (hi:X.N[i]?=some x) (hx:Loc X.env.scope x) (he:PE X e te) (hs:swapsWith e (some (.Name x pos')) pos.line X.env=pure false:=by rfl) (hf:X.fn x=true∨X.env.scope.names.lookup x=some .local:=by first | exact .inl rfl | exact .inr rfl | assumption) :
  PS X (.Assign [.Name x pos'] e pos) (vw te (mz i)):=by
 intro pins s σ H D I h
 refine wpAny_Assign_Name (bK (he pins s σ H _ I h) fun v s1 ⟨y,H1,I1,r1,q1⟩=>?_) hs
 exact eh I1 hN hi hx r1 (fun s2 I2=>⟨_,H1,I2,q1⟩) hf
def C2 (i j:Nat) (ta:TA):TS:=fun D σ H=>ta σ H fun vs H1=>∃ v w,vs=[v,w]∧D.nx ((σ.set i (some v)).set j (some w)) H1
theorem kO {i j:Nat} {x y:Str} {a b:Expr} {ta:TA} {px py pt:Pos} {kt k2 pt2} (hc:X.calm=true) (hN:X.N.Nodup) (hi:X.N[i]?=some x) (hj:X.N[j]?=some y) (hij:i≠j)
  (hx:X.env.scope.names.lookup x=some .local) (hy:X.env.scope.names.lookup y=some .local) (ha:PA X [a,b] ta)
  (hw:swappedStores [.Tuple [.Name x px,.Name y py] kt pt] (.Tuple [a,b] k2 pt2) X.env=pure (some [x,y]))
  (hs:swapsWithSole [.Tuple [.Name x px,.Name y py] kt pt] (.Tuple [a,b] k2 pt2) pos.line X.env=pure false:=by rfl) :
  PS X (.Assign [.Tuple [.Name x px,.Name y py] kt pt] (.Tuple [a,b] k2 pt2) pos) (C2 i j ta):=by
 intro pins s σ H D I h
 rw [exec_Assign_arm]
 refine wpAny_bind (wpAny_standAt ?_)
 rw [hs]
 refine wpAny_bind (wpAny_pure ?_)
 rw [if_neg (by decide)]
 refine wpAny_bind (Tuple_ (bK (ha _ pins s σ H _ I h) fun us s1 ⟨vs,H1,I1,r1,q1⟩=>?_))
 obtain ⟨v,w,e1,q1⟩:=q1
 subst e1
 obtain ⟨u1,u2,rfl,rv,rw'⟩:∃ u1 u2,us=[u1,u2]∧RelV v u1∧RelV w u2:=by
  cases r1 with
  | cons p q =>
   cases q with
   | cons p' q' =>
    cases q'
    exact ⟨_,_,rfl,p,p'⟩
 refine wpAny_newObj_type ?_ (by show 2≤sizeLine;decide)
 have I2:Inv X pins σ H1 { s1 with heap:=s1.heap.push { cls:=.type "tuple",data:=.seq [u1,u2].toArray } }:=I1.kept (t':=s1.toks) fun b o e=>Heap.get?_push_of_some _ e
 rw [hw]
 refine wpAny_bind (wpAny_pure ?_)
 show wpAny (model X.prog X.w) X.A (do rule "assign.swapped-stores";let items ← unpackItems (.ref s1.heap.objs.size) 2 none;assignInOrder [fun v=>bindName X.env y v,fun v=>bindName X.env x v] items.reverse;pure Flow.next) _ _ _
 refine wpAny_bind (wpAny_rule (wpAny_bind (unpackItems_tuple (items:=#[u1,u2]) (I.ok.hd hc) (IsTup.new s1.heap _) fun h' hx'=>?_)))
 have I3:=I2.kept (h':=h') (t':=s1.toks) fun b o e=>hx' b o (Nat.ne_of_lt (Heap.lt_size e)) e
 show wpAny _ _ (assignInOrder [fun v=>bindName X.env y v,fun v=>bindName X.env x v] [u2,u1] >>= fun _=>pure Flow.next) _ _ _
 refine wpAny_bind (assignInOrder_cons (wpAny_bindName (eh I3 hN hj (.inl hy) rw' (fun s2 I4=>?_) (.inr hy))))
 refine assignInOrder_cons (wpAny_bindName (eh I4 hN hi (.inl hx) rv (fun s3 I5=>assignInOrder_nil (wpAny_pure ?_)) (.inr hx)))
 rw [List.set_comm _ _ (Ne.symm hij)] at I5
 exact ⟨_,H1,I5,q1⟩
def JK (i:Nat) (te:TE) (ti:Ie):TS:=fun D σ H=>∃ x,σ[i]?=some (some x)∧te σ H fun y H1=>ti x y H1 fun z H2=>D.nx (σ.set i (some z)) H2
theorem E5 {i:Nat} {x:Str} {e:Expr} {te:TE} {op:Operator} {ti:Ie} {pos':Pos} (hN:X.N.Nodup) (hi:X.N[i]?=some x) (hx:Loc X.env.scope x) (he:PE X e te) (ho:IB X op ti) (hf:X.fn x=true∨X.env.scope.names.lookup x=some .local:=by first | exact .inl rfl | exact .inr rfl | assumption) :
  PS X (.AugAssign (.Name x pos') op e pos) (JK i te ti):=by
 intro pins s σ H D I h
 obtain ⟨v,e1,h⟩:=h
 obtain ⟨m,hn,hl⟩:=I.loc
 have vis:rq X.env.scope x:=by rcases hx with k | k;exact .inl k;exact .inr (.inl k)
 obtain ⟨u,r,l⟩:=hl i x v hi e1 vis
 refine wpAny_AugAssign_Name ?_
 have go:wpAny (model X.prog X.w) X.A (eval e X.env) (fun w s₂=>wpAny (model X.prog X.w) X.A (inplaceOp op u w) (fun r s₃=>wpAny (model X.prog X.w) X.A (storeName X.env x r) (fun _=>SP X pins D .next) X.xe s₃) X.xe s₂) X.xe s:=by
  refine bK (he pins s σ H _ I h) fun w s1 ⟨y,H1,I1,r1,q1⟩=>?_
  refine bK (ho pins s1 σ H1 v y u w _ I1 r r1 q1) fun z s2 ⟨zv,H2,I2,r2,q2⟩=>?_
  exact eh I2 hN hi hx r2 (fun s3 I3=>⟨_,H2,I3,q2⟩) hf
 rcases l with ⟨hk,hm⟩ | ⟨hk,c,hc,hcell⟩
 ·exact wpAny_loadName_local I.ok.kind hk hn hm go
 ·rcases hk with hk | hk
  ·exact wpAny_loadName_cell I.ok.kind hk hc hcell go
  ·rcases hx with k | k
   ·have:X.env.scope.names.lookup x=some .free:=hk
    rw [k] at this;cases this
   ·have:X.env.scope.names.lookup x=some .free:=hk
    rw [k] at this;cases this
def KZ (f:Int→Int→Int):Ie:=fun x y H Q=>∃ i j,x=.int i∧y=.int j∧Q (.int (f i j)) H
theorem Es:IB X .Sub (KZ fun i j=>i - j):=by
 intro pins s σ H x y v u Q I r1 r2 h
 obtain ⟨i,j,e1,e2,q⟩:=h
 subst e1;subst e2
 obtain ⟨t,rfl⟩:=r1
 obtain ⟨t',rfl⟩:=r2
 exact isub_int ⟨.int _,H,I.tok _,⟨_,rfl⟩,q⟩
end
section
variable {X:Cx} {pos:Pos}
def ra (c:TT) (tb:TS):TS:=fun D σ H=>∃ W:Nat→St→Hp→Prop,(∃ m,W m σ H)∧∀ m σ H,W m σ H →
 c σ H fun b H1=>if b=true then ∃ N:St→Hp→Prop,(∀ σ' H',N σ' H'→∃ m',m' < m∧W m' σ' H')∧tb { D with nx:=N,ct:=N,bk:=D.nx } σ H1 else D.nx σ H1
theorem ib {c:Expr} {body:List Stmt} {tc:TT} {tb:TS} (hp:PassesOwn (model X.prog X.w) X.A X.env X.xe) (hc:PT X c tc) (hb:oI X body tb):PS X (.While c body [] pos) (ra tc tb):=by
 intro pins s σ H D I h
 obtain ⟨W,⟨m0,w0⟩,turn⟩:=h
 refine wpAny_While (codeAny_whileLoop (fun n s'=>∃ σ' H',Inv X pins σ' H' s'∧W n σ' H') ?_ m0 ⟨σ,H,I,w0⟩)
 rintro n s1 ⟨σ1,H1,I1,w1⟩
 refine wpAny_passesOwn hp (bK (hc pins s1 σ1 H1 _ I1 (turn n σ1 H1 w1)) fun b s2 ⟨H2,I2,q2⟩=>?_)
 cases b with
 | true =>
  obtain ⟨N,hN,q2⟩:=q2
  rw [if_pos rfl]
  refine wpAny_passesOwn hp (bK (hb pins s2 σ1 H2 _ I2 q2) fun f s3 q3=>?_)
  cases f with
  | next =>
   obtain ⟨σ3,H3,I3,n3⟩:=q3
   obtain ⟨m',hm,w3⟩:=hN σ3 H3 n3
   exact ⟨m',hm,σ3,H3,I3,w3⟩
  | cont =>
   obtain ⟨σ3,H3,I3,n3⟩:=q3
   obtain ⟨m',hm,w3⟩:=hN σ3 H3 n3
   exact ⟨m',hm,σ3,H3,I3,w3⟩
  | brk=>exact q3
  | ret v=>exact q3
 | false =>
  rw [if_neg Bool.false_ne_true]
  exact wpAny_execs_nil ⟨σ1,H2,I2,q2⟩
end
structure It where
 go:Nat→Hp→Prop
 yld:Nat→Hp→V→Hp→Prop
 stop:Nat→Hp→Prop
def gi (X:Cx) (pins:List (Addr × Obj)) (H:Hp) (b:Addr):Prop :=
 H b=none∧b≠X.env.locals∧b ∉ X.fs∧(b∈X.ex∨X.s₀.heap.objs.size≤b)∧(∀ x c,X.env.cells.lookup x=some c→c≠b)∧∀ p∈X.pn ++ pins,p.1≠b
theorem Inv.zd {X:Cx} {pins:List (Addr × Obj)} {σ:St} {H H':Hp} {s:Shared} {b:Addr} (I:Inv X pins σ H s) (hb:s.heap.objs.size≤b) (hn:H' b=none):gi X pins H' b:=by
 refine ⟨hn,Nat.ne_of_gt (Nat.lt_of_lt_of_le I.lt hb),I.Jr hb,.inr (Nat.le_trans I.sz hb),fun x c e z=>?_,fun p hp z=>?_⟩
 ·obtain ⟨v,q⟩:=I.cell x c e
  exact absurd (Nat.lt_of_lt_of_le q.lt (by rw [z];exact hb)) (Nat.lt_irrefl _)
 ·exact absurd (Nat.lt_of_lt_of_le (Heap.lt_size (I.pin p hp).1) (by rw [z];exact hb)) (Nat.lt_irrefl _)
structure Turn (P:Program) (w:World) (K:PySem.W.Frag) (tg:Expr) (J:It) (fp:List Addr) (it:Addr) (tn:Nat→Heap→Prop):Prop where
 mem:it∈fp
 obj:∀ i h,tn i h→∀ b∈fp,∃ o,h.get? b=some o∧∀ v,o.data≠.cell v
 keep:∀ i h h',tn i h→(∀ b∈fp,∀ o,h.get? b=some o→h'.get? b=some o)→tn i h'
 item:∀ (X:Cx),X.prog=P→X.w=w→X.K=K→X.calm=true→∀ (i:Nat) (pins:List (Addr × Obj)) (s:Shared) (σ:St) (H:Hp) (E:Value→Shared→Prop),Inv X pins σ H s→(∀ b∈fp,gi X pins H b)→tn i s.heap→J.go i H →
  wpAny (model P w) X.A (pyNext (.ref it)) (fun r s1=>∃ u,r=some u ∧
   wpAny (model P w) X.A (letOwnedTupleGo tg (.ref it) u) (fun _ s2=>∃ x H',Inv X pins σ H' s2∧RelV x u∧J.yld i H x H'∧tn (i + 1) s2.heap∧∀ b∈fp,H' b=none) E s1) E s
 done:∀ (X:Cx),X.prog=P→X.w=w→X.K=K→X.calm=true→∀ (i:Nat) (pins:List (Addr × Obj)) (s:Shared) (σ:St) (H:Hp) (E:Value→Shared→Prop),Inv X pins σ H s→(∀ b∈fp,gi X pins H b)→tn i s.heap→J.stop i H →
  wpAny (model P w) X.A (pyNext (.ref it)) (fun r s1=>r=none∧Inv X pins σ H s1) E s
 self:∀ (A:Around) (i:Nat) (s:Shared) (Q:Value→Shared→Prop) (E:Value→Shared→Prop),tn i s.heap→Q (.ref it) s→wpAny (model P w) A (pyIter (.ref it)) Q E s
abbrev TI:=St→Hp→(It→Hp→Prop)→Prop
def Kb (X:Cx) (pins:List (Addr × Obj)) (σ:St) (tg:Expr) (R:It→Hp→Prop) (itv:Value) (s2:Shared):Prop :=
 ∃ (it:Addr) (fp:List Addr) (tn:Nat→Heap→Prop) (J:It) (H':Hp),itv=.ref it∧Inv X pins σ H' s2∧Turn X.prog X.w X.K tg J fp it tn∧tn 0 s2.heap∧(∀ b∈fp,gi X pins H' b)∧R J H'
def PI (X:Cx) (tg iter:Expr) (wi:TI):Prop :=
 ∀ (pins:List (Addr × Obj)) (s:Shared) (σ:St) (H:Hp) (R:It→Hp→Prop),Inv X pins σ H s→wi σ H R →
  wpAny (model X.prog X.w) X.A (eval iter X.env) (fun v s1=>wpAny (model X.prog X.w) X.A (pyIter v) (Kb X pins σ tg R) X.xe s1) X.xe s
theorem zj {M:Model} {A:Around} {E:Value→Shared→Prop} {s:Shared} {tg:Expr} {it:Addr} {u:Value} {o:Obj} {n:String} {vs:Array Value} {Q:Unit→Shared→Prop} (ho:s.heap.get? it=some o) (hc:o.cls=.type n) (hd:o.data=.fields vs)
  (hn:["enumerate","zip","dict_itemiterator","dict_reverseitemiterator","odict_iterator","itertools.zip_longest","itertools.pairwise"].contains n=false) (hQ:Q () s):wpAny M A (letOwnedTupleGo tg (.ref it) u) Q E s:=by
 unfold letOwnedTupleGo
 cases tg <;> first
  | exact wpAny_pure hQ
  | (cases u <;> first
    | exact wpAny_pure hQ
    | (refine wpAny_bind (wpAny_load ho ?_)
       rw [hc,hd]
       show wpAny M A (if (["enumerate","zip","dict_itemiterator","dict_reverseitemiterator","odict_iterator","itertools.zip_longest","itertools.pairwise"].contains n && vs[0]? == some (rawInt _))=true then _ else _) Q E s
       rw [if_neg (by intro h;rw [hn,Bool.false_and] at h;cases h)]
       exact wpAny_pure hQ))
def Bq (K:PySem.W.Frag) (a:Addr):It :=
 ⟨fun i H=>∃ xs x,cD K H a xs∧xs[i]?=some x,fun i H x H'=>H'=H∧∀ xs,cD K H a xs→xs[i]?=some x,fun i H=>∃ xs,cD K H a xs∧xs.length≤i⟩
def KJ (K:PySem.W.Frag) (a:Addr):It :=
 ⟨fun i H=>∃ xs x,fQ K H a xs∧xs[i]?=some x,fun i H x H'=>H'=H∧∀ xs,fQ K H a xs→xs[i]?=some x,fun i H=>∃ xs,fQ K H a xs∧xs.length≤i⟩
def yN (lo:Int) (n:Nat):It:=⟨fun i _=>i < n,fun i H x H'=>H'=H∧x=.int (lo + i),fun i _=>n≤i⟩
theorem yA {P:Program} {w:World} {K:PySem.W.Frag} {tg:Expr} (a it:Addr):Turn P w K tg (Bq K a) [it] it (fun i h=>h.IsListIter it a i) where
 mem:=by simp
 obj:=fun i h st b hb=>by
  have e:b=it:=by simpa using hb
  subst e
  obtain ⟨o,e,c,d⟩:=st
  exact ⟨o,e,fun v z=>by rw [d] at z;cases z⟩
 keep:=fun i h h' st k=>st.at fun o e=>k it (by simp) o e
 item:=by
  intro X hP hw hK hc i pins s σ H E I hf st hg
  subst hP hw hK
  obtain ⟨xs,x,hq,hx⟩:=hg
  obtain ⟨its,rv,p,hz⟩:=I.list hq
  obtain ⟨u,hu,ru⟩:=rv.get hx
  obtain ⟨f0,f1,f2,f3,f4,f5⟩:=hf it (by simp)
  refine wpAny_pyNext_list_item st p.isList (x:=u) (by simpa using hu) fun h' st' sb=>?_
  have I1:Inv X pins σ H { s with heap:=h' }:=I.turned (t':=s.toks) (fun b o hb e=>(sb.2 b hb).trans e) f0 f1 f3 f4 f5
  obtain ⟨o,e,c,d⟩:=id st'
  exact ⟨u,rfl,zj (s:={ s with heap:=h' }) e c d (by decide) ⟨x,H,I1,ru,⟨rfl,fun ys hy=>by rw [I.g_ hy hq];exact hx⟩,st',fun b hb=>(hf b hb).1⟩⟩
 done:=by
  intro X hP hw hK hc i pins s σ H E I hf st hg
  subst hP hw hK
  obtain ⟨xs,hq,hx⟩:=hg
  obtain ⟨its,rv,p,hz⟩:=I.list hq
  obtain ⟨f0,f1,f2,f3,f4,f5⟩:=hf it (by simp)
  have hl:=rv.length
  exact wpAny_pyNext_list_end (I.ok.hd hc) st p.isList (by simp;omega) fun h' eb=>⟨rfl,I.turned (t':=s.toks) (fun b o hb e=>eb b o hb e) f0 f1 f3 f4 f5⟩
 self:=fun _ _ _ _ _ st h=>wpAny_pyIter_listiter st h
theorem vC {P:Program} {w:World} {K:PySem.W.Frag} {tg:Expr} (it:Addr) (lo:Int) (n:Nat):Turn P w K tg (yN lo n) [it] it (fun i h=>IsRangeIter h it (lo + (i:Nat) * 1) ((n:Int) - (i:Nat)) 1) where
 mem:=by simp
 obj:=fun i h st b hb=>by
  have e:b=it:=by simpa using hb
  subst e
  exact ⟨_,st,fun v z=>by
   have z':Data.fields _=Data.cell v:=z
   cases z'⟩
 keep:=fun i h h' st k=>k it (by simp) _ st
 item:=by
  intro X hP hw hK hc i pins s σ H E I hf st hg
  subst hP hw hK
  obtain ⟨f0,f1,f2,f3,f4,f5⟩:=hf it (by simp)
  have W:=Walks.range (prog:=X.prog) (w:=X.w) (I.ok.hd hc) it lo 1 n
  refine W.item i s _ _ hg st fun v h' tk hv st' kk=>?_
  obtain ⟨t,rfl⟩:=hv
  have I1:Inv X pins σ H { s with heap:=h',toks:=tk }:=I.turned (fun b o hb e=>kk b o (by simpa using hb) e) f0 f1 f3 f4 f5
  refine ⟨_,rfl,zj (s:={ s with heap:=h',toks:=tk }) (n:="range_iterator") st' rfl rfl (by decide) ⟨.int (lo + i),H,I1,⟨t,?_⟩,⟨rfl,rfl⟩,st',fun b hb=>(hf b hb).1⟩⟩
  rw [Int.mul_one]
 done:=by
  intro X hP hw hK hc i pins s σ H E I hf st hg
  subst hP hw hK
  obtain ⟨f0,f1,f2,f3,f4,f5⟩:=hf it (by simp)
  exact wpAny_pyNext_range_end (I.ok.hd hc) st (by have:n≤i:=hg;omega) fun h' eb=>⟨rfl,I.turned (t':=s.toks) (fun b o hb e=>eb b o hb e) f0 f1 f3 f4 f5⟩
 self:=fun _ _ _ _ _ st h=>wpAny_pyIter_rangeiter st h
end L2
namespace L2
open PySem PySem.Spec PyProof.Rows
section
variable {X:Cx} {tg:Expr}
def v7 (K:PySem.W.Frag) (tl:TE):TI:=fun σ H R=>tl σ H fun x H1=>∃ a,x=.ref a∧(∃ xs,cD K H1 a xs)∧R (Bq K a) H1
def IQ (K:PySem.W.Frag) (tl:TE):TI:=fun σ H R=>tl σ H fun x H1=>∃ a,x=.ref a∧(∃ xs,fQ K H1 a xs)∧R (KJ K a) H1
theorem jX {l:Expr} {tl:TE} (hl:PE X l tl):PI X tg l (v7 X.K tl):=by
 intro pins s σ H R I h
 refine bK (hl pins s σ H _ I h) fun v s1 ⟨x,H1,I1,r1,q1⟩=>?_
 obtain ⟨a,e,⟨xs,hq⟩,q⟩:=q1
 subst e
 cases r1
 obtain ⟨its,rv,p,hz⟩:=I1.list hq
 refine wpAny_pyIter_list p.isList ?_
 refine ⟨s1.heap.objs.size,[s1.heap.objs.size],_,_,H1,rfl,I1.kept (t':=s1.toks) fun b o e=>Heap.get?_push_of_some _ e,yA a _,⟨_,Heap.get?_push_size _ rfl,rfl,rfl⟩,fun b hb=>?_,q⟩
 have e:b=s1.heap.objs.size:=by simpa using hb
 subst e
 exact I1.zd (Nat.le_refl _) (I1.hok.fresh (Nat.le_refl _))
theorem AB {pins:List (Addr × Obj)} {σ:St} {H:Hp} {s:Shared} {R:It→Hp→Prop} {E:Value→Shared→Prop} {lo hi:Int} {t u v:Tok} {tk:Nat} (I:Inv X pins σ H s) (h1:-(2 ^ 62)≤lo) (h2:lo < 2 ^ 62) (h3:-(2 ^ 62)≤hi) (h4:hi < 2 ^ 62)
  (q:R (yN lo (hi - lo).toNat) H):wpAny (model X.prog X.w) X.A (pyIter (.ref s.heap.objs.size)) (Kb X pins σ tg R) E { s with heap:=s.heap.push { cls:=.type "range",data:=.fields #[.int lo t,.int hi u,.int 1 v] },toks:=tk }:=by
 refine wpAny_pyIter_range (IsRange.new ..) (small_one h1 h2 h3 h4) ?_
 have I1:Inv X pins σ H { s with heap:=s.heap.push { cls:=.type "range",data:=.fields #[.int lo t,.int hi u,.int 1 v] },toks:=tk }:=I.kept fun b o e=>Heap.get?_push_of_some _ e
 refine ⟨(s.heap.push { cls:=.type "range",data:=.fields #[.int lo t,.int hi u,.int 1 v] }).objs.size,[(s.heap.push { cls:=.type "range",data:=.fields #[.int lo t,.int hi u,.int 1 v] }).objs.size],_,_,H,rfl,
  I1.kept (t':=tk) fun b o e=>Heap.get?_push_of_some _ e,vC _ lo (hi - lo).toNat,?_,fun b hb=>?_,q⟩
 ·have e1:lo + ((0:Nat):Int) * 1=lo:=by simp
  have e2:(((hi - lo).toNat:Nat):Int) - ((0:Nat):Int)=Builtin.Range.rangeSize lo hi 1:=by rw [rangeSize_one];split <;> omega
  show IsRangeIter _ _ (lo + ((0:Nat):Int) * 1) ((((hi - lo).toNat:Nat):Int) - ((0:Nat):Int)) 1
  rw [e1,e2]
  exact Heap.get?_push_size _ rfl
 ·have e:b=(s.heap.push { cls:=.type "range",data:=.fields #[.int lo t,.int hi u,.int 1 v] }).objs.size:=by simpa using hb
  subst e
  exact I1.zd (Nat.le_refl _) (I1.hok.fresh (Nat.le_refl _))
def v8 (ta:TA):TI:=fun σ H R=>ta σ H fun vs H1=>∃ j:Int,vs=[.int j]∧-(2 ^ 62)≤j∧j < 2 ^ 62∧R (yN 0 j.toNat) H1
def Di (ta:TA):TI:=fun σ H R=>ta σ H fun vs H1=>∃ i j:Int,vs=[.int i,.int j]∧(-(2 ^ 62)≤i∧i < 2 ^ 62∧-(2 ^ 62)≤j∧j < 2 ^ 62)∧R (yN i (j - i).toNat) H1
theorem fb {a:Expr} {ta:TA} {p pos:Pos} (hg:Gl X "range") (hm:X.mg "range"=none) (ha:PA X [a] ta) (hs:starEach [a] X.env=[(false,eval a X.env)]:=by rfl):PI X tg (.Call (.Name "range" p) [a] [] pos) (v8 ta):=by
 intro pins s σ H R I h
 refine Call_ (jq I hg hm boot_range (PyProof.Rows.callWith_type1 (bK (ha pos pins s σ H _ I h) fun us s1 ⟨vs,H1,I1,r1,q1⟩=>?_) hs rfl))
 obtain ⟨j,e,q1,q2,q⟩:=q1
 subst e
 cases r1 with
 | cons r rr =>
  cases rr
  obtain ⟨t,rfl⟩:=r
  exact call_range_1 (AB I1 (by omega) (by omega) q1 q2 (by simpa using q))
def Fz (wi:TI) (g:TG) (tb:TS):TS:=fun D σ H=>wi σ H fun J H1=>∃ W:Nat→Nat→St→Hp→Prop,(∃ m,W 0 m σ H1)∧∀ i m σ H,W i m σ H →
 (J.stop i H∧D.nx σ H)∨(J.go i H∧∃ N:St→Hp→Prop,(∀ σ' H',N σ' H'→∃ m',m' < m∧W (i + 1) m' σ' H')∧∀ x H',J.yld i H x H'→g x σ H' fun σ2 H2=>tb { D with nx:=N,ct:=N,bk:=D.nx } σ2 H2)
def qk (fp:List Addr) (h:Heap):List (Addr × Obj):=fp.filterMap fun b=>(h.get? b).map fun o=>(b,o)
theorem bG {fp:List Addr} {h:Heap} {b:Addr} {o:Obj} (hb:b∈fp) (e:h.get? b=some o):(b,o)∈qk fp h:=List.mem_filterMap.mpr ⟨b,hb,by rw [e];rfl⟩
theorem x4 {fp:List Addr} {h:Heap} {p:Addr × Obj} (hp:p∈qk fp h):p.1∈fp∧h.get? p.1=some p.2:=by
 obtain ⟨b,hb,e⟩:=List.mem_filterMap.mp hp
 cases q:h.get? b with
 | none=>rw [q] at e;cases e
 | some o =>
  rw [q] at e
  have e':(b,o)=p:=Option.some.inj e
  subst e'
  exact ⟨hb,q⟩
theorem Inv.pinned {pins:List (Addr × Obj)} {σ:St} {H:Hp} {s:Shared} {fp:List Addr} (I:Inv X pins σ H s) (hf:∀ b∈fp,gi X pins H b) (ho:∀ b∈fp,∃ o,s.heap.get? b=some o∧∀ v,o.data≠.cell v):Inv X (pins ++ qk fp s.heap) σ H s :=
 I.wz fun p hp=>(List.mem_append.mp hp).elim (fun z=>I.pin p (List.mem_append_right _ z)) fun z=>by
  obtain ⟨hb,e⟩:=x4 z
  obtain ⟨f0,f1,f2,_⟩:=hf p.1 hb
  obtain ⟨o,e',d⟩:=ho p.1 hb
  rw [e] at e';cases e'
  exact ⟨e,f0,f1,f2,d⟩
theorem Inv.er {pins pl:List (Addr × Obj)} {σ:St} {H:Hp} {s:Shared} (I:Inv X (pins ++ pl) σ H s):Inv X pins σ H s:=I.wz fun p hp=>I.pin p (List.mem_append_right _ (List.mem_append_left _ hp))
theorem kM {iter:Expr} {body:List Stmt} {wi:TI} {g:TG} {tb:TS} {pos:Pos} (hp:PassesOwn (model X.prog X.w) X.A X.env X.xe) (hc:X.calm=true) (hi:PI X tg iter wi) (hg:PG X tg g) (hb:oI X body tb)
  (hs:∀ x,foldedSetIterable iter X.env x=pure x:=by intro _;rfl):PS X (.For tg iter body [] pos) (Fz wi g tb):=by
 intro pins s σ H D I h
 refine wpAny_For (bK (hi pins s σ H _ I h) fun v s1 h1=>bK h1 fun itv s2 h2=>?_) hs
 obtain ⟨it,fp,tn,J,H2,e,I2,T,st2,f2,W,⟨m0,w0⟩,turn⟩:=h2
 subst e
 have stat:∀ {H':Hp},(∀ b∈fp,H' b=none)→∀ b∈fp,gi X pins H' b:=fun hn b hb=>⟨hn b hb,(f2 b hb).2⟩
 refine codeAny_forLoop_any (fun n s'=>∃ i σ' H',Inv X pins σ' H' s'∧tn i s'.heap∧(∀ b∈fp,H' b=none)∧W i n σ' H') ?_ m0 ⟨0,σ,H2,I2,st2,fun b hb=>(f2 b hb).1,w0⟩
 rintro n s3 ⟨i,σ3,H3,I3,st3,fr3,w3⟩
 rcases turn i n σ3 H3 w3 with ⟨stop,qn⟩ | ⟨go,N,hN,step⟩
 ·refine wpAny_passesOwn hp (bK (T.done X rfl rfl rfl hc i pins s3 σ3 H3 X.xe I3 (stat fr3) st3 stop) fun r s4 ⟨hr,I4⟩=>?_)
  subst hr
  exact wpAny_execs_nil ⟨σ3,H3,I4,qn⟩
 ·refine wpAny_passesOwn hp (bK (T.item X rfl rfl rfl hc i pins s3 σ3 H3 X.xe I3 (stat fr3) st3 go) fun r s4 ⟨u,hr,h4⟩=>?_)
  subst hr
  refine wpAny_passesOwn hp (bK h4 fun _ s5 ⟨x,H5,I5,r5,y5,st5,fr5⟩=>?_)
  have I5':=I5.pinned (stat fr5) (T.obj _ _ st5)
  refine wpAny_passesOwn hp (bK (hg _ s5 σ3 H5 x u _ I5' r5 (step x H5 y5)) fun _ s6 ⟨σ6,H6,I6,q6⟩=>?_)
  refine wpAny_passesOwn hp (bK (hb _ s6 σ6 H6 _ I6 q6) fun f s7 q7=>?_)
  have again:∀ {σ7:St} {H7:Hp},Inv X (pins ++ qk fp s5.heap) σ7 H7 s7→N σ7 H7→∃ m,m < n∧∃ i σ' H',Inv X pins σ' H' s7∧tn i s7.heap∧(∀ b∈fp,H' b=none)∧W i m σ' H':=fun {σ7 H7} I7 n7=>by
   obtain ⟨m',hm,w7⟩:=hN σ7 H7 n7
   refine ⟨m',hm,i + 1,σ7,H7,I7.er,T.keep _ _ _ st5 fun b hb o e=>(I7.pin (b,o) (List.mem_append_right _ (List.mem_append_right _ (bG hb e)))).1,fun b hb=>?_,w7⟩
   obtain ⟨o,e,d⟩:=T.obj _ _ st5 b hb
   exact (I7.pin (b,o) (List.mem_append_right _ (List.mem_append_right _ (bG hb e)))).2.1
  cases f with
  | next=>obtain ⟨σ7,H7,I7,n7⟩:=q7;exact again I7 n7
  | cont=>obtain ⟨σ7,H7,I7,n7⟩:=q7;exact again I7 n7
  | brk=>obtain ⟨σ7,H7,I7,q7⟩:=q7;exact ⟨σ7,H7,I7.er,q7⟩
  | ret v=>obtain ⟨x7,σ7,H7,I7,r7,q7⟩:=q7;exact ⟨x7,σ7,H7,I7.er,r7,q7⟩
end
theorem za {K:PySem.W.Frag} {a:Addr} {xs:List V} {g:TG} {tb:TS} {D:Ends} {σ:St} {H:Hp} (Pv:Nat→St→Hp→Prop) (h0:Pv 0 σ H) (hl:∀ i σ H,i≤xs.length→Pv i σ H→cD K H a xs)
  (hs:∀ i x σ H,xs[i]?=some x→Pv i σ H→g x σ H fun σ2 H2=>tb { D with nx:=Pv (i + 1),ct:=Pv (i + 1),bk:=D.nx } σ2 H2) (hd:∀ σ H,Pv xs.length σ H→D.nx σ H) :
  ∃ W:Nat→Nat→St→Hp→Prop,(∃ m,W 0 m σ H)∧∀ i m σ H,W i m σ H →
   ((Bq K a).stop i H∧D.nx σ H)∨((Bq K a).go i H∧∃ N:St→Hp→Prop,(∀ σ' H',N σ' H'→∃ m',m' < m∧W (i + 1) m' σ' H')∧∀ x H',(Bq K a).yld i H x H'→g x σ H' fun σ2 H2=>tb { D with nx:=N,ct:=N,bk:=D.nx } σ2 H2):=by
 refine ⟨fun i m σ H=>m=xs.length - i∧i≤xs.length∧Pv i σ H,⟨xs.length,by simp,Nat.zero_le _,h0⟩,?_⟩
 rintro i m σ H ⟨rfl,hi,p⟩
 have q:=hl i σ H hi p
 by_cases hlt:i < xs.length
 ·refine .inr ⟨⟨xs,xs[i],q,by simp [hlt]⟩,Pv (i + 1),fun σ' H' p'=>⟨xs.length - (i + 1),by omega,rfl,hlt,p'⟩,fun x H' y=>?_⟩
  obtain ⟨e,y⟩:=y
  subst e
  exact hs i x σ _ (y xs q) p
 ·have e:i=xs.length:=by omega
  subst e
  exact .inl ⟨⟨xs,q,Nat.le_refl _⟩,hd σ H p⟩
theorem oV {lo:Int} {n:Nat} {g:TG} {tb:TS} {D:Ends} {σ:St} {H:Hp} (Pv:Nat→St→Hp→Prop) (h0:Pv 0 σ H)
  (hs:∀ i σ H,i < n→Pv i σ H→g (.int (lo + i)) σ H fun σ2 H2=>tb { D with nx:=Pv (i + 1),ct:=Pv (i + 1),bk:=D.nx } σ2 H2) (hd:∀ σ H,Pv n σ H→D.nx σ H) :
  ∃ W:Nat→Nat→St→Hp→Prop,(∃ m,W 0 m σ H)∧∀ i m σ H,W i m σ H →
   ((yN lo n).stop i H∧D.nx σ H)∨((yN lo n).go i H∧∃ N:St→Hp→Prop,(∀ σ' H',N σ' H'→∃ m',m' < m∧W (i + 1) m' σ' H')∧∀ x H',(yN lo n).yld i H x H'→g x σ H' fun σ2 H2=>tb { D with nx:=N,ct:=N,bk:=D.nx } σ2 H2):=by
 refine ⟨fun i m σ H=>m=n - i∧i≤n∧Pv i σ H,⟨n,by simp,Nat.zero_le _,h0⟩,?_⟩
 rintro i m σ H ⟨rfl,hi,p⟩
 by_cases hlt:i < n
 ·refine .inr ⟨hlt,Pv (i + 1),fun σ' H' p'=>⟨n - (i + 1),by omega,rfl,hlt,p'⟩,fun x H' y=>?_⟩
  obtain ⟨e,y⟩:=y
  subst e y
  exact hs i σ _ hlt p
 ·have e:i=n:=by omega
  subst e
  exact .inl ⟨Nat.le_refl _,hd σ H p⟩
theorem t6 {c:TT} {tb:TS} {D:Ends} {σ:St} {H:Hp} (Pv:St→Hp→Prop) (μ:St→Hp→Nat) (h0:Pv σ H)
  (hs:∀ σ H,Pv σ H→c σ H fun b H1=>if b=true then tb { D with nx:=fun σ' H'=>Pv σ' H'∧μ σ' H' < μ σ H,ct:=fun σ' H'=>Pv σ' H'∧μ σ' H' < μ σ H,bk:=D.nx } σ H1 else D.nx σ H1)
  (mono:∀ σ H Q Q',(∀ b H1,Q b H1→Q' b H1)→c σ H Q→c σ H Q'):ra c tb D σ H:=by
 refine ⟨fun m σ H=>m=μ σ H∧Pv σ H,⟨_,rfl,h0⟩,?_⟩
 rintro m σ H ⟨rfl,p⟩
 refine mono σ H _ _ (fun b H1 q=>?_) (hs σ H p)
 cases b with
 | true=>exact ⟨_,fun σ' H' ⟨p',l⟩=>⟨_,l,rfl,p'⟩,q⟩
 | false=>exact q
end L2
namespace L2
open PySem PySem.Spec PyProof.Rows
abbrev R2:=V→V→Hp→VK→Prop
def eu (X:Cx) (f:Value→Value→Sem Value) (r:R2):Prop :=
 ∀ (pins:List (Addr × Obj)) (s:Shared) (σ:St) (H:Hp) (x y:V) (v u:Value) (Q:VK),Inv X pins σ H s→RelV x v→RelV y u→r x y H Q →
  wpAny (model X.prog X.w) X.A (f v u) (EP X pins σ Q) X.xe s
def t8 (X:Cx) (f:Value→Sem Value) (r:V→Hp→VK→Prop):Prop :=
 ∀ (pins:List (Addr × Obj)) (s:Shared) (σ:St) (H:Hp) (x:V) (v:Value) (Q:VK),Inv X pins σ H s→RelV x v→r x H Q →
  wpAny (model X.prog X.w) X.A (f v) (EP X pins σ Q) X.xe s
def bP (X:Cx) (f:Value) (r:List V→Hp→VK→Prop):Prop :=
 ∀ (pins:List (Addr × Obj)) (s:Shared) (σ:St) (H:Hp) (xs:List V) (us:List Value) (Q:VK),Inv X pins σ H s→Vals xs us→r xs H Q →
  wpAny (model X.prog X.w) X.A (call f us) (EP X pins σ Q) X.xe s
def IE (X:Cx) (r:V→Hp→(Bool→Hp→Prop)→Prop):Prop :=
 ∀ (pins:List (Addr × Obj)) (s:Shared) (σ:St) (H:Hp) (x:V) (v:Value) (Q:Bool→Hp→Prop),Inv X pins σ H s→RelV x v→r x H Q →
  wpAny (model X.prog X.w) X.A (truthy v) (TP X pins σ Q) X.xe s
def A_ (r:R2) (ta tb:TE):TE:=fun σ H Q=>ta σ H fun x H1=>tb σ H1 fun y H2=>r x y H2 Q
def Ir (r:V→Hp→VK→Prop) (ta:TE):TE:=fun σ H Q=>ta σ H fun x H1=>r x H1 Q
def rI (C:Int→Int→Prop) (g:Int→Int→V):R2:=fun x y H Q=>∃ i j,x=.int i∧y=.int j∧C i j∧Q (g i j) H
def Bn (g:Int→Int→V):R2:=fun x y H Q=>∃ i j,x=.int i∧y=.int j∧Q (g i j) H
def rU (g:Int→V):V→Hp→VK→Prop:=fun x H Q=>∃ i,x=.int i∧Q (g i) H
section
variable {X:Cx} {a b c:Expr} {ta tb tc:TE} {pos:Pos}
theorem Ea (ha:PE X a ta) (hb:PE X b tb) {pins:List (Addr × Obj)} {s:Shared} {σ:St} {H:Hp} {R:V→V→Hp→Prop} (I:Inv X pins σ H s)
  (h:ta σ H fun x H1=>tb σ H1 fun y H2=>R x y H2) {Q:Value→Shared→Prop} {f:Value→Value→Sem Value}
  (hf:∀ v u s2 x y H2,Inv X pins σ H2 s2→RelV x v→RelV y u→R x y H2→wpAny (model X.prog X.w) X.A (f v u) Q X.xe s2) :
  wpAny (model X.prog X.w) X.A (eval a X.env) (fun v s₁=>wpAny (model X.prog X.w) X.A (eval b X.env) (fun u s₂=>wpAny (model X.prog X.w) X.A (f v u) Q X.xe s₂) X.xe s₁) X.xe s:=by
 refine bK (ha pins s σ H _ I h) fun v s1 ⟨x,H1,I1,r1,q1⟩=>?_
 refine bK (hb pins s1 σ H1 _ I1 q1) fun u s2 ⟨y,H2,I2,r2,q2⟩=>?_
 exact hf v u s2 x y H2 I2 r1 r2 q2
theorem a8 {op:Operator} {r:R2} (ho:eu X (binaryOp op) r) (ha:PE X a ta) (hb:PE X b tb):PE X (.BinOp a op b pos) (A_ r ta tb):=by
 intro pins s σ H Q I h
 exact wpAny_BinOp (Ea ha hb I h fun v u s2 x y H2 I2 rx ry q=>ho pins s2 σ H2 x y v u Q I2 rx ry q)
theorem wy {op:UnaryOp} {r:V→Hp→VK→Prop} (ho:t8 X (unaryOp op) r) (ha:PE X a ta):PE X (.UnaryOp op a pos) (Ir r ta):=by
 intro pins s σ H Q I h
 exact UnaryOp_ (bK (ha pins s σ H _ I h) fun v s1 ⟨x,H1,I1,r1,q1⟩=>ho pins s1 σ H1 x v Q I1 r1 q1)
theorem Ik {f:Value→Value→Sem Value} {C:Int→Int→Prop} {g:Int→Int→Int}
  (rule:∀ (i j:Int) (t u:Tok) (s:Shared) (Q:Value→Shared→Prop) (E:Value→Shared→Prop),C i j→Q (.int (g i j) s.toks) { s with toks:=s.toks + 1 }→wpAny (model X.prog X.w) X.A (f (.int i t) (.int j u)) Q E s) :
  eu X f (rI C fun i j=>.int (g i j)):=by
 intro pins s σ H x y v u Q I rx ry h
 obtain ⟨i,j,rfl,rfl,hc,q⟩:=h
 obtain ⟨t,rfl⟩:=rx
 obtain ⟨t',rfl⟩:=ry
 exact rule i j t t' s _ _ hc ⟨.int (g i j),H,I.tok _,⟨_,rfl⟩,q⟩
theorem GY {f:Value→Value→Sem Value} {g:Int→Int→Int}
  (rule:∀ (i j:Int) (t u:Tok) (s:Shared) (Q:Value→Shared→Prop) (E:Value→Shared→Prop),Q (.int (g i j) s.toks) { s with toks:=s.toks + 1 }→wpAny (model X.prog X.w) X.A (f (.int i t) (.int j u)) Q E s) :
  eu X f (Bn fun i j=>.int (g i j)):=by
 intro pins s σ H x y v u Q I rx ry h
 obtain ⟨i,j,rfl,rfl,q⟩:=h
 obtain ⟨t,rfl⟩:=rx
 obtain ⟨t',rfl⟩:=ry
 exact rule i j t t' s _ _ ⟨.int (g i j),H,I.tok _,⟨_,rfl⟩,q⟩
theorem B5 {f:Value→Value→Sem Value} {g:Int→Int→Bool}
  (rule:∀ (i j:Int) (t u:Tok) (s:Shared) (Q:Value→Shared→Prop) (E:Value→Shared→Prop),Q (.bool (g i j)) s→wpAny (model X.prog X.w) X.A (f (.int i t) (.int j u)) Q E s) :
  eu X f (Bn fun i j=>.bl (g i j)):=by
 intro pins s σ H x y v u Q I rx ry h
 obtain ⟨i,j,rfl,rfl,q⟩:=h
 obtain ⟨t,rfl⟩:=rx
 obtain ⟨t',rfl⟩:=ry
 exact rule i j t t' s _ _ ⟨.bl (g i j),H,I,rfl,q⟩
def Iw (i j:Int):Prop:=0≤j∧j≤1000000∧i.natAbs < 2 ^ 64
theorem gy:eu X (binaryOp .Add) (Bn fun i j=>.int (i + j)):=GY fun _ _ _ _ _ _ _ q=>add_int q
theorem uQ:eu X (binaryOp .Sub) (Bn fun i j=>.int (i - j)):=GY fun _ _ _ _ _ _ _ q=>sub_int q
theorem fj:eu X (binaryOp .Mod) (rI (fun _ j=>0 < j) fun i j=>.int (i % j)):=Ik fun i j _ _ _ _ _ hc q=>by
 have h1:(0:Int) < j:=hc
 exact mod_int' (by omega) (by rw [Int.fmod_eq_emod_of_nonneg i (by omega)];exact q)
theorem Aa:eu X (binaryOp .Pow) (rI Iw fun i j=>.int (i ^ j.toNat)):=Ik fun _ _ _ _ _ _ _ hc q=>pow_int_small hc.1 hc.2.1 hc.2.2 q
theorem K7 {f:Value→Sem Value} {g:Int→Int}
  (rule:∀ (i:Int) (t:Tok) (s:Shared) (Q:Value→Shared→Prop) (E:Value→Shared→Prop),Q (.int (g i) s.toks) { s with toks:=s.toks + 1 }→wpAny (model X.prog X.w) X.A (f (.int i t)) Q E s) :
  t8 X f (rU fun i=>.int (g i)):=by
 intro pins s σ H x v Q I rx h
 obtain ⟨i,rfl,q⟩:=h
 obtain ⟨t,rfl⟩:=rx
 exact rule i t s _ _ ⟨.int (g i),H,I.tok _,⟨_,rfl⟩,q⟩
theorem Bf:t8 X (unaryOp .USub) (rU fun i=>.int (-i)):=K7 fun _ _ _ _ _ q=>neg_int q
end
def AL:V→V→Bool
 | .non,.non=>true | .non,.int _=>true | .int _,.non=>true | .non,.bl _=>true | .bl _,.non=>true | .non,.str _=>true | .str _,.non=>true
 | .int _,.int _=>true | .bl _,.bl _=>true | .str _,.str _=>true | .byt _,.byt _=>true
 | .int _,.str _=>true | .str _,.int _=>true | .bl _,.str _=>true | .str _,.bl _=>true
 | _,_=>false
def Kw:R2:=fun x y H Q=>AL x y=true∧Q (.bl (decide (x=y))) H
def KC:R2:=fun x y H Q=>AL x y=true∧Q (.bl (!decide (x=y))) H
theorem vQ {i j:Int}:decide (V.int i=V.int j)=(i == j):=by
 rw [Bool.eq_iff_iff]
 simp
theorem y3 {i j:Bool}:decide (V.bl i=V.bl j)=(i == j):=by
 rw [Bool.eq_iff_iff]
 simp
theorem vR {i j:Str}:decide (V.str i=V.str j)=(i == j):=by
 rw [Bool.eq_iff_iff]
 simp
theorem vO {i j:Array UInt8}:decide (V.byt i=V.byt j)=(i.toList == j.toList):=by
 rw [Bool.eq_iff_iff]
 cases i
 cases j
 simp
section
variable {X:Cx} {a b c:Expr} {ta tb tc:TE} {pos:Pos}
theorem a_ {pins:List (Addr × Obj)} {σ:St} {H:Hp} {s:Shared} {Q:VK} {k k':Bool} (I:Inv X pins σ H s) (q:Q (.bl k) H) (e:k=k'):EP X pins σ Q (.bool k') s:=by
 subst e
 exact ⟨.bl k,H,I,rfl,q⟩
theorem z_:eu X (compareOp .Eq) Kw:=by
 intro pins s σ H x y v u Q I rx ry h
 obtain ⟨hs,q⟩:=h
 cases x with
 | non =>
  cases rx
  cases y with
  | non=>cases ry;exact PySem.EqNone.eq_none_none (a_ I q (by simp))
  | bl j=>cases ry;exact PySem.EqNone.eq_none_bool (a_ I q (by simp))
  | int j=>obtain ⟨t',rfl⟩:=ry;exact PySem.EqNone.eq_none_int (a_ I q (by simp))
  | str j=>obtain ⟨t',rfl⟩:=ry;exact PySem.EqNone.eq_none_str (a_ I q (by simp))
  | _=>exact absurd (show false=true from hs) Bool.false_ne_true
 | bl i =>
  cases rx
  cases y with
  | non=>cases ry;exact PySem.EqNone.eq_bool_none (a_ I q (by simp))
  | bl j=>cases ry;exact eq_bool (a_ I q y3)
  | str j=>obtain ⟨t',rfl⟩:=ry;exact PySem.EqMixed.eq_bool_str (a_ I q (by simp))
  | _=>exact absurd (show false=true from hs) Bool.false_ne_true
 | int i =>
  obtain ⟨t,rfl⟩:=rx
  cases y with
  | non=>cases ry;exact PySem.EqNone.eq_int_none (a_ I q (by simp))
  | int j=>obtain ⟨t',rfl⟩:=ry;exact eq_int (a_ I q vQ)
  | str j=>obtain ⟨t',rfl⟩:=ry;exact PySem.EqMixed.eq_int_str (a_ I q (by simp))
  | _=>exact absurd (show false=true from hs) Bool.false_ne_true
 | str i =>
  obtain ⟨t,rfl⟩:=rx
  cases y with
  | non=>cases ry;exact PySem.EqNone.eq_str_none (a_ I q (by simp))
  | bl j=>cases ry;exact PySem.EqMixed.eq_str_bool (a_ I q (by simp))
  | int j=>obtain ⟨t',rfl⟩:=ry;exact PySem.EqMixed.eq_str_int (a_ I q (by simp))
  | str j=>obtain ⟨t',rfl⟩:=ry;exact eq_str (a_ I q vR)
  | _=>exact absurd (show false=true from hs) Bool.false_ne_true
 | byt i =>
  obtain ⟨t,rfl⟩:=rx
  cases y with
  | byt j=>obtain ⟨t',rfl⟩:=ry;exact PySem.W.eq_bytes (a_ I q vO)
  | _=>exact absurd (show false=true from hs) Bool.false_ne_true
 | _=>cases y <;> exact absurd (show false=true from hs) Bool.false_ne_true
theorem DB:eu X (compareOp .NotEq) KC:=by
 intro pins s σ H x y v u Q I rx ry h
 obtain ⟨hs,q⟩:=h
 cases x with
 | non =>
  cases rx
  cases y with
  | non=>cases ry;exact PySem.EqNone.ne_none_none (a_ I q (by simp))
  | bl j=>cases ry;exact PySem.EqNone.ne_none_bool (a_ I q (by simp))
  | int j=>obtain ⟨t',rfl⟩:=ry;exact PySem.EqNone.ne_none_int (a_ I q (by simp))
  | str j=>obtain ⟨t',rfl⟩:=ry;exact PySem.EqNone.ne_none_str (a_ I q (by simp))
  | _=>exact absurd (show false=true from hs) Bool.false_ne_true
 | bl i =>
  cases rx
  cases y with
  | non=>cases ry;exact PySem.EqNone.ne_bool_none (a_ I q (by simp))
  | bl j=>cases ry;exact ne_bool (a_ I q (congrArg not y3))
  | str j=>obtain ⟨t',rfl⟩:=ry;exact PySem.EqMixed.ne_bool_str (a_ I q (by simp))
  | _=>exact absurd (show false=true from hs) Bool.false_ne_true
 | int i =>
  obtain ⟨t,rfl⟩:=rx
  cases y with
  | non=>cases ry;exact PySem.EqNone.ne_int_none (a_ I q (by simp))
  | int j=>obtain ⟨t',rfl⟩:=ry;exact ne_int (a_ I q (congrArg not vQ))
  | str j=>obtain ⟨t',rfl⟩:=ry;exact PySem.EqMixed.ne_int_str (a_ I q (by simp))
  | _=>exact absurd (show false=true from hs) Bool.false_ne_true
 | str i =>
  obtain ⟨t,rfl⟩:=rx
  cases y with
  | non=>cases ry;exact PySem.EqNone.ne_str_none (a_ I q (by simp))
  | bl j=>cases ry;exact PySem.EqMixed.ne_str_bool (a_ I q (by simp))
  | int j=>obtain ⟨t',rfl⟩:=ry;exact PySem.EqMixed.ne_str_int (a_ I q (by simp))
  | str j=>obtain ⟨t',rfl⟩:=ry;exact ne_str (a_ I q (congrArg not vR))
  | _=>exact absurd (show false=true from hs) Bool.false_ne_true
 | byt i =>
  obtain ⟨t,rfl⟩:=rx
  cases y with
  | byt j=>obtain ⟨t',rfl⟩:=ry;exact PySem.W.ne_bytes (a_ I q (congrArg not vO))
  | _=>exact absurd (show false=true from hs) Bool.false_ne_true
 | _=>cases y <;> exact absurd (show false=true from hs) Bool.false_ne_true
theorem wt:eu X (compareOp .Lt) (Bn fun i j=>.bl (decide (i < j))):=B5 fun _ _ _ _ _ _ _ q=>lt_int q
theorem DA:eu X (compareOp .LtE) (Bn fun i j=>.bl (decide (i≤j))):=B5 fun _ _ _ _ _ _ _ q=>le_int q
theorem Dz:eu X (compareOp .Gt) (Bn fun i j=>.bl (decide (j < i))):=B5 fun _ _ _ _ _ _ _ q=>gt_int q
theorem Dy:eu X (compareOp .GtE) (Bn fun i j=>.bl (decide (j≤i))):=B5 fun _ _ _ _ _ _ _ q=>ge_int q
theorem ye:eu X (compareOp .Lt) (fun x y H Q=>∃ i j,x=.str i∧y=.str j∧Q (.bl (decide (i.cps.toList < j.cps.toList))) H):=by
 intro pins s σ H x y v u Q I rx ry h
 obtain ⟨i,j,rfl,rfl,q⟩:=h
 obtain ⟨t,rfl⟩:=rx
 obtain ⟨t',rfl⟩:=ry
 exact lt_str (a_ I q rfl)
theorem EV:eu X (compareOp .Is) (fun x y H Q=>y=.non∧Q (.bl (decide (x=.non))) H):=by
 intro pins s σ H x y v u Q I rx ry h
 obtain ⟨rfl,q⟩:=h
 cases ry
 refine is_none_gen (a_ I q ?_)
 cases x <;> first
  | (cases rx;rfl)
  | (obtain ⟨t,rfl⟩:=rx;rfl)
theorem B7:eu X (compareOp .IsNot) (fun x y H Q=>y=.non∧Q (.bl (!decide (x=.non))) H):=by
 intro pins s σ H x y v u Q I rx ry h
 obtain ⟨rfl,q⟩:=h
 cases ry
 refine isnot_none_gen (a_ I q ?_)
 cases x <;> first
  | (cases rx;rfl)
  | (obtain ⟨t,rfl⟩:=rx;rfl)
theorem eu.or {f:Value→Value→Sem Value} {r r':R2} (h:eu X f r) (h':eu X f r'):eu X f (fun x y H Q=>r x y H Q∨r' x y H Q):=by
 intro pins s σ H x y v u Q I rx ry q
 rcases q with q | q
 ·exact h pins s σ H x y v u Q I rx ry q
 ·exact h' pins s σ H x y v u Q I rx ry q
theorem ax (b:Expr) {op:CmpOp} (h:op≠.In:=by decide) (h2:op≠.NotIn:=by decide):behindInMarks op b=false:=by
 have e1:(op == CmpOp.In)=false:=by cases op <;> first | rfl | exact absurd rfl h
 have e2:(op == CmpOp.NotIn)=false:=by cases op <;> first | rfl | exact absurd rfl h2
 cases b <;> simp [behindInMarks,e1,e2]
theorem lQ {op:CmpOp} {r:R2} (ho:eu X (compareOp op) r) (ha:PE X a ta) (hb:PE X b tb) (hm:behindInMarks op b=false):PE X (.Compare a [op] [b] pos) (A_ r ta tb):=by
 intro pins s σ H Q I h
 exact wpAny_Compare1 (Ea ha hb I h fun v u s2 x y H2 I2 rx ry q=>ho pins s2 σ H2 x y v u Q I2 rx ry q) hm
def xm (t:TE):TT:=fun σ H Q=>t σ H fun x H'=>∃ k,x=.bl k∧Q k H'
theorem cW {op:CmpOp} {r:R2} (ho:eu X (compareOp op) r) (ha:PE X a ta) (hb:PE X b tb) (hm:behindInMarks op b=false):PT X (.Compare a [op] [b] pos) (xm (A_ r ta tb)):=by
 intro pins s σ H Q I h
 refine wpAny_isTrue_Compare1 (bK (ha pins s σ H _ I h) fun v s1 ⟨x,H1,I1,r1,q1⟩=>bK (hb pins s1 σ H1 _ I1 q1) fun u s2 ⟨y,H2,I2,r2,q2⟩ =>
  bK (ho pins s2 σ H2 x y v u _ I2 r1 r2 q2) fun c s3 ⟨z,H3,I3,r3,k,e,q3⟩=>?_) hm
 subst e
 cases r3
 exact wpAny_truthy_bool ⟨H3,I3,q3⟩
def A6 (r r':R2) (ta tb tc:TE):TE:=fun σ H Q=>ta σ H fun x H1=>tb σ H1 fun y H2=>r x y H2 fun z H3=>∃ k,z=.bl k ∧
 (if k=true then tc σ H3 fun w' H4=>r' y w' H4 Q else Q (.bl false) H3)
theorem Ag {op op':CmpOp} {r r':R2} (ho:eu X (compareOp op) r) (ho':eu X (compareOp op') r') (ha:PE X a ta) (hb:PE X b tb) (hc:PE X c tc)
  (hm:lastMarks [op,op'] [b,c]=false:=by with_unfolding_all rfl):PE X (.Compare a [op,op'] [b,c] pos) (A6 r r' ta tb tc):=by
 intro pins s σ H Q I h
 refine Compare_chain (bK (ha pins s σ H _ I h) fun v s1 ⟨x,H1,I1,r1,q1⟩=>chain_link (bK (hb pins s1 σ H1 _ I1 q1) fun u s2 ⟨y,H2,I2,r2,q2⟩ =>
  bK (ho pins s2 σ H2 x y v u _ I2 r1 r2 q2) fun d s3 ⟨z,H3,I3,r3,k,e,q3⟩=>?_)) hm
 subst e
 cases r3
 refine wpAny_truthy_bool ?_
 cases k with
 | false=>exact ite_ff ⟨.bl false,H3,I3,rfl,q3⟩
 | true=>exact ite_tt (chain_last (bK (hc pins s3 σ H3 _ I3 q3) fun w' s4 ⟨z',H4,I4,r4,q4⟩=>ho' pins s4 σ H4 y z' u w' Q I4 r2 r4 q4))
def D8 (K:PySem.W.Frag) (x:V) (H:Hp) (k:Bool):Prop :=
 match x with
 | .non=>k=false
 | .bl b=>k=b
 | .int i=>k=(i != 0)
 | .str y=>y.length≤sizeLine∧k=((y.length:Int) != 0)
 | .byt y=>y.size≤sizeLine∧k=((y.size:Int) != 0)
 | .ref p=>(∃ xs,cD K H p xs∧k=!xs.isEmpty)∨(∃ xs,fQ K H p xs∧k=!xs.isEmpty)∨∃ kvs ep,H p=some (.dE kvs ep)∧k=!kvs.isEmpty
 | _=>False
theorem uA {κ:Type} {kvs:List (κ × V)} {vs:List (κ × Value)} (r:KV kvs vs):(!vs.isEmpty)=!kvs.isEmpty:=by
 cases r <;> rfl
theorem mG {xs:List V} {its:List Value} (r:Vals xs its):(!its.toArray.isEmpty)=!xs.isEmpty:=by
 cases r <;> simp
theorem ju:(sizeLine:Nat) < 2 ^ 63:=by rw [sizeLine_eq];decide
theorem FF:IE X (fun x H Q=>∃ k,D8 X.K x H k∧Q k H):=by
 intro pins s σ H x v Q I rx h
 obtain ⟨k,e,q⟩:=h
 have hl:=ju
 have hs:sizeLine=16777216:=sizeLine_eq
 cases x with
 | non =>
  cases rx
  have e':k=false:=e
  subst e'
  exact truthy_none ⟨H,I,q⟩
 | bl b =>
  cases rx
  have e':k=b:=e
  subst e'
  exact wpAny_truthy_bool ⟨H,I,q⟩
 | int i =>
  obtain ⟨t,rfl⟩:=rx
  have e':k=(i != 0):=e
  subst e'
  exact PySem.P.truthy_int ⟨H,I,q⟩
 | str y =>
  obtain ⟨t,rfl⟩:=rx
  obtain ⟨hy,e'⟩:y.length≤sizeLine∧k=((y.length:Int) != 0):=e
  subst e'
  exact PySem.P.truthy_str (by omega) ⟨H,I.tok _,q⟩
 | byt y =>
  obtain ⟨t,rfl⟩:=rx
  obtain ⟨hy,e'⟩:y.size≤sizeLine∧k=((y.size:Int) != 0):=e
  subst e'
  exact PySem.W.truthy_bytes (by omega) ⟨H,I.tok _,q⟩
 | ref p =>
  cases rx
  have e':(∃ xs,cD X.K H p xs∧k=!xs.isEmpty)∨(∃ xs,fQ X.K H p xs∧k=!xs.isEmpty)∨∃ kvs ep,H p=some (.dE kvs ep)∧k=!kvs.isEmpty:=e
  rcases e' with ⟨xs,hx,e'⟩ | ⟨xs,hx,e'⟩ | ⟨kvs,ep,hx,e'⟩
  ·subst e'
   obtain ⟨its,r,pl,hz⟩:=I.list hx
   have hlen:=r.length
   exact wpAny_truthy_list pl.isList (by simp only [List.size_toArray];omega) ⟨H,I.tok _,by rw [mG r];exact q⟩
  ·subst e'
   obtain ⟨its,r,pl,hz⟩:=I.tuple hx
   have hlen:=r.length
   exact truthy_tuple pl (by simp only [List.size_toArray];omega) ⟨H,I.tok _,by rw [mG r];exact q⟩
  ·subst e'
   obtain ⟨hz,hS,vs,r,m⟩:kvs.length≤sizeLine∧(p == sysModules)=false∧∃ vs,KV kvs vs∧s.heap.DictAt (strKind X.prog X.w) p vs ep:=I.hok p _ hx
   have hlen:kvs.length=vs.length:=Paired.length r
   exact wpAny_truthy_dict hS m.dictOf (by omega) ⟨H,I.tok _,by rw [uA r];exact q⟩
 | _=>exact (show False from e).elim
theorem An (ha:PE X a ta) (he:∀ whole,isTrue a X.env whole=(do let v ← whole;standAt a.pos;holding [v] (truthy v))) :
  PT X a (fun σ H Q=>ta σ H fun x H'=>∃ k,D8 X.K x H' k∧Q k H'):=by
 intro pins s σ H Q I h
 exact isTrue_plain (bK (ha pins s σ H _ I h) fun v s1 ⟨x,H1,I1,r1,q1⟩=>FF pins s1 σ H1 x v Q I1 r1 q1) (he _)
theorem vals1 {x:V} {us:List Value} (r:Vals [x] us):∃ u,us=[u]∧RelV x u:=by
 cases r with
 | cons r1 r2=>cases r2;exact ⟨_,rfl,r1⟩
theorem vals2 {x y:V} {us:List Value} (r:Vals [x,y] us):∃ u w',us=[u,w']∧RelV x u∧RelV y w':=by
 cases r with
 | cons r1 r2 =>
  cases r2 with
  | cons r3 r4=>cases r4;exact ⟨_,_,rfl,r1,r3⟩
theorem jK:bP X (.builtin "abs") (fun xs H Q=>∃ i,xs=[.int i]∧Q (.int (if i < 0 then -i else i)) H):=by
 intro pins s σ H xs us Q I r h
 obtain ⟨i,rfl,q⟩:=h
 obtain ⟨u,rfl,t,rfl⟩:=vals1 r
 exact call_abs_int fun u tk=>⟨.int (if i < 0 then -i else i),H,I.tok _,⟨_,rfl⟩,q⟩
end
end L2
namespace L2
open PySem PySem.Spec PyProof.Rows
structure ud (h:Heap) (x dx C:Addr) (mA:Str→Option Value):Prop where
 obj:h.get? x=some (PySem.W.instObj C dx)
 ns:h.Ns1 dx mA
 ne:dx≠x
theorem xS {h:Heap} {dx:Addr} {mA:Str→Option Value} (n:h.Ns1 dx mA):∃ od,h.get? dx=some od∧∀ name,PySem.W.lookIn name od=some (mA name):=by
 obtain ⟨o,es,ep,ho,hd,hk,_,hm⟩:=n
 refine ⟨o,ho,fun name=>?_⟩
 have e:=hm name
 unfold nsFind findBy at e
 rw [← Array.find?_toList] at e
 unfold PySem.W.lookIn
 rw [hd]
 dsimp only
 split
 ·rename_i y q
  rw [q] at e
  exact congrArg some e
 ·rename_i q
  rw [q] at e
  have a:es.toList.any (·.refKey)=false:=by
   rw [List.any_eq_false]
   intro y hy
   obtain ⟨z,t,hkey⟩:=hk y (Array.mem_toList_iff.mp hy)
   simp [DictEntry.refKey,hkey]
  have a':¬ es.toList.any (·.refKey)=true:=by rw [a];exact Bool.false_ne_true
  rw [if_neg a']
  exact congrArg some e
theorem ud.look {h:Heap} {x dx C:Addr} {mA:Str→Option Value} (I:ud h x dx C mA):∃ od,PySem.W.InstAt h x (PySem.W.instObj C dx) C (some od)∧∀ name,PySem.W.lookIn name od=some (mA name) :=
 let ⟨od,ho,hl⟩:=xS I.ns
 ⟨od,⟨I.obj,rfl,rfl,ho⟩,hl⟩
section
variable {prog:Program} {w:World} {A:Around} {E:Value→Shared→Prop} {s:Shared} {K:PySem.W.Frag} {x dx C f:Addr} {mA:Str→Option Value} {name:Str} {v:Value}
theorem get_map {expr:Bool} {Q:Value→Shared→Prop} (X:K.In s.heap) (I:ud s.heap x dx C mA) (hg:PySem.W.plainGet K C name=true) (hh:PySem.W.hasDictIn K C=true)
  (ha:PySem.W.findIn K (.ref C) name=some none) (hv:mA name=some v) (hv':PySem.W.handedIn v=true) (h:Q v { s with toks:=s.toks + 1 }) :
  wpAny (model prog w) A (getAttr (.ref x) name expr) Q E s:=by
 obtain ⟨od,J,hl⟩:=I.look
 exact PySem.W.get_value X J (PySem.W.plainGet_of hg).1 (PySem.W.findObj_own hh ha rfl (by rw [hl,hv])) hv' h
theorem zi {pl:Sem Bool} {Q:Value × List Value→Shared→Prop} (X:K.In s.heap) (I:ud s.heap x dx C mA) (hg:PySem.W.plainGet K C name=true)
  (hf:PySem.W.findIn K (.ref C) name=some (some (.ref f))) (ht:PySem.W.isFn K (.ref f)=true) (hv:mA name=none) (h:Q (.ref f,[.ref x]) s) :
  wpAny (model prog w) A (getMethod (.ref x) name pl) Q E s:=by
 obtain ⟨od,J,hl⟩:=I.look
 exact PySem.W.method_fn X J (PySem.W.plainGet_of hg).1 (PySem.W.plainGet_of hg).2 hf (beq_iff_eq.mp ht) (by show (PySem.W.lookIn name od).map (·.isSome)=some false;rw [hl,hv];rfl) h
theorem CW {ns:List Str} {Q:Unit→Shared→Prop} (X:K.In s.heap) (I:ud s.heap x dx C mA)
  (hs:PySem.W.findIn K (.ref C) "__setattr__"=some (some (.builtin "object.__setattr__"))) (hp:PySem.W.plainOver K C=true) (ht:PySem.W.takerIn K C name=some none) (hh:PySem.W.hasDictIn K C=true)
  (hw:PySem.Within mA ns) (hsz:ns.length≤sizeLine)
  (h:∀ h',ud h' x dx C (fun y=>if y=name then some v else mA y)→Heap.SameBut dx s.heap h'→Q () { s with heap:=h',toks:=s.toks + 2 }) :
  wpAny (model prog w) A (setAttr (.ref x) name v) Q E s:=by
 obtain ⟨od,J,hl⟩:=I.look
 refine PySem.W.set_plain X J hs (PySem.W.osa_open (s:={ s with toks:=s.toks + 1 }) (r:=none) X J hp ht fun b=>?_)
 obtain ⟨cd,hc,hd'⟩:=PySem.W.any_some hh
 have hx:s.heap.get? x=some ⟨.ref C,some dx,.plain,#[]⟩:=I.obj
 refine wpAny_bind (wpAny_pure (wpAny_bind (wpAny_bind (wpAny_loadPart hx (wpAny_bind (PySem.W.Looks.here (s:={ s with toks:=s.toks + 1 }) (PySem.W.looks_clsIn X hc) ?_))))))
 rw [hd']
 refine wpAny_pure (a:=some dx) (wpAny_bind (wpAny_pure (wpAny_bind ?_)))
 refine wpAny_nsSet1 (s:={ s with toks:=s.toks + 1 }) I.ns fun h' hn2 hs2=>?_
 obtain ⟨oD,esD,epD,hoD,hdD,hcD⟩:=hn2.count (PySem.Within.cons name v hw)
 refine wpAny_bind (wpAny_lookBehind hoD (by rw [hdD];exact pastItsLine_dict (Nat.le_trans hcD (by rw [List.length_cons];omega))) ?_)
 exact wpAny_pure (h _ ⟨(hs2.2 _ (Ne.symm I.ne)).trans I.obj,hn2,I.ne⟩ hs2)
theorem zO {R:Result→Shared→Prop} {vs:List Value} {kw:List (Str × Value)} (X:K.In s.heap) (hm:PySem.W.makesIn K C=true)
  (hi:PySem.W.findIn K (.ref C) "__init__"=some (some (.ref f))) (hf:PySem.W.typeIn K (.ref f)=some (.type "function"))
  (h:codeAny (model prog w) (A.under (.builtin "type.__call__" ⟨.ref C :: vs,kw⟩)) (.call (.ref f) ⟨.ref (s.heap.objs.size + 1) :: vs,kw⟩) (PySem.W.InitBack (s.heap.objs.size + 1) R)
   { s with heap:=(s.heap.push PySem.W.emptyDict).push (PySem.W.instObj C s.heap.objs.size) }) :
  codeAny (model prog w) A (.call (.ref C) ⟨vs,kw⟩) R s:=by
 obtain ⟨hh,g,d,t,os⟩:=s
 exact PySem.W.make_core (PySem.W.makes_of X hm) (PySem.W.looks_findIn X hi) (fun self=>PySem.W.bind_fn X self hf) (.inl rfl) h
end
def dY (f:Str) (v:V):List (Str × V)→List (Str × V)
 | []=>[(f,v)]
 | (g,x) :: r=>if g=f then (g,v) :: r else (g,x) :: dY f v r
theorem lj (f g:Str) (v:V):∀ fs:List (Str × V),(dY f v fs).lookup g=if g=f then some v else fs.lookup g
 | []=>by
  show List.lookup g [(f,v)]=_
  by_cases h:g=f
  ·have hb:(g == f)=true:=beq_iff_eq.mpr h
   simp only [List.lookup,hb,if_pos h]
  ·have hb:(g == f)=false:=beq_eq_false_iff_ne.mpr h
   simp only [List.lookup,hb,if_neg h]
 | (k,x) :: r=>by
  have ih:=lj f g v r
  rw [show dY f v ((k,x) :: r)=(if k=f then (k,v) :: r else (k,x) :: dY f v r) from rfl]
  by_cases hk:k=f
  ·rw [if_pos hk]
   by_cases h:g=k
   ·have hb:(g == k)=true:=beq_iff_eq.mpr h
    simp only [List.lookup,hb,if_pos (h.trans hk)]
   ·have hb:(g == k)=false:=beq_eq_false_iff_ne.mpr h
    simp only [List.lookup,hb,if_neg (fun e:g=f=>h (e.trans hk.symm))]
  ·rw [if_neg hk]
   by_cases h:g=k
   ·have hb:(g == k)=true:=beq_iff_eq.mpr h
    simp only [List.lookup,hb,if_neg (fun e:g=f=>hk (h.symm.trans e))]
   ·have hb:(g == k)=false:=beq_eq_false_iff_ne.mpr h
    simp only [List.lookup,hb]
    exact ih
theorem kE (f:Str) (v:V):∀ fs:List (Str × V),f∈(dY f v fs).map (·.1)∧∀ g,g∈fs.map (·.1)→g∈(dY f v fs).map (·.1)
 | []=>⟨by simp [dY],fun g h=>by simp at h⟩
 | (k,x) :: r=>by
  obtain ⟨i1,i2⟩:=kE f v r
  rw [show dY f v ((k,x) :: r)=(if k=f then (k,v) :: r else (k,x) :: dY f v r) from rfl]
  by_cases hk:k=f
  ·rw [if_pos hk]
   subst hk
   exact ⟨by simp,fun g h=>by simpa using h⟩
  ·rw [if_neg hk]
   refine ⟨?_,fun g h=>?_⟩
   ·rw [List.map_cons]
    exact List.mem_cons_of_mem _ i1
   ·rw [List.map_cons] at h ⊢
    rcases List.mem_cons.mp h with e | e
    ·exact List.mem_cons.mpr (.inl e)
    ·exact List.mem_cons_of_mem _ (i2 g e)
theorem lh (f:Str) (v:V):∀ fs:List (Str × V),(dY f v fs).length≤fs.length + 1
 | []=>by simp [dY]
 | (k,x) :: r=>by
  have ih:=lh f v r
  rw [show dY f v ((k,x) :: r)=(if k=f then (k,v) :: r else (k,x) :: dY f v r) from rfl]
  by_cases hk:k=f
  ·rw [if_pos hk,List.length_cons,List.length_cons];omega
  ·rw [if_neg hk,List.length_cons,List.length_cons];omega
theorem nN.some_of {v:V} {o:Option Value} (r:nN (some v) o):∃ u,o=some u∧RelV v u:=by
 cases o with
 | none=>exact (show False from r).elim
 | some u=>exact ⟨u,rfl,r⟩
theorem nN.none_of {o:Option Value} (r:nN none o):o=none:=by
 cases o with
 | none=>rfl
 | some u=>exact (show False from r).elim
theorem xH {v:V} {u:Value} (r:RelV v u):PySem.W.handedIn u=true:=by
 cases v with
 | non=>cases (show u=Value.none from r);rfl
 | bl b=>cases (show u=Value.bool b from r);rfl
 | int i=>obtain ⟨t,e⟩:=(show ∃ t,u=Value.int i t from r);cases e;rfl
 | str x=>obtain ⟨t,e⟩:=(show ∃ t,u=Value.str x t from r);cases e;rfl
 | byt b=>obtain ⟨t,e⟩:=(show ∃ t,u=Value.bytes b t from r);cases e;rfl
 | flt b=>obtain ⟨t,e⟩:=(show ∃ t,u=Value.float b t from r);cases e;rfl
 | ref a=>cases (show u=Value.ref a from r);rfl
 | ty n=>cases (show u=Value.type n from r);rfl
section
variable {P:Program} {w:World} {H H':Hp} {h h':Heap} {a C dx:Addr} {fs fs':List (Str × V)}
theorem lL (hok:jE P w H h) (e:H a=some (.ins C dx fs)):∃ mA,ud h a dx C mA∧(∀ f,nN (fs.lookup f) (mA f))∧PySem.Within mA (fs.map (·.1))∧fs.length≤1000∧H dx=some (.own a):=by
 obtain ⟨d,z,ne,ob,mA,n,r,q⟩:=(show cI P w H h a (.ins C dx fs) from hok a _ e)
 exact ⟨mA,⟨ob,n,ne⟩,r,q,z,d⟩
end
structure lI (K:PySem.W.Frag) (C:Addr):Prop where
 pg:PySem.W.plainGet K C Str.empty=true
 hd:PySem.W.hasDictIn K C=true
 po:PySem.W.plainOver K C=true
 sa:PySem.W.findIn K (.ref C) "__setattr__"=some (some (.builtin "object.__setattr__"))
theorem lI.get {K:PySem.W.Frag} {C:Addr} (c:lI K C) (f:Str):PySem.W.plainGet K C f=true:=c.pg
def az (K:PySem.W.Frag) (C:Addr) (f:Str):Prop:=PySem.W.findIn K (.ref C) f=some none
theorem az.HM {K:PySem.W.Frag} {C:Addr} {f:Str} (n:az K C f):PySem.W.takerIn K C f=some none:=by
 unfold PySem.W.takerIn
 rw [show PySem.W.findIn K (.ref C) f=some none from n]
 rfl
structure Meth (K:PySem.W.Frag) (C:Addr) (m:Str) (f:Addr):Prop where
 at_:PySem.W.findIn K (.ref C) m=some (some (.ref f))
 fn:PySem.W.isFn K (.ref f)=true
 kp:PySem.W.keepIn K (.ref f)=true
section
variable {X:Cx} {pins:List (Addr × Obj)} {σ:St} {H:Hp} {s:Shared} {a C dx:Addr} {fs:List (Str × V)} {f:Str} {v:V} {A:Around} {E:Value→Shared→Prop}
theorem uy {b:Bool} {Q:Value→Shared→Prop} (I:Inv X pins σ H s) (e:H a=some (.ins C dx fs)) (c:lI X.K C) (n:az X.K C f) (l:fs.lookup f=some v)
  (h:∀ u s',Inv X pins σ H s'→RelV v u→Q u s'):wpAny (model X.prog X.w) A (getAttr (.ref a) f b) Q E s:=by
 obtain ⟨mA,O,r,_,_,_⟩:=lL I.hok e
 obtain ⟨u,hu,ru⟩:=nN.some_of (v:=v) (o:=mA f) (by rw [← l];exact r f)
 exact get_map I.jP O (c.get f) c.hd n hu (xH ru) (h u _ (I.tok _) ru)
theorem mB {m:Str} {g:Addr} {pl:Sem Bool} {Q:Value × List Value→Shared→Prop} (I:Inv X pins σ H s) (e:H a=some (.ins C dx fs)) (c:lI X.K C) (k:Meth X.K C m g) (l:fs.lookup m=none)
  (h:Q (.ref g,[.ref a]) s):wpAny (model X.prog X.w) A (getMethod (.ref a) m pl) Q E s:=by
 obtain ⟨mA,O,r,_,_,_⟩:=lL I.hok e
 have hn:mA m=none:=nN.none_of (by rw [← l];exact r m)
 exact zi I.jP O (c.get m) k.at_ k.fn hn h
theorem vi {y:V} {u:Value} {Q:Unit→Shared→Prop} (I:Inv X pins σ H s) (e:H a=some (.ins C dx fs)) (c:lI X.K C) (n:az X.K C f) (hl:fs.length < 1000) (ry:RelV y u)
  (h:∀ s',Inv X pins σ (upd H a (.ins C dx (dY f y fs))) s'→Q () s'):wpAny (model X.prog X.w) A (setAttr (.ref a) f u) Q E s:=by
 obtain ⟨mA,O,r,wi,_,ho⟩:=lL I.hok e
 have hz:(fs.map (·.1)).length≤sizeLine:=by rw [List.length_map,sizeLine_eq];omega
 refine CW I.jP O c.sa c.po n.HM c.hd wi hz fun h' O' sb=>h _ ?_
 have hd:∃ o,h'.get? dx=some o:=let ⟨o,_,_,e',_⟩:=O'.ns;⟨o,e'⟩
 refine I.write (x:=a) (e:=dx) (by rw [e];exact True.intro) (.inr ho) (fun b q hb z=>(sb.2 b hb).trans z) hd ?_
 refine ⟨by rw [aK O.ne];exact ho,?_,O.ne,O'.obj,_,O'.ns,fun g=>?_,fun g hg=>?_⟩
 ·have:=lh f y fs;omega
 ·show nN ((dY f y fs).lookup g) (if g=f then some u else mA g)
  rw [lj]
  by_cases q:g=f
  ·rw [if_pos q,if_pos q];exact ry
  ·rw [if_neg q,if_neg q];exact r g
 ·by_cases q:g=f
  ·rw [q];exact (kE f y fs).1
  ·refine (kE f y fs).2 g (wi g fun z=>hg ?_)
   show (if g=f then some u else mA g)=none
   rw [if_neg q];exact z
theorem Inv.made (I:Inv X pins σ H s):Inv X pins σ (upd (upd H s.heap.objs.size (.own (s.heap.objs.size + 1))) (s.heap.objs.size + 1) (.ins C s.heap.objs.size []))
  { s with heap:=(s.heap.push PySem.W.emptyDict).push (PySem.W.instObj C s.heap.objs.size) }:=by
 have e1:(s.heap.push PySem.W.emptyDict).get? s.heap.objs.size=some PySem.W.emptyDict:=Heap.get?_push_size s.heap rfl
 have e2:((s.heap.push PySem.W.emptyDict).push (PySem.W.instObj C s.heap.objs.size)).get? (s.heap.objs.size + 1)=some (PySem.W.instObj C s.heap.objs.size):=by
  have:=Heap.get?_push_size (s.heap.push PySem.W.emptyDict) (o:=PySem.W.instObj C s.heap.objs.size) rfl
  rwa [Heap.size_push] at this
 have e3:(s.heap.push PySem.W.emptyDict).Ns s.heap.objs.size (fun _=>none):=⟨PySem.W.emptyDict,#[],_,e1,rfl,(fun e he=>absurd he (by simp)),fun _=>rfl⟩
 have I1:=I.laid (a:=s.heap.objs.size) (o:=.own (s.heap.objs.size + 1)) (h':=s.heap.push PySem.W.emptyDict) (t':=s.toks) (fun b u q=>Heap.get?_push_of_some _ q) (Nat.le_refl _) ⟨_,e1⟩
 refine I1.laid (a:=s.heap.objs.size + 1) (o:=.ins C s.heap.objs.size []) (t':=s.toks) (fun b u q=>Heap.get?_push_of_some _ q) (Nat.le_of_eq (Heap.size_push _ _)) ?_
 have ne:s.heap.objs.size≠s.heap.objs.size + 1:=Nat.ne_of_lt (Nat.lt_succ_self _)
 refine ⟨by rw [aK ne,aB],Nat.zero_le _,ne,e2,fun _=>none,(Heap.Ns1.of_empty e3).at fun o q=>Heap.get?_push_of_some _ q,fun _=>True.intro,fun y hy=>absurd rfl hy⟩
theorem Bt {prog:Program} {w:World} {env:Env} {e:Expr} {f:Str} {pos:Pos} {s:Shared} {Q:Value→Shared→Prop} (hb:attributeBase e f env (eval e env)=eval e env)
  (h:wpAny (model prog w) A (eval e env) (fun o s₁=>wpAny (model prog w) A (getAttr o f true) Q E s₁) E s):wpAny (model prog w) A (eval (.Attribute e f pos) env) Q E s :=
 Attribute_any_ h (by rw [arm_eval_Attribute,hb])
end
def JM (K:PySem.W.Frag) (ta:TE) (f:Str):TE:=fun σ H Q=>ta σ H fun x H1=>∃ a C dx fs v,x=.ref a∧H1 a=some (.ins C dx fs)∧lI K C∧az K C f∧fs.lookup f=some v∧Q v H1
def JJ (K:PySem.W.Frag) (ta tv:TE) (f:Str):TS:=fun D σ H=>tv σ H fun y H1=>ta σ H1 fun x H2=>∃ a C dx fs,x=.ref a∧H2 a=some (.ins C dx fs)∧lI K C∧az K C f∧fs.length < 1000 ∧
 D.nx σ (upd H2 a (.ins C dx (dY f y fs)))
section
variable {X:Cx} {o e value:Expr} {f:Str} {pos pos' tpos:Pos} {ta tv:TE}
theorem E3 (he:PE X e ta) (hb:attributeBase e f X.env (eval e X.env)=eval e X.env):PE X (.Attribute e f pos) (JM X.K ta f):=by
 intro pins s σ H Q I h
 refine Bt hb (bK (he pins s σ H _ I h) fun u s1 ⟨x,H1,I1,rx,a,C,dx,fs,v,ex,ea,c,n,l,q⟩=>?_)
 subst ex
 obtain rfl:u=Value.ref a:=rx
 exact uy I1 ea c n l fun u' s2 I2 ru=>⟨v,H1,I2,ru,q⟩
theorem E6 (ha:PE X o ta) (hv:PE X value tv) (hs:swapsWith value (some (.Attribute o f pos')) pos.line X.env=pure false):PS X (.Assign [.Attribute o f pos'] value pos) (JJ X.K ta tv f):=by
 intro pins s σ H D I h
 refine plainObj_wpAny_Assign_Attribute (bK (hv pins s σ H _ I h) fun u s1 ⟨y,H1,I1,ry,q⟩=>bK (ha pins s1 σ H1 _ I1 q) fun ov s2 ⟨x,H2,I2,rx,a,C,dx,fs,ex,ea,c,n,l,q2⟩=>?_) hs
 subst ex
 obtain rfl:ov=Value.ref a:=rx
 exact vi I2 ea c n l ry fun s3 I3=>⟨σ,_,I3,q2⟩
end
section
variable {X:Cx} {pins:List (Addr × Obj)} {σ:St} {H:Hp} {s:Shared} {A:Around} {E:Value→Shared→Prop} {Q:Value→Shared→Prop} {c:Value} {b:Bool}
inductive ft (K:PySem.W.Frag) (H:Hp):V→Value→Prop where
 | non:ft K H .non (.type "NoneType")
 | bl (x:Bool):ft K H (.bl x) (.type "bool")
 | int (i:Int):ft K H (.int i) (.type "int")
 | str (x:Str):ft K H (.str x) (.type "str")
 | flt (x:UInt64):ft K H (.flt x) (.type "float")
 | lst {a:Addr} {xs:List V} (e:H a=some (.lst xs)):ft K H (.ref a) (.type "list")
 | my {a:Addr} {o:Obj} {xs:List V} (e:H a=some (.my o (.lst xs))):ft K H (.ref a) (.type "list")
 | tup {a:Addr} {xs:List V} (e:H a=some (.tup xs)):ft K H (.ref a) (.type "tuple")
 | dK {a:Addr} {kvs:List (Key × V)} (e:H a=some (.dK kvs)):ft K H (.ref a) (.type "dict")
 | dE {a:Addr} {kvs:List (Str × V)} {ep:Nat} (e:H a=some (.dE kvs ep)):ft K H (.ref a) (.type "dict")
 | ins {a C dx:Addr} {fs:List (Str × V)} (e:H a=some (.ins C dx fs)) (cl:lI K C) (ha:PySem.W.findIn K (.ref C) "__class__"=some (some (.builtin "object.__class__")))
   (hn:PySem.W.specialIn K (.builtin "object.__class__") "__get__"=some (some (.builtin "getset_descriptor.__get__"))) (htk:PySem.W.takesIn K (.builtin "object.__class__")=some true)
   (hm:PySem.W.mroIn K C (.type "object")=some true):ft K H (.ref a) (.ref C)
theorem xK {x:V} {u t:Value} (I:Inv X pins σ H s) (rx:RelV x u) (ty:ft X.K H x t) (e:PySem.W.kitOne X.K t c=some b) (h:∀ tk,Q (.bool b) { s with toks:=tk }) :
  wpAny (model X.prog X.w) A (call (.builtin "isinstance") [u,c]) Q E s:=by
 cases ty with
 | non=>cases (show u=Value.none from rx);exact PySem.W.kia_one PySem.W.kitx_none I.jP True.intro e (fun z=>nomatch z) h
 | bl y=>cases (show u=Value.bool y from rx);exact PySem.W.kia_one PySem.W.kitx_bool I.jP True.intro e (fun z=>nomatch z) h
 | int i=>obtain ⟨t,q⟩:=(show ∃ t,u=Value.int i t from rx);cases q;exact PySem.W.kia_one PySem.W.kitx_int I.jP True.intro e (fun z=>nomatch z) h
 | str y=>obtain ⟨t,q⟩:=(show ∃ t,u=Value.str y t from rx);cases q;exact PySem.W.kia_one PySem.W.kitx_str I.jP True.intro e (fun z=>nomatch z) h
 | flt y=>obtain ⟨t,q⟩:=(show ∃ t,u=Value.float y t from rx);cases q;exact PySem.W.kia_one PySem.W.kitx_float I.jP True.intro e (fun z=>nomatch z) h
 | @lst a xs ea =>
  cases (show u=Value.ref a from rx)
  obtain ⟨_,_,n,_,h1⟩:=(show cI X.prog X.w H s.heap a (.lst xs) from I.hok a _ ea)
  exact PySem.W.kia_one PySem.W.kitx_list I.jP ⟨_,h1,rfl⟩ e (fun z=>nomatch z) h
 | @my a ob xs ea =>
  cases (show u=Value.ref a from rx)
  obtain ⟨_,_,_,n,_,h1⟩:=(show cI X.prog X.w H s.heap a (.my ob (.lst xs)) from I.hok a _ ea)
  exact PySem.W.kia_one PySem.W.kitx_list I.jP ⟨_,h1,rfl⟩ e (fun z=>nomatch z) h
 | @tup a xs ea =>
  cases (show u=Value.ref a from rx)
  obtain ⟨_,_,_,p⟩:=(show cI X.prog X.w H s.heap a (.tup xs) from I.hok a _ ea)
  obtain ⟨o,h1,h2,_⟩:=p
  exact PySem.W.kia_one PySem.W.kitx_tuple I.jP ⟨o,h1,h2⟩ e (fun z=>nomatch z) h
 | @dK a kvs ea =>
  cases (show u=Value.ref a from rx)
  obtain ⟨_,_,vs,_,p⟩:=(show cI X.prog X.w H s.heap a (.dK kvs) from I.hok a _ ea)
  obtain ⟨o,es,ep,h1,h2,_⟩:=p
  exact PySem.W.kia_one PySem.W.kitx_dict I.jP ⟨o,h1,h2.1⟩ e (fun z=>nomatch z) h
 | @dE a kvs ep ea =>
  cases (show u=Value.ref a from rx)
  obtain ⟨_,_,vs,_,o,es,h1,h2,_⟩:=(show cI X.prog X.w H s.heap a (.dE kvs ep) from I.hok a _ ea)
  exact PySem.W.kia_one PySem.W.kitx_dict I.jP ⟨o,h1,h2.1⟩ e (fun z=>nomatch z) h
 | @ins a C dx fs ea cl ha hn htk hm =>
  cases (show u=Value.ref a from rx)
  obtain ⟨mA,O,_⟩:=lL I.hok ea
  obtain ⟨od,J,_⟩:=O.look
  exact PySem.W.kia_one (PySem.W.kitx_own (cl.get _) cl.hd ha hn htk hm) I.jP J e (fun z=>nomatch z) h
end
end L2
namespace L2
open PySem PySem.Spec PyProof.Rows
structure bE (k:Nat) (A:Around):Prop where
 hd:A.handled=none
 dp:A.depth + 3 * k + 5 < recursionLimit
 un:A.units + 16 * k + 200 < cLine
theorem bE.mono {j k:Nat} {A:Around} (r:bE k A) (h:j≤k):bE j A:=⟨r.hd,by have:=r.dp;omega,by have:=r.un;omega⟩
theorem bE.deeper {k:Nat} {A:Around} (r:bE (k + 1) A) (env:Env):bE k (A.deeper env) :=
 ⟨r.hd,by have:=r.dp;show A.depth + 1 + 3 * k + 5 < _;omega,by have:=r.un;show A.units + 3 + 16 * k + 200 < _;omega⟩
theorem uI {A:Around} {C:Addr} {us:List Value} {kw:List (Str × Value)}:(A.under (.builtin "type.__call__" ⟨.ref C :: us,kw⟩)).depth=A.depth + 1:=by
 first | rfl | simp [Around.under,Code.weight,Code.isCreation,Code.isGuard,Code.isCaller,Code.frames,Code.isFrame,guardIds]
theorem uJ {A:Around} {C:Addr} {us:List Value} {kw:List (Str × Value)}:(A.under (.builtin "type.__call__" ⟨.ref C :: us,kw⟩)).units=A.units + 1:=by
 first | rfl | simp [Around.under,Code.cUnits,Code.frames,Code.isFrame]
theorem bE.make {k:Nat} {A:Around} (r:bE (k + 1) A) (C:Addr) (us:List Value) (kw:List (Str × Value)):bE k (A.under (.builtin "type.__call__" ⟨.ref C :: us,kw⟩)) :=
 ⟨r.hd,by have:=r.dp;rw [uI];omega,by have:=r.un;rw [uJ];omega⟩
theorem bE.depth {k:Nat} {A:Around} (r:bE k A):A.depth < recursionLimit:=by have:=r.dp;omega
theorem bE.FH {k:Nat} {A:Around} (r:bE k A):A.units < cLine:=by have:=r.un;omega
def vB:TA:=fun _ H Q=>Q [] H
def tZ (ta:TE) (tr:TA):TA:=fun σ H Q=>ta σ H fun x H1=>tr σ H1 fun xs H2=>Q (x :: xs) H2
section
variable {X:Cx} {e:Expr} {es:List Expr} {te:TE} {t:TA} {pos:Pos}
theorem bt:PA X [] vB:=fun _ _ _ _ H Q I h=>Calls.spliced_nil ⟨[],H,I,.nil,h⟩
theorem aO (ha:PE X e te) (hr:PA X es t) (hs:starEach (e :: es) X.env=(false,eval e X.env) :: starEach es X.env:=by rfl):PA X (e :: es) (tZ te t):=by
 intro pos pins s σ H Q I h
 rw [hs]
 show wpAny _ _ (spliced ((false,eval e X.env) :: backTo pos (starEach es X.env))) _ _ s
 refine Calls.spliced_cons (bK (ha pins s σ H _ I h) fun u s1 ⟨x,H1,I1,r1,q1⟩=>?_)
 exact bK (hr pos pins s1 σ H1 _ I1 q1) fun us s2 ⟨xs,H2,I2,r2,q2⟩=>⟨x :: xs,H2,I2,.cons r1 r2,q2⟩
def C5 (t:TA):TE:=fun σ H Q=>t σ H fun xs H1=>xs.length≤sizeLine∧∀ p,H1 p=none→Q (.ref p) (upd H1 p (.tup xs))
def A7 (t:TA):TE:=fun σ H Q=>t σ H fun xs H1=>xs.length≤sizeLine∧∀ p,H1 p=none→Q (.ref p) (upd H1 p (.lst xs))
theorem mV {x1} (h:PA X es t):PE X (.Tuple es x1 pos) (C5 t):=by
 intro pins s σ H Q I hq
 refine wpAny_Tuple_spliced (bK (h pos pins s σ H _ I hq) fun us s1 ⟨xs,H1,I1,r,z,q⟩=>⟨by rw [← r.length];exact z,?_⟩)
 have hf:H1 s1.heap.objs.size=none:=I1.hok.fresh (Nat.le_refl _)
 refine ⟨.ref s1.heap.objs.size,upd H1 s1.heap.objs.size (.tup xs),I1.laid (t':=s1.toks) (fun b u e=>Heap.get?_push_of_some _ e) (Nat.le_refl _) ?_,rfl,q _ hf⟩
 exact ⟨z,us,r,⟨_,Heap.get?_push_size _ rfl,rfl,_,rfl⟩⟩
theorem h_ (h:PA X es t):PE X (.List es pos) (A7 t):=by
 intro pins s σ H Q I hq
 refine wpAny_List_spliced (bK (h pos pins s σ H _ I hq) fun us s1 ⟨xs,H1,I1,r,z,q⟩=>⟨by rw [← r.length];exact z,?_⟩)
 have hf:H1 s1.heap.objs.size=none:=I1.hok.fresh (Nat.le_refl _)
 refine ⟨.ref s1.heap.objs.size,upd H1 s1.heap.objs.size (.lst xs),I1.laid (t':=s1.toks) (fun b u e=>Heap.get?_push_of_some _ e) (Nat.le_refl _) ?_,rfl,q _ hf⟩
 exact ⟨z,us,0,r,Heap.get?_push_size _ rfl⟩
end
abbrev Sp:=List V→Hp→VK→XK→Prop
abbrev nM:=List Env→Hp→Shared→XK→Value→Shared→Prop
structure ua (P:Program) (w:World) (K:PySem.W.Frag) (mg:Str→Option Value) (base:Heap) (A:Around) (outer:List Env) (s:Shared) (H:Hp):Prop where
 frames:A.frames=some outer
 mod:Mod K mg base
 bs:∀ b o,base.get? b=some o→s.heap.get? b=some o∧H b=none
 bsz:base.objs.size≤s.heap.objs.size
 kD:s.heap.FunFrames base outer
 frf:∀ b∈gT outer,H b=none
 hok:jE P w H s.heap
 bare:AllBare s.gens
def CE (outer:List Env) (P:Program) (w:World) (H:Hp) (s:Shared) (Q:VK) (u:Value) (s':Shared):Prop :=
 ∃ v H',s'.os=s.os∧AllBare s'.gens∧Un (gT outer) [] H H' s.heap s'.heap∧jE P w H' s'.heap∧RelV v u∧Q v H'
def CR (CX:nM) (outer:List Env) (P:Program) (w:World) (H:Hp) (s:Shared) (Q:VK) (E:XK) (r:Result) (s':Shared):Prop :=
 match r with
 | .ok (.ret u)=>CE outer P w H s Q u s'
 | .ok _=>False
 | .error e=>CX outer H s E e s'
structure aH (P:Program) (w:World) (K:PySem.W.Frag) (mg:Str→Option Value) (base:Heap) (CX:nM) (k:Nat) (f:Addr) (fd:FuncData) (ps:List Str) (sp:Sp):Prop where
 len:∀ vs H Q E,sp vs H Q E→vs.length=ps.length
 run:∀ (A:Around) (outer:List Env) (s:Shared) (H:Hp) (args:Args) (us:List Value) (vs:List V) (Q:VK) (E:XK),bE k A→ua P w K mg base A outer s H→BindsTo s fd args (ps.zip us)→Vals vs us→sp vs H Q E →
  codeAny (model P w) A (.call (.ref f) args) (CR CX outer P w H s Q E) s
theorem aH.imp {P:Program} {w:World} {K:PySem.W.Frag} {mg:Str→Option Value} {base:Heap} {CX:nM} {k:Nat} {f:Addr} {fd:FuncData} {ps:List Str} {sp sp':Sp} (F:aH P w K mg base CX k f fd ps sp)
  (h:∀ vs H Q E,sp' vs H Q E→sp vs H Q E):aH P w K mg base CX k f fd ps sp' :=
 ⟨fun vs H Q E q=>F.len vs H Q E (h _ _ _ _ q),fun A outer s H args us vs Q E hr he hb hv hs=>F.run A outer s H args us vs Q E hr he hb hv (h _ _ _ _ hs)⟩
theorem ua.make {P:Program} {w:World} {K:PySem.W.Frag} {mg:Str→Option Value} {base:Heap} {A:Around} {outer:List Env} {s:Shared} {H:Hp} (e:ua P w K mg base A outer s H) (C:Addr) (us:List Value) (kw:List (Str × Value)) :
  ua P w K mg base (A.under (.builtin "type.__call__" ⟨.ref C :: us,kw⟩)) outer s H:=⟨by first | exact e.frames | (simpa [Around.under,Code.envs,Code.isFrame,pushEnvs] using e.frames),e.mod,e.bs,e.bsz,e.kD,e.frf,e.hok,e.bare⟩
section
variable {X:Cx} {pins:List (Addr × Obj)} {σ:St} {H:Hp} {s s':Shared}
theorem Inv.Gi (I:Inv X pins σ H s):ua X.prog X.w X.K X.mg X.base X.A X.stack s H :=
 ⟨I.ok.frames,I.ok.mod,I.bs,Nat.le_trans I.ok.bsz I.sz,I.stack,I.q_,I.hok,I.bare⟩
theorem Inv.after {Q:VK} {u:Value} (I:Inv X pins σ H s) (h:CE X.stack X.prog X.w H s Q u s'):EP X pins σ Q u s':=by
 obtain ⟨v,H',os,bare,un,hok,r,q⟩:=h
 obtain ⟨hh,g,d,t,os'⟩:=s'
 obtain rfl:os'=s.os:=os
 exact ⟨v,H',I.call (h':=hh) (g':=g) (d':=d) (t':=t) (ch:=[]) un hok bare (fun b z=>absurd z (by simp)),r,q⟩
end
def nF (sp:Sp) (dvs:List V) (E:XK) (t:TA):TE:=fun σ H Q=>t σ H fun vs H1=>sp (vs ++ dvs) H1 Q E
def A9 (C:Addr) (m:Str) (sp:Sp) (dvs:List V) (E:XK) (ta:TE) (t:TA):TE:=fun σ H Q=>ta σ H fun x H1=>∃ a dx fs,x=.ref a∧H1 a=some (.ins C dx fs)∧fs.lookup m=none ∧
 t σ H1 fun vs H2=>sp (x :: (vs ++ dvs)) H2 Q E
def A8 (C:Addr) (sp:Sp) (dvs:List V) (E:XK) (t:TA):TE:=fun σ H Q=>t σ H fun vs H1=>∀ x dx,H1 x=none→H1 dx=none→dx≠x →
 sp (.ref x :: (vs ++ dvs)) (upd (upd H1 dx (.own x)) x (.ins C dx [])) (fun v H2=>v=.non∧Q (.ref x) H2) E
def Binds (K:PySem.W.Frag) (fd:FuncData) (ps:List Str) (ds:List Value):Prop :=
 ∀ (s:Shared) (us:List Value),K.In s.heap→(us ++ ds).length=ps.length→BindsTo s fd ⟨us,[]⟩ (ps.zip (us ++ ds))
theorem Binds.all {K:PySem.W.Frag} {fd:FuncData} {ps:List Str} (h:∀ us:List Value,us.length=ps.length→bindArgs fd ⟨us,[]⟩=pure (ps.zip us)):Binds K fd ps []:=fun s us _ hl=>by
 rw [List.append_nil] at hl ⊢
 exact .of_eq (h us hl)
def Passes (CX:nM) (X:Cx) (E:XK):Prop:=∀ (pins:List (Addr × Obj)) (σ:St) (H:Hp) (s:Shared) (e:Value) (s':Shared),Inv X pins σ H s→CX X.stack H s E e s'→X.xe e s'
section
variable {X:Cx} {CX:nM} {k:Nat} {f C:Addr} {fd:FuncData} {ps:List Str} {sp:Sp} {dvs:List V} {ds:List Value} {E:XK} {x m:Str} {p pos apos:Pos} {e o:Expr} {es:List Expr} {ta:TE} {t:TA}
theorem vg {pins:List (Addr × Obj)} {σ:St} {H:Hp} {s:Shared} {Q:VK} {us:List Value} {vs:List V} (F:aH X.prog X.w X.K X.mg X.base CX k f fd ps sp) (hr:bE k X.A) (hb:Binds X.K fd ps ds) (hd:Vals dvs ds) (hx:Passes CX X E)
  (I:Inv X pins σ H s) (r:Vals vs us) (h:sp (vs ++ dvs) H Q E):wpAny (model X.prog X.w) X.A (call (.ref f) us) (EP X pins σ Q) X.xe s:=by
 have r2:Vals (vs ++ dvs) (us ++ ds):=r.append hd
 have hl:(us ++ ds).length=ps.length:=by rw [← r2.length];exact F.len _ _ _ _ h
 refine wpAny_call (codeAny_mono (F.run X.A X.stack s H ⟨us,[]⟩ (us ++ ds) (vs ++ dvs) Q E hr I.Gi (hb s us I.jP hl) r2 h) fun r s' hq=>?_)
 cases r with
 | error e=>exact hx pins σ H s e s' I hq
 | ok fl =>
  cases fl with
  | ret u=>exact I.after hq
  | next=>exact False.elim hq
  | brk=>exact False.elim hq
  | cont=>exact False.elim hq
theorem wx (F:aH X.prog X.w X.K X.mg X.base CX k f fd ps sp) (hr:bE k X.A) (hg:Gl X x) (hm:X.mg x=some (.ref f)) (hk:PySem.W.keepIn X.K (.ref f)=true) (hb:Binds X.K fd ps ds) (hd:Vals dvs ds) (hx:Passes CX X E)
  (ha:PA X (e :: es) t) (hdb:(x == ("__debug__":Str))=false:=by decide) (he:starEach (e :: es) X.env=(false,eval e X.env) :: starEach es X.env:=by rfl) (hpl:(backTo pos (starEach es X.env)).any (·.1)=false:=by rfl) :
  PE X (.Call (.Name x p) (e :: es) [] pos) (nF sp dvs E t):=by
 intro pins s σ H Q I h
 refine wpAny_Call_Name_kw (jQ I hg hm ?_ hdb)
 refine PySem.W.callWith_K (h₀:=X.base) I.ok.mod.kin hk (bK (ha pos pins s σ H _ I h) fun us s1 ⟨vs,H1,I1,r,q⟩=>⟨I1.jP,?_⟩) he hpl
 exact vg F hr hb hd hx I1 r q
theorem Cd {pl:Sem Bool} (he:PE X o ta) (c:lI X.K C) (hm:Meth X.K C m f) (F:aH X.prog X.w X.K X.mg X.base CX k f fd ps sp) (hr:bE k X.A) (hb:Binds X.K fd ps ds) (hd:Vals dvs ds) (hx:Passes CX X E) (ha:PA X (e :: es) t)
  (hst:starEach (e :: es) X.env=(false,eval e X.env) :: starEach es X.env:=by rfl) (hpl:(backTo pos (starEach es X.env)).any (·.1)=false:=by rfl)
  (ht:eval (.Call (.Attribute o m apos) (e :: es) [] pos) X.env=(do
   let ov ← eval o X.env
   standAt apos.atName
   let (f,first) ← holding [ov] (getMethod ov m pl)
   callWith pos f first (backTo pos (starEach (e :: es) X.env)) (backToKw pos (keywordEach [] X.env))):=by rfl) :
  PE X (.Call (.Attribute o m apos) (e :: es) [] pos) (A9 C m sp dvs E ta t):=by
 intro pins s σ H Q I h
 refine PySem.W.methodCall_KW (pl:=pl) (bK (he pins s σ H _ I h) fun u s1 ⟨x,H1,I1,rx,a,dx,fs,ex,ea,l,q⟩=>?_) ht
 subst ex
 obtain rfl:u=Value.ref a:=rx
 refine mB I1 ea c hm l ?_
 refine PySem.W.callWith_K (first:=[.ref a]) (h₀:=X.base) I.ok.mod.kin hm.kp (bK (ha pos pins s1 σ H1 _ I1 q) fun us s2 ⟨vs,H2,I2,r,q2⟩=>⟨I2.jP,?_⟩) hst hpl
 exact vg (us:=.ref a :: us) (vs:=.ref a :: vs) F hr hb hd hx I2 (.cons rfl r) q2
theorem Ai {pl:Sem Bool} (he:PE X o ta) (c:lI X.K C) (hm:Meth X.K C m f) (F:aH X.prog X.w X.K X.mg X.base CX k f fd ps sp) (hr:bE k X.A) (hb:Binds X.K fd ps ds) (hd:Vals dvs ds) (hx:Passes CX X E)
  (ht:eval (.Call (.Attribute o m apos) [] [] pos) X.env=(do
   let ov ← eval o X.env
   standAt apos.atName
   let (f,first) ← holding [ov] (getMethod ov m pl)
   callWith pos f first (backTo pos (starEach [] X.env)) (backToKw pos (keywordEach [] X.env))):=by rfl) :
  PE X (.Call (.Attribute o m apos) [] [] pos) (A9 C m sp dvs E ta vB):=by
 intro pins s σ H Q I h
 refine PySem.W.methodCall_KW (pl:=pl) (bK (he pins s σ H _ I h) fun u s1 ⟨x,H1,I1,rx,a,dx,fs,ex,ea,l,q⟩=>?_) ht
 subst ex
 obtain rfl:u=Value.ref a:=rx
 refine mB I1 ea c hm l ?_
 exact PySem.W.callWith_K0 (first:=[.ref a]) I1.jP hm.kp (vg (us:=[.ref a]) (vs:=[.ref a]) F hr hb hd hx I1 (.cons rfl .nil) q)
structure Mk (K:PySem.W.Frag) (C f:Addr):Prop where
 makes:PySem.W.makesIn K C=true
 init:PySem.W.findIn K (.ref C) "__init__"=some (some (.ref f))
 fn:PySem.W.isFn K (.ref f)=true
 kp:PySem.W.keepIn K (.ref C)=true
theorem tu {pins:List (Addr × Obj)} {σ:St} {H:Hp} {s:Shared} {Q:VK} {us:List Value} {vs:List V} (M:Mk X.K C f) (F:aH X.prog X.w X.K X.mg X.base CX k f fd ps sp) (hr:bE (k + 1) X.A) (hb:Binds X.K fd ps ds) (hd:Vals dvs ds)
  (hx:Passes CX X E) (I:Inv X pins σ H s) (r:Vals vs us)
  (h:∀ x dx,H x=none→H dx=none→dx≠x→sp (.ref x :: (vs ++ dvs)) (upd (upd H dx (.own x)) x (.ins C dx [])) (fun v H2=>v=.non∧Q (.ref x) H2) E) :
  wpAny (model X.prog X.w) X.A (call (.ref C) us) (EP X pins σ Q) X.xe s:=by
 have hq:=h (s.heap.objs.size + 1) s.heap.objs.size (I.hok.fresh (Nat.le_succ _)) (I.hok.fresh (Nat.le_refl _)) (Nat.ne_of_lt (Nat.lt_succ_self _))
 have I2:=Inv.made (C:=C) I
 have r2:Vals (V.ref (s.heap.objs.size + 1) :: (vs ++ dvs)) (Value.ref (s.heap.objs.size + 1) :: (us ++ ds)):=.cons rfl (r.append hd)
 have hl:(Value.ref (s.heap.objs.size + 1) :: us ++ ds).length=ps.length:=by
  have e:=r2.length
  rw [F.len _ _ _ _ hq] at e
  exact e.symm
 refine wpAny_call (zO (f:=f) I.jP M.makes M.init (beq_iff_eq.mp M.fn) (codeAny_mono (F.run _ X.stack _ _ ⟨Value.ref (s.heap.objs.size + 1) :: us,[]⟩ (Value.ref (s.heap.objs.size + 1) :: (us ++ ds)) _ _ E (hr.make C us [])
  (I2.Gi.make C us []) (hb _ (Value.ref (s.heap.objs.size + 1) :: us) I2.jP hl) r2 hq) fun r s' hq'=>?_))
 cases r with
 | error e=>exact hx pins σ _ _ e s' I2 hq'
 | ok fl =>
  cases fl with
  | ret u =>
   obtain ⟨v,H',I3,rv,ev,q3⟩:=I2.after hq'
   subst ev
   exact ⟨rv,⟨V.ref (s.heap.objs.size + 1),H',I3,rfl,q3⟩⟩
  | next=>exact False.elim hq'
  | brk=>exact False.elim hq'
  | cont=>exact False.elim hq'
theorem Cc (M:Mk X.K C f) (F:aH X.prog X.w X.K X.mg X.base CX k f fd ps sp) (hr:bE (k + 1) X.A) (hg:Gl X x) (hm:X.mg x=some (.ref C)) (hb:Binds X.K fd ps ds) (hd:Vals dvs ds) (hx:Passes CX X E)
  (ha:PA X (e :: es) t) (hdb:(x == ("__debug__":Str))=false:=by decide) (he:starEach (e :: es) X.env=(false,eval e X.env) :: starEach es X.env:=by rfl) (hpl:(backTo pos (starEach es X.env)).any (·.1)=false:=by rfl) :
  PE X (.Call (.Name x p) (e :: es) [] pos) (A8 C sp dvs E t):=by
 intro pins s σ H Q I h
 refine wpAny_Call_Name_kw (jQ I hg hm ?_ hdb)
 refine PySem.W.callWith_K (h₀:=X.base) I.ok.mod.kin M.kp (bK (ha pos pins s σ H _ I h) fun us s1 ⟨vs,H1,I1,r,q⟩=>⟨I1.jP,?_⟩) he hpl
 exact tu M F hr hb hd hx I1 r q
theorem Ah (M:Mk X.K C f) (F:aH X.prog X.w X.K X.mg X.base CX k f fd ps sp) (hr:bE (k + 1) X.A) (hg:Gl X x) (hm:X.mg x=some (.ref C)) (hb:Binds X.K fd ps ds) (hd:Vals dvs ds) (hx:Passes CX X E)
  (hdb:(x == ("__debug__":Str))=false:=by decide):PE X (.Call (.Name x p) [] [] pos) (A8 C sp dvs E vB):=by
 intro pins s σ H Q I h
 refine wpAny_Call_Name_kw (jQ I hg hm ?_ hdb)
 exact PySem.W.callWith_K0 I.jP M.kp (tu (us:=[]) M F hr hb hd hx I .nil h)
end
section
variable {X:Cx} {CX:nM} {k:Nat} {f C:Addr} {fd:FuncData} {ps ks:List Str} {sp:Sp} {E:XK} {x m:Str} {p pos apos kpos:Pos} {e o:Expr} {es:List Expr} {kws:List Keyword} {te ta:TE} {t tk:TA} {nm:Option Str}
variable {g:List Value→List Value→List Value} {gV:List V→List V→List V}
end
structure aw (N P:List Str) (sc:Scope):Prop where
 kind:sc.kind=.function
 co:sc.isCoroutine=false
 gen:sc.isGenerator=false
 nd:N.Nodup
 pre:N.take P.length=P
 par:∀ x∈P,sc.names.lookup x=some .local∨sc.names.lookup x=some .cell
 nofree:∀ y∈sc.names,y.2≠.free
theorem oP {kindOf:Str→Option NameKind} {x:Str}:∀ {binds:List (Str × Value)} {m:Str→Option Value},(∀ v,(x,v) ∉ binds)→bindL kindOf binds m x=m x
 | [],_,_=>rfl
 | (n,v) :: r,m,h=>by
  unfold bindL
  rw [oP fun w hw=>h w (List.mem_cons_of_mem _ hw)]
  split
  ·have:x≠n:=by rintro rfl;exact h v List.mem_cons_self
   simp [this]
  ·rfl
theorem oN {kindOf:Str→Option NameKind} {x:Str}:∀ {binds:List (Str × Value)} {m:Str→Option Value},(∀ v,(x,v) ∉ binds)→bindC kindOf binds m x=m x
 | [],_,_=>rfl
 | (n,v) :: r,m,h=>by
  unfold bindC
  rw [oN fun w hw=>h w (List.mem_cons_of_mem _ hw)]
  split
  ·rfl
  ·have:x≠n:=by rintro rfl;exact h v List.mem_cons_self
   simp [this]
theorem oO {kindOf:Str→Option NameKind} {x:Str} {v:Value}:∀ {P:List Str} {vs:List Value} {i:Nat} {m:Str→Option Value},P.Nodup→P[i]?=some x→vs[i]?=some v→kindOf x=some .local →
  bindL kindOf (P.zip vs) m x=some v
 | [],_,_,_,_,h,_,_=>by simp at h
 | _ :: _,[],_,_,_,_,h,_=>by simp at h
 | p :: P,w :: vs,0,m,nd,h1,h2,hk=>by
  simp at h1 h2;subst h1;subst h2
  show bindL kindOf ((p,w) :: P.zip vs) m p=_
  unfold bindL
  rw [oP fun v hv=>(List.nodup_cons.mp nd).1 (List.of_mem_zip hv).1,if_pos hk]
  simp
 | p :: P,w :: vs,i + 1,m,nd,h1,h2,hk=>by
  show bindL kindOf ((p,w) :: P.zip vs) m x=_
  unfold bindL
  exact oO (i:=i) (List.nodup_cons.mp nd).2 (by simpa using h1) (by simpa using h2) hk
theorem oM {kindOf:Str→Option NameKind} {x:Str} {v:Value}:∀ {P:List Str} {vs:List Value} {i:Nat} {m:Str→Option Value},P.Nodup→P[i]?=some x→vs[i]?=some v→kindOf x≠some .local →
  bindC kindOf (P.zip vs) m x=some v
 | [],_,_,_,_,h,_,_=>by simp at h
 | _ :: _,[],_,_,_,_,h,_=>by simp at h
 | p :: P,w :: vs,0,m,nd,h1,h2,hk=>by
  simp at h1 h2;subst h1;subst h2
  show bindC kindOf ((p,w) :: P.zip vs) m p=_
  unfold bindC
  rw [oN fun v hv=>(List.nodup_cons.mp nd).1 (List.of_mem_zip hv).1,if_neg hk]
  simp
 | p :: P,w :: vs,i + 1,m,nd,h1,h2,hk=>by
  show bindC kindOf ((p,w) :: P.zip vs) m x=_
  unfold bindC
  exact oM (i:=i) (List.nodup_cons.mp nd).2 (by simpa using h1) (by simpa using h2) hk
def start (N:List Str) (vs:List V):St:=vs.map some ++ List.replicate (N.length - vs.length) none
def pH (CX:nM) (P:Program) (w:World) (K:PySem.W.Frag) (mg:Str→Option Value) (base:Heap) (N:List Str) (qual:Str) (scope:Scope) (f:Addr) (cd:Value) (A:Around) (outer:List Env) (s:Shared) (H:Hp) (E:XK):Cx where
 prog:=P
 w:=w
 K:=K
 mg:=mg
 base:=base
 A:=A.deeper (envOfC qual scope s.heap.objs.size f cd)
 N:=N
 s₀:=s
 H₀:=H
 env:=envOfC qual scope s.heap.objs.size f cd
 outer:=outer
 stack:=envOfC qual scope s.heap.objs.size f cd :: outer
 ex:=[]
 calm:=true
 fn:=fun _=>true
 pn:=[]
 xe:=fun e s'=>wpAny (model P w) (A.deeper (envOfC qual scope s.heap.objs.size f cd)) (leaving (envOfC qual scope s.heap.objs.size f cd) e) (fun _ s''=>CX outer H s E e s'') (fun e' s''=>CX outer H s E e' s'') s'
theorem rH {sc:Scope} {n:Nat} {x:Str} (h:sc.names.lookup x=some .cell):∃ c,(cellsFrom n sc.names []).lookup x=some c:=by
 have q:=PySem.W.cellsFrom_some sc.names n [] (.inl h)
 exact Option.isSome_iff_exists.mp q
theorem xJ {CX:nM} {P:Program} {w:World} {K:PySem.W.Frag} {mg:Str→Option Value} {base:Heap} {N ps:List Str} {qual:Str} {scope:Scope} {f:Addr} {cd:Value} {A:Around} {outer:List Env} {s s1:Shared} {H:Hp} {E:XK} {us:List Value} {vs:List V}
  (S:aw N ps scope) (hd:A.handled=none) (e0:ua P w K mg base A outer s H) (hl:vs.length=ps.length) (r:Vals vs us)
  (x:InCallC s s.heap.objs.size (bindL (envOfC qual scope s.heap.objs.size f cd).kindOf (ps.zip us) fun _=>none) (cellsFrom (s.heap.objs.size + 1) scope.names []) (bindC (envOfC qual scope s.heap.objs.size f cd).kindOf (ps.zip us) fun _=>none) s1) :
  Inv (pH CX P w K mg base N qual scope f cd A outer s H E) [] (start N vs) H s1:=by
 have hpl:ps.length≤N.length:=by have:=congrArg List.length S.pre;rw [List.length_take] at this;omega
 obtain ⟨h1,tk,rfl,hk⟩:=x.done
 have noA:∀ b:Addr,b ∉ (pH CX P w K mg base N qual scope f cd A outer s H E).ex:=fun b z=>absurd (show b∈([]:List Addr) from z) (by simp)
 refine ⟨⟨e0.mod,S.kind,rfl,rfl,Nat.le_refl _,fun y z c h1 h2=>?_,fun y hy=>?_,fun y c _ h=>?_,fun _=>hd,Around.frames_deeper e0.frames,.inr ⟨rfl,rfl⟩,fun b z=>absurd z (noA b),e0.bs,e0.bsz,fun b _ _=>noA b,fun b z=>absurd z (noA b),e0.kD,e0.frf⟩,
  rfl,e0.bare,Un.kept hk,⟨_,x.toInCall.ns,fun i y v h1 h2 h3=>?_⟩,fun y c h=>⟨_,x.cell y c h⟩,e0.hok.fresh (Nat.le_refl _),fun y c h=>?_,fun p hp=>absurd (show p∈([]:List (Addr × Obj)) from hp) (by simp),e0.hok.kept hk,?_⟩
 ·exact name_of_addr x.apart (PySem.mem_of_lookup h1) (PySem.mem_of_lookup h2)
 ·have hy:scope.names.lookup y=some .cell∨scope.names.lookup y=some .free:=hy
  rcases hy with hy | hy
  ·exact rH hy
  ·exact absurd rfl (S.nofree _ (PySem.mem_of_lookup hy))
 ·exact Nat.le_of_lt (x.above y c (PySem.mem_of_lookup h))
 ·have hi:i < vs.length:=by
   unfold start at h2
   by_cases hi:i < vs.length
   ·exact hi
   ·rw [List.getElem?_append_right (by simpa using hi)] at h2
    rw [List.getElem?_replicate] at h2
    split at h2 <;> cases h2
  have ha:vs[i]?=some v:=by
   unfold start at h2
   rw [List.getElem?_append_left (by simpa using hi),List.getElem?_map] at h2
   cases e:vs[i]? with
   | none=>rw [e] at h2;cases h2
   | some a=>rw [e] at h2;cases h2;rfl
  obtain ⟨u,hu,rv⟩:=r.get ha
  have hp:ps[i]?=some y:=by
   rw [← S.pre,List.getElem?_take_of_lt (by omega)];exact h1
  have ndP:ps.Nodup:=by rw [← S.pre];exact S.nd.sublist (List.take_sublist _ _)
  refine ⟨u,rv,?_⟩
  rcases S.par y (List.mem_of_getElem? hp) with k | k
  ·exact .inl ⟨k,oO ndP hp hu k⟩
  ·obtain ⟨c,e⟩:=rH (n:=s.heap.objs.size + 1) k
   refine .inr ⟨.inl k,c,e,?_⟩
   have q:=x.cell y c e
   rw [oM ndP hp hu (by show scope.names.lookup y≠_;rw [k];decide)] at q
   exact q
 ·exact e0.hok.fresh (Nat.le_of_lt (x.above y c (PySem.mem_of_lookup h)))
 ·unfold start
  show _=N.length
  rw [List.length_append,List.length_map,List.length_replicate]
  omega
theorem y_ {CX:nM} {P:Program} {w:World} {K:PySem.W.Frag} {mg:Str→Option Value} {base:Heap} {k:Nat} {f:Addr} {name qual:Str} {params:Arguments} {body:List Stmt} {scope:Scope} {dV kV doc pm cdv ct oc:Value} {an od:Option Addr}
  {osl:Array (Option Value)} {N ps:List Str} {sp:Sp} (lk:K.lookup f=some ⟨oc,od,.func (PySem.W.fnOf name qual params body scope dV kV doc pm an cdv ct),osl⟩) (hcd:PySem.W.codeIn K cdv qual=true) (S:aw N ps scope)
  (len:∀ vs H Q E,sp vs H Q E→vs.length=ps.length)
  (hbody:∀ (A:Around) (outer:List Env) (s:Shared) (H:Hp) (vs:List V) (Q:VK) (E:XK),bE k (A.deeper (envOfC qual scope s.heap.objs.size f cdv))→sp vs H Q E →
   ∃ t,oI (pH CX P w K mg base N qual scope f cdv A outer s H E) body t∧t { nx:=fun _ H'=>Q .non H',rt:=Q } (start N vs) H) :
  aH P w K mg base CX (k + 1) f (PySem.W.fnOf name qual params body scope dV kV doc pm an cdv ct) ps sp:=by
 refine ⟨len,fun A outer s H args us vs Q E hr e0 hb r hsp=>?_⟩
 have hl:=len _ _ _ _ hsp
 have KX:K.In s.heap:=e0.mod.kin.keeps fun b o e=>(e0.bs b o e).1
 have lim:s.heap.NoLimit:=e0.mod.nolimit.keeps fun b o e=>(e0.bs b o e).1
 have hkind:∀ y∈ps.zip us,scope.names.lookup y.1=some .local∨(scope.names.lookup y.1=some .cell∧((cellsFrom (s.heap.objs.size + 1) scope.names []).lookup y.1).isSome=true):=fun ⟨n,v⟩ hy=>by
  rcases S.par n (List.of_mem_zip hy).1 with q | q
  ·exact .inl q
  ·exact .inr ⟨q,PySem.W.cellsFrom_some _ _ _ (.inl q)⟩
 refine codeAny_call_function hr.depth (KX _ _ lk) rfl S.co S.gen rfl (PySem.W.codeRec_of KX hcd) (hb _ _ _ _ ?_)
 refine wpAny_newFunctionEnv_cells S.kind hkind fun env he s1 x=>?_
 subst he
 refine ⟨lim.keeps x.toInCall.keep,codeAny_func ?_⟩
 obtain ⟨t,ht,hq⟩:=hbody A outer s H vs Q E (hr.deeper _) hsp
 have I:Inv (pH CX P w K mg base N qual scope f cdv A outer s H E) [] (start N vs) H s1:=xJ S hr.hd e0 hl r x
 refine wpAny_mono (ht [] s1 (start N vs) H _ I hq) (fun fl s' hs=>?_) fun e s' hs=>hs
 have fin:∀ {σ':St} {H':Hp} {v:V} {u:Value},Inv (pH CX P w K mg base N qual scope f cdv A outer s H E) [] σ' H' s'→RelV v u→Q v H'→CE outer P w H s Q u s' :=
  fun {σ' H' v u} J rv q=>⟨v,H',J.os,J.bare,J.base,J.hok,rv,q⟩
 cases fl with
 | ret u =>
  obtain ⟨v,σ',H',J,rv,q⟩:=hs
  exact fin J rv q
 | next =>
  obtain ⟨σ',H',J,q⟩:=hs
  exact fin (v:=V.non) (u:=Value.none) J rfl q
 | brk =>
  obtain ⟨_,_,_,q⟩:=hs
  exact False.elim q
 | cont =>
  obtain ⟨_,_,_,q⟩:=hs
  exact False.elim q
end L2
namespace L2
open PySem PySem.Spec PyProof.Rows
section
variable {X:Cx} {x:Str} {p pos:Pos} {e:Expr} {es:List Expr} {t:TA} {id T:String} {r:List V→Hp→VK→Prop}
def D0 (r:List V→Hp→VK→Prop) (t:TA):TE:=fun σ H Q=>t σ H fun vs H1=>r vs H1 Q
theorem de (hc:bP X (.builtin id) r) (hg:Gl X x) (hm:X.mg x=none) (hv:bootBuiltins x=some (.builtin id)) (ha:PA X (e :: es) t) (hn:x≠"__name__":=by decide) (hdb:(x == ("__debug__":Str))=false:=by decide)
  (he:starEach (e :: es) X.env=(false,eval e X.env) :: starEach es X.env:=by rfl) (hpl:(backTo pos (starEach es X.env)).any (·.1)=false:=by rfl):PE X (.Call (.Name x p) (e :: es) [] pos) (D0 r t):=by
 intro pins s σ H Q I h
 refine wpAny_Call_Name_kw (jq I hg hm hv ?_ hn hdb)
 exact PyProof.Rows.callWith_builtin1 (bK (ha pos pins s σ H _ I h) fun us s1 ⟨vs,H1,I1,r1,q1⟩=>hc pins s1 σ H1 vs us Q I1 r1 q1) he hpl
theorem kK (hc:bP X (.type T) r) (hg:Gl X x) (hm:X.mg x=none) (hv:bootBuiltins x=some (.type T)) (ha:PA X (e :: es) t) (hn:x≠"__name__":=by decide) (hdb:(x == ("__debug__":Str))=false:=by decide)
  (he:starEach (e :: es) X.env=(false,eval e X.env) :: starEach es X.env:=by rfl) (hpl:(backTo pos (starEach es X.env)).any (·.1)=false:=by rfl):PE X (.Call (.Name x p) (e :: es) [] pos) (D0 r t):=by
 intro pins s σ H Q I h
 refine wpAny_Call_Name_kw (jq I hg hm hv ?_ hn hdb)
 exact PyProof.Rows.callWith_type1 (bK (ha pos pins s σ H _ I h) fun us s1 ⟨vs,H1,I1,r1,q1⟩=>hc pins s1 σ H1 vs us Q I1 r1 q1) he hpl
end
end L2
namespace HT
open PySem PyProof.Rows
def lexLt:List Int→List Int→Bool
 | [],[]=>false
 | [],_ :: _=>true
 | _ :: _,[]=>false
 | x :: xs,y :: ys=>if x=y then lexLt xs ys else decide (x < y)
section
open PySem.SeqAt
open PySem.AutoSeq1 (wpAny_loadPart')
open PySem.MeetsSeq PySem.MeetsSeq2 PySem.MeetsSeq3
end
section
variable {prog:Program} {w:World} {A:Around} {E:Value→Shared→Prop} {s:Shared}
def dz (n d:Nat):Option Int→Nat
 | none=>d
 | some v=>if v < 0 then (v + (n:Int)).toNat else min v.toNat n
theorem tw (n d:Nat):dz n d none=d:=rfl
theorem CJ (n d k:Nat):dz n d (some (k:Int))=min k n:=by
 show (if (k:Int) < 0 then ((k:Int) + (n:Int)).toNat else min (k:Int).toNat n)=min k n
 rw [if_neg (by omega),Int.toNat_natCast]
theorem Fq (n d:Nat) (hd:d≤n) (o:Option Int):dz n d o≤n:=by
 cases o with
 | none=>exact hd
 | some v =>
  show (if v < 0 then (v + (n:Int)).toNat else min v.toNat n)≤n
  by_cases hv:v < 0
  ·rw [if_pos hv];omega
  ·rw [if_neg hv];exact Nat.min_le_right _ _
theorem vK (v:Int) (n d:Nat):(if v < 0 then max (v + (n:Int)) 0 else min v (n:Int))=((dz n d (some v):Nat):Int):=by
 show (if v < 0 then max (v + (n:Int)) 0 else min v (n:Int))=(((if v < 0 then (v + (n:Int)).toNat else min v.toNat n):Nat):Int)
 by_cases hv:v < 0
 ·simp only [if_pos hv];omega
 ·simp only [if_neg hv];omega
theorem uf (lo hi:Option Int) (n:Nat):Builtin.Slice.sliceAdjust lo hi 1 (n:Int)=(((dz n 0 lo:Nat):Int),((dz n n hi:Nat):Int)):=by
 have h1:¬ ((1:Int) < 0):=by omega
 unfold Builtin.Slice.sliceAdjust
 simp only [h1,if_false]
 refine Prod.ext ?_ ?_
 ·cases lo with
  | none=>rfl
  | some v=>exact vK v n 0
 ·cases hi with
  | none=>rfl
  | some v=>exact vK v n n
theorem uY (i j:Nat):Builtin.Slice.slicePlaces (i:Int) (j:Int) 1=j - i:=by
 unfold Builtin.Slice.slicePlaces
 have h1:(1:Int) > 0:=by omega
 simp only [h1,if_true,Int.ediv_one]
 split <;> omega
theorem nh {v:Value} {o:Option Int} {Q:Option Int→Shared→Prop} (p:IsPart v o) (h:Q o s):wpAny (model prog w) A (Builtin.Slice.slicePartIndex v) Q E s:=by
 cases p with
 | none=>exact slicePart_none h
 | int i t=>exact slicePart_int h
theorem kX {sl:Addr} {vl vu:Value} {lo hi:Option Int} {n:Nat} {Q:Int × Int × Nat→Shared→Prop} (hs:s.heap.IsSliceOf sl vl vu .none) (pl:IsPart vl lo) (pu:IsPart vu hi)
  (h:Q (((dz n 0 lo:Nat):Int),1,dz n n hi - dz n 0 lo) s):wpAny (model prog w) A (Builtin.Slice.sliceApplied (.ref sl) (pure (n:Int))) Q E s:=by
 obtain ⟨os,hos,hcs,hds⟩:=id hs
 unfold Builtin.Slice.sliceApplied Builtin.Slice.sliceFields
 refine wpAny_bind (wpAny_bind (wpAny_field hos hds (x:=vl) rfl (wpAny_bind (wpAny_field hos hds (x:=vu) rfl (wpAny_bind (wpAny_field hos hds (x:=.none) rfl (wpAny_pure ?_)))))))
 refine wpAny_bind (slicePart_none ?_)
 show wpAny _ _ (if ((1:Int) == 0)=true then _ else _) _ _ s
 rw [if_neg (by decide)]
 refine wpAny_bind (nh pl (wpAny_bind (nh pu (wpAny_bind (wpAny_pure ?_)))))
 show wpAny _ _ (match Builtin.Slice.sliceAdjust lo hi 1 (n:Int) with | (lo,hi)=>pure (lo,(1:Int),Builtin.Slice.slicePlaces lo hi 1)) _ _ s
 rw [uf lo hi n]
 show wpAny _ _ (pure (((dz n 0 lo:Nat):Int),(1:Int),Builtin.Slice.slicePlaces ((dz n 0 lo:Nat):Int) ((dz n n hi:Nat):Int) 1)) _ _ s
 rw [uY]
 exact wpAny_pure h
theorem Ak (xs:Array Value) (i k:Nat):((List.range k).filterMap fun (m:Nat)=>xs[((i:Int) + (m:Int) * 1).toNat]?).toArray=((xs.toList.drop i).take k).toArray:=by
 have e:(fun (m:Nat)=>xs[((i:Int) + (m:Int) * 1).toNat]?)=fun m=>xs[i + m]?:=by
  funext m
  have:((i:Int) + (m:Int) * 1).toNat=i + m:=by omega
  rw [this]
 rw [e]
 have:=pick_run xs i k
 rw [List.filterMap_map] at this
 have e2:((fun x=>xs[x]?) ∘ fun x=>i + x)=fun m=>xs[i + m]?:=rfl
 rw [e2] at this
 rw [this]
theorem jN {t sl:Addr} {items:Array Value} {vl vu:Value} {lo hi:Option Int} {Q:Value→Shared→Prop} (ht:IsTup s.heap t items) (hs:s.heap.IsSliceOf sl vl vu .none) (pl:IsPart vl lo) (pu:IsPart vu hi)
  (hw:¬ (dz items.size 0 lo=0∧dz items.size items.size hi=items.size))
  (h:Q (.ref s.heap.objs.size) { s with heap:=s.heap.push { cls:=.type "tuple",data:=.seq ((items.toList.drop (dz items.size 0 lo)).take (dz items.size items.size hi - dz items.size 0 lo)).toArray } })
  (hsz:items.size≤sizeLine):wpAny (model prog w) A (getItem (.ref t) (.ref sl)) Q E s:=by
 have htake:sizeOk (.seq ((items.toList.drop (dz items.size 0 lo)).take (dz items.size items.size hi - dz items.size 0 lo)).toArray):=by
  show ((items.toList.drop (dz items.size 0 lo)).take (dz items.size items.size hi - dz items.size 0 lo)).toArray.size≤sizeLine
  rw [List.size_toArray,List.length_take,List.length_drop,Array.length_toList]
  omega
 have hj:dz items.size items.size hi≤items.size:=Fq _ _ (Nat.le_refl _) hi
 obtain ⟨os,hos,hcs,hds⟩:=id hs
 have hTs:s.TypeIs (.ref sl) "slice":=⟨os,hos,hcs⟩
 unfold getItem
 try with_reducible refine wpAny_holding ?_
 first | refine wpAny_bind (wpAny_pure ?_) | skip
 refine wpAny_bind (wpAny_sequenceKey ht.typeIs (by decide) ?_)
 refine wpAny_bind (wpAny_callSpecial?_slot (name:=Str.ofString "__getitem__") ht.typeIs PyProof.Rows.slot_tuple_getitem
  (wpAny_call_entry PyProof.Rows.slot_tuple_getitem ht.typeIs entry_tuple_getitem ?_ (args_tuple_getitem _ _)))
 show wpAny _ _ (Builtin.Tuple.tupleItemsOf (.ref t) >>= _) _ _ s
 refine wpAny_bind (tupleItemsOf_ ht ?_)
 refine wpAny_bind (wpAny_typeOf hTs ?_)
 rw [if_pos (by decide)]
 refine wpAny_bind (kX hs pl pu ?_)
 have hno:¬ ((((dz items.size 0 lo:Nat):Int) == 0 && (1:Int) == 1 && (dz items.size items.size hi - dz items.size 0 lo) == items.size)=true):=by
  intro q
  rw [Bool.and_eq_true,Bool.and_eq_true] at q
  have q1:((dz items.size 0 lo:Nat):Int)=0:=eq_of_beq q.1.1
  have q2:dz items.size items.size hi - dz items.size 0 lo=items.size:=eq_of_beq q.2
  exact hw ⟨by omega,by omega⟩
 show wpAny _ _ (if (((dz items.size 0 lo:Nat):Int) == 0 && (1:Int) == 1 && (dz items.size items.size hi - dz items.size 0 lo) == items.size)=true then _ else _) _ _ s
 rw [if_neg hno,Ak]
 first
  | exact wpAny_bind (m:=Builtin.Tuple.tupleExact _) (wpAny_newObj_type (wpAny_pure ⟨_,rfl,wpAny_pure h⟩) htake)
  | exact wpAny_bind (m:=Builtin.Tuple.tupleExact _) (wpAny_newObj_type (wpAny_bind (wpAny_pure (wpAny_pure ⟨_,rfl,wpAny_pure h⟩))) htake)
  | exact wpAny_bind (wpAny_bind (m:=Builtin.Tuple.tupleExact _) (wpAny_newObj_type (wpAny_pure (wpAny_pure ⟨_,rfl,wpAny_pure h⟩)) htake))
  | exact wpAny_bind (wpAny_bind (m:=Builtin.Tuple.tupleExact _) (wpAny_newObj_type (wpAny_pure ⟨_,rfl,wpAny_pure h⟩) htake))
end
end HT
namespace L2
open PySem PySem.Spec PyProof.Rows
abbrev TO:=St→Hp→(Option Int→Hp→Prop)→Prop
def PO (X:Cx) (e:Option Expr) (t:TO):Prop :=
 ∀ (pins:List (Addr × Obj)) (s:Shared) (σ:St) (H:Hp) (Q:Option Int→Hp→Prop),Inv X pins σ H s→t σ H Q →
  wpAny (model X.prog X.w) X.A (evalPart e X.env) (fun u s'=>∃ o H',Inv X pins σ H' s'∧IsPart u o∧Q o H') X.xe s
def l8:TO:=fun _ H Q=>Q none H
def xj (t:TE):TO:=fun σ H Q=>t σ H fun x H1=>∃ i,x=.int i∧Q (some i) H1
theorem intsAre_of {ns:List Int}:∀ {us:List Value},Vals (ns.map V.int) us→IntsAre us ns:=by
 induction ns with
 | nil=>intro us r;rw [List.map_nil] at r;cases r;exact .nil
 | cons n ns ih =>
  intro us r
  rw [List.map_cons] at r
  cases r with
  | cons r1 r2 =>
   obtain ⟨t,e⟩:=r1
   subst e
   exact .cons n t (ih r2)
section
variable {X:Cx} {e:Expr} {te:TE} {lo hi:Option Expr} {tl th:TO} {pos p2:Pos}
theorem lT:PO X none l8:=by
 intro pins s σ H Q I h
 rw [evalPart_none]
 exact wpAny_pure ⟨none,H,I,.none,h⟩
theorem iI (h:PE X e te):PO X (some e) (xj te):=by
 intro pins s σ H Q I hw
 rw [evalPart_some]
 refine bK (h pins s σ H _ I hw) fun u s1 ⟨x,H1,I1,r1,q1⟩=>?_
 obtain ⟨i,rfl,q⟩:=q1
 obtain ⟨t,rfl⟩:=r1
 exact ⟨some i,H1,I1,.int i t,q⟩
def oJ (X:Cx) (r:V→Option Int→Option Int→Hp→VK→Prop):Prop :=
 ∀ (pins:List (Addr × Obj)) (s:Shared) (σ:St) (H:Hp) (x:V) (v vl vu:Value) (lo hi:Option Int) (sl:Addr) (Q:VK),Inv X pins σ H s→RelV x v→s.heap.IsSliceOf sl vl vu .none→IsPart vl lo→IsPart vu hi→r x lo hi H Q →
  ∃ T id,typeLookup (.type T) "__getitem__"=pure (some (.builtin id))∧s.TypeIs v T∧wpAny (model X.prog X.w) X.A (getItem v (.ref sl)) (EP X pins σ Q) X.xe s
theorem oJ.or {r r':V→Option Int→Option Int→Hp→VK→Prop} (h:oJ X r) (h':oJ X r'):oJ X (fun x lo hi H Q=>r x lo hi H Q∨r' x lo hi H Q):=by
 intro pins s σ H x v vl vu lo hi sl Q I rx hs pl pu q
 rcases q with q | q
 ·exact h pins s σ H x v vl vu lo hi sl Q I rx hs pl pu q
 ·exact h' pins s σ H x v vl vu lo hi sl Q I rx hs pl pu q
def Iq (r:V→Option Int→Option Int→Hp→VK→Prop) (te:TE) (tl th:TO):TE:=fun σ H Q=>te σ H fun x H1=>tl σ H1 fun l H2=>th σ H2 fun u H3=>r x l u H3 Q
theorem ia {r:V→Option Int→Option Int→Hp→VK→Prop} (hr:oJ X r) (he:PE X e te) (hl:PO X lo tl) (hu:PO X hi th):PE X (.Subscript e (.Slice lo hi none p2) pos) (Iq r te tl th):=by
 intro pins s σ H Q I h
 refine Subscript_ (bK (he pins s σ H _ I h) fun v s1 ⟨x,H1,I1,r1,q1⟩=>?_)
 refine wpAny_Slice (bK (hl pins s1 σ H1 _ I1 q1) fun vl s2 ⟨l,H2,I2,pl,q2⟩=>bK (hu pins s2 σ H2 _ I2 q2) fun vu s3 ⟨u,H3,I3,pu,q3⟩=>?_)
 rw [evalPart_none]
 refine wpAny_pure ?_
 have I4:Inv X pins σ H3 { s3 with heap:=s3.heap.push { cls:=.type "slice",data:=.fields #[vl,vu,.none] } }:=I3.kept (t':=s3.toks) fun b ob q=>Heap.get?_push_of_some _ q
 obtain ⟨T,id,hT,ht,hg⟩:=hr pins { s3 with heap:=s3.heap.push { cls:=.type "slice",data:=.fields #[vl,vu,.none] } } σ H3 x v vl vu l u s3.heap.objs.size Q I4 r1 (Heap.IsSliceOf.new ..) pl pu q3
 show wpAny (model X.prog X.w) X.A (subscriptTail e (.Slice lo hi none p2) v (.ref s3.heap.objs.size)) (EP X pins σ Q) X.xe { s3 with heap:=s3.heap.push { cls:=.type "slice",data:=.fields #[vl,vu,.none] } }
 exact tail_any (ops:=[.ref s3.heap.objs.size,v]) ht hT hg (by with_unfolding_all rfl)
def mq (xs:List V) (lo hi:Option Int):List V:=(xs.drop (HT.dz xs.length 0 lo)).take (HT.dz xs.length xs.length hi - HT.dz xs.length 0 lo)
theorem k9 (xs:List V) (lo hi:Option Int):(mq xs lo hi).length≤xs.length:=by
 unfold mq
 rw [List.length_take,List.length_drop]
 omega
def JG (K:PySem.W.Frag):V→Option Int→Option Int→Hp→VK→Prop:=fun x lo hi H Q=>∃ a xs,x=.ref a∧fQ K H a xs ∧
 ¬ (HT.dz xs.length 0 lo=0∧HT.dz xs.length xs.length hi=xs.length)∧∀ p,H p=none→Q (.ref p) (upd H p (.tup (mq xs lo hi)))
theorem Fv:oJ X (JG X.K):=by
 intro pins s σ H x v vl vu lo hi sl Q I rx hs pl pu h
 obtain ⟨a,xs,rfl,hx,hw,q⟩:=h
 cases rx
 obtain ⟨its,r,ht,hz⟩:=I.tuple hx
 have hlen:its.toArray.size=xs.length:=by rw [List.size_toArray];exact r.length.symm
 refine ⟨"tuple",_,PyProof.Rows.slot_tuple_getitem.lookup,ht.typeIs,?_⟩
 refine HT.jN ht hs pl pu (by rw [hlen];exact hw) ?_ (by rw [hlen];exact hz)
 rw [hlen]
 refine ⟨.ref s.heap.objs.size,_,I.laid (t':=s.toks) (o:=.tup (mq xs lo hi)) (fun b ob q=>Heap.get?_push_of_some _ q) (Nat.le_refl _) ?_,rfl,q _ (I.hok.fresh (Nat.le_refl _))⟩
 exact ⟨Nat.le_trans (k9 xs lo hi) hz,_,(r.drop (HT.dz xs.length 0 lo)).take (HT.dz xs.length xs.length hi - HT.dz xs.length 0 lo),IsTup.new _ _⟩
end
end L2
namespace L2
open PySem PySem.Spec PyProof.Rows
def yI (n:Nat) (i:Int):Option Nat:=if 0≤i then (if i < n then some i.toNat else none) else if -(n:Int)≤i then some (i + n).toNat else none
def c5 {α:Type} (xs:List α) (i:Int):Option α:=(yI xs.length i).bind fun j=>xs[j]?
theorem wc {n:Nat} {i:Int} {j:Nat} (h:yI n i=some j):seqIndex? i n=some j∧j < n∧-(n:Int)≤i∧i < n:=by
 unfold yI at h
 by_cases h0:0≤i
 ·rw [if_pos h0] at h
  by_cases h1:i < n
  ·rw [if_pos h1] at h
   have e:i.toNat=j:=Option.some.inj h
   exact ⟨by rw [seqIndex_of h0 h1,e],by omega,by omega,h1⟩
  ·rw [if_neg h1] at h;cases h
 ·rw [if_neg h0] at h
  by_cases h1:-(n:Int)≤i
  ·rw [if_pos h1] at h
   have e:(i + n).toNat=j:=Option.some.inj h
   exact ⟨by rw [seqIndex_neg (by omega) h1,e],by omega,h1,by omega⟩
  ·rw [if_neg h1] at h;cases h
theorem pD {α:Type} {xs:List α} {i:Int} {v:α} (h:c5 xs i=some v):∃ j,seqIndex? i xs.length=some j∧xs[j]?=some v∧j < xs.length∧-(xs.length:Int)≤i∧i < xs.length:=by
 unfold c5 at h
 cases e:yI xs.length i with
 | none=>rw [e] at h;cases h
 | some j =>
  rw [e] at h
  obtain ⟨h1,h2,h3,h4⟩:=wc e
  exact ⟨j,h1,h,h2,h3,h4⟩
theorem bc {α:Type} {xs:List α} {j:Nat} {v:α} (h:xs[j]?=some v):c5 xs (j:Int)=some v:=by
 have hj:j < xs.length:=(List.getElem?_eq_some_iff.mp h).1
 have e:yI xs.length (j:Int)=some j:=by
  unfold yI
  rw [if_pos (by omega),if_pos (by omega)];simp
 unfold c5;rw [e];exact h
def cU (b:Expr):Prop:=∀ o i,subscripted b false o i=operate [o,i] (getItem o i)
def md (X:Cx) (r:R2):Prop :=
 ∀ (value slice:Expr) (pins:List (Addr × Obj)) (s:Shared) (σ:St) (H:Hp) (x y:V) (v u:Value) (Q:VK),Inv X pins σ H s→RelV x v→RelV y u→r x y H Q →
  subscripted slice false v u=operate [v,u] (getItem v u)→wpAny (model X.prog X.w) X.A (subscriptTail value slice v u) (EP X pins σ Q) X.xe s
def mf (X:Cx) (id:String) (r:V→List V→Hp→VK→Prop):Prop :=
 ∀ (pins:List (Addr × Obj)) (s:Shared) (σ:St) (H:Hp) (x:V) (xs:List V) (v:Value) (us:List Value) (Q:VK),Inv X pins σ H s→RelV x v→Vals xs us→r x xs H Q →
  wpAny (model X.prog X.w) X.A (call (.builtin id) (v :: us)) (EP X pins σ Q) X.xe s
section
variable {X:Cx} {a b:Expr} {ta tb:TE} {pos:Pos}
theorem md.or {r r':R2} (h:md X r) (h':md X r'):md X (fun x y H Q=>r x y H Q∨r' x y H Q):=by
 intro value slice pins s σ H x y v u Q I rx ry q hs
 rcases q with q | q
 ·exact h value slice pins s σ H x y v u Q I rx ry q hs
 ·exact h' value slice pins s σ H x y v u Q I rx ry q hs
theorem mf.or {id:String} {r r':V→List V→Hp→VK→Prop} (h:mf X id r) (h':mf X id r'):mf X id (fun x xs H Q=>r x xs H Q∨r' x xs H Q):=by
 intro pins s σ H x xs v us Q I rx rs q
 rcases q with q | q
 ·exact h pins s σ H x xs v us Q I rx rs q
 ·exact h' pins s σ H x xs v us Q I rx rs q
theorem bO {r:R2} (hr:md X r) (ha:PE X a ta) (hb:PE X b tb) (hs:cU b):PE X (.Subscript a b pos) (A_ r ta tb):=by
 intro pins s σ H Q I h
 exact Subscript_ (Ea ha hb I h fun v u s2 x y H2 I2 rx ry q=>hr a b pins s2 σ H2 x y v u Q I2 rx ry q (hs _ _))
def Hj (K:PySem.W.Frag):R2:=fun x y H Q=>∃ p xs i v,x=.ref p∧y=.int i∧cD K H p xs∧c5 xs i=some v∧Q v H
def Hl (K:PySem.W.Frag):R2:=fun x y H Q=>∃ p xs i v,x=.ref p∧y=.int i∧fQ K H p xs∧c5 xs i=some v∧Q v H
def Hk:R2:=fun x y H Q=>∃ z i c,x=.str z∧y=.int i∧z.length≤sizeLine∧c5 z.cps.toList i=some c∧Q (.str ⟨#[c]⟩) H
theorem pN:md X (Hj X.K):=by
 intro value slice pins s σ H x y v u Q I rx ry h hs
 obtain ⟨p,xs,i,z,rfl,rfl,hq,he,q⟩:=h
 cases rx
 obtain ⟨t,rfl⟩:=ry
 obtain ⟨its,r,pl,hz⟩:=I.list hq
 obtain ⟨j,h1,h2,h3,h4,h5⟩:=pD he
 obtain ⟨w,ew,rw'⟩:=r.get h2
 have hl:=r.length
 have hn:=ju
 have fin:EP X pins σ Q w s:=⟨z,H,I,rw',q⟩
 by_cases h0:0≤i
 ·have hj:i.toNat=j:=by
   rw [seqIndex_of h0 h5] at h1
   exact Option.some.inj h1
  exact item_listR pl.isList h0 (by omega) (by rw [hj];simpa using ew) fin hs
 ·have hj:(i + (its.toArray.size:Int)).toNat=j:=by
   rw [seqIndex_neg (by omega) h4] at h1
   rw [List.size_toArray,← hl]
   exact Option.some.inj h1
  exact subscriptTail_builtinR (x:=w) pl.isList.typeIs slot_list_getitem.lookup
   (wpAny_getItem_list_neg (Q:=fun r s'=>r=w∧EP X pins σ Q r s') pl.isList (by omega) (by rw [List.size_toArray] <;> omega) (by omega) (by rw [hj];simpa using ew) ⟨rfl,fin⟩) hs
theorem cn:md X (Hl X.K):=by
 intro value slice pins s σ H x y v u Q I rx ry h hs
 obtain ⟨p,xs,i,z,rfl,rfl,hq,he,q⟩:=h
 cases rx
 obtain ⟨t,rfl⟩:=ry
 obtain ⟨its,r,pl,hz⟩:=I.tuple hq
 obtain ⟨j,h1,h2,h3,h4,h5⟩:=pD he
 obtain ⟨w,ew,rw'⟩:=r.get h2
 have hl:=r.length
 have hn:=ju
 have fin:EP X pins σ Q w s:=⟨z,H,I,rw',q⟩
 exact subscriptTail_builtinR (x:=w) pl.typeIs slot_tuple_getitem.lookup
  (getItem_tuple (j:=j) (Q:=fun r s'=>r=w∧EP X pins σ Q r s') pl (by omega) (by omega) (by rw [List.size_toArray,← hl];exact h1) (by simpa using ew) ⟨rfl,fin⟩) hs
theorem zB:md X Hk:=by
 intro value slice pins s σ H x y v u Q I rx ry h hs
 obtain ⟨z,i,c,rfl,rfl,hz,he,q⟩:=h
 obtain ⟨t,rfl⟩:=rx
 obtain ⟨t',rfl⟩:=ry
 obtain ⟨j,h1,h2,h3,h4,h5⟩:=pD he
 have hl:z.cps.toList.length=z.length:=by simp [Str.length]
 rw [hl] at h1 h4 h5
 have hn:=ju
 exact tail_any (typeIs_str s z t) slot_str_getitem.lookup (getItem_str (c:=c) (by
  have e1:decide (i < -(2 ^ 63:Int))=false:=decide_eq_false (by omega)
  have e2:decide (i ≥ 2 ^ 63)=false:=decide_eq_false (by omega)
  rw [e1,e2,Bool.or_false]) (by rw [h1];simpa using h2) ⟨.str ⟨#[c]⟩,H,I.tok _,⟨_,rfl⟩,q⟩) hs
theorem uK (its:List Value) (n j:Nat) (u:Value):Obj.mapSeq (·.setIfInBounds j u) { cls:=.type "list",data:=.seq its.toArray n }={ cls:=.type "list",data:=.seq (its.set j u).toArray n }:=by
 simp [Obj.mapSeq]
theorem Inv.lst {pins:List (Addr × Obj)} {σ:St} {H:Hp} {s:Shared} {p:Addr} {xs:List V} (I:Inv X pins σ H s) (h:H p=some (.lst xs)) :
  ∃ (its:List Value) (n:Nat),Vals xs its∧s.heap.get? p=some { cls:=.type "list",data:=.seq its.toArray n }∧xs.length≤sizeLine:=by
 obtain ⟨z,its,n,r,e⟩:=I.hok p _ h
 exact ⟨its,n,r,e,z⟩
theorem Inv.EI {pins:List (Addr × Obj)} {σ:St} {H:Hp} {s:Shared} {p:Addr} {xs ys:List V} {its its':List Value} {n n':Nat} {f:Obj→Obj} (I:Inv X pins σ H s) (h:H p=some (.lst xs))
  (ho:s.heap.get? p=some { cls:=.type "list",data:=.seq its.toArray n }) (hf:f { cls:=.type "list",data:=.seq its.toArray n }={ cls:=.type "list",data:=.seq its'.toArray n' }) (r:Vals ys its') (hz:ys.length≤sizeLine) (t:Nat) :
  Inv X pins σ (upd H p (.lst ys)) { s with heap:=s.heap.update p f,toks:=t }:=by
 have e:(s.heap.update p f).get? p=some { cls:=.type "list",data:=.seq its'.toArray n' }:=by
  rw [Heap.get?_update_self f ho (by rw [hf] <;> rfl),hf]
 refine I.write (x:=p) (e:=p) (by rw [h];trivial) (.inl rfl) (fun b u hb q=>(Heap.get?_update_other _ _ (Ne.symm hb)).trans q) ⟨_,e⟩ ?_
 exact ⟨hz,its',n',r,e⟩
def DU:V→V→V→Hp→(Hp→Prop)→Prop:=fun o i v H Q=>∃ p xs k j,o=.ref p∧i=.int k∧H p=some (.lst xs)∧yI xs.length k=some j∧Q (upd H p (.lst (xs.set j v)))
theorem set_list:i4 X DU:=by
 intro pins s σ H o i v ov iv u Q I ro ri rv h
 obtain ⟨p,xs,k,j,rfl,rfl,hp,hj,q⟩:=h
 cases ro
 obtain ⟨t,rfl⟩:=ri
 obtain ⟨its,n,r,ho,hz⟩:=I.lst hp
 obtain ⟨h1,h2,h3,h4⟩:=wc hj
 have hl:=r.length
 have hn:=ju
 have I':Inv X pins σ (upd H p (.lst (xs.set j v))) { s with heap:=s.heap.update p (Obj.mapSeq (·.setIfInBounds j u)) } :=
  I.EI hp ho (uK its n j u) (r.set rv j) (by rw [List.length_set];exact hz) s.toks
 by_cases h0:0≤k
 ·have hk:k.toNat=j:=by
   rw [seqIndex_of h0 h4] at h1
   exact Option.some.inj h1
  exact PySem.W.ki_setAt ho h0 (by omega) (by rw [List.size_toArray,← hl];exact h4) (by rw [hk];exact ⟨_,I',q⟩)
 ·have hk:(k + (its.toArray.size:Int)).toNat=j:=by
   rw [seqIndex_neg (by omega) h3] at h1
   rw [List.size_toArray,← hl]
   exact Option.some.inj h1
  exact PySem.W.ki_setBack ho (by omega) (by rw [List.size_toArray,← hl];exact h3) (by omega) (by rw [hk];exact ⟨_,I',q⟩)
theorem qR (lo hi:Option Int) (n:Nat):(sliceBounds lo hi none n).1=((HT.dz n 0 lo:Nat):Int)∧(sliceBounds lo hi none n).2.1=((HT.dz n n hi:Nat):Int)∧(sliceBounds lo hi none n).2.2=1:=by
 refine ⟨?_,?_,rfl⟩
 ·cases lo with
  | none=>simp [sliceBounds,HT.dz]
  | some i =>
   simp only [sliceBounds,HT.dz,Option.getD_none,show (1:Int) > 0 by decide,if_true]
   by_cases h:i < 0
   ·simp only [h,if_true] <;> omega
   ·simp only [h,if_false] <;> omega
 ·cases hi with
  | none=>simp [sliceBounds,HT.dz]
  | some i =>
   simp only [sliceBounds,HT.dz,Option.getD_none,show (1:Int) > 0 by decide,if_true]
   by_cases h:i < 0
   ·simp only [h,if_true] <;> omega
   ·simp only [h,if_false] <;> omega
theorem oE (its:List Value) (lo hi:Option Int):slicePick its.toArray lo hi none=((its.drop (HT.dz its.length 0 lo)).take (HT.dz its.length its.length hi - HT.dz its.length 0 lo)).toArray:=by
 obtain ⟨h1,h2,h3⟩:=qR lo hi its.toArray.size
 unfold slicePick
 rw [h1,h2,h3]
 simp only [sliceRange_one,pick_run,List.size_toArray] <;> rfl
def Hx (K:PySem.W.Frag):V→Option Int→Option Int→Hp→VK→Prop:=fun x lo hi H Q=>∃ a xs,x=.ref a∧cD K H a xs∧∀ p,H p=none→Q (.ref p) (upd H p (.lst (mq xs lo hi)))
theorem qQ:oJ X (Hx X.K):=by
 intro pins s σ H x v vl vu lo hi sl Q I rx hs pl pu h
 obtain ⟨a,xs,rfl,hx,q⟩:=h
 cases rx
 obtain ⟨its,r,ht,hz⟩:=I.list hx
 have hlen:=r.length
 refine ⟨"list",_,slot_list_getitem.lookup,ht.isList.typeIs,?_⟩
 refine wpAny_getItem_list_slice ht.isList hs pl pu .none (by simp) ?_ (by rw [List.size_toArray] <;> omega)
 rw [oE,← hlen]
 refine ⟨.ref s.heap.objs.size,_,I.laid (t':=s.toks) (o:=.lst (mq xs lo hi)) (fun b ob q=>Heap.get?_push_of_some _ q) (Nat.le_refl _) ?_,rfl,q _ (I.hok.fresh (Nat.le_refl _))⟩
 exact ⟨Nat.le_trans (k9 xs lo hi) hz,_,0,(r.drop (HT.dz xs.length 0 lo)).take (HT.dz xs.length xs.length hi - HT.dz xs.length 0 lo),Heap.get?_push_size _ rfl⟩
def gQ:V→Bool
 | .non=>true
 | .bl _=>true
 | .int _=>true
 | .str _=>true
 | _=>false
def Bk:V→V→Bool
 | .non,.non=>true
 | .bl a,.bl b=>a == b
 | .bl a,.int b=>(if a then 1 else 0) == b
 | .int a,.bl b=>a == (if b then 1 else 0)
 | .int a,.int b=>a == b
 | .str a,.str b=>a == b
 | _,_=>false
theorem Ei {A:Around} {s:Shared} {y x:V} {u v:Value} (ry:RelV y u) (rx:RelV x v) (fy:gQ y=true) (fx:gQ x=true):SeqAt.EqAt A s u v (Bk y x):=by
 cases y with
 | non =>
  cases ry
  cases x with
  | non=>cases rx;exact SeqAt.EqAt.same _
  | bl b=>cases rx;exact SeqAt.EqAt.none_bool b
  | int b=>obtain ⟨t,rfl⟩:=rx;exact SeqAt.EqAt.none_int b t
  | str b=>obtain ⟨t,rfl⟩:=rx;exact SeqAt.EqAt.none_str b t
  | _=>exact absurd (show false=true from fx) Bool.false_ne_true
 | bl a =>
  cases ry
  cases x with
  | non=>cases rx;exact SeqAt.EqAt.bool_none a
  | bl b=>cases rx;exact SeqAt.EqAt.bool_bool a b
  | int b=>obtain ⟨t,rfl⟩:=rx;exact SeqAt.EqAt.bool_int a b t
  | str b=>obtain ⟨t,rfl⟩:=rx;exact SeqAt.EqAt.bool_str a b t
  | _=>exact absurd (show false=true from fx) Bool.false_ne_true
 | int a =>
  obtain ⟨t',rfl⟩:=ry
  cases x with
  | non=>cases rx;exact SeqAt.EqAt.int_none a t'
  | bl b=>cases rx;exact SeqAt.EqAt.int_bool a t' b
  | int b=>obtain ⟨t,rfl⟩:=rx;exact SeqAt.EqAt.int_int a t' b t
  | str b=>obtain ⟨t,rfl⟩:=rx;exact SeqAt.EqAt.int_str a t' b t
  | _=>exact absurd (show false=true from fx) Bool.false_ne_true
 | str a =>
  obtain ⟨t',rfl⟩:=ry
  cases x with
  | non=>cases rx;exact SeqAt.EqAt.str_none a t'
  | bl b=>cases rx;exact SeqAt.EqAt.str_bool a t' b
  | int b=>obtain ⟨t,rfl⟩:=rx;exact SeqAt.EqAt.str_int a t' b t
  | str b=>obtain ⟨t,rfl⟩:=rx;exact SeqAt.EqAt.str_str a t' b t
  | _=>exact absurd (show false=true from fx) Bool.false_ne_true
 | _=>exact absurd (show false=true from fy) Bool.false_ne_true
def uv (x:V) (u:Value):Bool:=match u with
 | .none=>Bk .non x
 | .bool b=>Bk (.bl b) x
 | .int i _=>Bk (.int i) x
 | .str z _=>Bk (.str z) x
 | _=>false
theorem y8 {x y:V} {u:Value} (r:RelV y u) (f:gQ y=true):uv x u=Bk y x:=by
 cases y with
 | non=>cases r;rfl
 | bl b=>cases r;rfl
 | int i=>obtain ⟨t,rfl⟩:=r;rfl
 | str z=>obtain ⟨t,rfl⟩:=r;rfl
 | _=>exact absurd (show false=true from f) Bool.false_ne_true
theorem jJ {x:V}:∀ {xs:List V} {us:List Value},Vals xs us→xs.all gQ=true→us.any (uv x)=xs.any fun y=>Bk y x
 | _,_,.nil,_=>rfl
 | y :: xs,u :: us,.cons r t,f=>by
  rw [List.all_cons,Bool.and_eq_true] at f
  rw [List.any_cons,List.any_cons,y8 r f.1,jJ t f.2]
theorem hW {A:Around} {s:Shared} {x:V} {v:Value} (rx:RelV x v) (fx:gQ x=true):∀ {xs:List V} {us:List Value},Vals xs us→xs.all gQ=true→∀ u∈us,SeqAt.EqAt A s u v (uv x u)
 | _,_,.nil,_=>fun u hu=>by cases hu
 | y :: xs,u :: us,.cons r t,f=>fun u' hu=>by
  rw [List.all_cons,Bool.and_eq_true] at f
  rcases List.mem_cons.mp hu with rfl | hu
  ·rw [y8 r f.1];exact Ei r rx f.1 fx
  ·exact hW rx fx t f.2 u' hu
def FO (x:V) (xs:List V):Bool:=xs.any fun y=>Bk y x
def KA (K:PySem.W.Frag) (neg:Bool):R2:=fun x y H Q=>∃ p xs,y=.ref p∧(cD K H p xs∨fQ K H p xs)∧gQ x=true∧xs.all gQ=true∧Q (.bl (if neg then !FO x xs else FO x xs)) H
theorem yd:eu X (compareOp .In) (KA X.K false):=by
 intro pins s σ H x y v u Q I rx ry h
 obtain ⟨p,xs,rfl,hq,fx,fs,q⟩:=h
 cases ry
 rcases hq with hq | hq
 ·obtain ⟨its,r,pl,hz⟩:=I.list hq
  refine SeqAt.in_listAt (uv x) pl.isList (fun w hw=>hW rx fx r fs w (by simpa using hw)) ⟨.bl _,H,I,rfl,?_⟩
  rw [show its.toArray.any (uv x)=its.any (uv x) by simp,jJ r fs]
  exact q
 ·obtain ⟨its,r,pl,hz⟩:=I.tuple hq
  refine SeqAt.in_tupleAt (uv x) pl (fun w hw=>hW rx fx r fs w (by simpa using hw)) ⟨.bl _,H,I,rfl,?_⟩
  rw [show its.toArray.any (uv x)=its.any (uv x) by simp,jJ r fs]
  exact q
theorem qd:eu X (compareOp .NotIn) (KA X.K true):=by
 intro pins s σ H x y v u Q I rx ry h
 obtain ⟨p,xs,rfl,hq,fx,fs,q⟩:=h
 cases ry
 rcases hq with hq | hq
 ·obtain ⟨its,r,pl,hz⟩:=I.list hq
  refine SeqAt.notIn_listAt (uv x) pl.isList (fun w hw=>hW rx fx r fs w (by simpa using hw)) ⟨.bl _,H,I,rfl,?_⟩
  rw [show its.toArray.any (uv x)=its.any (uv x) by simp,jJ r fs]
  exact q
 ·obtain ⟨its,r,pl,hz⟩:=I.tuple hq
  refine SeqAt.notIn_tupleAt (uv x) pl (fun w hw=>hW rx fx r fs w (by simpa using hw)) ⟨.bl _,H,I,rfl,?_⟩
  rw [show its.toArray.any (uv x)=its.any (uv x) by simp,jJ r fs]
  exact q
theorem gr:bP X (.builtin "len") (fun xs H Q=>∃ p ys,xs=[.ref p]∧(cD X.K H p ys∨fQ X.K H p ys)∧Q (.int ys.length) H):=by
 intro pins s σ H xs us Q I r h
 obtain ⟨p,ys,rfl,hq,q⟩:=h
 obtain ⟨u,rfl,rx⟩:=vals1 r
 cases rx
 have hn:=ju
 rcases hq with hq | hq
 ·obtain ⟨its,r',pl,hz⟩:=I.list hq
  have hlen:=r'.length
  exact Calls.call_len_list pl.isList (by simp only [List.size_toArray] <;> omega) ⟨.int ys.length,H,I.tok _,⟨s.toks + 1,by rw [List.size_toArray,hlen]⟩,q⟩
 ·obtain ⟨its,r',pl,hz⟩:=I.tuple hq
  have hlen:=r'.length
  exact len_tuple pl (by simp only [List.size_toArray] <;> omega) ⟨.int ys.length,H,I.tok _,⟨s.toks + 1,by rw [List.size_toArray,hlen]⟩,q⟩
theorem jL:bP X (.builtin "len") (fun xs H Q=>∃ z,xs=[.str z]∧z.length≤sizeLine∧Q (.int z.length) H):=by
 intro pins s σ H xs us Q I r h
 obtain ⟨z,rfl,hz,q⟩:=h
 obtain ⟨u,rfl,t,rfl⟩:=vals1 r
 have hn:=ju
 exact len_str (by omega) ⟨.int z.length,H,I.tok _,⟨_,rfl⟩,q⟩
theorem bP.or {f:Value} {r r':List V→Hp→VK→Prop} (h:bP X f r) (h':bP X f r'):bP X f (fun xs H Q=>r xs H Q∨r' xs H Q):=by
 intro pins s σ H xs us Q I rs q
 rcases q with q | q
 ·exact h pins s σ H xs us Q I rs q
 ·exact h' pins s σ H xs us Q I rs q
theorem pF:bP X (.type "list") (fun xs H Q=>∃ p ys,xs=[.ref p]∧(cD X.K H p ys∨fQ X.K H p ys)∧∀ l,H l=none→Q (.ref l) (upd H l (.lst ys))):=by
 intro pins s σ H xs us Q I r h
 obtain ⟨p,ys,rfl,hq,q⟩:=h
 obtain ⟨u,rfl,rx⟩:=vals1 r
 cases rx
 have fin:∀ (its:List Value),Vals ys its→ys.length≤sizeLine→∀ (h':Heap) (c':Nat),(∀ b o',s.heap.get? b=some o'→h'.get? b=some o') →
   h'.get? s.heap.objs.size=some { cls:=.type "list",dict:=none,data:=.seq its.toArray c',slots:=#[] }→EP X pins σ Q (.ref s.heap.objs.size) { s with heap:=h' }:=fun its r' hz h' c' kp e =>
  ⟨.ref s.heap.objs.size,_,I.laid (t':=s.toks) kp (Nat.le_refl _) (show cI X.prog X.w _ h' _ (.lst ys) from ⟨hz,its,c',r',e⟩),rfl,q _ (I.hok.fresh (Nat.le_refl _))⟩
 rcases hq with hq | hq
 ·obtain ⟨its,r',pl,hz⟩:=I.list hq
  have hlen:=r'.length
  obtain ⟨o,ho,hc,n,hd⟩:=pl.isList
  exact call_list_seq p (.inl rfl) ho hc hd (fun h' c' kp e=>fin its r' hz h' c' kp e) (by simp only [List.size_toArray] <;> omega)
 ·obtain ⟨its,r',pl,hz⟩:=I.tuple hq
  have hlen:=r'.length
  obtain ⟨o,ho,hc,n,hd⟩:=pl
  exact call_list_seq p (.inr rfl) ho hc hd (fun h' c' kp e=>fin its r' hz h' c' kp e) (by simp only [List.size_toArray] <;> omega)
def Iv (K:PySem.W.Frag) (T:String) (x:V) (H:Hp):Prop:=match x with
 | .str _=>T="str"
 | .int _=>T="int"
 | .ref p=>(T="list"∧∃ xs,cD K H p xs)∨(T="tuple"∧∃ o,K.lookup p=some o∧o.cls=.type "tuple"∧o.dict=none) ∨
   (T="dict"∧((∃ kvs,H p=some (.dK kvs))∨∃ kvs ep,H p=some (.dE kvs ep)))∨(T="set"∧∃ S n,H p=some (.set S n))
 | _=>False
theorem Be {pins:List (Addr × Obj)} {σ:St} {H:Hp} {s:Shared} {T:String} {x:V} {v:Value} (I:Inv X pins σ H s) (r:RelV x v) (ty:Iv X.K T x H) :
  s.TypeIs v T∧∀ a,v=.ref a→∃ ob,s.heap.get? a=some ob∧ob.dict=none:=by
 cases x with
 | str z =>
  obtain ⟨t,rfl⟩:=r
  cases (show T="str" from ty)
  exact ⟨typeIs_str s z t,fun _ e=>nomatch e⟩
 | int i =>
  obtain ⟨t,rfl⟩:=r
  cases (show T="int" from ty)
  exact ⟨typeIs_int s i t,fun _ e=>nomatch e⟩
 | ref p =>
  cases r
  rcases ty with ⟨rfl,xs,hq⟩ | ⟨rfl,o,hk,hc,hd⟩ | ⟨rfl,hk⟩ | ⟨rfl,S,n,hk⟩
  ·obtain ⟨its,_,pl,_⟩:=I.list hq
   refine ⟨pl.isList.typeIs,fun a e=>?_⟩
   cases e
   obtain ⟨o,n,e,c,hd,_⟩:=pl
   exact ⟨o,e,hd⟩
  ·refine ⟨⟨o,I.jP p o hk,hc⟩,fun a e=>?_⟩
   cases e
   exact ⟨o,I.jP _ o hk,hd⟩
  ·have z:∃ o,s.heap.get? p=some o∧o.ExactDict:=by
    rcases hk with ⟨kvs,hk⟩ | ⟨kvs,ep,hk⟩
    ·obtain ⟨_,_,_,_,o,_,_,e,ex,_⟩:=I.hok p _ hk
     exact ⟨o,e,ex⟩
    ·obtain ⟨_,_,_,_,o,_,e,ex,_⟩:=I.hok p _ hk
     exact ⟨o,e,ex⟩
   obtain ⟨o,e,ex⟩:=z
   refine ⟨⟨o,e,ex.1⟩,fun a e2=>?_⟩
   cases e2
   exact ⟨o,e,ex.2.1⟩
  ·obtain ⟨o,_,_,_,e,ex,_⟩:=I.hok p _ hk
   refine ⟨⟨o,e,ex.1⟩,fun a e2=>?_⟩
   cases e2
   exact ⟨o,e,ex.2.1⟩
 | _=>exact False.elim ty
def JL (K:PySem.W.Frag) (T:String) (r:V→List V→Hp→VK→Prop) (to:TE):TE:=fun σ H Q=>to σ H fun x H1=>Iv K T x H1∧r x [] H1 Q
def Im (K:PySem.W.Frag) (T:String) (r:V→List V→Hp→VK→Prop) (to:TE) (t:TA):TE:=fun σ H Q=>to σ H fun x H1=>Iv K T x H1∧t σ H1 fun xs H2=>r x xs H2 Q
variable {o e:Expr} {es:List Expr} {to:TE} {t:TA} {name:Str} {apos cpos:Pos} {T id:String} {r:V→List V→Hp→VK→Prop}
theorem EZ (pa:PlainAttrs T) (slot:Slot T name id) (hty:typeOf (.builtin id)=pure (.type "method_descriptor")) (hm:mf X id r) (ho:PE X o to)
  (hbase:attributeBase o name X.env (eval o X.env)=eval o X.env:=by rfl) (hline:(apos.endLine == cpos.line)=true:=by rfl):PE X (.Call (.Attribute o name apos) [] [] cpos) (JL X.K T r to):=by
 intro pins s σ H Q I h
 refine wpAny_Call_method0_late hbase hline (bK (ho pins s σ H _ I h) fun v s1 ⟨x,H1,I1,r1,ty,q1⟩=>?_)
 obtain ⟨h1,h2⟩:=Be I1 r1 ty
 exact ⟨T,id,pa,slot,hty,h1,h2,Calls.callWith_builtin rfl (PySem.evalArgs_none (hm pins s1 σ H1 x [] v [] Q I1 r1 .nil q1))⟩
theorem mT (pa:PlainAttrs T) (slot:Slot T name id) (hty:typeOf (.builtin id)=pure (.type "method_descriptor")) (hm:mf X id r) (ho:PE X o to) (ha:PA X (e :: es) t)
  (hbase:attributeBase o name X.env (eval o X.env)=eval o X.env:=by rfl)
  (hfew:((backTo cpos (starEach (e :: es) X.env)).all (fun x=>!x.1) && (backToKw cpos (keywordEach [] X.env)).all (fun x=>x.1.isSome)
   && decide ((e :: es).length + ([]:List Keyword).length + (if ([]:List Keyword).isEmpty then 0 else 1) < 30))=true:=by rfl)
  (hline:(apos.endLine == cpos.line)=true:=by rfl) (hs:starEach (e :: es) X.env=(false,eval e X.env) :: starEach es X.env:=by rfl) (hplain:(backTo cpos (starEach es X.env)).any (·.1)=false:=by rfl) :
  PE X (.Call (.Attribute o name apos) (e :: es) [] cpos) (Im X.K T r to t):=by
 intro pins s σ H Q I h
 refine wpAny_Call_method_late hbase hfew hline rfl (bK (ho pins s σ H _ I h) fun v s1 ⟨x,H1,I1,r1,ty,q1⟩=>?_)
 obtain ⟨h1,h2⟩:=Be I1 r1 ty
 refine ⟨T,id,pa,slot,hty,h1,h2,?_⟩
 have hA:=ha cpos pins s1 σ H1 _ I1 q1
 rw [hs] at hA ⊢
 refine Calls.callWith_builtin (by show (false || (backTo cpos (starEach es X.env)).any (·.1))=false;rw [hplain] <;> rfl) (Calls.evalArgs_plain ?_)
 exact bK hA fun us s2 ⟨vs,H2,I2,r2,q2⟩=>hm pins s2 σ H2 x vs v us Q I2 r1 r2 q2
end
end L2
namespace L2
open PySem PySem.Spec PyProof.Rows
def Ka (X:Cx) (id:String) (r:V→List V→Hp→VK→Prop):Prop :=
 ∀ (pins:List (Addr × Obj)) (s:Shared) (σ:St) (H:Hp) (x:V) (xs:List V) (v:Value) (us:List Value) (Q:VK),Inv X pins σ H s→RelV x v→Vals xs us→r x xs H Q →
  wpAny (model X.prog X.w) X.A (call (.builtin id) (v :: us)) (EP X pins σ Q) X.xe s
theorem Vals.one:∀ {x:V} {us:List Value},Vals [x] us→∃ u,us=[u]∧RelV x u
 | _,_,.cons r .nil=>⟨_,rfl,r⟩
theorem Vals.two:∀ {x y:V} {us:List Value},Vals [x,y] us→∃ u v,us=[u,v]∧RelV x u∧RelV y v
 | _,_,_,.cons r (.cons q .nil)=>⟨_,_,rfl,r,q⟩
theorem Vals.zero:∀ {us:List Value},Vals [] us→us=[]
 | _,.nil=>rfl
theorem Vals.dropLast {xs:List V} {us:List Value} (h:Vals xs us):Vals xs.dropLast us.dropLast:=by
 induction h with
 | nil=>exact .nil
 | cons r t ih =>
  cases t with
  | nil=>exact .nil
  | cons q t'=>exact .cons r ih
theorem Vals.eraseIdx:∀ {xs:List V} {us:List Value} (i:Nat),Vals xs us→Vals (xs.eraseIdx i) (us.eraseIdx i)
 | _,_,_,.nil=>.nil
 | _,_,0,.cons _ t=>t
 | _,_,i + 1,.cons r t=>.cons r (Vals.eraseIdx i t)
theorem uw {α:Type} (l:List α):l.eraseIdx (l.length - 1)=l.dropLast:=by
 induction l with
 | nil=>rfl
 | cons a r ih =>
  cases r with
  | nil=>rfl
  | cons b r =>
   have e:(a :: b :: r).length - 1=((b :: r).length - 1) + 1:=by
    have h1:(a :: b :: r).length=r.length + 2:=rfl
    have h2:(b :: r).length=r.length + 1:=rfl
    omega
   rw [e,List.eraseIdx_cons_succ,ih]
   all_goals rfl
section
variable {X:Cx} {pins:List (Addr × Obj)} {σ:St} {H:Hp} {s:Shared} {l b:Addr} {xs ys zs:List V}
theorem Inv.BN {its its':List Value} {n:Nat} {f:Array Value→Array Value} {t':Nat} (I:Inv X pins σ H s) (hH:H l=some (.lst xs))
  (e:s.heap.get? l=some { cls:=.type "list",data:=.seq its.toArray n }) (hf:f its.toArray=its'.toArray) (hv:Vals ys its') (hz:ys.length≤sizeLine) :
  Inv X pins σ (upd H l (.lst ys)) { s with heap:=s.heap.update l (Obj.mapSeq f),toks:=t' }:=by
 have q:=PySem.IsL.update e f
 rw [hf] at q
 refine I.write (x:=l) (e:=l) (by rw [hH];exact trivial) (.inl rfl) (fun b' u hb hu=>(Heap.get?_update_other s.heap (Obj.mapSeq f) (Ne.symm hb)).trans hu) ⟨_,q⟩ ?_
 exact ⟨hz,its',_,hv,q⟩
theorem Inv.BO (I:Inv X pins σ H s) (hH:H l=some (.lst xs)):xs.length≤sizeLine∧∃ (its:List Value) (n:Nat),Vals xs its∧xs.length=its.length∧s.heap.get? l=some { cls:=.type "list",data:=.seq its.toArray n }:=by
 obtain ⟨z,its,n,r,e⟩:=I.hok l _ hH
 exact ⟨z,its,n,r,r.length,e⟩
end
section
variable {X:Cx}
def wF:V→List V→Hp→VK→Prop:=fun x vs H Q=>∃ l xs y,x=.ref l∧vs=[y]∧H l=some (.lst xs)∧xs.length < sizeLine∧Q .non (upd H l (.lst (xs ++ [y])))
theorem e_:Ka X "list.append" wF:=by
 intro pins s σ H x vs v us Q I rx rv h
 obtain ⟨l,xs,y,rfl,rfl,hH,hz,q⟩:=h
 cases rx
 obtain ⟨u,rfl,ru⟩:=rv.one
 obtain ⟨z,its,n,r,hl,e⟩:=I.BO hH
 refine call_meets F.slot_list_append ⟨_,e,rfl⟩ F.entry_list_append (F.args_list_append_2 _ _) (PySem.list_append l its.toArray n u (by rw [List.size_toArray];omega)) ⟨e,?_⟩
 refine ⟨.non,_,I.BN (its':=its ++ [u]) hH e (by simp) (r.append (.cons ru .nil)) ?_,rfl,q⟩
 rw [List.length_append,List.length_singleton]
 omega
def JF:V→List V→Hp→VK→Prop:=fun x vs H Q=>∃ l xs y,x=.ref l∧vs=[]∧H l=some (.lst xs)∧xs[xs.length - 1]?=some y∧Q y (upd H l (.lst xs.dropLast))
theorem EL:Ka X "list.pop" JF:=by
 intro pins s σ H x vs v us Q I rx rv h
 obtain ⟨l,xs,y,rfl,rfl,hH,hy,q⟩:=h
 cases rx
 have hus:=rv.zero
 subst hus
 obtain ⟨z,its,n,r,hl,e⟩:=I.BO hH
 obtain ⟨u,hu,ru⟩:=r.get hy
 have hy':its.toArray[its.toArray.size - 1]?=some u:=by
  show its.toArray[its.length - 1]?=some u
  rw [← Array.getElem?_toList,← hl]
  exact hu
 refine call_meets F.slot_list_pop ⟨_,e,rfl⟩ F.entry_list_pop (F.args_list_pop_1 _) (MeetsSeq.list_pop_last l its.toArray n u hy' (by rw [List.size_toArray];omega)) ⟨e,?_⟩
 refine ⟨y,_,I.BN (its':=its.dropLast) hH e ?_ r.dropLast ?_,ru,q⟩
 ·show its.toArray.eraseIdxIfInBounds (its.toArray.size - 1)=its.dropLast.toArray
  rw [List.size_toArray,List.eraseIdxIfInBounds_toArray,uw]
 ·rw [List.length_dropLast]
  omega
end
section
variable {prog:Program} {w:World} {A:Around} {E:Value→Shared→Prop} {s:Shared}
end
section
variable {X:Cx}
end
end L2
namespace Att
open PySem PySem.W PySem.Calls PyProof.Rows
theorem lB {P:Params} {h:Heap}:∀ (ns:List Int) (vs:List Value),WellAll P h vs (ns.map WData.int)→IntsAre vs ns:=by
 intro ns
 induction ns with
 | nil =>
  intro vs w
  rw [List.map_nil] at w
  cases w
  exact .nil
 | cons n ns ih =>
  intro vs w
  rw [List.map_cons] at w
  cases w with
  | cons a b =>
   cases a
   exact .cons _ _ (ih _ b)
theorem yt {l:OpenLaw} {n:Nat} (hn:l.most=some n) {P:Params} {h:Heap} {args:List WData} {vals:List Value}
  (hpre:l.row.toRowW.claim.pre args=true) (hwl:WellAll P h vals args) :
  ∃ a vs ns,vals=[Value.ref a]∧args=[WData.list (ns.map WData.int)]∧h.get? a=some { cls:=.type "list",data:=.seq vs.toArray }∧IntsAre vs ns∧ns.length≤n:=by
 have hsh:WShape.hasAll [] args [.list .int]=true:=(pre_splitW hpre).1
 have hc:l.pre.holds [] { args:=args }=true:=(pre_splitW hpre).2
 obtain ⟨d,r,rfl,h1,h2⟩:=hasAllW_cons hsh
 obtain rfl:=hasAllW_nil h2
 obtain ⟨xs,rfl,h3⟩:=hasW_list h1
 obtain ⟨ns,rfl⟩:=items_int h3
 have hlen:ns.length≤n:=by
  unfold OpenLaw.pre at hc
  have h4:(WTm.not (.lt (.lit (.int (n:Int))) (.len (.arg 0)))).holds [] { args:=[.list (ns.map .int)] }=true:=by
   have h4:=(holds_andW hc).1
   rw [hn] at h4
   exact h4
  have h5:=condW_of h4 (w_not (w_lt w_lit (w_len_list (w_arg rfl))))
  rw [List.length_map] at h5
  refine Nat.le_of_not_lt fun q=>?_
  have q':(n:Int) < ((ns.length:Nat):Int):=by omega
  first
   | (rw [decide_eq_true q'] at h5;exact absurd h5 (by decide))
   | (simp at h5;omega)
 cases hwl with
 | cons w1 w2 =>
  cases w2
  cases w1 with
  | list ho hall=>exact ⟨_,_,ns,rfl,rfl,ho,lB ns _ hall,hlen⟩
theorem ym (l:OpenLaw) (args:List WData):l.row.toRowW.claim.post args (.bool true) args=true :=
 postW_of (r:=l.row.toRowW) (X:=(true == true))
  (show WShape.has [] (.bool true) .bool=true by first | rfl | decide | simp [WShape.has,WShape.arms,WShape.armsAll])
  (show (WTm.eq .res (.lit (.bool true))).value [] { args:=args,res:=some (.bool true),after:=args }=some (.bool (true == true)) from w_eq_bool (w_res rfl) w_lit) rfl
theorem rE {l:OpenLaw} {n:Nat} {q:Program} {loose:List Str} {XP:(Str→Option Value)→Heap→Prop} {YP:World→Heap→Prop} {d:DefRec}
  (hn:l.most=some n) (hdf:d.params.defaults=[])
  (call:∀ (w:World) (s₀ s₁:Shared) (mg mb:Str→Option Value) (fa:Addr) (o:Obj) (pm cd doc:Value) (a:Addr) (vs:List Value) (ns:List Int),
   Ground q loose [] XP w s₀ mg mb s₁.heap→YP w s₁.heap →
   s₁.heap.get? fa=some o→o.data=.func (docDef d.name d.params d.body d.scope pm cd doc)→s₁.heap.CodeRec cd d.name→mg d.name=some (.ref fa) →
   s₁.heap.get? a=some { cls:=.type "list",data:=.seq vs.toArray }→IntsAre vs ns→ns.length≤n→s₁.gens=#[] →
   codeAny (model l.prog w) callerA (.call (.ref fa) ⟨[.ref a],[]⟩) (fun r s'=>r=.ok (.ret (.bool true))∧OldK s₁.heap s'.heap∧s'.os=s₁.os∧AllBare s'.gens) s₁) :
  WalkO q loose XP YP l.row.toRowW d [] (fun f vs=>PySem.call f vs):=by
 intro w s₀ s₁ mg mb G Y fa o pm cd doc dV kV ho hd hcd hD hmg hg args vals as hpre hlay hrd hwl hlo
 obtain rfl:dV=.none:=Dflts.none hD hdf
 obtain rfl:kV=.none:=Dflts.noKw hD
 obtain ⟨a,vs,ns,rfl,rfl,hobj,hints,hlen⟩:=yt hn hpre hwl
 refine enter_call (codeAny_mono (call w s₀ s₁ mg mb fa o pm cd doc a vs ns G Y ho (fd_plain hd) hcd hmg hobj hints hlen hg) fun r s' hq=>?_)
 obtain ⟨rfl,h2,h3,h4⟩:=hq
 exact ⟨.inl ⟨.bool true,.bool true,[],rfl,fun _=>rfl,.bool true,ym l _,fun _=>⟨List.Pairwise.nil,fun _ hm=>(nomatch hm)⟩⟩,h2,h3,h4⟩
section
variable {prog:Program} {w:World} {A:Around} {E:Value→Shared→Prop} {s:Shared} {K:Frag}
end
end Att
namespace L2
open PySem PySem.Spec PyProof.Rows
theorem pB:∀ {vs:List Value} {ns:List Int},IntsAre vs ns→Vals (ns.map V.int) vs
 | _,_,.nil=>.nil
 | _,_,.cons n t h=>.cons ⟨t,rfl⟩ (pB h)
end L2
namespace L2
open PySem PySem.Spec PyProof.Rows
abbrev bM {K:PySem.W.Frag} {h:Heap} (_:K.In h):PySem.W.Frag:=K
end L2
namespace L2
open PySem PySem.Spec PyProof.Rows
def inClass (s:Stmt) (j:Nat):Stmt:=match s with
 | .ClassDef _ _ _ body _ _ _ _ _ _ _=>body.getD j (.Pass ⟨0,0,0,0⟩)
 | _=>.Pass ⟨0,0,0,0⟩
def cJ (s:Stmt):Arguments:=match s with
 | .FunctionDef _ a _ _ _ _ _ _ _ _=>a
 | _=>{ posonlyargs:=[],args:=[],vararg:=none,kwonlyargs:=[],kw_defaults:=[],kwarg:=none,defaults:=[] }
def bJ (s:Stmt):List Stmt:=match s with
 | .FunctionDef _ _ b _ _ _ _ _ _ _=>b
 | _=>[]
def aj (s:Stmt):Scope:=match s with
 | .FunctionDef _ _ _ _ _ _ sc _ _ _=>sc
 | _=>{ kind:=.function,names:=[],isGenerator:=false,isCoroutine:=false }
abbrev ma:nM:=fun _ _ _ _ _ _=>False
abbrev E0:XK:=fun _ _ _=>False
theorem G0 {X:Cx}:Passes ma X E0:=fun _ _ _ _ _ _ _ h=>h.elim
structure bQ (K:PySem.W.Frag) (x qual:Str) (st:Stmt) (f:Addr) (fd:FuncData):Prop where
 ex:∃ (oc:Value) (od:Option Addr) (kV doc pm:Value) (an:Option Addr) (cdv ct:Value) (osl:Array (Option Value)),
  fd=PySem.W.fnOf x qual (cJ st) (bJ st) (aj st) .none kV doc pm an cdv ct∧K.lookup f=some ⟨oc,od,.func fd,osl⟩∧PySem.W.codeIn K cdv qual=true
 kp:PySem.W.keepIn K (.ref f)=true
section
variable {P:Program} {w:World} {K:PySem.W.Frag} {mg:Str→Option Value} {base:Heap}
theorem bQ.ok {x qual:Str} {st:Stmt} {f:Addr} {fd:FuncData} {N ps:List Str} {k:Nat} {sp:Sp} (F:bQ K x qual st f fd) (S:aw N ps (aj st)) (len:∀ vs H Q E,sp vs H Q E→vs.length=ps.length)
  (hbody:∀ (cdv:Value) (A:Around) (outer:List Env) (s:Shared) (H:Hp) (vs:List V) (Q:VK) (E:XK),bE k (A.deeper (envOfC qual (aj st) s.heap.objs.size f cdv))→sp vs H Q E →
   ∃ t,oI (pH ma P w K mg base N qual (aj st) f cdv A outer s H E).EM (bJ st) t∧t { nx:=fun _ H'=>Q .non H',rt:=Q } (start N vs) H):aH P w K mg base ma (k + 1) f fd ps sp:=by
 obtain ⟨oc,od,kV,doc,pm,an,cdv,ct,osl,rfl,lk,hcd⟩:=F.ex
 refine y_ lk hcd S len fun A outer s H vs Q E hr hsp=>?_
 obtain ⟨t,h,q⟩:=hbody cdv A outer s H vs Q E hr hsp
 exact ⟨t,h.EM,q⟩
theorem bQ.binds {x qual:Str} {st:Stmt} {f:Addr} {fd:FuncData} {ps:List Str} (F:bQ K x qual st f fd)
  (h:∀ (kV doc pm:Value) (an:Option Addr) (cdv ct:Value) (us:List Value),us.length=ps.length→bindArgs (PySem.W.fnOf x qual (cJ st) (bJ st) (aj st) .none kV doc pm an cdv ct) ⟨us,[]⟩=pure (ps.zip us)):Binds K fd ps []:=by
 obtain ⟨oc,od,kV,doc,pm,an,cdv,ct,osl,rfl,lk,hcd⟩:=F.ex
 exact .all (h kV doc pm an cdv ct)
theorem ux {x qual:Str} {st:Stmt} {f:Addr} {oc:Value} {od an:Option Addr} {osl:Array (Option Value)} {kV doc pm cdv ct:Value} (l:K.lookup f=some ⟨oc,od,.func (PySem.W.fnOf x qual (cJ st) (bJ st) (aj st) .none kV doc pm an cdv ct),osl⟩)
  (c:PySem.W.codeIn K cdv qual=true) (k:PySem.W.keepIn K (.ref f)=true):bQ K x qual st f (PySem.W.fnOf x qual (cJ st) (bJ st) (aj st) .none kV doc pm an cdv ct):=⟨⟨oc,od,kV,doc,pm,an,cdv,ct,osl,rfl,l,c⟩,k⟩
end
theorem aV {n:Nat} (h:n≤1000):n < sizeLine:=Nat.lt_of_le_of_lt h (by decide)
section
variable {X:Cx}
theorem pv (i:Nat) {x:Str} {pos:Pos} (hN:X.N[i]?=some x:=by rfl) (hv:rq X.env.scope x:=by first | exact Or.inl rfl | exact Or.inr (Or.inl rfl) | exact Or.inr (Or.inr rfl)) (hd:(x == ("__debug__":Str))=false:=by decide)
  (hcd:(x == ("__classdict__":Str))=false:=by decide):PE X (.Name x pos) (yw i):=uW hN hv hd hcd
end
theorem zw {c A B:Prop} [Decidable c] (h1:c→A) (h2:¬ c→B):if c then A else B:=by
 by_cases h:c
 ·rw [if_pos h]
  exact h1 h
 ·rw [if_neg h]
  exact h2 h
def ba (H H':Hp):Prop:=∀ b o,H b=some o→H' b=some o
theorem ba.trans {H H1 H2:Hp} (a:ba H H1) (b:ba H1 H2):ba H H2:=fun c o h=>b c o (a c o h)
theorem ba.free {H H':Hp} (e:ba H H') {l:Addr} (h:H' l=Option.none):H l=Option.none:=by
 cases q:H l with
 | none=>rfl
 | some o =>
  rw [e l o q] at h
  cases h
theorem ba.seq {K:PySem.W.Frag} {H H':Hp} {a:Addr} {xs:List V} (e:ba H H') (h:cD K H a xs):cD K H' a xs:=by
 rcases h with (h | ⟨o,h⟩) | h
 ·exact .inl (.inl (e _ _ h))
 ·exact .inl (.inr ⟨o,e _ _ h⟩)
 ·exact .inr h
end L2
namespace Ov
theorem rQ {a b:Int} (h:b≠0):Int.gcd b (a % b)=Int.gcd a b:=by
 have e:a=b * (a / b) + a % b:=(Int.mul_ediv_add_emod a b).symm
 have d1:((Int.gcd b (a % b):Nat):Int) ∣ a:=by
  rw [e]
  exact Int.dvd_add (Int.dvd_trans (Int.gcd_dvd_left ..) (Int.dvd_mul_right ..)) (by rw [← e];exact Int.gcd_dvd_right ..)
 have d2:((Int.gcd a b:Nat):Int) ∣ a % b:=by
  have e2:a % b=a - b * (a / b):=by omega
  rw [e2]
  exact Int.dvd_sub (Int.gcd_dvd_left ..) (Int.dvd_trans (Int.gcd_dvd_right ..) (Int.dvd_mul_right ..))
 exact Nat.dvd_antisymm (Int.dvd_gcd d1 (Int.gcd_dvd_left ..)) (Int.dvd_gcd (Int.gcd_dvd_right ..) d2)
theorem vX {a:Int} (h:0≤a):((Int.gcd a 0:Nat):Int)=a:=by
 rw [Int.gcd_zero_right];omega
theorem BD (a b:Int):Int.gcd (if a < 0 then -a else a) (if b < 0 then -b else b)=Int.gcd a b:=by
 split <;> split <;> simp [Int.gcd_neg,Int.neg_gcd]
theorem zf (a b:Int):Int.gcd (if a < 0 then -a else a) b=Int.gcd a b:=by
 split <;> simp [Int.gcd_neg,Int.neg_gcd]
theorem vY {t b:Int} (h:b≠0):0 < ((Int.gcd t b:Nat):Int):=by
 have:0 < Int.gcd t b:=Int.gcd_pos_of_ne_zero_right t h
 omega
theorem Ep {t b:Int} (h:b≠0):Int.gcd t b≤b.natAbs:=Nat.le_of_dvd (by omega) (Int.ofNat_dvd.mp (by rw [Int.dvd_natAbs];exact Int.gcd_dvd_right ..))
theorem pV {t b:Int} (h:0 < b):t.fdiv ((Int.gcd t b:Nat):Int)=(Rat.divInt t b).num:=by
 rw [Rat.num_divInt,Int.sign_eq_one_of_pos h,Int.one_mul,Int.gcd_comm b t,Int.fdiv_eq_ediv_of_nonneg _ (Int.natCast_nonneg _)]
theorem den_pos {t b:Int} (h:0 < b):b.fdiv ((Int.gcd t b:Nat):Int)=((Rat.divInt t b).den:Int):=by
 rw [Rat.den_divInt,if_neg (by omega),Int.gcd_comm b t,Int.fdiv_eq_ediv_of_nonneg _ (Int.natCast_nonneg _)]
 rw [Int.natCast_ediv]
 congr 1
 omega
theorem wq {t b:Int} (h:b < 0):t.fdiv (-((Int.gcd t b:Nat):Int))=(Rat.divInt t b).num:=by
 have e:t.fdiv (-((Int.gcd t b:Nat):Int))=(-t).fdiv ((Int.gcd t b:Nat):Int):=by
  have:=Int.neg_fdiv_neg (a:=-t) (b:=((Int.gcd t b:Nat):Int))
  rw [← this];simp
 rw [e,Rat.num_divInt,Int.sign_eq_neg_one_of_neg h,Int.gcd_comm b t,Int.fdiv_eq_ediv_of_nonneg _ (Int.natCast_nonneg _)]
 congr 1
 omega
theorem Bw {t b:Int} (h:b < 0):b.fdiv (-((Int.gcd t b:Nat):Int))=((Rat.divInt t b).den:Int):=by
 have e:b.fdiv (-((Int.gcd t b:Nat):Int))=(-b).fdiv ((Int.gcd t b:Nat):Int):=by
  have:=Int.neg_fdiv_neg (a:=-b) (b:=((Int.gcd t b:Nat):Int))
  rw [← this];simp
 rw [e,Rat.den_divInt,if_neg (by omega),Int.gcd_comm b t,Int.fdiv_eq_ediv_of_nonneg _ (Int.natCast_nonneg _)]
 rw [Int.natCast_ediv]
 congr 1
 omega
theorem wo (t b:Int):(Rat.divInt t b).num.natAbs≤t.natAbs:=by
 rcases Int.lt_trichotomy b 0 with h | h | h
 ·rw [← wq h]
  exact Int.natAbs_fdiv_le_natAbs ..
 ·subst h;simp
 ·rw [← pV h,Int.fdiv_eq_ediv_of_nonneg _ (Int.natCast_nonneg _)]
  exact Int.natAbs_ediv_le_natAbs ..
theorem pI {t b:Int} (h:b≠0):(((Rat.divInt t b).den:Int)).natAbs≤b.natAbs:=by
 rw [Rat.den_divInt,if_neg h]
 exact Nat.div_le_self ..
theorem iY (p:Rat):Rat.divInt p.num p.den=p:=Rat.num_divInt_den p
theorem dW (p:Rat):(p.den:Int)≠0:=by have:=p.den_pos;omega
theorem dU (p:Rat):(0:Int) < p.den:=by have:=p.den_pos;omega
theorem add_eq (p q:Rat):Rat.divInt (p.num * q.den + q.num * p.den) (p.den * q.den)=p + q:=by
 rw [← Rat.divInt_add_divInt _ _ (dW p) (dW q),iY,iY]
theorem sub_eq (p q:Rat):Rat.divInt (p.num * q.den - q.num * p.den) (p.den * q.den)=p - q:=by
 rw [← Rat.divInt_sub_divInt _ _ (dW p) (dW q),iY,iY]
theorem mul_eq (p:Rat) (m:Int):Rat.divInt (p.num * m) p.den=p * m:=by
 have:=Rat.divInt_mul_divInt p.num m (d₁:=p.den) (d₂:=1)
 rw [iY,Int.mul_one] at this
 rw [← this,Rat.divInt_eq_div]
 congr 1
 grind
theorem cast_eq (p:Rat):(p.num:Rat)=p * (p.den:Int):=by
 have h:((p.den:Int):Rat)≠0:=by
  intro e
  exact dW p (by exact_mod_cast e)
 have e:=iY p
 rw [Rat.divInt_eq_div] at e
 grind
theorem c9 (p:Rat):((p.den:Int):Rat)≠0:=fun e=>dW p (by exact_mod_cast e)
theorem Ga (b p m:Rat) (v:Int):Rat.divInt (p.num * (m.den * b.den) + v * (m.num * b.den - b.num * m.den) * p.den) (p.den * (m.den * b.den))=p + (m - b) * v:=by
 have h:=c9 p
 have g:=c9 b
 have k:=c9 m
 simp only [Rat.divInt_eq_div,Rat.intCast_add,Rat.intCast_sub,Rat.intCast_mul,cast_eq p,cast_eq b,cast_eq m]
 generalize ((p.den:Int):Rat)=d at h ⊢
 generalize ((b.den:Int):Rat)=e at g ⊢
 generalize ((m.den:Int):Rat)=f at k ⊢
 generalize (v:Rat)=v
 grind
theorem k_ {n:Int} (h:n≠0):(n:Rat)≠0:=fun e=>h (by exact_mod_cast e)
theorem Fc (g:Rat) (n:Int) (h:n≠0):Rat.divInt g.num (g.den * n)=g / n:=by
 have k:=c9 g
 have l:=k_ h
 simp only [Rat.divInt_eq_div,Rat.intCast_mul,cast_eq g]
 generalize ((g.den:Int):Rat)=d at k ⊢
 generalize (n:Rat)=n at l ⊢
 grind
end Ov
namespace Ov
open PySem PySem.Spec PyProof.Rows L2
structure Bd (n:Nat) (x:Int):Prop where
 lt:x.natAbs < 2 ^ n
theorem Bd.bits {n:Nat} {x:Int} (h:Bd n x):Builtin.Int.intBits x≤n:=intBits_le_iff.mpr h.lt
theorem Bd.of {n:Nat} {x:Int} (h:Builtin.Int.intBits x≤n):Bd n x:=⟨intBits_le_iff.mp h⟩
theorem Bd.mono {m n:Nat} {x:Int} (h:Bd m x) (hmn:m≤n):Bd n x:=.of (Nat.le_trans h.bits hmn)
theorem Bd.neg {n:Nat} {x:Int} (h:Bd n x):Bd n (-x):=.of (intBits_neg_le h.bits)
theorem Bd.add {m n k:Nat} {x y:Int} (h:Bd m x) (g:Bd n y) (hk:max m n + 1≤k:=by decide):Bd k (x + y):=(Bd.of (intBits_add_le h.bits g.bits)).mono hk
theorem Bd.sub {m n k:Nat} {x y:Int} (h:Bd m x) (g:Bd n y) (hk:max m n + 1≤k:=by decide):Bd k (x - y):=(Bd.of (intBits_sub_le h.bits g.bits)).mono hk
theorem Bd.mul {m n k:Nat} {x y:Int} (h:Bd m x) (g:Bd n y) (hk:m + n≤k:=by decide):Bd k (x * y):=(Bd.of (intBits_mul_le h.bits g.bits)).mono hk
theorem Bd.le {n:Nat} {x y:Int} (g:Bd n y) (h:x.natAbs≤y.natAbs):Bd n x:=⟨Nat.lt_of_le_of_lt h g.lt⟩
theorem Bd.small {x:Int} (h1:-(2 ^ 64) < x) (h2:x < 2 ^ 64):Bd 64 x:=.of (intBits_le_64 h1 h2)
theorem Bd.log {n:Nat} {x:Int} (h:Bd n x) (hn:n≤9000) (h0:x≠0):x.natAbs.log2 < 9000 :=
 Nat.lt_of_lt_of_le ((Nat.log2_lt (by omega)).mpr h.lt) hn
section
variable {X:Cx}
def CM (i j:Int):Prop:=∃ m n,Bd m i∧Bd n j∧m + n≤134217728
theorem CM.of {m n:Nat} {i j:Int} (h:Bd m i) (g:Bd n j) (hk:m + n≤134217728:=by decide):CM i j:=⟨m,n,h,g,hk⟩
theorem b_:eu X (binaryOp .Mult) (rI CM fun i j=>.int (i * j)):=Ik fun _ _ _ _ _ _ _ hc q=>by
 obtain ⟨m,n,h,g,hk⟩:=hc
 exact mul_int q (IntMulOk.of_le h.bits g.bits hk)
def CQ (_ j:Int):Prop:=j≠0∧Bd 9000 j
theorem fi:eu X (binaryOp .FloorDiv) (rI CQ fun i j=>.int (i.fdiv j)):=Ik fun _ _ _ _ _ _ _ hc q =>
 floordiv_int hc.1 q (.inl (PyProof.noPylong_of_log2 (hc.2.log (Nat.le_refl _) hc.1)))
def K4 (f:Bool→Bool):R2:=fun x y H Q=>∃ (p q:Addr) (a b c d:Int),x=.ref p∧y=.ref q∧H p=some (.tup [.int a,.int b])∧H q=some (.tup [.int c,.int d])∧Q (.bl (f (decide (a=c∧b=d)))) H
def HI (t u:TS):TS:=fun D σ H=>∃ M:L2.St→Hp→Prop,t { D with nx:=M } σ H∧∀ σ' H',M σ' H'→u D σ' H'
theorem Co {st:Stmt} {rest:List Stmt} {t u:TS} (h1:PS X st t) (h2:oI X rest u):oI X (st :: rest) (HI t u):=by
 intro pins s σ H D I h
 obtain ⟨M,h,k⟩:=h
 refine wpAny_execs_cons (bK (h1 pins s σ H { D with nx:=M } I h) fun f s1 q=>?_)
 cases f with
 | next =>
  obtain ⟨σ',H',I',q⟩:=q
  exact h2 pins s1 σ' H' D I' (k _ _ q)
 | ret v=>exact q
 | brk=>exact q
 | cont=>exact q
end
section
variable {X:Cx}
def DP:R2:=fun x y H Q=>∃ p xs i v,x=.ref p∧y=.int i∧H p=some (.lst xs)∧c5 xs i=some v∧Q v H
def Hm:R2:=fun x y H Q=>∃ p xs i v,x=.ref p∧y=.int i∧H p=some (.tup xs)∧c5 xs i=some v∧Q v H
theorem ff:md X DP:=fun value slice pins s σ H x y v u Q I rx ry ⟨p,xs,i,z,e1,e2,h,e3,q⟩ hs =>
 pN value slice pins s σ H x y v u Q I rx ry ⟨p,xs,i,z,e1,e2,cD.of h,e3,q⟩ hs
end
theorem c6 {α:Type} (x:α) (xs:List α):c5 (x :: xs) 0=some x:=bc (j:=0) rfl
theorem eI {α:Type} (x y:α) (xs:List α):c5 (x :: y :: xs) 1=some y:=bc (j:=1) rfl
theorem i_ {α:Type} (x y z:α) (xs:List α):c5 (x :: y :: z :: xs) 2=some z:=bc (j:=2) rfl
theorem yU {α:Type} (x y z u:α) (xs:List α):c5 (x :: y :: z :: u :: xs) 3=some u:=bc (j:=3) rfl
theorem CU (i j:Int):AL (.int i) (.int j)=true:=rfl
theorem CT (i j:Bool):AL (.bl i) (.bl j)=true:=rfl
theorem CV (i j:Str):AL (.str i) (.str j)=true:=rfl
def nJ (P:Program) (w:World) (K:PySem.W.Frag) (mg:Str→Option Value) (base:Heap) (k:Nat) (x:Str) (ps:List Str) (sp:Sp):Prop :=
 ∃ f fd,aH P w K mg base ma k f fd ps sp∧Binds K fd ps []∧PySem.W.keepIn K (.ref f)=true∧mg x=some (.ref f)
theorem E1 {X:Cx} {k k':Nat} {x:Str} {ps:List Str} {sp:Sp} {p pos:Pos} {e:Expr} {es:List Expr} {t:TA} (C:nJ X.prog X.w X.K X.mg X.base k x ps sp) (hr:bE k' X.A) (hk:k≤k') (hg:Gl X x) (ha:PA X (e :: es) t)
  (hdb:(x == ("__debug__":Str))=false:=by decide) (he:starEach (e :: es) X.env=(false,eval e X.env) :: starEach es X.env:=by rfl) (hpl:(backTo pos (starEach es X.env)).any (·.1)=false:=by rfl) :
  PE X (.Call (.Name x p) (e :: es) [] pos) (nF sp [] E0 t):=by
 obtain ⟨f,fd,F,b,kp,m⟩:=C
 exact wx F (hr.mono hk) hg m kp b .nil G0 ha hdb he hpl
theorem dk {N P:List Str} {sc:Scope} (a:sc.kind=.function:=by rfl) (b:sc.isCoroutine=false:=by rfl) (c:sc.isGenerator=false:=by rfl) (d:N.Nodup:=by decide +kernel) (e:N.take P.length=P:=by rfl) (f:∀ x∈P,sc.names.lookup x=some .local∨sc.names.lookup x=some .cell:=by decide +kernel) (g:∀ y∈sc.names,y.2≠.free:=by decide +kernel):aw N P sc:=⟨a,b,c,d,e,f,g⟩
def Def (K:PySem.W.Frag) (mg:Str→Option Value) (x:Str) (st:Stmt):Prop:=∃ f fd,bQ K x x st f fd∧mg x=some (.ref f)
theorem Eg {K:PySem.W.Frag} {h:Heap} {mg:Str→Option Value} {x:Str} {st:Stmt} (X:K.In h) (G:h.Ns mainGlobals mg) {f:Addr} {od an:Option Addr} {sl:Array (Option Value)} {oc kV dc pm cd ct:Value}
  (a:PySem.W.nsIn K mainGlobals x=some (some (.ref f))) (l:K.lookup f=some ⟨oc,od,.func (PySem.W.fnOf x x (cJ st) (bJ st) (aj st) .none kV dc pm an cd ct),sl⟩) (c:PySem.W.codeIn K cd x=true) (k:PySem.W.keepIn K (.ref f)=true) :
  Def K mg x st:=⟨f,_,ux l c k,PySem.W.mg_of X G a⟩
theorem Def.yW {P:Program} {w:World} {K:PySem.W.Frag} {mg:Str→Option Value} {base:Heap} {x:Str} {st:Stmt} {k:Nat} {ps:List Str} {sp:Sp} (D:Def K mg x st)
  (h:∀ f fd,bQ K x x st f fd→aH P w K mg base ma k f fd ps sp)
  (hb:∀ (kV doc pm:Value) (an:Option Addr) (cdv ct:Value) (us:List Value),us.length=ps.length→bindArgs (PySem.W.fnOf x x (cJ st) (bJ st) (aj st) .none kV doc pm an cdv ct) ⟨us,[]⟩=pure (ps.zip us)) :
  nJ P w K mg base k x ps sp:=by
 obtain ⟨f,fd,F,m⟩:=D
 exact ⟨f,fd,h f fd F,F.binds hb,F.kp,m⟩
theorem EB {K:PySem.W.Frag} {mg:Str→Option Value} {st:Stmt} {fa:Addr} {p:Str} (D:Def K mg "law" st) (hfa:mg "law"=some (.ref fa))
  (hb:∀ (kV doc pm:Value) (an:Option Addr) (cdv ct:Value) (u:Value),bindArgs (PySem.W.fnOf "law" "law" (cJ st) (bJ st) (aj st) .none kV doc pm an cdv ct) ⟨[u],[]⟩=pure [(p,u)]) :
  ∃ fd,bQ K "law" "law" st fa fd∧∀ (s:Shared) (u:Value),BindsTo s fd ⟨[u],[]⟩ [(p,u)]:=by
 obtain ⟨f,fd,F,m⟩:=D
 have e:=m.symm.trans hfa
 cases e
 obtain ⟨oc,od,kV,doc,pm,an,cdv,ct,osl,rfl,lk,hcd⟩:=F.ex
 exact ⟨_,F,fun s u=>.of_eq (hb kV doc pm an cdv ct u)⟩
structure yF (mg:Str→Option Value):Prop where
 abs:mg "abs"=none
 len:mg "len"=none
 isinstance:mg "isinstance"=none
 range:mg "range"=none
 int:mg "int"=none
 bool:mg "bool"=none
 tuple:mg "tuple"=none
 list:mg "list"=none
 sorted:mg "sorted"=none
 all:mg "all"=none
theorem _root_.L2.ba.tup {K:PySem.W.Frag} {H H':Hp} {a:Addr} {xs:List V} (e:ba H H') (h:fQ K H a xs):fQ K H' a xs:=by
 rcases h with (h | ⟨o,h⟩) | h
 ·exact .inl (.inl (e _ _ h))
 ·exact .inl (.inr ⟨o,e _ _ h⟩)
 ·exact .inr h
theorem _root_.L2.ba.new {H:Hp} {p:Addr} (h:H p=none) (o:HO):ba H (upd H p o):=fun b u q=>by rw [aK (bN q h)];exact q
theorem _root_.L2.ba.FU {H H':Hp} {p:Addr} (h:H p=none) (e:ba H H') (o:HO):ba H (upd H' p o):=fun b u q=>by rw [aK (bN q h)];exact e b u q
def FJ (K:PySem.W.Frag) (H:Hp) (a:Addr) (q:Rat):Prop:=fQ K H a [.int q.num,.int q.den]
structure Sz (n:Nat) (q:Rat):Prop where
 num:Bd n q.num
 den:Bd n q.den
theorem Sz.mono {m n:Nat} {q:Rat} (h:Sz m q) (k:m≤n):Sz n q:=⟨h.num.mono k,h.den.mono k⟩
theorem CC (x y:Rat):(x.num=y.num∧(x.den:Int)=(y.den:Int))=(x=y):=propext
 ⟨fun h=>Rat.ext h.1 (by have:=h.2;omega),fun h=>by subst h;exact ⟨rfl,rfl⟩⟩
theorem hE (c:Str→NameKind→Bool):∀ (names:List (Str × NameKind)) (y:Str),
  (names.map fun (x:Str × NameKind)=>if c x.1 x.2 then (x.1,NameKind.cell) else (x.1,x.2)).lookup y=(names.lookup y).map fun k=>if c y k then NameKind.cell else k
 | [],_=>rfl
 | (n,k) :: r,y=>by
  have ih:=hE c r y
  cases hy:y == n with
  | true =>
   have e:y=n:=by simpa using hy
   subst e
   by_cases h:c y k=true <;> simp [List.lookup_cons,h]
  | false =>
   by_cases h:c n k=true <;> simp [List.lookup_cons,h,hy,ih]
theorem ig (sc:Scope) (env:Env) (y:Str):(relabel sc env).names.lookup y=(sc.names.lookup y).map fun k=>if (k == .free && env.scope.kind == .function && env.kindOf y == some .cell) then NameKind.cell else k:=by
 have h:=hE (fun n k=>k == .free && env.scope.kind == .function && env.kindOf n == some .cell) sc.names y
 exact h
theorem jl {env:Env}:∀ (names:List (Str × NameKind)) (acc:List (Str × Addr)),(∀ y∈names,y.2=.free→∃ c,env.cells.lookup y.1=some c)→(∀ y c,acc.lookup y=some c→env.cells.lookup y=some c) →
  ∃ cl,(forIn names acc fun (x:Str × NameKind) (r:List (Str × Addr))=>match x with
   | (name,kind)=>if (kind == NameKind.free)=true then (do let c ← cellOf env name;pure (ForInStep.yield ((name,c) :: r))) else (pure (ForInStep.yield r):Sem (ForInStep (List (Str × Addr)))))=(pure cl:Sem (List (Str × Addr))) ∧
   (∀ y c,cl.lookup y=some c→env.cells.lookup y=some c)∧(∀ y c,acc.lookup y=some c→∃ c,cl.lookup y=some c)∧∀ y∈names,y.2=.free→∃ c,cl.lookup y.1=some c
 | [],acc,_,ha=>⟨acc,rfl,ha,fun y c e=>⟨c,e⟩,fun y hy=>by cases hy⟩
 | (n,k) :: r,acc,hn,ha=>by
  by_cases hk:k=.free
  ·subst hk
   obtain ⟨c,hc⟩:=hn (n,.free) List.mem_cons_self rfl
   obtain ⟨cl,e,h1,h2,h3⟩:=jl r ((n,c) :: acc) (fun y hy=>hn y (List.mem_cons_of_mem _ hy)) (fun y d e=>by
    rw [List.lookup_cons] at e
    cases hy:y == n with
    | true =>
     rw [hy] at e
     have e1:y=n:=by simpa using hy
     subst e1
     rw [hc]
     exact e
    | false=>rw [hy] at e;exact ha y d e)
   have self:∃ d,cl.lookup n=some d:=h2 n c (by simp [List.lookup_cons])
   refine ⟨cl,?_,h1,fun y d q=>?_,fun y hy hf=>?_⟩
   ·rw [List.forIn_cons]
    have ec:cellOf env n=pure c:=by unfold cellOf;rw [hc]
    simp only [beq_self_eq_true,if_true,ec,pure_bind]
    exact e
   ·by_cases hy:y=n
    ·subst hy;exact self
    ·exact h2 y d (by rw [List.lookup_cons];have:(y == n)=false:=by simpa using hy
                      rw [this];exact q)
   ·rcases List.mem_cons.mp hy with rfl | hy
    ·exact self
    ·exact h3 y hy hf
  ·obtain ⟨cl,e,h1,h2,h3⟩:=jl r acc (fun y hy=>hn y (List.mem_cons_of_mem _ hy)) ha
   refine ⟨cl,?_,h1,h2,fun y hy hf=>?_⟩
   ·rw [List.forIn_cons]
    have hb:(k == NameKind.free)=false:=by simpa using hk
    simp only [hb,Bool.false_eq_true,if_false,pure_bind]
    exact e
   ·rcases List.mem_cons.mp hy with rfl | hy
    ·exact absurd hf hk
    ·exact h3 y hy hf
theorem gu {sc:Scope} {env:Env} (h:∀ y∈sc.names,y.2=.free→∃ c,env.cells.lookup y.1=some c) :
  ∃ cl,closureFor sc env=pure cl∧(∀ y c,cl.lookup y=some c→env.cells.lookup y=some c)∧∀ y∈sc.names,y.2=.free→∃ c,cl.lookup y.1=some c:=by
 obtain ⟨cl,e,h1,_,h3⟩:=jl sc.names [] h (fun y c z=>by cases z)
 refine ⟨cl,?_,h1,h3⟩
 unfold closureFor
 have e':=congrArg (fun m=>m >>= fun r=>(pure r:Sem (List (Str × Addr)))) e
 simp only [pure_bind] at e'
 exact e'
abbrev cb (sc osc:Scope) (N:List Str) (x:Str) (ks:List (Str × Nat)):Prop :=
 sc.kind=.function∧(∀ y∈sc.names,y.2≠.cell)∧sc.names.lookup x=some .local∧(∀ y∈sc.names,y.2=.local→sc.names.lookup y.1=some .local) ∧
 (∀ y∈sc.names,y.2=.free→osc.names.lookup y.1=some .cell)∧(∀ p∈ks,N[p.2]?=some p.1∧sc.names.lookup p.1=some .free)∧(x :: ks.map (·.1)).Nodup
def dT (X:Cx) (sc:Scope) (cl:List (Str × Addr)) (C:Addr) (x:Str) (ks:List (Str × Nat)) (s₀:Shared) (H₀:Hp) (fp:List Addr) (pins:List (Addr × Obj)):Cx :=
 { X with N:=x :: ks.map (·.1),s₀:=s₀,H₀:=H₀,env:=compEnvC sc cl C X.env,outer:=X.stack,ex:=fp,fn:=fun _=>false,pn:=X.pn ++ pins,xe:=fun _ _=>False }
def cP (ks:List (Str × Nat)) (σ:L2.St):L2.St:=ks.map fun p=>(σ[p.2]?).getD none
section
variable {X:Cx} {pins:List (Addr × Obj)} {σ:L2.St} {H:Hp} {s:Shared} {sc:Scope} {cl:List (Str × Addr)} {x:Str} {ks:List (Str × Nat)} {fp:List Addr}
theorem get_map {α β:Type} (f:α→β) (l:List α) (i:Nat):(l.map f)[i]?=(l[i]?).map f:=List.getElem?_map
theorem mD (I:Inv X pins σ H s) (ok:cb sc X.env.scope X.N x ks) (h1:∀ y c,cl.lookup y=some c→X.env.cells.lookup y=some c) (h2:∀ y∈sc.names,y.2=.free→∃ c,cl.lookup y.1=some c)
  (hfp:∀ b∈fp,gi X pins H b∧∃ o,s.heap.get? b=some o) {h4:Heap} {m:Str→Option Value} {t':Nat} (hn:h4.Ns s.heap.objs.size m) (kp:∀ b o,s.heap.get? b=some o→h4.get? b=some o) :
  Inv (dT X sc cl s.heap.objs.size x ks s H fp pins) [] (none :: cP ks σ) H { s with heap:=h4,toks:=t' }:=by
 obtain ⟨kd,nc,lx,ll,fr,kk,nd⟩:=ok
 have fresh:H s.heap.objs.size=none:=I.hok.fresh (Nat.le_refl _)
 have lt:∀ b o,s.heap.get? b=some o→b≠s.heap.objs.size:=fun b o e=>Nat.ne_of_lt (Heap.lt_size e)
 have cellLt:∀ y c,X.env.cells.lookup y=some c→c≠s.heap.objs.size:=fun y c e=>by
  obtain ⟨v,o,ho,_⟩:=I.cell y c e
  exact lt c o ho
 have sub:∀ b∈gT X.stack,b=X.env.locals∨b∈X.fs:=fun b hb=>List.mem_cons.mp (I.jA b hb)
 have kof:∀ y,(compEnvC sc cl s.heap.objs.size X.env).kindOf y=(relabel sc X.env).names.lookup y:=fun y=>rfl
 have ok':(dT X sc cl s.heap.objs.size x ks s H fp pins).Ok:={
  mod:=I.ok.mod
  kind:=kd
  glob:=I.ok.glob
  blt:=I.ok.blt
  above:=Nat.le_refl _
  inj:=fun y z c e1 e2=>I.ok.inj y z c (h1 y c e1) (h1 z c e2)
  has:=fun y hy=>by
   rw [show (dT X sc cl s.heap.objs.size x ks s H fp pins).env.kindOf y=_ from kof y,ig] at hy
   cases e:sc.names.lookup y with
   | none=>rw [e] at hy;rcases hy with z | z <;> cases z
   | some k =>
    have hm:(y,k)∈sc.names:=by
     have:=List.lookup_eq_some_iff.mp e
     obtain ⟨l1,l2,q,_⟩:=this
     rw [q]
     simp
    by_cases hk:k=.free
    ·subst hk;exact h2 _ hm rfl
    ·have hb:(k == NameKind.free)=false:=by simpa using hk
     rw [e] at hy
     simp only [Option.map_some,hb,Bool.false_and,Bool.false_eq_true,if_false] at hy
     rcases hy with z | z
     ·exact absurd (Option.some.inj z) (nc _ hm)
     ·exact absurd (Option.some.inj z) hk
  cab:=fun _ _ z=>by cases z
  hd:=fun z=>I.ok.hd z
  frames:=I.ok.frames
  stk:=.inl rfl
  exf:=fun b hb=>⟨lt b _ (hfp b hb).2.choose_spec,fun y c e=>(hfp b hb).1.2.2.2.2.1 y c (h1 y c e)⟩
  bs:=fun b o e=>I.bs b o e
  bsz:=Nat.le_trans I.ok.bsz I.sz
  noex:=fun b o e hb=>by
   rcases (hfp b hb).1.2.2.2.1 with z | z
   ·exact I.ok.noex b o e z
   ·exact absurd (Nat.lt_of_lt_of_le (Heap.lt_size e) (Nat.le_trans I.ok.bsz z)) (Nat.lt_irrefl _)
  exfs:=fun b hb z=>by
   rcases sub b z with e | e
   ·exact (hfp b hb).1.2.1 e
   ·exact (hfp b hb).1.2.2.1 e
  kD:=I.stack
  frf:=I.q_ }
 obtain ⟨mX,hnX,hlX⟩:=I.loc
 refine ⟨ok',rfl,I.bare,Un.kept kp,⟨m,hn,fun i y v e1 e2 e3=>?_⟩,fun y c e=>?_,fresh,fun y c e=>I.freeC y c (h1 y c e),fun p hp=>?_,I.hok.kept kp,by simp [dT,cP]⟩
 ·cases i with
  | zero =>
   rw [List.getElem?_cons_zero] at e2
   cases e2
  | succ i =>
   have e1':(ks.map (·.1))[i]?=some y:=by simpa [dT] using e1
   rw [List.getElem?_cons_succ] at e2
   unfold cP at e2
   rw [List.getElem?_map] at e1' e2
   cases ep:ks[i]? with
   | none=>rw [ep] at e1';cases e1'
   | some p =>
    rw [ep] at e1' e2
    have ey:p.1=y:=Option.some.inj e1'
    have ev:(σ[p.2]?).getD none=some v:=Option.some.inj e2
    obtain ⟨kN,kf⟩:=kk p (List.mem_of_getElem? ep)
    have es:σ[p.2]?=some (some v):=by
     cases q:σ[p.2]? with
     | none=>rw [q] at ev;cases ev
     | some w=>rw [q] at ev;exact congrArg some ev
    have hm:(p.1,NameKind.free)∈sc.names:=by
     obtain ⟨l1,l2,q,_⟩:=List.lookup_eq_some_iff.mp kf
     rw [q]
     simp
    have oc:X.env.scope.names.lookup p.1=some .cell:=fr _ hm rfl
    obtain ⟨u,ru,lu⟩:=hlX p.2 p.1 v kN es (.inr (.inl oc))
    refine ⟨u,ru,.inr ⟨.inl ?_,?_⟩⟩
    ·rw [show (dT X sc cl s.heap.objs.size x ks s H fp pins).env.kindOf y=_ from kof y,ig,← ey,kf]
     have k1:X.env.kindOf p.1=some .cell:=oc
     simp [I.ok.kind,k1]
    ·obtain ⟨c,hc⟩:=h2 _ hm rfl
     have hc:cl.lookup p.1=some c:=hc
     rcases lu with ⟨z,_⟩ | ⟨_,c',hc',z⟩
     ·have z':X.env.scope.names.lookup p.1=some .local:=z
      rw [oc] at z';cases z'
     ·have:=h1 _ _ hc
      rw [hc'] at this
      cases this
      obtain ⟨o,ho,hd⟩:=z
      exact ⟨_,by rw [← ey];exact hc,o,kp _ _ ho,hd⟩
 ·obtain ⟨v,o,ho,hd⟩:=I.cell y c (h1 y c e)
  exact ⟨v,o,kp _ _ ho,hd⟩
 ·rw [List.append_nil] at hp
  obtain ⟨a1,a2,a3,a4,a5⟩:=I.pin p hp
  refine ⟨kp _ _ a1,a2,lt _ _ a1,fun z=>?_,a5⟩
  rcases sub p.1 z with e | e
  ·exact a3 e
  ·exact a4 e
end
section
variable {prog:Program} {w:World} {A:Around} {R:Result→Shared→Prop} {s:Shared}
theorem xT {elt iter:Expr} {x:Str} {px:Pos} {sc:Scope} {pos:Pos} {it acc:Value} {env:Env} (I:Nat→Shared→Prop)
  (turn:∀ n s,I n s→wpAny (model prog w) A (pyNext it) (fun r s₁=>match r with
   | none=>R (.ok .next) s₁
   | some v=>wpAny (model prog w) A (letOwnedTupleGo (.Name x px) it v) (fun _ s₂=>wpAny (model prog w) A (assign (.Name x px) env v) (fun _ s₃=>wpAny (model prog w) A (eval elt env) (fun y s₄ =>
     wpAny (model prog w) A (call (.builtin "list.append") [acc,y]) (fun _ s₅=>∃ m,m < n∧I m s₅) (fun _ _=>False) s₄) (fun _ _=>False) s₃) (fun _ _=>False) s₂) (fun _ _=>False) s₁) (fun _ _=>False) s)
  (n:Nat) (h:I n s):codeAny (model prog w) A (.compLoop (.ListComp elt [⟨.Name x px,iter,[],0⟩] sc pos) 0 it acc env) R s:=by
 refine codeAny_loop rfl I (fun n s hI=>?_) n h
 show wpAny _ _ ((compTurn (.ListComp elt [⟨.Name x px,iter,[],0⟩] sc pos) 0 it acc env).onRaise (fun x=>do noteFrame x env;theTreesLotGoes x)) _ _ s
 refine wpAny_noted ?_
 rw [compTurn_list1]
 have no:∀ (e:Value) (s':Shared),False→notedBy (model prog w) A env (fun e s'=>R (.error e) s') e s':=fun _ _ z=>z.elim
 refine wpAny_bind (wpAny_standAt (wpAny_bind (wpAny_mono (turn n s hI) (fun r s₁ h₁=>?_) no)))
 cases r with
 | none=>exact wpAny_pure h₁
 | some v =>
  refine wpAny_bind (wpAny_mono h₁ (fun _ s₂ h₂=>?_) no)
  exact wpAny_bind (wpAny_mono h₂ (fun _ s₃ h₃=>wpAny_bind (wpAny_bind (wpAny_mono h₃ (fun y s₄ h₄=>wpAny_bind (wpAny_mono h₄
   (fun _ s₅ h₅=>wpAny_pure (wpAny_pure ⟨rfl,h₅⟩)) no)) no))) no)
end
def Ip (wi:TI) (ks:List (Str × Nat)) (te:TE):TE:=fun σ H Q=>wi σ H fun J H1=>∀ D,H1 D=none→∃ W:Nat→Nat→Hp→Prop,(∃ m,W 0 m (upd H1 D (.lst []))) ∧
 ∀ i m H2,W i m H2→(J.stop i H2∧Q (.ref D) H2)∨(J.go i H2∧∀ v H3,J.yld i H2 v H3→te (some v :: cP ks σ) H3 fun y H4=>∃ ys,H4 D=some (.lst ys)∧ys.length < sizeLine∧∃ m',m' < m∧W (i + 1) m' (upd H4 D (.lst (ys ++ [y]))))
section
variable {X:Cx}
theorem tq {elt iter:Expr} {x:Str} {px:Pos} {sc:Scope} {pos:Pos} {te:TE} {ks:List (Str × Nat)} {cl:List (Str × Addr)} {pins:List (Addr × Obj)} {σ:L2.St} {H:Hp} {s:Shared} {it:Addr} {fp:List Addr} {tn:Nat→Heap→Prop} {J:It} {Q:VK}
  {RR:Value→Addr→Result→Shared→Prop} {E:Value→Shared→Prop}
  (hc:X.calm=true) (ok:cb sc X.env.scope X.N x ks) (h1:∀ y c,cl.lookup y=some c→X.env.cells.lookup y=some c) (h2:∀ y∈sc.names,y.2=.free→∃ c,cl.lookup y.1=some c)
  (he:∀ cl C s₀ H₀ fp pins,PE (dT X sc cl C x ks s₀ H₀ fp pins) elt te)
  (I:Inv X pins σ H s) (T:Turn X.prog X.w X.K (.Name x px) J fp it tn) (st:tn 0 s.heap) (f:∀ b∈fp,gi X pins H b)
  (hw:∀ D,H D=none→∃ W:Nat→Nat→Hp→Prop,(∃ m,W 0 m (upd H D (.lst [])))∧∀ i m H2,W i m H2→(J.stop i H2∧Q (.ref D) H2) ∨
   (J.go i H2∧∀ v H3,J.yld i H2 v H3→te (some v :: cP ks σ) H3 fun y H4=>∃ ys,H4 D=some (.lst ys)∧ys.length < sizeLine∧∃ m',m' < m∧W (i + 1) m' (upd H4 D (.lst (ys ++ [y])))))
  (hR:∀ (D C:Addr) (s':Shared) (H':Hp) (m:Str→Option Value),Inv X pins σ H' s'→Q (.ref D) H'→s'.heap.Ns C m→H' C=none→C≠X.env.locals→X.s₀.heap.objs.size≤C→(∀ y c,X.env.cells.lookup y=some c→c≠C)→(∀ p∈X.pn ++ pins,p.1≠C)→RR (.ref D) C (.ok .next) s') :
  wpAny (model X.prog X.w) X.A (newList []) (fun acc s₃=>wpAny (model X.prog X.w) X.A (newFunctionEnv sc X.env.globals cl [] X.env.qual none .none (some X.env)) (fun cenv s₄ =>
   codeAny (model X.prog X.w) X.A (.compStart (.ListComp elt [⟨.Name x px,iter,[],0⟩] sc pos) 0 (.ref it) acc { cenv with scope:=relabel sc X.env }) (RR acc cenv.locals) s₄) E s₃) E s:=by
 have okk:=ok
 obtain ⟨kd,nc,lx,ll,fr,kk,nd⟩:=okk
 have hD0:H s.heap.objs.size=none:=I.hok.fresh (Nat.le_refl _)
 obtain ⟨W,⟨m0,w0⟩,turn⟩:=hw s.heap.objs.size hD0
 refine wpAny_newObj_type ?_
 have I3:Inv X pins σ (upd H s.heap.objs.size (.lst [])) { s with heap:=s.heap.push { cls:=.type "list",dict:=none,data:=.seq ([]:List Value).toArray } } :=
  I.laid (t':=s.toks) (fun b u e=>Heap.get?_push_of_some _ e) (Nat.le_refl _) (show cI X.prog X.w _ _ _ (.lst []) from ⟨Nat.zero_le _,[],0,.nil,Heap.get?_push_size _ rfl⟩)
 have st3:tn 0 (s.heap.push { cls:=.type "list",dict:=none,data:=.seq ([]:List Value).toArray }):=T.keep 0 _ _ st fun b hb o e=>Heap.get?_push_of_some _ e
 generalize hD:s.heap.objs.size=D at *
 generalize hH:upd H D (.lst [])=H3 at *
 generalize hs3:({ s with heap:=s.heap.push { cls:=.type "list",dict:=none,data:=.seq ([]:List Value).toArray } }:Shared)=s3 at *
 have e3:s.heap.push { cls:=.type "list",dict:=none,data:=.seq ([]:List Value).toArray }=s3.heap:=by rw [← hs3]
 rw [e3] at st3
 have fD:∀ b∈fp,b≠D:=fun b hb z=>by
  obtain ⟨o,ho,_⟩:=T.obj 0 _ st b hb
  have:=Heap.lt_size ho
  rw [z,← hD] at this
  exact Nat.lt_irrefl _ this
 have f3:∀ b∈fp,gi X pins H3 b:=fun b hb=>⟨by rw [← hH,aK (fD b hb)];exact (f b hb).1,(f b hb).2⟩
 have g3:∀ b∈fp,∃ o,s3.heap.get? b=some o:=fun b hb=>by
  obtain ⟨o,ho,_⟩:=T.obj 0 _ st3 b hb
  exact ⟨o,ho⟩
 refine wpAny_newFunctionEnv nc (by intro y hy;simp at hy) (fun h₁ hns hsb=>?_) kd
 have kp:∀ b o,s3.heap.get? b=some o→h₁.get? b=some o:=fun b o e=>hsb.extBut b o (Nat.ne_of_lt (Heap.lt_size e)) (Heap.get?_push_of_some _ e)
 have J0:=mD (fp:=fp) (cl:=cl) (t':=s3.toks + ([]:List (Str × Value)).length) I3 ok h1 h2 (fun b hb=>⟨f3 b hb,g3 b hb⟩) hns kp
 have st4:tn 0 h₁:=T.keep 0 _ _ st3 fun b hb o e=>kp b o e
 have ltC:∀ b o,s3.heap.get? b=some o→b≠s3.heap.objs.size:=fun b o e=>Nat.ne_of_lt (Heap.lt_size e)
 have cC:∀ y c,X.env.cells.lookup y=some c→c≠s3.heap.objs.size:=fun y c e=>by
  obtain ⟨v,o,ho,_⟩:=I3.cell y c e
  exact ltC c o ho
 have pC:∀ p∈X.pn ++ pins,p.1≠s3.heap.objs.size:=fun p hp=>ltC _ _ (I3.pin p hp).1
 have lC:s3.heap.objs.size≠X.env.locals:=Nat.ne_of_gt I3.lt
 have fX:∀ {H':Hp},(∀ b∈fp,H' b=none)→∀ b∈fp,gi (dT X sc cl s3.heap.objs.size x ks s3 H3 fp pins) [] H' b:=fun hn b hb=>by
  obtain ⟨o,ho⟩:=g3 b hb
  obtain ⟨_,q1,q2,q3,q4,q5⟩:=f b hb
  refine ⟨hn b hb,ltC b o ho,fun z=>?_,.inl hb,fun y c e=>q4 y c (h1 y c e),fun p hp=>q5 p (by simpa [dT] using hp)⟩
  rcases List.mem_cons.mp (I3.jA b z) with e | e
  ·exact q1 e
  ·exact q2 e
 have back:∀ {o:Option V} {H':Hp} {s':Shared},Inv (dT X sc cl s3.heap.objs.size x ks s3 H3 fp pins) [] (o :: cP ks σ) H' s'→Inv X pins σ H' s':=fun {o H' s'} J=>by
  obtain ⟨hh,g,d,t,os'⟩:=s'
  obtain rfl:os'=s3.os:=J.os
  exact I3.call (h':=hh) (g':=g) (d':=d) (t':=t) (ch:=fp) J.base J.hok J.bare fun b hb=>⟨(f b hb).2.2.2.1,(f b hb).2.1,(f b hb).2.2.2.2.1,(f b hb).2.2.2.2.2⟩
 have lookX:(relabel sc X.env).names.lookup x=some .local:=lookup_relabel_local lx
 have loop:∀ s',(∃ (i:Nat) (o:Option V) (H':Hp),Inv (dT X sc cl s3.heap.objs.size x ks s3 H3 fp pins) [] (o :: cP ks σ) H' s'∧tn i s'.heap∧(∀ b∈fp,H' b=none)∧W i m0 H') →
   codeAny (model X.prog X.w) X.A (.compLoop (.ListComp elt [⟨.Name x px,iter,[],0⟩] sc pos) 0 (.ref it) (.ref D) (compEnvC sc cl s3.heap.objs.size X.env)) (RR (.ref D) s3.heap.objs.size) s':=by
  intro s' hs'
  refine xT (fun n s'=>∃ (i:Nat) (o:Option V) (H':Hp),Inv (dT X sc cl s3.heap.objs.size x ks s3 H3 fp pins) [] (o :: cP ks σ) H' s'∧tn i s'.heap∧(∀ b∈fp,H' b=none)∧W i n H') ?_ m0 hs'
  rintro n s5 ⟨i,o,H5,J5,t5,n5,w5⟩
  rcases turn i n H5 w5 with ⟨stop,hq⟩ | ⟨go,step⟩
  ·refine bK (T.done (dT X sc cl s3.heap.objs.size x ks s3 H3 fp pins) rfl rfl rfl hc i [] s5 _ H5 _ J5 (fX n5) t5 stop) fun r s6 ⟨hr,J6⟩=>?_
   subst hr
   obtain ⟨m,hm,_⟩:=J6.loc
   exact hR D _ s6 H5 m (back J6) hq hm J6.free lC I3.sz cC pC
  ·refine bK (T.item (dT X sc cl s3.heap.objs.size x ks s3 H3 fp pins) rfl rfl rfl hc i [] s5 _ H5 _ J5 (fX n5) t5 go) fun r s6 ⟨u,hr,h6⟩=>?_
   subst hr
   refine bK h6 fun _ s7 ⟨v,H7,J7,r7,y7,t7,n7⟩=>?_
   have J7':=J7.pinned (fX n7) (T.obj _ _ t7)
   refine wpAny_assign_Name (eh (X:=dT X sc cl s3.heap.objs.size x ks s3 H3 fp pins) (i:=0) J7' nd rfl (.inl lookX) r7 (fun s8 J8=>?_) (.inr lookX))
   refine bK (he cl s3.heap.objs.size s3 H3 fp pins _ s8 _ H7 _ J8 (step v H7 y7)) fun y s9 ⟨vy,H9,J9,r9,ys,hys,hz,m',hm,w'⟩=>?_
   refine bK (e_ (X:=dT X sc cl s3.heap.objs.size x ks s3 H3 fp pins) _ s9 _ H9 (.ref D) [vy] (.ref D) [y] (fun _ H'=>H'=upd H9 D (.lst (ys ++ [vy]))) J9 rfl (.cons r9 .nil) ⟨D,ys,vy,rfl,rfl,hys,hz,rfl⟩) fun _ s10 ⟨_,H10,J10,_,eH⟩=>?_
   subst eH
   refine ⟨m',hm,i + 1,_,_,J10.er,?_,?_,w'⟩
   ·exact T.keep _ _ _ t7 fun b hb o e=>(J10.pin (b,o) (List.mem_append_right _ (List.mem_append_right _ (bG hb e)))).1
   ·intro b hb
    obtain ⟨o,e,d⟩:=T.obj _ _ t7 b hb
    exact (J10.pin (b,o) (List.mem_append_right _ (List.mem_append_right _ (bG hb e)))).2.1
 have l0:=loop _ ⟨0,none,H3,J0,st4,fun b hb=>(f3 b hb).1,w0⟩
 exact codeAny_compStart_list l0 (T.self _ 0 _ _ _ st4 l0)
theorem jW {sc osc:Scope} {N:List Str} {x:Str} {ks:List (Str × Nat)} (ok:cb sc osc N x ks) {pins:List (Addr × Obj)} {σ:L2.St} {H:Hp} {s:Shared} (I:Inv X pins σ H s) (ho:X.env.scope=osc):∀ y∈sc.names,y.2=.free→∃ c,X.env.cells.lookup y.1=some c:=fun y hy hf =>
 I.ok.has y.1 (.inl (by show X.env.scope.names.lookup y.1=some .cell;rw [ho];exact ok.2.2.2.2.1 y hy hf))
theorem DD {elt iter:Expr} {x:Str} {px:Pos} {sc:Scope} {pos:Pos} {wi:TI} {te:TE} (osc:Scope) (N:List Str) (ks:List (Str × Nat)) (hc:X.calm=true) (ho:X.env.scope=osc) (hN:X.N=N) (hi:PI X (.Name x px) iter wi)
  (he:∀ cl C s₀ H₀ fp pins,PE (dT X sc cl C x ks s₀ H₀ fp pins) elt te) (ok:cb sc osc N x ks:=by decide +kernel) (hs:∀ x,foldedSetIterable iter X.env x=pure x:=by intro _;rfl) :
  PE X (.ListComp elt [⟨.Name x px,iter,[],0⟩] sc pos) (Ip wi ks te):=by
 intro pins s σ H Q I hw
 obtain ⟨cl,hcl,h1,h2⟩:=gu (jW ok I ho)
 have ok':cb sc X.env.scope X.N x ks:=by rw [ho,hN];exact ok
 rw [eval_ListComp]
 refine wpAny_comprehension_free (use:=none) rfl hs hcl ok.1 ok.2.2.2.1 (bK (hi pins s σ H _ I hw) fun v s1 h3=>bK h3 fun itv s2 h4=>?_)
 obtain ⟨it,fp,tn,J,H2,rfl,I2,T,st2,f2,hR⟩:=h4
 refine tq (RR:=fun acc C=>compPost (model X.prog X.w) X.A X.xe none (EP X pins σ Q) acc C) hc ok' h1 h2 he I2 T st2 f2 hR ?_
 intro D C s' H' m J' q hn hC cl' cs cc cp
 refine ⟨m,hn,fun h' hsb=>⟨.ref D,H',?_,rfl,q⟩⟩
 exact J'.turned (t':=s'.toks) (it:=C) (fun b o ne e=>hsb.extBut b o ne e) hC cl' (.inr cs) cc cp
def FC (wi:TI) (ks:List (Str × Nat)) (te:TE) (i:Nat):TS:=fun D σ H=>Ip wi ks te σ H fun v H1=>D.nx (σ.set i (some v)) H1
theorem DE {elt iter:Expr} {x y:Str} {px py:Pos} {sc:Scope} {pos spos:Pos} {wi:TI} {te:TE} {i:Nat} (osc:Scope) (N:List Str) (ks:List (Str × Nat)) (hc:X.calm=true) (ho:X.env.scope=osc) (hN:X.N=N) (hnd:X.N.Nodup) (hy:X.N[i]?=some y) (hl:Loc X.env.scope y)
  (hi:PI X (.Name x px) iter wi) (he:∀ cl C s₀ H₀ fp pins,PE (dT X sc cl C x ks s₀ H₀ fp pins) elt te) (ok:cb sc osc N x ks:=by decide +kernel) (hs:∀ x,foldedSetIterable iter X.env x=pure x:=by intro _;rfl)
  (hsw:swapsWith (.ListComp elt [⟨.Name x px,iter,[],0⟩] sc pos) (some (.Name y py)) spos.line X.env=pure true:=by rfl) (hf:X.fn y=true∨X.env.scope.names.lookup y=some .local:=by first | exact .inl rfl | exact .inr rfl | assumption) :
  PS X (.Assign [.Name y py] (.ListComp elt [⟨.Name x px,iter,[],0⟩] sc pos) spos) (FC wi ks te i):=by
 intro pins s σ H Dn I hw
 obtain ⟨cl,hcl,h1,h2⟩:=gu (jW ok I ho)
 have ok':cb sc X.env.scope X.N x ks:=by rw [ho,hN];exact ok
 rw [exec_Assign_Name_used _ _ _ _ hsw]
 refine wpAny_bind (wpAny_standAt (wpAny_bind ?_))
 show wpAny _ X.A (do let _ ← comprehension (.ListComp elt [⟨.Name x px,iter,[],0⟩] sc pos) sc X.env _ (newList []) false (eval iter X.env) (some (assign (.Name y py) X.env))) _ _ s
 refine wpAny_bind (wpAny_mono (wpAny_comprehension_free (use:=some (assign (.Name y py) X.env)) (Q:=fun _ s'=>SP X pins Dn .next s') rfl hs hcl ok.1 ok.2.2.2.1
  (bK (hi pins s σ H _ I hw) fun v s1 h3=>bK h3 fun itv s2 h4=>?_)) (fun _ s' hq=>wpAny_pure (wpAny_pure hq)) fun _ _ e=>e)
 obtain ⟨it,fp,tn,J,H2,rfl,I2,T,st2,f2,hR⟩:=h4
 refine tq (Q:=fun v H1=>Dn.nx (σ.set i (some v)) H1) (RR:=fun acc C=>compPost (model X.prog X.w) X.A X.xe (some (assign (.Name y py) X.env)) (fun _ s'=>SP X pins Dn .next s') acc C) hc ok' h1 h2 he I2 T st2 f2 hR ?_
 intro D C s' H' m J' q hn hC cl' cs cc cp
 show wpAny _ X.A (assign (.Name y py) X.env (.ref D)) _ _ _
 refine wpAny_assign_Name (k6 J' hnd hy hl (v:=.ref D) rfl (fun s'' J'' ⟨a,hsb,ha⟩=>?_) hf)
 refine ⟨m,hn.sameBut hsb (fun z=>?_),fun h' hsb'=>⟨_,H',?_,q⟩⟩
 ·rcases ha with e | e
  ·exact cl' (z.trans e)
  ·exact cc _ _ e z.symm
 ·exact J''.turned (t':=s''.toks) (it:=C) (fun b o ne e=>hsb'.extBut b o ne e) hC cl' (.inr cs) cc cp
end
theorem BL {K:PySem.W.Frag} {a D:Addr} {xs:List V} {H:Hp} {te:TE} {ks:List (Str × Nat)} {σ:L2.St} {q:Hp→Prop} (Pv:Nat→Hp→Prop) (h0:Pv 0 (upd H D (.lst []))) (hl:∀ i H,i≤xs.length→Pv i H→cD K H a xs)
  (hs:∀ i x H (R:VK),xs[i]?=some x→Pv i H→(∀ y H4 ys,H4 D=some (.lst ys)→ys.length < sizeLine→Pv (i + 1) (upd H4 D (.lst (ys ++ [y])))→R y H4)→te (some x :: cP ks σ) H R) (hd:∀ H,Pv xs.length H→q H) :
  ∃ W:Nat→Nat→Hp→Prop,(∃ m,W 0 m (upd H D (.lst [])))∧∀ i m H2,W i m H2→((Bq K a).stop i H2∧q H2) ∨
   ((Bq K a).go i H2∧∀ v H3,(Bq K a).yld i H2 v H3→te (some v :: cP ks σ) H3 fun y H4=>∃ ys,H4 D=some (.lst ys)∧ys.length < sizeLine∧∃ m',m' < m∧W (i + 1) m' (upd H4 D (.lst (ys ++ [y])))):=by
 refine ⟨fun i m H=>m=xs.length - i∧i≤xs.length∧Pv i H,⟨xs.length,by simp,Nat.zero_le _,h0⟩,?_⟩
 rintro i m H2 ⟨rfl,hi,p⟩
 have hq:=hl i H2 hi p
 by_cases hlt:i < xs.length
 ·refine .inr ⟨⟨xs,xs[i],hq,by simp [hlt]⟩,fun v H3 y=>?_⟩
  obtain ⟨e,y⟩:=y
  subst e
  exact hs i v _ _ (y xs hq) p fun y H4 ys e1 e2 e3=>⟨ys,e1,e2,xs.length - (i + 1),by omega,rfl,hlt,e3⟩
 ·have e:i=xs.length:=by omega
  subst e
  exact .inl ⟨⟨xs,hq,Nat.le_refl _⟩,hd H2 p⟩
theorem zG {lo:Int} {n:Nat} {D:Addr} {H:Hp} {te:TE} {ks:List (Str × Nat)} {σ:L2.St} {q:Hp→Prop} (Pv:Nat→Hp→Prop) (h0:Pv 0 (upd H D (.lst [])))
  (hs:∀ i H (R:VK),i < n→Pv i H→(∀ y H4 ys,H4 D=some (.lst ys)→ys.length < sizeLine→Pv (i + 1) (upd H4 D (.lst (ys ++ [y])))→R y H4)→te (some (.int (lo + i)) :: cP ks σ) H R) (hd:∀ H,Pv n H→q H) :
  ∃ W:Nat→Nat→Hp→Prop,(∃ m,W 0 m (upd H D (.lst [])))∧∀ i m H2,W i m H2→((yN lo n).stop i H2∧q H2) ∨
   ((yN lo n).go i H2∧∀ v H3,(yN lo n).yld i H2 v H3→te (some v :: cP ks σ) H3 fun y H4=>∃ ys,H4 D=some (.lst ys)∧ys.length < sizeLine∧∃ m',m' < m∧W (i + 1) m' (upd H4 D (.lst (ys ++ [y])))):=by
 refine ⟨fun i m H=>m=n - i∧i≤n∧Pv i H,⟨n,by simp,Nat.zero_le _,h0⟩,?_⟩
 rintro i m H2 ⟨rfl,hi,p⟩
 by_cases hlt:i < n
 ·refine .inr ⟨hlt,fun v H3 y=>?_⟩
  obtain ⟨e,y⟩:=y
  subst e y
  exact hs i _ _ hlt p fun y H4 ys e1 e2 e3=>⟨ys,e1,e2,n - (i + 1),by omega,rfl,hlt,e3⟩
 ·have e:i=n:=by omega
  subst e
  exact .inl ⟨Nat.le_refl _,hd H2 p⟩
def one (c:Nat):Str:=⟨#[c]⟩
theorem oY:∀ (cs:List Nat) (acc:Array Nat),(cs.map one).foldl (fun acc (p:Str)=>acc ++ (Str.ofString "").cps ++ p.cps) acc=acc ++ cs.toArray
 | [],acc=>by simp
 | c :: cs,acc=>by
  have e:(Str.ofString "").cps=#[]:=by decide +kernel
  rw [List.map_cons,List.foldl_cons,oY cs]
  rw [e]
  show (acc ++ #[] ++ #[c]) ++ cs.toArray=_
  simp
theorem join_ones (cs:List Nat):Txt.join (Str.ofString "") (cs.map one)=⟨cs.toArray⟩:=by
 unfold Txt.join Builtin.Str.glued
 cases cs with
 | nil=>rfl
 | cons c cs =>
  simp only [List.map_cons,List.drop_succ_cons,List.drop_zero,List.headD_cons]
  rw [oY]
  show (⟨#[c] ++ cs.toArray⟩:Str)=_
  simp
theorem gL:∀ {ys:List Str} {us:List Value},Vals (ys.map V.str) us→StrsAre us ys
 | [],_,.nil=>.nil
 | y :: ys,_,.cons r rr=>by
  obtain ⟨t,rfl⟩:=r
  exact .cons y t (gL rr)
section
variable {X:Cx}
def rJoin (K:PySem.W.Frag):V→List V→Hp→VK→Prop:=fun x vs H Q=>∃ z p ys,x=.str z∧vs=[.ref p]∧cD K H p (ys.map V.str)∧(ys.map (·.length)).sum + ys.length * z.length≤16777216∧Q (.str (Txt.join z ys)) H
theorem BU:mf X "str.join" (rJoin X.K):=by
 intro pins s σ H x vs v us Q I rx rv h
 obtain ⟨z,p,ys,rfl,rfl,hp,hz,q⟩:=h
 obtain ⟨t,rfl⟩:=rx
 obtain ⟨u,rfl,ru⟩:=vals1 rv
 cases ru
 obtain ⟨its,r,pl,_⟩:=I.list hp
 exact join_list pl.isList (by simpa using gL r) hz fun t' k=>⟨.str _,H,I.tok _,⟨_,rfl⟩,q⟩
end
def pG:Expr→Option V
 | .Constant (.int i) _ _=>some (.int i)
 | .Constant (.str x) _ _=>some (.str x)
 | .Constant (.bool b) _ _=>some (.bl b)
 | _=>none
theorem mR {X:Cx}:∀ {es:List Expr} (vs:List V),es.map pG=vs.map some→PA X es (fun _ H Q=>Q vs H)
 | [],[],_=>fun _ _ _ _ H Q I h=>Calls.spliced_nil ⟨[],H,I,.nil,h⟩
 | [],_ :: _,h=>by cases h
 | _ :: _,[],h=>by cases h
 | e :: es,v :: vs,h=>by
  rw [List.map_cons,List.map_cons] at h
  injection h with h1 h2
  have ih:=mR (X:=X) (es:=es) vs h2
  have hs:starEach (e :: es) X.env=(false,eval e X.env) :: starEach es X.env:=by
   cases e <;> first | rfl | cases h1
  have he:PE X e (tC v):=by
   cases e with
   | Constant c j pos =>
    cases c with
    | int i=>cases h1;exact aI
    | str x=>cases h1;exact kL
    | bool b=>cases h1;exact sT
    | _=>cases h1
   | _=>cases h1
  exact fun pos pins s σ H Q I hq=>aO he ih hs pos pins s σ H Q I hq
end Ov
namespace Ov
open PySem PySem.Spec PyProof.Rows
open L2 (V HO Hp Inv Cx St VK TE TT TA TS TG mi TI TO i5 Ends rq Loc Gl Rd RelV Vals eu t8 bP md oJ mf i4 R2 yw tC A_ Ir xm tB A5 HL C0 xf C1 xi Io C5 A7 vB tZ D0 nF Im vw C2 mz Bz vW BC BB CZ ra Fz v7 IQ v8 Di C3 xk xg HH Fy xh C4 vA l8 xj Iq upd E0 bE cU)
structure QE (X:Cx) (e:Expr) (t:TE):Prop where
 run:L2.PE X e t
structure QT (X:Cx) (e:Expr) (t:TT):Prop where
 run:L2.PT X e t
structure QW (X:Cx) (e:Expr) (t:TT):Prop where
 run:L2.PW X e t
structure QA (X:Cx) (es:List Expr) (t:TA):Prop where
 run:L2.PA X es t
structure QS (X:Cx) (st:Stmt) (t:TS):Prop where
 run:L2.PS X st t
structure QB (X:Cx) (st:List Stmt) (t:TS):Prop where
 run:L2.oI X st t
structure QG (X:Cx) (e:Expr) (t:TG):Prop where
 run:L2.PG X e t
structure Ib (X:Cx) (es:List Expr) (t:mi):Prop where
 run:L2.Dd X es t
structure QI (X:Cx) (tg e:Expr) (t:TI):Prop where
 run:L2.PI X tg e t
structure QO (X:Cx) (e:Option Expr) (t:TO):Prop where
 run:L2.PO X e t
section
variable {X:Cx} {a b c e o:Expr} {es rest:List Expr} {ta tb te tc to:TE} {tA tB':TT} {t:TA} {pos px p p2 apos cpos:Pos} {x:Str} {i j:Nat}
theorem pv (i:Nat) {x:Str} {pos:Pos} (hN:X.N[i]?=some x:=by rfl) (hv:rq X.env.scope x:=by first | exact Or.inl rfl | exact Or.inr (Or.inl rfl) | exact Or.inr (Or.inr rfl)) (hd:(x == ("__debug__":Str))=false:=by decide)
  (hcd:(x == ("__classdict__":Str))=false:=by decide):QE X (.Name x pos) (yw i):=⟨L2.uW hN hv hd hcd⟩
theorem aI {i:Int} {j pos}:QE X (.Constant (.int i) j pos) (tC (.int i)):=⟨L2.aI⟩
theorem sT {b:Bool} {j pos}:QE X (.Constant (.bool b) j pos) (tC (.bl b)):=⟨L2.sT⟩
theorem uT {j pos}:QE X (.Constant .none j pos) (tC .non):=⟨L2.uT⟩
theorem kL {x:Str} {j pos}:QE X (.Constant (.str x) j pos) (tC (.str x)):=⟨L2.kL⟩
theorem lR {v:V} {u:Value} (hg:Gl X x) (hm:X.mg x=some u) (r:RelV v u) (hd:(x == ("__debug__":Str))=false:=by decide):QE X (.Name x pos) (tC v):=⟨L2.lR hg hm r hd⟩
theorem qh {v:V} {u:Value} (hg:Gl X x) (hm:X.mg x=none) (hv:bootBuiltins x=some u) (r:RelV v u) (hn:x≠"__name__":=by decide) (hd:(x == ("__debug__":Str))=false:=by decide):QE X (.Name x pos) (tC v):=⟨L2.qh hg hm hv r hn hd⟩
theorem a8 {op:Operator} {r:R2} (ho:eu X (binaryOp op) r) (ha:QE X a ta) (hb:QE X b tb):QE X (.BinOp a op b pos) (A_ r ta tb):=⟨L2.a8 ho ha.run hb.run⟩
theorem wy {op:UnaryOp} {r:V→Hp→VK→Prop} (ho:t8 X (unaryOp op) r) (ha:QE X a ta):QE X (.UnaryOp op a pos) (Ir r ta):=⟨L2.wy ho ha.run⟩
theorem lQ {op:CmpOp} {r:R2} (ho:eu X (compareOp op) r) (ha:QE X a ta) (hb:QE X b tb) (hm:behindInMarks op b=false):QE X (.Compare a [op] [b] pos) (A_ r ta tb):=⟨L2.lQ ho ha.run hb.run hm⟩
theorem cW {op:CmpOp} {r:R2} (ho:eu X (compareOp op) r) (ha:QE X a ta) (hb:QE X b tb) (hm:behindInMarks op b=false):QT X (.Compare a [op] [b] pos) (xm (A_ r ta tb)):=⟨L2.cW ho ha.run hb.run hm⟩
theorem uV {op} (h:QE X a ta):QE X (.BoolOp op [a] pos) ta:=⟨L2.uV h.run⟩
theorem uS (ha:QE X a ta) (hb:QE X (.BoolOp .And (b :: rest) pos) tb):QE X (.BoolOp .And (a :: b :: rest) pos) (xf ta tb):=⟨L2.uS ha.run hb.run⟩
theorem Aj (ha:QE X a ta) (hb:QE X (.BoolOp .Or (b :: rest) pos) tb):QE X (.BoolOp .Or (a :: b :: rest) pos) (C1 ta tb):=⟨L2.Aj ha.run hb.run⟩
theorem uU (ha:QE X a ta):QE X (.UnaryOp .Not a pos) (xi ta):=⟨L2.uU ha.run⟩
theorem u_ (ha:QT X a tA):QT X (.UnaryOp .Not a pos) (C0 tA):=⟨L2.u_ ha.run⟩
theorem lU (ha:QT X a tA):QW X (.BoolOp .And [a] pos) tA:=⟨L2.lU ha.run⟩
theorem qw (ha:QT X a tA):QW X (.BoolOp .Or [a] pos) tA:=⟨L2.qw ha.run⟩
theorem qv (ha:QT X a tA) (hb:QW X (.BoolOp .And (b :: rest) pos) tB'):QW X (.BoolOp .And (a :: b :: rest) pos) (A5 tA tB'):=⟨L2.qv ha.run hb.run⟩
theorem wB (ha:QT X a tA) (hb:QW X (.BoolOp .Or (b :: rest) pos) tB'):QW X (.BoolOp .Or (a :: b :: rest) pos) (HL tA tB'):=⟨L2.wB ha.run hb.run⟩
theorem DG (h:QW X e tA):QT X e tA:=⟨h.run.pt⟩
theorem vb (h:QE X e te) (he:∀ whole,isTrue e X.env whole=(do let v ← whole;standAt e.pos;holding [v] (truthy v)):=by intro _;rfl):QT X e (tB te):=⟨L2.vb h.run he⟩
theorem mU (hc:QT X c tA) (ha:QE X a ta) (hb:QE X b tb):QE X (.IfExp c a b pos) (Io tA ta tb):=⟨L2.mU hc.run ha.run hb.run⟩
theorem bt:QA X [] vB:=⟨L2.bt⟩
theorem aO (ha:QE X e te) (hr:QA X es t) (hs:starEach (e :: es) X.env=(false,eval e X.env) :: starEach es X.env:=by rfl):QA X (e :: es) (tZ te t):=⟨L2.aO ha.run hr.run hs⟩
theorem Ad {es:List Expr} (vs:List V) (h:es.map pG=vs.map some):QA X es (fun _ H Q=>Q vs H):=⟨mR vs h⟩
theorem mV {x1} (h:QA X es t):QE X (.Tuple es x1 pos) (C5 t):=⟨L2.mV h.run⟩
theorem h_ (h:QA X es t):QE X (.List es pos) (A7 t):=⟨L2.h_ h.run⟩
theorem bO {r:R2} (hr:md X r) (ha:QE X a ta) (hb:QE X b tb) (hs:cU b):QE X (.Subscript a b pos) (A_ r ta tb):=⟨L2.bO hr ha.run hb.run hs⟩
theorem lT:QO X none l8:=⟨L2.lT⟩
theorem iI (h:QE X e te):QO X (some e) (xj te):=⟨L2.iI h.run⟩
theorem ia {lo hi:Option Expr} {tl th:TO} {r:V→Option Int→Option Int→Hp→VK→Prop} (hr:oJ X r) (he:QE X e te) (hl:QO X lo tl) (hu:QO X hi th):QE X (.Subscript e (.Slice lo hi none p2) pos) (Iq r te tl th):=⟨L2.ia hr he.run hl.run hu.run⟩
theorem de {id:String} {r:List V→Hp→VK→Prop} (hc:bP X (.builtin id) r) (hg:Gl X x) (hm:X.mg x=none) (hv:bootBuiltins x=some (.builtin id)) (ha:QA X (e :: es) t) (hn:x≠"__name__":=by decide) (hdb:(x == ("__debug__":Str))=false:=by decide)
  (he:starEach (e :: es) X.env=(false,eval e X.env) :: starEach es X.env:=by rfl) (hpl:(backTo pos (starEach es X.env)).any (·.1)=false:=by rfl):QE X (.Call (.Name x p) (e :: es) [] pos) (D0 r t):=⟨L2.de hc hg hm hv ha.run hn hdb he hpl⟩
theorem kK {T:String} {r:List V→Hp→VK→Prop} (hc:bP X (.type T) r) (hg:Gl X x) (hm:X.mg x=none) (hv:bootBuiltins x=some (.type T)) (ha:QA X (e :: es) t) (hn:x≠"__name__":=by decide) (hdb:(x == ("__debug__":Str))=false:=by decide)
  (he:starEach (e :: es) X.env=(false,eval e X.env) :: starEach es X.env:=by rfl) (hpl:(backTo pos (starEach es X.env)).any (·.1)=false:=by rfl):QE X (.Call (.Name x p) (e :: es) [] pos) (D0 r t):=⟨L2.kK hc hg hm hv ha.run hn hdb he hpl⟩
theorem sU {k k':Nat} {ps:List Str} {sp:L2.Sp} (C:nJ X.prog X.w X.K X.mg X.base k x ps sp) (hr:bE k' X.A) (hk:k≤k') (hg:Gl X x) (ha:QA X (e :: es) t)
  (hdb:(x == ("__debug__":Str))=false:=by decide) (he:starEach (e :: es) X.env=(false,eval e X.env) :: starEach es X.env:=by rfl) (hpl:(backTo pos (starEach es X.env)).any (·.1)=false:=by rfl) :
  QE X (.Call (.Name x p) (e :: es) [] pos) (nF sp [] E0 t):=⟨E1 C hr hk hg ha.run hdb he hpl⟩
theorem mT {name:Str} {T id:String} {r:V→List V→Hp→VK→Prop} (pa:PlainAttrs T) (slot:Slot T name id) (hty:typeOf (.builtin id)=pure (.type "method_descriptor")) (hm:mf X id r) (ho:QE X o to) (ha:QA X (e :: es) t)
  (hbase:attributeBase o name X.env (eval o X.env)=eval o X.env:=by rfl)
  (hfew:((backTo cpos (starEach (e :: es) X.env)).all (fun x=>!x.1) && (backToKw cpos (keywordEach [] X.env)).all (fun x=>x.1.isSome)
   && decide ((e :: es).length + ([]:List Keyword).length + (if ([]:List Keyword).isEmpty then 0 else 1) < 30))=true:=by rfl)
  (hline:(apos.endLine == cpos.line)=true:=by rfl) (hs:starEach (e :: es) X.env=(false,eval e X.env) :: starEach es X.env:=by rfl) (hplain:(backTo cpos (starEach es X.env)).any (·.1)=false:=by rfl) :
  QE X (.Call (.Attribute o name apos) (e :: es) [] cpos) (Im X.K T r to t):=⟨L2.mT pa slot hty hm ho.run ha.run hbase hfew hline hs hplain⟩
end
section
variable {X:Cx} {st:Stmt} {rest:List Stmt} {t u:TS} {e tg:Expr} {es:List Expr} {te:TE} {pos:Pos} {g:TG}
theorem eK:QB X [] xh:=⟨L2.eK⟩
theorem aQ (h1:QS X st t) (h2:QB X rest u):QB X (st :: rest) (C4 t u):=⟨L2.aQ h1.run h2.run⟩
theorem bx (h1:QS X st t):QB X [st] t:=⟨L2.bx h1.run⟩
theorem sW (h1:QS X st t) (h2:QB X rest u):QB X (st :: rest) (HI t u):=⟨Co h1.run h2.run⟩
theorem kP {sts:List Stmt}:QB X sts vA:=⟨L2.kP⟩
theorem iJ (he:QE X e te) (hs:swapsWith e none pos.line X.env=pure false:=by rfl):QS X (.Expr e pos) (xg te):=⟨L2.iJ he.run hs⟩
theorem c7 (he:QE X e te):QS X (.Return (some e) pos) (C3 te):=⟨L2.c7 he.run⟩
theorem qm:QS X (.Return none pos) xk:=⟨L2.qm⟩
theorem jY {c:Expr} {a b:List Stmt} {tc:TT} (hc:QT X c tc) (ha:QB X a t) (hb:QB X b u):QS X (.If c a b pos) (CZ tc t u):=⟨L2.jY hc.run ha.run hb.run⟩
theorem ib {c:Expr} {body:List Stmt} {tc:TT} {tb:TS} (hp:PassesOwn (model X.prog X.w) X.A X.env X.xe) (hc:QT X c tc) (hb:QB X body tb):QS X (.While c body [] pos) (ra tc tb):=⟨L2.ib hp hc.run hb.run⟩
theorem iH {i:Nat} {x:Str} (hN:X.N.Nodup) (hi:X.N[i]?=some x) (hx:Loc X.env.scope x) (hf:X.fn x=true∨X.env.scope.names.lookup x=some .local:=by first | exact .inl rfl | exact .inr rfl | assumption):QG X (.Name x pos) (mz i):=⟨L2.iH hN hi hx hf⟩
theorem qj:Ib X [] Bz:=⟨L2.qj⟩
theorem mW {e:Expr} {es:List Expr} {t:TG} {u:mi} (h1:QG X e t) (h2:Ib X es u)
  (hs:(assignEach (e :: es) X.env).map (·.2)=assign e X.env :: (assignEach es X.env).map (·.2):=by rfl):Ib X (e :: es) (vW t u):=⟨L2.mW h1.run h2.run hs⟩
theorem uX {k:Nat} {t:mi} {n:Nat} (hc:X.calm=true) (h:Ib X es t)
  (hn:(assignEach es X.env).length=n:=by rfl) (hst:(assignEach es X.env).findIdx? (·.1)=none:=by rfl):QG X (.Tuple es k pos) (BC X.K n t):=⟨L2.uX hc h.run hn hst⟩
theorem qi {o i:Expr} {to ti:TE} {t:i5} (ho:QE X o to) (hi:QE X i ti) (hs:i4 X t)
  (ha:∀ v,assign (.Subscript o i pos) X.env v=(do
   let ov ← holding [v] (eval o X.env)
   let iv ← holding [v,ov] (eval i X.env)
   standAt pos
   holding [v,ov,iv] (setItem ov iv v)
   release [v,ov,iv] []):=by intro _;rfl):QG X (.Subscript o i pos) (BB to ti t):=⟨L2.qi ho.run hi.run hs ha⟩
theorem ql {tg e:Expr} (he:QE X e te) (hg:QG X tg g) (hs:swapsWithSole [tg] e pos.line X.env=pure false:=by rfl) (hw:swappedStores [tg] e X.env=pure none:=by rfl)
  (h1:(assignEach [tg] X.env).map (·.2)=[assign tg X.env]:=by rfl):QS X (.Assign [tg] e pos) (vw te g):=⟨L2.ql he.run hg.run hs hw h1⟩
theorem cq {i:Nat} {x:Str} {pos':Pos} (hN:X.N.Nodup) (hi:X.N[i]?=some x) (hx:Loc X.env.scope x) (he:QE X e te) (hs:swapsWith e (some (.Name x pos')) pos.line X.env=pure false:=by rfl) (hf:X.fn x=true∨X.env.scope.names.lookup x=some .local:=by first | exact .inl rfl | exact .inr rfl | assumption) :
  QS X (.Assign [.Name x pos'] e pos) (vw te (mz i)):=⟨L2.cq hN hi hx he.run hs hf⟩
theorem kO {i j:Nat} {x y:Str} {a b:Expr} {ta:TA} {px py pt:Pos} {kt k2 pt2} (hc:X.calm=true) (hN:X.N.Nodup) (hi:X.N[i]?=some x) (hj:X.N[j]?=some y) (hij:i≠j)
  (hx:X.env.scope.names.lookup x=some .local) (hy:X.env.scope.names.lookup y=some .local) (ha:QA X [a,b] ta)
  (hw:swappedStores [.Tuple [.Name x px,.Name y py] kt pt] (.Tuple [a,b] k2 pt2) X.env=pure (some [x,y]))
  (hs:swapsWithSole [.Tuple [.Name x px,.Name y py] kt pt] (.Tuple [a,b] k2 pt2) pos.line X.env=pure false:=by rfl) :
  QS X (.Assign [.Tuple [.Name x px,.Name y py] kt pt] (.Tuple [a,b] k2 pt2) pos) (C2 i j ta):=⟨L2.kO hc hN hi hj hij hx hy ha.run hw hs⟩
theorem jX {l:Expr} {tl:TE} (hl:QE X l tl):QI X tg l (v7 X.K tl):=⟨L2.jX hl.run⟩
theorem fb {a:Expr} {ta:TA} {p pos:Pos} (hg:Gl X "range") (hm:X.mg "range"=none) (ha:QA X [a] ta) (hs:starEach [a] X.env=[(false,eval a X.env)]:=by rfl):QI X tg (.Call (.Name "range" p) [a] [] pos) (v8 ta):=⟨L2.fb hg hm ha.run hs⟩
theorem kM {iter:Expr} {body:List Stmt} {wi:TI} {g:TG} {tb:TS} {pos:Pos} (hp:PassesOwn (model X.prog X.w) X.A X.env X.xe) (hc:X.calm=true) (hi:QI X tg iter wi) (hg:QG X tg g) (hb:QB X body tb)
  (hs:∀ x,foldedSetIterable iter X.env x=pure x:=by intro _;rfl):QS X (.For tg iter body [] pos) (Fz wi g tb):=⟨L2.kM hp hc hi.run hg.run hb.run hs⟩
theorem Cb {elt iter:Expr} {x:Str} {px:Pos} {sc:Scope} {pos:Pos} {wi:TI} (osc:Scope) (N:List Str) (ks:List (Str × Nat)) (hc:X.calm=true) (ho:X.env.scope=osc) (hN:X.N=N) (hi:QI X (.Name x px) iter wi)
  (he:∀ cl C s₀ H₀ fp pins,QE (dT X sc cl C x ks s₀ H₀ fp pins) elt te) (ok:cb sc osc N x ks:=by decide +kernel) (hs:∀ x,foldedSetIterable iter X.env x=pure x:=by intro _;rfl) :
  QE X (.ListComp elt [⟨.Name x px,iter,[],0⟩] sc pos) (Ip wi ks te):=⟨DD osc N ks hc ho hN hi.run (fun cl C s₀ H₀ fp pins=>(he cl C s₀ H₀ fp pins).run) ok hs⟩
theorem Cn {elt iter:Expr} {x y:Str} {px py:Pos} {sc:Scope} {pos spos:Pos} {wi:TI} {i:Nat} (osc:Scope) (N:List Str) (ks:List (Str × Nat)) (hc:X.calm=true) (ho:X.env.scope=osc) (hN:X.N=N) (hnd:X.N.Nodup) (hy:X.N[i]?=some y) (hl:Loc X.env.scope y)
  (hi:QI X (.Name x px) iter wi) (he:∀ cl C s₀ H₀ fp pins,QE (dT X sc cl C x ks s₀ H₀ fp pins) elt te) (ok:cb sc osc N x ks:=by decide +kernel) (hs:∀ x,foldedSetIterable iter X.env x=pure x:=by intro _;rfl)
  (hsw:swapsWith (.ListComp elt [⟨.Name x px,iter,[],0⟩] sc pos) (some (.Name y py)) spos.line X.env=pure true:=by rfl) (hf:X.fn y=true∨X.env.scope.names.lookup y=some .local:=by first | exact .inl rfl | exact .inr rfl | assumption) :
  QS X (.Assign [.Name y py] (.ListComp elt [⟨.Name x px,iter,[],0⟩] sc pos) spos) (FC wi ks te i):=⟨DE osc N ks hc ho hN hnd hy hl hi.run (fun cl C s₀ H₀ fp pins=>(he cl C s₀ H₀ fp pins).run) ok hs hsw hf⟩
end
end Ov
namespace Ov
open PySem PySem.Spec PyProof.Rows
open L2 (V HO Hp Inv Cx VK TE TA Vals RelV eu bP cD R2 upd EP vals1 intsAre_of Gl)
section
variable {X:Cx}
end
end Ov
namespace Ov
open PySem PySem.Spec PyProof.Rows
open L2 (V HO Hp Inv Cx VK TE TA Vals RelV eu bP cD fQ R2 upd ba)
inductive Py where
 | non | bl (b:Bool) | int (i:Int) | str (x:Str) | tup (xs:List Py) | lst (xs:List Py)
mutual
def At (K:PySem.W.Frag) (H:Hp):Py→V→Prop
 | .non,v=>v=.non
 | .bl b,v=>v=.bl b
 | .int i,v=>v=.int i
 | .str x,v=>v=.str x
 | .tup xs,v=>∃ a vs,v=.ref a∧fQ K H a vs∧nK K H xs vs
 | .lst xs,v=>∃ a vs,v=.ref a∧cD K H a vs∧nK K H xs vs
def nK (K:PySem.W.Frag) (H:Hp):List Py→List V→Prop
 | [],vs=>vs=[]
 | x :: xs,vs=>∃ v us,vs=v :: us∧At K H x v∧nK K H xs us
end
mutual
def iF:Py→Py→Bool
 | .non,.non=>true
 | .bl a,.bl b=>a == b
 | .int a,.int b=>a == b
 | .bl a,.int b=>(if a then 1 else 0) == b
 | .int a,.bl b=>a == (if b then 1 else 0)
 | .str a,.str b=>a == b
 | .tup xs,.tup ys=>g7 xs ys
 | .lst xs,.lst ys=>g7 xs ys
 | _,_=>false
def g7:List Py→List Py→Bool
 | [],[]=>true
 | x :: xs,y :: ys=>iF x y && g7 xs ys
 | _,_=>false
end
mutual
def dep:Py→Nat
 | .tup xs=>dw xs + 1
 | .lst xs=>dw xs + 1
 | _=>0
def dw:List Py→Nat
 | []=>0
 | x :: xs=>max (dep x) (dw xs)
end
mutual
theorem rO:∀ x:Py,iF x x=true
 | .non=>rfl
 | .bl b=>by simp [iF]
 | .int b=>by simp [iF]
 | .str b=>by simp [iF]
 | .tup xs=>by simpa [iF] using kB xs
 | .lst xs=>by simpa [iF] using kB xs
theorem kB:∀ xs:List Py,g7 xs xs=true
 | []=>rfl
 | x :: xs=>by simp [g7,rO x,kB xs]
end
mutual
theorem At.same {K:PySem.W.Frag} {H H':Hp} (e:ba H H'):∀ {x:Py} {v:V},At K H x v→At K H' x v
 | .non,_,h=>h
 | .bl _,_,h=>h
 | .int _,_,h=>h
 | .str _,_,h=>h
 | .tup xs,_,⟨a,vs,e1,h,k⟩=>⟨a,vs,e1,e.tup h,nK.same e k⟩
 | .lst xs,_,⟨a,vs,e1,h,k⟩=>⟨a,vs,e1,e.seq h,nK.same e k⟩
theorem nK.same {K:PySem.W.Frag} {H H':Hp} (e:ba H H'):∀ {xs:List Py} {vs:List V},nK K H xs vs→nK K H' xs vs
 | [],_,h=>h
 | _ :: _,_,⟨v,us,e1,h,k⟩=>⟨v,us,e1,At.same e h,nK.same e k⟩
end
theorem nK.length {K:PySem.W.Frag} {H:Hp}:∀ {xs:List Py} {vs:List V},nK K H xs vs→xs.length=vs.length
 | [],_,h=>by cases h;rfl
 | _ :: xs,_,⟨v,us,e1,_,k⟩=>by subst e1;simp [nK.length k]
def xD (xs ys:List Py) (j:Nat):Bool:=match xs[j]?,ys[j]? with
 | some x,some y=>iF x y
 | _,_=>false
theorem gq:∀ (xs ys:List Py),((List.range (min xs.length ys.length)).all (xD xs ys) && (xs.length == ys.length))=g7 xs ys
 | [],[]=>rfl
 | [],_ :: _=>by simp [g7]
 | _ :: _,[]=>by simp [g7]
 | x :: xs,y :: ys=>by
  have ih:=gq xs ys
  rw [List.length_cons,List.length_cons,Nat.succ_min_succ,List.range_succ_eq_map,List.all_cons,List.all_map]
  have e1:(xD (x :: xs) (y :: ys) ∘ Nat.succ)=xD xs ys:=by
   funext j
   simp [xD]
  have e2:(xs.length + 1 == ys.length + 1)=(xs.length == ys.length):=by
   rw [Bool.eq_iff_iff]
   simp
  rw [e1,e2,Bool.and_assoc,ih]
  simp [xD,g7]
section
variable {X:Cx} {pins:List (Addr × Obj)} {σ:L2.St} {H:Hp} {s:Shared}
mutual
theorem At.one (I:Inv X pins σ H s):∀ {x y:Py} {v:V},At X.K H x v→At X.K H y v→iF x y=true
 | .non,y,v,h,k=>by cases h;cases y <;> simp_all [At,iF]
 | .bl b,y,v,h,k=>by cases h;cases y <;> simp_all [At,iF]
 | .int b,y,v,h,k=>by cases h;cases y <;> simp_all [At,iF]
 | .str b,y,v,h,k=>by cases h;cases y <;> simp_all [At,iF]
 | .tup xs,y,v,h,k=>by
  obtain ⟨a,vs,rfl,h1,h2⟩:=h
  cases y with
  | tup ys =>
   obtain ⟨b,us,e,k1,k2⟩:=k
   cases e
   cases I.yx h1 k1
   simpa [iF] using nK.one I h2 k2
  | lst ys =>
   obtain ⟨b,us,e,k1,k2⟩:=k
   cases e
   obtain ⟨_,_,⟨o,e1,c1,_⟩,_⟩:=I.tuple h1
   obtain ⟨_,_,⟨o',n,e2,c2,_⟩,_⟩:=I.list k1
   rw [e1] at e2;cases e2;exact absurd (Value.type.inj (c1.symm.trans c2)) (by decide)
  | _=>cases k
 | .lst xs,y,v,h,k=>by
  obtain ⟨a,vs,rfl,h1,h2⟩:=h
  cases y with
  | lst ys =>
   obtain ⟨b,us,e,k1,k2⟩:=k
   cases e
   cases I.g_ h1 k1
   simpa [iF] using nK.one I h2 k2
  | tup ys =>
   obtain ⟨b,us,e,k1,k2⟩:=k
   cases e
   obtain ⟨_,_,⟨o,e1,c1,_⟩,_⟩:=I.tuple k1
   obtain ⟨_,_,⟨o',n,e2,c2,_⟩,_⟩:=I.list h1
   rw [e1] at e2;cases e2;exact absurd (Value.type.inj (c1.symm.trans c2)) (by decide)
  | _=>cases k
theorem nK.one (I:Inv X pins σ H s):∀ {xs ys:List Py} {vs:List V},nK X.K H xs vs→nK X.K H ys vs→g7 xs ys=true
 | [],ys,vs,h,k=>by
  cases h
  cases ys with
  | nil=>rfl
  | cons y ys=>obtain ⟨_,_,e,_⟩:=k;cases e
 | x :: xs,ys,vs,h,k=>by
  obtain ⟨v,us,rfl,h1,h2⟩:=h
  cases ys with
  | nil=>cases k
  | cons y ys =>
   obtain ⟨v',us',e,k1,k2⟩:=k
   cases e
   simp [g7,At.one I h1 k1,nK.one I h2 k2]
end
mutual
theorem IK (I:Inv X pins σ H s):∀ (x y:Py) {v v':V} {u u':Value} {A:Around},At X.K H x v→At X.K H y v'→RelV v u→RelV v' u'→A.units + dep x < cLine→SeqAt.EqAt A s u u' (iF x y)
 | .non,y,v,v',u,u',A,h,k,r,r',hu=>by
  cases h;cases r
  cases y with
  | non=>cases k;cases r';exact SeqAt.EqAt.same _
  | bl b=>cases k;cases r';exact SeqAt.EqAt.none_bool _
  | int b=>cases k;obtain ⟨t,rfl⟩:=r';exact SeqAt.EqAt.none_int _ _
  | str b=>cases k;obtain ⟨t,rfl⟩:=r';exact SeqAt.EqAt.none_str _ _
  | tup ys=>obtain ⟨a,vs,rfl,h1,h2⟩:=k;cases r';obtain ⟨_,_,p,_⟩:=I.tuple h1;exact SeqAt.EqAt.none_tuple p (by simpa [dep] using hu)
  | lst ys=>obtain ⟨a,vs,rfl,h1,h2⟩:=k;cases r';obtain ⟨_,_,p,_⟩:=I.list h1;exact SeqAt.EqAt.none_list p.isList (by simpa [dep] using hu)
 | .bl x,y,v,v',u,u',A,h,k,r,r',hu=>by
  cases h;cases r
  cases y with
  | non=>cases k;cases r';exact SeqAt.EqAt.bool_none _
  | bl b=>cases k;cases r';exact SeqAt.EqAt.bool_bool _ _
  | int b=>cases k;obtain ⟨t,rfl⟩:=r';exact SeqAt.EqAt.bool_int _ _ _
  | str b=>cases k;obtain ⟨t,rfl⟩:=r';exact SeqAt.EqAt.bool_str _ _ _
  | tup ys=>obtain ⟨a,vs,rfl,h1,h2⟩:=k;cases r';obtain ⟨_,_,p,_⟩:=I.tuple h1;exact SeqAt.EqAt.bool_tuple _ p (by simpa [dep] using hu)
  | lst ys=>obtain ⟨a,vs,rfl,h1,h2⟩:=k;cases r';obtain ⟨_,_,p,_⟩:=I.list h1;exact SeqAt.EqAt.bool_list _ p.isList (by simpa [dep] using hu)
 | .int x,y,v,v',u,u',A,h,k,r,r',hu=>by
  cases h;obtain ⟨t0,rfl⟩:=r
  cases y with
  | non=>cases k;cases r';exact SeqAt.EqAt.int_none _ _
  | bl b=>cases k;cases r';exact SeqAt.EqAt.int_bool _ _ _
  | int b=>cases k;obtain ⟨t,rfl⟩:=r';exact SeqAt.EqAt.int_int _ _ _ _
  | str b=>cases k;obtain ⟨t,rfl⟩:=r';exact SeqAt.EqAt.int_str _ _ _ _
  | tup ys=>obtain ⟨a,vs,rfl,h1,h2⟩:=k;cases r';obtain ⟨_,_,p,_⟩:=I.tuple h1;exact SeqAt.EqAt.int_tuple _ _ p (by simpa [dep] using hu)
  | lst ys=>obtain ⟨a,vs,rfl,h1,h2⟩:=k;cases r';obtain ⟨_,_,p,_⟩:=I.list h1;exact SeqAt.EqAt.int_list _ _ p.isList (by simpa [dep] using hu)
 | .str x,y,v,v',u,u',A,h,k,r,r',hu=>by
  cases h;obtain ⟨t0,rfl⟩:=r
  cases y with
  | non=>cases k;cases r';exact SeqAt.EqAt.str_none _ _
  | bl b=>cases k;cases r';exact SeqAt.EqAt.str_bool _ _ _
  | int b=>cases k;obtain ⟨t,rfl⟩:=r';exact SeqAt.EqAt.str_int _ _ _ _
  | str b=>cases k;obtain ⟨t,rfl⟩:=r';exact SeqAt.EqAt.str_str _ _ _ _
  | tup ys=>obtain ⟨a,vs,rfl,h1,h2⟩:=k;cases r';obtain ⟨_,_,p,_⟩:=I.tuple h1;exact SeqAt.EqAt.str_tuple _ _ p (by simpa [dep] using hu)
  | lst ys=>obtain ⟨a,vs,rfl,h1,h2⟩:=k;cases r';obtain ⟨_,_,p,_⟩:=I.list h1;exact SeqAt.EqAt.str_list _ _ p.isList (by simpa [dep] using hu)
 | .tup xs,y,v,v',u,u',A,h,k,r,r',hu=>by
  have h0:=h
  obtain ⟨a,vs,rfl,h1,h2⟩:=h
  cases r
  obtain ⟨is,r1,p1,_⟩:=I.tuple h1
  have hu0:A.units < cLine:=by omega
  have hu1:A.in1.units + dw xs < cLine:=by
   have e:dep (.tup xs)=dw xs + 1:=by rw [dep]
   rw [e] at hu
   show A.units + 1 + dw xs < cLine
   omega
  cases y with
  | non=>cases k;cases r';exact SeqAt.EqAt.tuple_none p1 hu0
  | bl b=>cases k;cases r';exact SeqAt.EqAt.tuple_bool _ p1 hu0
  | int b=>cases k;obtain ⟨t,rfl⟩:=r';exact SeqAt.EqAt.tuple_int _ _ p1 hu0
  | str b=>cases k;obtain ⟨t,rfl⟩:=r';exact SeqAt.EqAt.tuple_str _ _ p1 hu0
  | lst ys=>obtain ⟨b,us,rfl,k1,k2⟩:=k;cases r';obtain ⟨_,_,p,_⟩:=I.list k1;exact SeqAt.EqAt.tuple_list p1 p.isList hu0
  | tup ys =>
   have k0:=k
   obtain ⟨b,us,rfl,k1,k2⟩:=k
   cases r'
   by_cases hab:a=b
   ·subst hab
    rw [At.one I h0 k0]
    exact SeqAt.EqAt.same _
   ·obtain ⟨js,r2,p2,_⟩:=I.tuple k1
    refine SeqAt.EqAt.of_refs hab ?_
    have key:=SeqAt.RcAt.tuples (e:=xD xs ys) p1 p2 hu0 fun j q1 q2=>mw I xs ys h2 k2 r1 r2 hu1 j (by simpa using q1) (by simpa using q2)
    have e1:is.length=xs.length:=by rw [← r1.length,h2.length]
    have e2:js.length=ys.length:=by rw [← r2.length,k2.length]
    simp only [List.size_toArray] at key
    rw [e1,e2,gq] at key
    simpa [iF] using key
 | .lst xs,y,v,v',u,u',A,h,k,r,r',hu=>by
  have h0:=h
  obtain ⟨a,vs,rfl,h1,h2⟩:=h
  cases r
  obtain ⟨is,r1,p1,_⟩:=I.list h1
  have hu0:A.units < cLine:=by omega
  have hu1:A.in1.units + dw xs < cLine:=by
   have e:dep (.lst xs)=dw xs + 1:=by rw [dep]
   rw [e] at hu
   show A.units + 1 + dw xs < cLine
   omega
  cases y with
  | non=>cases k;cases r';exact SeqAt.EqAt.list_none p1.isList hu0
  | bl b=>cases k;cases r';exact SeqAt.EqAt.list_bool _ p1.isList hu0
  | int b=>cases k;obtain ⟨t,rfl⟩:=r';exact SeqAt.EqAt.list_int _ _ p1.isList hu0
  | str b=>cases k;obtain ⟨t,rfl⟩:=r';exact SeqAt.EqAt.list_str _ _ p1.isList hu0
  | tup ys=>obtain ⟨b,us,rfl,k1,k2⟩:=k;cases r';obtain ⟨_,_,p,_⟩:=I.tuple k1;exact SeqAt.EqAt.list_tuple p1.isList p hu0
  | lst ys =>
   have k0:=k
   obtain ⟨b,us,rfl,k1,k2⟩:=k
   cases r'
   by_cases hab:a=b
   ·subst hab
    rw [At.one I h0 k0]
    exact SeqAt.EqAt.same _
   ·obtain ⟨js,r2,p2,_⟩:=I.list k1
    refine SeqAt.EqAt.of_refs hab ?_
    have e1:is.length=xs.length:=by rw [← r1.length,h2.length]
    have e2:js.length=ys.length:=by rw [← r2.length,k2.length]
    have ae:=gq xs ys
    by_cases hl:xs.length=ys.length
    ·have key:=SeqAt.RcAt.lists (e:=xD xs ys) p1.isList p2.isList (by simp only [List.size_toArray];omega) hu0 fun j q1 q2=>mw I xs ys h2 k2 r1 r2 hu1 j (by simpa using q1) (by simpa using q2)
     simp only [List.size_toArray] at key
     rw [hl,Nat.min_self] at ae
     have e3:(ys.length == ys.length)=true:=by simp
     rw [e3,Bool.and_true] at ae
     rw [e1,hl,ae] at key
     simpa [iF] using key
    ·have key:=SeqAt.RcAt.lists_lengths p1.isList p2.isList (A:=A) (by simp only [List.size_toArray];rw [e1,e2];simpa using hl) hu0
     have e3:g7 xs ys=false:=by
      rw [← ae]
      have:(xs.length == ys.length)=false:=by simpa using hl
      rw [this,Bool.and_false]
     simpa [iF,e3] using key
theorem mw (I:Inv X pins σ H s):∀ (xs ys:List Py) {vs us:List V} {is js:List Value} {A:Around},nK X.K H xs vs→nK X.K H ys us→Vals vs is→Vals us js→A.units + dw xs < cLine→∀ j (h1:j < is.length) (h2:j < js.length),SeqAt.EqAt A s is[j] js[j] (xD xs ys j)
 | [],ys,vs,us,is,js,A,h,k,r,r',hu,j,h1,h2=>by
  cases h;cases r;exact absurd h1 (Nat.not_lt_zero _)
 | x :: xs,[],vs,us,is,js,A,h,k,r,r',hu,j,h1,h2=>by
  cases k;cases r';exact absurd h2 (Nat.not_lt_zero _)
 | x :: xs,y :: ys,vs,us,is,js,A,h,k,r,r',hu,j,h1,h2=>by
  obtain ⟨v,vs',rfl,a1,a2⟩:=h
  obtain ⟨v',us',rfl,b1,b2⟩:=k
  cases r with
  | cons q1 q2 =>
   cases r' with
   | cons z1 z2 =>
    have e:dw (x :: xs)=max (dep x) (dw xs):=by rw [dw]
    rw [e] at hu
    cases j with
    | zero=>exact IK I x y a1 b1 q1 z1 (by omega)
    | succ j =>
     have:=mw I xs ys a2 b2 q2 z2 (A:=A) (by omega) j (by simpa using h1) (by simpa using h2)
     simpa [xD] using this
end
theorem JI (I:Inv X pins σ H s) (x y:Py) {v v':V} {u u':Value} {A:Around} (h:At X.K H x v) (k:At X.K H y v') (r:RelV v u) (r':RelV v' u') (hu:A.units + dep x < cLine):SeqAt.RcAt A s u u' (iF x y):=by
 have hu0:A.units < cLine:=by omega
 cases x with
 | non =>
  cases h;cases r
  cases y with
  | non=>cases k;cases r';exact SeqAt.RcAt.none_none
  | bl b=>cases k;cases r';exact SeqAt.RcAt.none_bool _
  | int b=>cases k;obtain ⟨t,rfl⟩:=r';exact SeqAt.RcAt.none_int _ _
  | str b=>cases k;obtain ⟨t,rfl⟩:=r';exact SeqAt.RcAt.none_str _ _
  | tup ys=>obtain ⟨b,us,rfl,k1,k2⟩:=k;cases r';obtain ⟨js,r2,p2,_⟩:=I.tuple k1;exact SeqAt.RcAt.none_tuple p2 hu0
  | lst ys=>obtain ⟨b,us,rfl,k1,k2⟩:=k;cases r';obtain ⟨js,r2,p2,_⟩:=I.list k1;exact SeqAt.RcAt.none_list p2.isList hu0
 | bl i =>
  cases h;cases r
  cases y with
  | non=>cases k;cases r';exact SeqAt.RcAt.bool_none _
  | bl b=>cases k;cases r';exact SeqAt.RcAt.bool_bool _ _
  | int b=>cases k;obtain ⟨t,rfl⟩:=r';exact SeqAt.RcAt.bool_int _ _ _
  | str b=>cases k;obtain ⟨t,rfl⟩:=r';exact SeqAt.RcAt.bool_str _ _ _
  | tup ys=>obtain ⟨b,us,rfl,k1,k2⟩:=k;cases r';obtain ⟨js,r2,p2,_⟩:=I.tuple k1;exact SeqAt.RcAt.bool_tuple _ p2 hu0
  | lst ys=>obtain ⟨b,us,rfl,k1,k2⟩:=k;cases r';obtain ⟨js,r2,p2,_⟩:=I.list k1;exact SeqAt.RcAt.bool_list _ p2.isList hu0
 | int i =>
  cases h;obtain ⟨t0,rfl⟩:=r
  cases y with
  | non=>cases k;cases r';exact SeqAt.RcAt.int_none _ _
  | bl b=>cases k;cases r';exact SeqAt.RcAt.int_bool _ _ _
  | int b=>cases k;obtain ⟨t,rfl⟩:=r';exact SeqAt.RcAt.int_int _ _ _ _
  | str b=>cases k;obtain ⟨t,rfl⟩:=r';exact SeqAt.RcAt.int_str _ _ _ _
  | tup ys=>obtain ⟨b,us,rfl,k1,k2⟩:=k;cases r';obtain ⟨js,r2,p2,_⟩:=I.tuple k1;exact SeqAt.RcAt.int_tuple _ _ p2 hu0
  | lst ys=>obtain ⟨b,us,rfl,k1,k2⟩:=k;cases r';obtain ⟨js,r2,p2,_⟩:=I.list k1;exact SeqAt.RcAt.int_list _ _ p2.isList hu0
 | str i =>
  cases h;obtain ⟨t0,rfl⟩:=r
  cases y with
  | non=>cases k;cases r';exact SeqAt.RcAt.str_none _ _
  | bl b=>cases k;cases r';exact SeqAt.RcAt.str_bool _ _ _
  | int b=>cases k;obtain ⟨t,rfl⟩:=r';exact SeqAt.RcAt.str_int _ _ _ _
  | str b=>cases k;obtain ⟨t,rfl⟩:=r';exact SeqAt.RcAt.str_str _ _ _ _
  | tup ys=>obtain ⟨b,us,rfl,k1,k2⟩:=k;cases r';obtain ⟨js,r2,p2,_⟩:=I.tuple k1;exact SeqAt.RcAt.str_tuple _ _ p2 hu0
  | lst ys=>obtain ⟨b,us,rfl,k1,k2⟩:=k;cases r';obtain ⟨js,r2,p2,_⟩:=I.list k1;exact SeqAt.RcAt.str_list _ _ p2.isList hu0
 | tup xs =>
  obtain ⟨a,vs,rfl,h1,h2⟩:=h
  cases r
  obtain ⟨is,r1,p1,_⟩:=I.tuple h1
  have hu1:A.in1.units + dw xs < cLine:=by
   have e:dep (.tup xs)=dw xs + 1:=by rw [dep]
   rw [e] at hu
   show A.units + 1 + dw xs < cLine
   omega
  cases y with
  | non=>cases k;cases r';exact SeqAt.RcAt.tuple_none p1 hu0
  | bl b=>cases k;cases r';exact SeqAt.RcAt.tuple_bool _ p1 hu0
  | int b=>cases k;obtain ⟨t,rfl⟩:=r';exact SeqAt.RcAt.tuple_int _ _ p1 hu0
  | str b=>cases k;obtain ⟨t,rfl⟩:=r';exact SeqAt.RcAt.tuple_str _ _ p1 hu0
  | tup ys =>
   obtain ⟨b,us,rfl,k1,k2⟩:=k;cases r';obtain ⟨js,r2,p2,_⟩:=I.tuple k1
   have e1:is.length=xs.length:=by rw [← r1.length,h2.length]
   have e2:js.length=ys.length:=by rw [← r2.length,k2.length]
   have ae:=gq xs ys
   have key:=SeqAt.RcAt.tuples (e:=xD xs ys) p1 p2 hu0 fun j q1 q2=>mw I xs ys h2 k2 r1 r2 hu1 j (by simpa using q1) (by simpa using q2)
   simp only [List.size_toArray] at key
   rw [e1,e2,ae] at key
   simpa [iF] using key
  | lst ys=>obtain ⟨b,us,rfl,k1,k2⟩:=k;cases r';obtain ⟨js,r2,p2,_⟩:=I.list k1;exact SeqAt.RcAt.tuple_list p1 p2.isList hu0
 | lst xs =>
  obtain ⟨a,vs,rfl,h1,h2⟩:=h
  cases r
  obtain ⟨is,r1,p1,_⟩:=I.list h1
  have hu1:A.in1.units + dw xs < cLine:=by
   have e:dep (.lst xs)=dw xs + 1:=by rw [dep]
   rw [e] at hu
   show A.units + 1 + dw xs < cLine
   omega
  cases y with
  | non=>cases k;cases r';exact SeqAt.RcAt.list_none p1.isList hu0
  | bl b=>cases k;cases r';exact SeqAt.RcAt.list_bool _ p1.isList hu0
  | int b=>cases k;obtain ⟨t,rfl⟩:=r';exact SeqAt.RcAt.list_int _ _ p1.isList hu0
  | str b=>cases k;obtain ⟨t,rfl⟩:=r';exact SeqAt.RcAt.list_str _ _ p1.isList hu0
  | tup ys=>obtain ⟨b,us,rfl,k1,k2⟩:=k;cases r';obtain ⟨js,r2,p2,_⟩:=I.tuple k1;exact SeqAt.RcAt.list_tuple p1.isList p2 hu0
  | lst ys =>
   obtain ⟨b,us,rfl,k1,k2⟩:=k;cases r';obtain ⟨js,r2,p2,_⟩:=I.list k1
   have e1:is.length=xs.length:=by rw [← r1.length,h2.length]
   have e2:js.length=ys.length:=by rw [← r2.length,k2.length]
   have ae:=gq xs ys
   by_cases hl:xs.length=ys.length
   ·have key:=SeqAt.RcAt.lists (e:=xD xs ys) p1.isList p2.isList (by simp only [List.size_toArray];omega) hu0 fun j q1 q2=>mw I xs ys h2 k2 r1 r2 hu1 j (by simpa using q1) (by simpa using q2)
    simp only [List.size_toArray] at key
    rw [hl,Nat.min_self] at ae
    have e3:(ys.length == ys.length)=true:=by simp
    rw [e3,Bool.and_true] at ae
    rw [e1,hl,ae] at key
    simpa [iF] using key
   ·have key:=SeqAt.RcAt.lists_lengths p1.isList p2.isList (A:=A) (by simp only [List.size_toArray];rw [e1,e2];simpa using hl) hu0
    have e3:g7 xs ys=false:=by
     rw [← ae]
     have:(xs.length == ys.length)=false:=by simpa using hl
     rw [this,Bool.and_false]
    simpa [iF,e3] using key
theorem HE (I:Inv X pins σ H s) (x y:Py) {v v':V} {u u':Value} {A:Around} (h:At X.K H x v) (k:At X.K H y v') (r:RelV v u) (r':RelV v' u') (hu:A.units + dep x < cLine):SeqAt.RcNeAt A s u u' (!iF x y):=by
 have hu0:A.units < cLine:=by omega
 cases x with
 | non =>
  cases h;cases r
  cases y with
  | non=>cases k;cases r';exact SeqAt.RcNeAt.none_none
  | bl b=>cases k;cases r';exact SeqAt.RcNeAt.none_bool _
  | int b=>cases k;obtain ⟨t,rfl⟩:=r';exact SeqAt.RcNeAt.none_int _ _
  | str b=>cases k;obtain ⟨t,rfl⟩:=r';exact SeqAt.RcNeAt.none_str _ _
  | tup ys=>obtain ⟨b,us,rfl,k1,k2⟩:=k;cases r';obtain ⟨js,r2,p2,_⟩:=I.tuple k1;exact SeqAt.RcNeAt.none_tuple p2 hu0
  | lst ys=>obtain ⟨b,us,rfl,k1,k2⟩:=k;cases r';obtain ⟨js,r2,p2,_⟩:=I.list k1;exact SeqAt.RcNeAt.none_list p2.isList hu0
 | bl i =>
  cases h;cases r
  cases y with
  | non=>cases k;cases r';exact SeqAt.RcNeAt.bool_none _
  | bl b=>cases k;cases r';exact SeqAt.RcNeAt.bool_bool _ _
  | int b=>cases k;obtain ⟨t,rfl⟩:=r';exact SeqAt.RcNeAt.bool_int _ _ _
  | str b=>cases k;obtain ⟨t,rfl⟩:=r';exact SeqAt.RcNeAt.bool_str _ _ _
  | tup ys=>obtain ⟨b,us,rfl,k1,k2⟩:=k;cases r';obtain ⟨js,r2,p2,_⟩:=I.tuple k1;exact SeqAt.RcNeAt.bool_tuple _ p2 hu0
  | lst ys=>obtain ⟨b,us,rfl,k1,k2⟩:=k;cases r';obtain ⟨js,r2,p2,_⟩:=I.list k1;exact SeqAt.RcNeAt.bool_list _ p2.isList hu0
 | int i =>
  cases h;obtain ⟨t0,rfl⟩:=r
  cases y with
  | non=>cases k;cases r';exact SeqAt.RcNeAt.int_none _ _
  | bl b=>cases k;cases r';exact SeqAt.RcNeAt.int_bool _ _ _
  | int b=>cases k;obtain ⟨t,rfl⟩:=r';exact SeqAt.RcNeAt.int_int _ _ _ _
  | str b=>cases k;obtain ⟨t,rfl⟩:=r';exact SeqAt.RcNeAt.int_str _ _ _ _
  | tup ys=>obtain ⟨b,us,rfl,k1,k2⟩:=k;cases r';obtain ⟨js,r2,p2,_⟩:=I.tuple k1;exact SeqAt.RcNeAt.int_tuple _ _ p2 hu0
  | lst ys=>obtain ⟨b,us,rfl,k1,k2⟩:=k;cases r';obtain ⟨js,r2,p2,_⟩:=I.list k1;exact SeqAt.RcNeAt.int_list _ _ p2.isList hu0
 | str i =>
  cases h;obtain ⟨t0,rfl⟩:=r
  cases y with
  | non=>cases k;cases r';exact SeqAt.RcNeAt.str_none _ _
  | bl b=>cases k;cases r';exact SeqAt.RcNeAt.str_bool _ _ _
  | int b=>cases k;obtain ⟨t,rfl⟩:=r';exact SeqAt.RcNeAt.str_int _ _ _ _
  | str b=>cases k;obtain ⟨t,rfl⟩:=r';exact SeqAt.RcNeAt.str_str _ _ _ _
  | tup ys=>obtain ⟨b,us,rfl,k1,k2⟩:=k;cases r';obtain ⟨js,r2,p2,_⟩:=I.tuple k1;exact SeqAt.RcNeAt.str_tuple _ _ p2 hu0
  | lst ys=>obtain ⟨b,us,rfl,k1,k2⟩:=k;cases r';obtain ⟨js,r2,p2,_⟩:=I.list k1;exact SeqAt.RcNeAt.str_list _ _ p2.isList hu0
 | tup xs =>
  obtain ⟨a,vs,rfl,h1,h2⟩:=h
  cases r
  obtain ⟨is,r1,p1,_⟩:=I.tuple h1
  have hu1:A.in1.units + dw xs < cLine:=by
   have e:dep (.tup xs)=dw xs + 1:=by rw [dep]
   rw [e] at hu
   show A.units + 1 + dw xs < cLine
   omega
  cases y with
  | non=>cases k;cases r';exact SeqAt.RcNeAt.tuple_none p1 hu0
  | bl b=>cases k;cases r';exact SeqAt.RcNeAt.tuple_bool _ p1 hu0
  | int b=>cases k;obtain ⟨t,rfl⟩:=r';exact SeqAt.RcNeAt.tuple_int _ _ p1 hu0
  | str b=>cases k;obtain ⟨t,rfl⟩:=r';exact SeqAt.RcNeAt.tuple_str _ _ p1 hu0
  | tup ys =>
   obtain ⟨b,us,rfl,k1,k2⟩:=k;cases r';obtain ⟨js,r2,p2,_⟩:=I.tuple k1
   have e1:is.length=xs.length:=by rw [← r1.length,h2.length]
   have e2:js.length=ys.length:=by rw [← r2.length,k2.length]
   have ae:=gq xs ys
   have key:=SeqAt.RcNeAt.tuples (e:=xD xs ys) p1 p2 hu0 fun j q1 q2=>mw I xs ys h2 k2 r1 r2 hu1 j (by simpa using q1) (by simpa using q2)
   simp only [List.size_toArray] at key
   rw [e1,e2,ae] at key
   simpa [iF] using key
  | lst ys=>obtain ⟨b,us,rfl,k1,k2⟩:=k;cases r';obtain ⟨js,r2,p2,_⟩:=I.list k1;exact SeqAt.RcNeAt.tuple_list p1 p2.isList hu0
 | lst xs =>
  obtain ⟨a,vs,rfl,h1,h2⟩:=h
  cases r
  obtain ⟨is,r1,p1,_⟩:=I.list h1
  have hu1:A.in1.units + dw xs < cLine:=by
   have e:dep (.lst xs)=dw xs + 1:=by rw [dep]
   rw [e] at hu
   show A.units + 1 + dw xs < cLine
   omega
  cases y with
  | non=>cases k;cases r';exact SeqAt.RcNeAt.list_none p1.isList hu0
  | bl b=>cases k;cases r';exact SeqAt.RcNeAt.list_bool _ p1.isList hu0
  | int b=>cases k;obtain ⟨t,rfl⟩:=r';exact SeqAt.RcNeAt.list_int _ _ p1.isList hu0
  | str b=>cases k;obtain ⟨t,rfl⟩:=r';exact SeqAt.RcNeAt.list_str _ _ p1.isList hu0
  | tup ys=>obtain ⟨b,us,rfl,k1,k2⟩:=k;cases r';obtain ⟨js,r2,p2,_⟩:=I.tuple k1;exact SeqAt.RcNeAt.list_tuple p1.isList p2 hu0
  | lst ys =>
   obtain ⟨b,us,rfl,k1,k2⟩:=k;cases r';obtain ⟨js,r2,p2,_⟩:=I.list k1
   have e1:is.length=xs.length:=by rw [← r1.length,h2.length]
   have e2:js.length=ys.length:=by rw [← r2.length,k2.length]
   have ae:=gq xs ys
   by_cases hl:xs.length=ys.length
   ·have key:=SeqAt.RcNeAt.lists (e:=xD xs ys) p1.isList p2.isList (by simp only [List.size_toArray];omega) hu0 fun j q1 q2=>mw I xs ys h2 k2 r1 r2 hu1 j (by simpa using q1) (by simpa using q2)
    simp only [List.size_toArray] at key
    rw [hl,Nat.min_self] at ae
    have e3:(ys.length == ys.length)=true:=by simp
    rw [e3,Bool.and_true] at ae
    rw [e1,hl,ae] at key
    simpa [iF] using key
   ·have key:=SeqAt.RcNeAt.lists_lengths p1.isList p2.isList (A:=A) (by simp only [List.size_toArray];rw [e1,e2];simpa using hl) hu0
    have e3:g7 xs ys=false:=by
     rw [← ae]
     have:(xs.length == ys.length)=false:=by simpa using hl
     rw [this,Bool.and_false]
    simpa [iF,e3] using key
def rP (K:PySem.W.Frag) (f:Bool→Bool):R2:=fun v v' H Q=>∃ x y:Py,At K H x v∧At K H y v'∧dep x≤60∧Q (.bl (f (iF x y))) H
theorem ET (hu:X.A.units + 61 < cLine):eu X (compareOp .Eq) (rP X.K id):=by
 intro pins s σ H x y v u Q I rx ry h
 obtain ⟨a,b,h1,h2,d,q⟩:=h
 exact JI I a b h1 h2 rx ry (by omega) X.prog X.w X.xe _ ⟨.bl _,H,I,rfl,q⟩
theorem EW (hu:X.A.units + 61 < cLine):eu X (compareOp .NotEq) (rP X.K not):=by
 intro pins s σ H x y v u Q I rx ry h
 obtain ⟨a,b,h1,h2,d,q⟩:=h
 exact HE I a b h1 h2 rx ry (by omega) X.prog X.w X.xe _ ⟨.bl _,H,I,rfl,q⟩
end
end Ov
namespace Ov
open PySem PySem.Spec PySem.Calls PyProof.Rows PySem.W Builtin.Getset_descriptor
section
variable {prog:Program} {w:World} {A:Around} {E:Value→Shared→Prop} {s:Shared} {K:Frag} {x D:Addr}
structure F3 (K:Frag) (D:Addr):Prop where
 cls:(clsIn K D).isSome=true
 ga:findIn K (.ref D) "__getattribute__"=some (some (.builtin "BaseException.__getattribute__"))
 gt:findIn K (.ref D) "__getattr__"=some none
 ca:findIn K (.ref D) "__class__"=some (some (.builtin "object.__class__"))
 get:specialIn K (.builtin "object.__class__") "__get__"=some (some (.builtin "getset_descriptor.__get__"))
 tk:takesIn K (.builtin "object.__class__")=some true
 obj:mroIn K D (.type "object")=some true
 bex:subIn K (.ref D) (.type "BaseException")=some true
end
end Ov
namespace Ov
open PySem PySem.Spec PyProof.Rows L2
structure vE (P:Program) (w:World) (outer:List Env) (H:Hp) (s:Shared) (ea:Addr) (cls:Value) (H':Hp) (s':Shared):Prop where
 os:s'.os=s.os
 bare:AllBare s'.gens
 un:Un (gT outer) [] H H' s.heap s'.heap
 hok:jE P w H' s'.heap
 fl:∃ B t,Heap.FlyingW B outer ea cls (.ref t) s'.heap∧∀ b o,s'.heap.get? b=some o→(H' b≠none∨∃ o₀,s.heap.get? b=some o₀)→b ∉ gT outer→B.get? b=some o
def cF (P:Program) (w:World):nM:=fun outer H s E e s'=>∃ ea cls H',e=.ref ea∧vE P w outer H s ea cls H' s'∧E cls none H'
theorem B0 {P:Program} {w:World} {H:Hp} {h:Heap} {a:Addr} {o:HO} (x:cI P w H h a o):∃ ob,h.get? a=Option.some ob:=by
 have lt:=x.lt
 cases o with
 | lst xs=>obtain ⟨_,_,_,_,e⟩:=x;exact ⟨_,e⟩
 | tup xs=>obtain ⟨_,_,_,ob,e,_⟩:=x;exact ⟨_,e⟩
 | dK kvs=>obtain ⟨_,_,_,_,o,_,_,e,_⟩:=x;exact ⟨_,e⟩
 | dE kvs ep=>obtain ⟨_,_,_,_,o,_,e,_⟩:=x;exact ⟨_,e⟩
 | set S n=>obtain ⟨o,_,_,_,e,_⟩:=x;exact ⟨_,e⟩
 | ins C dx fs=>obtain ⟨_,_,_,e,_⟩:=x;exact ⟨_,e⟩
 | own y=>exact x
 | xd fs=>obtain ⟨_,⟨_,_,_,e,_⟩,_⟩:=x;exact ⟨_,e⟩
 | FV lo hi=>obtain ⟨_,_,_,e⟩:=x;exact ⟨_,e⟩
 | my ob u=>obtain ⟨e,_⟩:=x;exact ⟨_,e⟩
 | tbl ps=>exact ⟨_,x⟩
 | met f y=>exact ⟨_,x⟩
 | ext φ=>obtain ⟨_,e,_⟩:=x;exact e
section
variable {X:Cx} {pins:List (Addr × Obj)} {σ:L2.St} {H H':Hp} {s:Shared} {ea t:Addr} {cls:Value} {B h1 h2:Heap}
theorem g8 (I:Inv X pins σ H s) (un:Un (gT X.stack) [] H H' s.heap h1) {b:Addr} (hb:b∈gT X.stack):H' b=none∧∃ o,h1.get? b=some o∧∀ vs,o.data≠.fields vs:=by
 obtain ⟨_,o,ho,hn⟩:=I.stack.mem hb
 have n:=I.q_ b hb
 obtain ⟨sl,e⟩:=un.any ho n (by simp)
 exact ⟨un.free b o ho n (by simp),_,e,hn⟩
theorem v3 (I:Inv X pins σ H s) (un:Un (gT X.stack) [] H H' s.heap h1) (cov:∀ b o,h1.get? b=some o→(H' b≠none∨∃ o₀,s.heap.get? b=some o₀)→b ∉ gT X.stack→B.get? b=some o)
  (hB:B.StaysIn h2) (up:h1.UpToSlots h2):Un (gT X.stack) [] H H' s.heap h2 where
 keep:=fun b o e n hb hx=>hB b o (cov b o (un.keep b o e n hb hx) (.inr ⟨o,e⟩) hb)
 slot:=fun b o e n hb hx=>by
  obtain ⟨sl,e1⟩:=un.slot b o e n hb hx
  obtain ⟨_,o',e2,hn⟩:=g8 I un hb
  rw [e1] at e2;cases e2
  obtain ⟨sl',e3⟩:=up b _ e1 hn
  exact ⟨sl',e3⟩
 free:=un.free
 there:=fun b o e hx=>by
  obtain ⟨o',e1⟩:=un.there b o e hx
  by_cases hb:b∈gT X.stack
  ·obtain ⟨_,o2,e2,hn⟩:=g8 I un hb
   obtain ⟨sl',e3⟩:=up b _ e2 hn
   exact ⟨_,e3⟩
  ·exact ⟨o',hB b o' (cov b o' e1 (.inr ⟨o,e⟩) hb)⟩
 tups:=un.tups
 frzs:=un.frzs
 tbls:=un.tbls
theorem vZ (I:Inv X pins σ H s) (un:Un (gT X.stack) [] H H' s.heap h1) (cov:∀ b o,h1.get? b=some o→(H' b≠none∨∃ o₀,s.heap.get? b=some o₀)→b ∉ gT X.stack→B.get? b=some o)
  (hB:B.StaysIn h2) (ok:jE X.prog X.w H' h1):jE X.prog X.w H' h2:=fun a o e=>by
 have nf:∀ b u,H' b=some u→b ∉ gT X.stack:=fun b u q hb=>by
  have:=(g8 I un hb).1
  rw [q] at this;cases this
 refine (ok a o e).nC (fun b u hb q=>?_) (fun _ q=>q) fun _ _ q=>q
 rcases hb with rfl | hb
 ·exact hB _ _ (cov _ _ q (.inl (by rw [e];exact fun z=>nomatch z)) (nf _ _ e))
 ·exact hB _ _ (cov _ _ q (.inl (by rw [hb];exact fun z=>nomatch z)) (nf _ _ hb))
theorem yX (un:Un (gT X.stack) [] H H' s.heap h1) (ok:jE X.prog X.w H' h1) (cov:∀ b o,h1.get? b=some o→(H' b≠none∨∃ o₀,s.heap.get? b=some o₀)→b ∉ gT X.stack→B.get? b=some o) (hB:B.StaysIn h2) :
  ∀ b o,h2.get? b=some o→(H' b≠none∨∃ o₀,s.heap.get? b=some o₀)→b ∉ gT X.stack→B.get? b=some o:=fun b o e hb nb=>by
 have:∃ o1,h1.get? b=some o1:=by
  rcases hb with z | ⟨o₀,z⟩
  ·cases q:H' b with
   | none=>exact absurd q z
   | some u=>exact B0 (ok b u q)
  ·exact un.there b o₀ z (by simp)
 obtain ⟨o1,e1⟩:=this
 have c:=cov b o1 e1 hb nb
 have:=hB b o1 c
 rw [e] at this;cases this
 exact c
theorem vU {s2:Shared} (I:Inv X pins σ H s) (hst:X.stack=X.env :: X.outer) (hfr:X.env.frame=some X.env.locals) (hex:X.ex=[]) (os:s2.os=s.os) (bare:AllBare s2.gens) (un:Un (gT X.stack) [] H H' s.heap s2.heap)
  (ok:jE X.prog X.w H' s2.heap) (cov:∀ b o,s2.heap.get? b=some o→(H' b≠none∨∃ o₀,s.heap.get? b=some o₀)→b ∉ gT X.stack→B.get? b=some o) (fl:Heap.FlyingW B X.outer ea cls (.ref t) s2.heap) :
  vE X.prog X.w X.outer X.H₀ X.s₀ ea cls H' s2:=by
 have nst:∀ b o,X.s₀.heap.get? b=some o→b ∉ X.fs→b ∉ gT X.stack:=fun b o e nb hb=>by
  rcases List.mem_cons.mp (I.jA b hb) with z | z
  ·have:=Nat.lt_of_lt_of_le (Heap.lt_size e) I.ok.above
   rw [z] at this
   exact Nat.lt_irrefl _ this
  ·exact nb z
 have sub:∀ b,b∈X.fs→b∈gT X.stack:=fun b hb=>by rw [hst];unfold gT;rw [List.filterMap_cons,hfr];exact List.mem_cons_of_mem _ hb
 have nx:∀ b:Addr,b ∉ X.ex:=fun b=>by rw [hex];simp
 refine ⟨os.trans I.os,bare,⟨fun b o e n hb _=>?_,fun b o e n hb _=>?_,fun b o e n _=>?_,fun b o e _=>?_,fun b xs q=>un.tups b xs (I.base.tups b xs q),fun b o xs q=>un.frzs b o xs (I.base.frzs b o xs q),fun b ps q=>?_⟩,ok,B,t,fl,fun b o e hb nb=>?_⟩
 ·exact un.keep b o (I.base.keep b o e n hb (nx b)) (I.base.free b o e n (nx b)) (nst b o e hb) (by simp)
 ·obtain ⟨sl,e1⟩:=I.base.slot b o e n hb (nx b)
  obtain ⟨sl',e2⟩:=un.slot b _ e1 (I.base.free b o e n (nx b)) (sub b hb) (by simp)
  exact ⟨sl',e2⟩
 ·obtain ⟨o',e1⟩:=I.base.there b o e (nx b)
  exact un.free b o' e1 (I.base.free b o e n (nx b)) (by simp)
 ·obtain ⟨o',e1⟩:=I.base.there b o e (nx b)
  exact un.there b o' e1 (by simp)
 ·obtain ⟨m1,e1⟩:=I.base.tbls b ps q
  obtain ⟨m2,e2⟩:=un.tbls b _ e1
  exact ⟨m1 ++ m2,by rw [e2,Array.append_assoc]⟩
 ·rcases hb with z | ⟨o₀,z⟩
  ·exact cov b o e (.inl z) fun hb=>z (g8 I un hb).1
  ·obtain ⟨o1,e1⟩:=I.base.there b o₀ z (nx b)
   exact cov b o e (.inr ⟨o1,e1⟩) (nst b o₀ z nb)
theorem xP {E:XK} {e:Value} {s':Shared} {R:Value→Shared→Prop} (I:Inv X pins σ H s) (hst:X.stack=X.env :: X.outer) (hfr:X.env.frame=some X.env.locals) (hex:X.ex=[]) (h:cF X.prog X.w X.stack H s E e s') :
  wpAny (model X.prog X.w) X.A (leaving X.env e) (fun _ s''=>cF X.prog X.w X.outer X.H₀ X.s₀ E e s'') R s':=by
 obtain ⟨ea,cls,H',rfl,F,q⟩:=h
 obtain ⟨B,t,fl,cov⟩:=F.fl
 refine wpAny_leaves_onW (by rw [I.ok.frames,hst]) hfr (hst ▸ fl) fun h2 fl2 up=>?_
 exact ⟨ea,cls,H',rfl,vU (s2:={ s' with heap:=h2 }) I hst hfr hex F.os F.bare (v3 I F.un cov fl2.1 up) (vZ I F.un cov fl2.1 F.hok) (yX F.un F.hok cov fl2.1) fl2,q⟩
theorem leave_new {E:XK} {e C:Addr} {args:List Value} {h':Heap} {R:Value→Shared→Prop} (I:Inv X pins σ H s) (hst:X.stack=X.env :: X.outer) (hfr:X.env.frame=some X.env.locals) (hex:X.ex=[])
  (hx:Heap.MadeExcOf s.heap h' e (.ref C) args) (q:E (.ref C) none H) :
  wpAny (model X.prog X.w) X.A (leaving X.env (.ref e)) (fun _ s''=>cF X.prog X.w X.outer X.H₀ X.s₀ E (.ref e) s'') R { s with heap:=h' }:=by
 have hin:∀ env∈X.env :: X.outer,∀ a,env.frame=some a→a∈gT X.stack:=fun env he a ha=>by rw [hst];exact List.mem_filterMap.mpr ⟨env,he,ha⟩
 have cov:∀ b o,s.heap.get? b=some o→(H b≠none∨∃ o₀,s.heap.get? b=some o₀)→b ∉ gT X.stack→(PySem.W.hideAll s.heap (gT X.stack)).get? b=some o:=fun b o e _ nb=>PySem.W.hideAll_get _ e nb
 refine wpAny_leaves_madeW (base:=PySem.W.hideAll s.heap (gT X.stack)) (by rw [I.ok.frames,hst]) hfr (fun b o z=>PySem.W.of_hideAll _ z) (PySem.W.funFrames_hide (hst ▸ I.stack) hin) hx fun h2 t fl _ _ up=>?_
 have up2:s.heap.UpToSlots h2:=(Heap.UpToSlots.of_keeps hx.keeps).trans up
 exact ⟨e,.ref C,H,rfl,vU (s2:={ s with heap:=h2 }) I hst hfr hex rfl I.bare (v3 I Un.refl cov fl.1 up2) (vZ I Un.refl cov fl.1 I.hok) (yX Un.refl I.hok cov fl.1) fl,q⟩
end
abbrev IH:List Value:=[.type "ValueError",.type "Exception",.type "BaseException",.type "object"]
structure Own (K:PySem.W.Frag) (mg:Str→Option Value) (x:Str) (C:Addr):Prop where
 mg:mg x=some (.ref C)
 own:PySem.W.excIn K C IH "ValueError.__new__"=true
 xc:F3 K C
theorem B' {K:PySem.W.Frag} {h:Heap} {C:Addr} {bmB:List Value} {newId:String} (X:K.In h) (q:PySem.W.excIn K C bmB newId=true) :
  ∃ bm N nm qn bs hd sn sub ab col dd k0 k1 k2 k3 k5 mN,h.get? C=some (excClassObj nm qn C N bs bm hd sn sub ab col dd k0 k1 k2 k3 k5 newId)∧h.Ns N mN∧mN "__init__"=none∧OwnTail h bmB bm:=by
 unfold PySem.W.excIn at q
 split at q
 ·next dd cd sl ho =>
  split at q
  ·next C' bm k0 k1 k2 k3 n k5 hm hs =>
   simp only [beq_iff_eq,Bool.and_eq_true,Bool.not_eq_true'] at q
   obtain ⟨⟨⟨⟨⟨rfl,rfl⟩,e3⟩,e4⟩,e5⟩,e6⟩:=q
   cases cd with
   | mk nm bs mro ns qn hd sn sub ab col del =>
    have hm:mro=.ref C' :: bm:=hm
    have e3:del=false:=e3
    subst hm;subst e3
    have hsl:sl=#[k0,k1,k2,k3,some (.builtin n),k5]:=Array.toList_inj.mp hs
    subst hsl
    exact ⟨bm,ns,nm,qn,bs,hd,sn,sub,ab,col,dd,k0,k1,k2,k3,k5,_,X _ _ ho,.of_isNs (PySem.W.isNs_of_in X e5),PySem.W.nsMap_none_of_in X e5 e6,PySem.W.tail_of_in X e4⟩
  ·cases q
 ·cases q
def FD (C:Addr) (E:XK) (t:TA):TS:=fun _ σ H=>t σ H fun vs H1=>vs.length≤sizeLine∧E (.ref C) none H1
def Throws (X:Cx) (E:XK):Prop:=∀ (pins:List (Addr × Obj)) (σ:L2.St) (H:Hp) (s:Shared) (e C:Addr) (args:List Value) (h':Heap),Inv X pins σ H s→Heap.MadeExcOf s.heap h' e (.ref C) args→E (.ref C) none H→X.xe (.ref e) { s with heap:=h' }
theorem yn {X:Cx} {E:XK} {x:Str} {C:Addr} {e:Expr} {es:List Expr} {np cpos pos:Pos} {t:TA} (O:Own X.K X.mg x C) (hc:X.calm=true) (hx:Throws X E) (hg:Gl X x) (ha:PA X (e :: es) t)
  (hd:(x == ("__debug__":Str))=false:=by decide) (he:starEach (e :: es) X.env=(false,eval e X.env) :: starEach es X.env:=by rfl) (hpl:(backTo cpos (starEach es X.env)).any (·.1)=false:=by rfl) :
  PS X (.Raise (some (.Call (.Name x np) (e :: es) [] cpos)) none pos) (FD C E t):=by
 intro pins s σ H D I h
 obtain ⟨bm,N,nm,qn,bs,hd',sn,sub,ab,col,dd,k0,k1,k2,k3,k5,mN,hC,hN,hni,T⟩:=B' I.mod.kin O.own
 have hplain:(backTo cpos (starEach (e :: es) X.env)).any (·.1)=false:=by
  rw [he]
  show (false || (backTo cpos (starEach es X.env)).any (·.1))=false
  rw [hpl];rfl
 refine wpAny_Raise_call_subT (C:=C) (N:=N) (nm:=nm) (q:=qn) (bs:=bs) (hdct:=hd') (sn:=sn) (sub:=sub) (ab:=ab) (col:=col) (dd:=dd) (k0:=k0) (k1:=k1) (k2:=k2) (k3:=k3) (k5:=k5) PySem.F.excBase_ValueError (T.hasType (by decide +kernel)) (I.ok.hd hc) hplain hni ?_
 refine jQ I hg O.mg ⟨rfl,?_⟩ hd
 have key:=bK (ha cpos pins s σ H _ I h) (Q':=fun us s1=>us.length≤sizeLine∧s1.heap.get? C=some (excClassObj nm qn C N bs bm hd' sn sub ab col dd k0 k1 k2 k3 k5 "ValueError.__new__")∧s1.heap.Ns N mN∧OwnTail s1.heap IH bm ∧
  ∀ h' e,Heap.MadeExcOf s1.heap h' e (.ref C) us→X.xe (.ref e) { s1 with heap:=h' }) fun us s1 ⟨vs,H1,I1,r,z,q⟩ =>
   ⟨by rw [← r.length];exact z,I1.bk _ _ hC,hN.keeps I1.bk,T.keeps I1.bk,fun h' ea hm=>hx pins σ H1 s1 ea C us h' I1 hm q⟩
 rw [he] at key ⊢
 exact PySem.Calls.evalArgs_plain (bK key fun _ _ z=>⟨rfl,z⟩)
section
variable {P:Program} {w:World} {K:PySem.W.Frag} {mg:Str→Option Value} {base:Heap} {N:List Str} {qual:Str} {scope:Scope} {f:Addr} {cd:Value} {A:Around} {outer:List Env} {s:Shared} {H:Hp} {E:XK}
abbrev yH (P:Program) (w:World) (K:PySem.W.Frag) (mg:Str→Option Value) (base:Heap) (N:List Str) (qual:Str) (scope:Scope) (f:Addr) (cd:Value) (A:Around) (outer:List Env) (s:Shared) (H:Hp) (E:XK):Cx:=pH (cF P w) P w K mg base N qual scope f cd A outer s H E
theorem bY:Throws (yH P w K mg base N qual scope f cd A outer s H E) E:=fun pins σ H1 s1 e C args h' I hm q =>
 leave_new (X:=yH P w K mg base N qual scope f cd A outer s H E) I rfl rfl rfl hm q
theorem ur:Passes (cF P w) (yH P w K mg base N qual scope f cd A outer s H E) E:=fun pins σ H1 s1 e s' I h =>
 xP (X:=yH P w K mg base N qual scope f cd A outer s H E) I rfl rfl rfl h
theorem bI:PassesOwn (model P w) (yH P w K mg base N qual scope f cd A outer s H E).A (yH P w K mg base N qual scope f cd A outer s H E).env (yH P w K mg base N qual scope f cd A outer s H E).xe:=PassesOwn.leaving
theorem K3 {x qual:Str} {st:Stmt} {f:Addr} {fd:FuncData} {N ps:List Str} {k:Nat} {sp:Sp} (F:bQ K x qual st f fd) (S:aw N ps (aj st)) (len:∀ vs H Q E,sp vs H Q E→vs.length=ps.length)
  (hbody:∀ (cdv:Value) (A:Around) (outer:List Env) (s:Shared) (H:Hp) (vs:List V) (Q:VK) (E:XK),bE k (A.deeper (envOfC qual (aj st) s.heap.objs.size f cdv))→sp vs H Q E →
   ∃ t,QB (yH P w K mg base N qual (aj st) f cdv A outer s H E) (bJ st) t∧t { nx:=fun _ H'=>Q .non H',rt:=Q } (start N vs) H):aH P w K mg base (cF P w) (k + 1) f fd ps sp:=by
 obtain ⟨oc,od,kV,doc,pm,an,cdv,ct,osl,rfl,lk,hcd⟩:=F.ex
 refine y_ lk hcd S len fun A outer s H vs Q E hr hsp=>?_
 obtain ⟨t,h,q⟩:=hbody cdv A outer s H vs Q E hr hsp
 exact ⟨t,h.run,q⟩
end
def yK (P:Program) (w:World) (K:PySem.W.Frag) (mg:Str→Option Value) (base:Heap) (k:Nat) (x:Str) (ps:List Str) (sp:Sp):Prop :=
 ∃ f fd,aH P w K mg base (cF P w) k f fd ps sp∧Binds K fd ps []∧PySem.W.keepIn K (.ref f)=true∧mg x=some (.ref f)
theorem Ca {X:Cx} {k k':Nat} {x:Str} {ps:List Str} {sp:Sp} {p pos:Pos} {e:Expr} {es:List Expr} {t:TA} {E:XK} (C:yK X.prog X.w X.K X.mg X.base k x ps sp) (hx:Passes (cF X.prog X.w) X E) (hr:bE k' X.A) (hk:k≤k') (hg:Gl X x) (ha:PA X (e :: es) t)
  (hdb:(x == ("__debug__":Str))=false:=by decide) (he:starEach (e :: es) X.env=(false,eval e X.env) :: starEach es X.env:=by rfl) (hpl:(backTo pos (starEach es X.env)).any (·.1)=false:=by rfl) :
  PE X (.Call (.Name x p) (e :: es) [] pos) (nF sp [] E t):=by
 obtain ⟨f,fd,F,b,kp,m⟩:=C
 exact wx F (hr.mono hk) hg m kp b .nil hx ha hdb he hpl
theorem Def.II {P:Program} {w:World} {K:PySem.W.Frag} {mg:Str→Option Value} {base:Heap} {x:Str} {st:Stmt} {k:Nat} {ps:List Str} {sp:Sp} (D:Def K mg x st)
  (h:∀ f fd,bQ K x x st f fd→aH P w K mg base (cF P w) k f fd ps sp)
  (hb:∀ (kV doc pm:Value) (an:Option Addr) (cdv ct:Value) (us:List Value),us.length=ps.length→bindArgs (PySem.W.fnOf x x (cJ st) (bJ st) (aj st) .none kV doc pm an cdv ct) ⟨us,[]⟩=pure (ps.zip us)) :
  yK P w K mg base k x ps sp:=by
 obtain ⟨f,fd,F,m⟩:=D
 exact ⟨f,fd,h f fd F,F.binds hb,F.kp,m⟩
section
variable {X:Cx} {pins pn:List (Addr × Obj)} {σ:L2.St} {H H':Hp} {s:Shared}
theorem vE.new {ea:Addr} {cls:Value} {s':Shared} (I:Inv X pins σ H s) (F:vE X.prog X.w X.stack H s ea cls H' s'):H' ea=none∧s.heap.get? ea=none:=by
 obtain ⟨B,t,fl,cov⟩:=F.fl
 obtain ⟨oe,vs,he,_,hd,_⟩:=fl.first
 have nf:ea ∉ gT X.stack:=fun hb=>by
  obtain ⟨_,o,ho,hn⟩:=g8 I F.un hb
  rw [he] at ho;cases ho
  exact hn vs hd
 have no:¬ (H' ea≠none∨∃ o₀,s.heap.get? ea=some o₀):=fun z=>by
  have:=cov ea oe he z nf
  rw [fl.2.1] at this;cases this
 refine ⟨?_,?_⟩
 ·cases q:H' ea with
  | none=>rfl
  | some u=>exact absurd (.inl (by rw [q];exact fun z=>nomatch z)) no
 ·cases q:s.heap.get? ea with
  | none=>rfl
  | some u=>exact absurd (.inr ⟨u,q⟩) no
end
end Ov
namespace Ov
open PySem PySem.Spec PyProof.Rows
open L2 (V HO Hp Inv Cx St VK TE TT TA TS Ends Loc Gl RelV Vals eu bP nF upd E0 bE XK Passes)
section
variable {X:Cx} {e:Expr} {es:List Expr} {t:TA} {x:Str} {np cpos pos p:Pos}
end
open PySem.W in
def Bh (K:Frag) (D:Addr):Bool:=(clsIn K D).isSome && findIn K (.ref D) "__getattribute__" == some (some (.builtin "BaseException.__getattribute__")) && findIn K (.ref D) "__getattr__" == some none &&
 findIn K (.ref D) "__class__" == some (some (.builtin "object.__class__")) && specialIn K (.builtin "object.__class__") "__get__" == some (some (.builtin "getset_descriptor.__get__")) && takesIn K (.builtin "object.__class__") == some true &&
 mroIn K D (.type "object") == some true && subIn K (.ref D) (.type "BaseException") == some true
theorem C_ {K:PySem.W.Frag} {D:Addr} (h:Bh K D=true):F3 K D:=by
 simp only [Bh,Bool.and_eq_true,beq_iff_eq] at h
 obtain ⟨⟨⟨⟨⟨⟨⟨a,b⟩,c⟩,d⟩,e⟩,f⟩,g⟩,i⟩:=h
 exact ⟨a,b,c,d,e,f,g,i⟩
open L2 (vw A7 tZ vB yw tC D0 mz)
theorem _root_.L2.bE.aT {k:Nat} {A:Around} (r:bE k A):A.units + 61 < cLine:=by have:=r.un;omega
end Ov
namespace Ov
open PySem PySem.Spec PyProof.Rows L2
def dC (P:Addr) (h:Heap):Prop:=∃ ps:Array Value,h.get? P=some { cls:=.none,data:=.fields ps }∧TriplesOk ps.toList
def oG (K:PySem.W.Frag) (c P:Addr):Prop:=c≠P∧∃ (o:Obj) (vs:Array Value) (file:Str) (tf:Tok) (flags:Int) (tg:Tok) (inF:Bool) (text:Int) (tt:Tok),
 K.lookup c=some o∧o.cls=.type "code"∧o.data=.fields vs∧vs[11]?=some (.ref P)∧vs.getD 18 .none=.str file tf∧vs.getD 7 .none=.int flags tg∧vs.getD 9 .none=.bool inF∧vs.getD 10 .none=.int text tt
def BMain (mg:Str→Option Value) (h:Heap):Prop:=∃ bm ob,mg "__builtins__"=some (.ref bm)∧bm≠builtinsNs∧h.get? bm=some ob∧ob.cls=.type "module"∧ob.dict=some builtinsNs∧ob.data=.plain
theorem oG.at {K:PySem.W.Frag} {h:Heap} {c P:Addr} {ps:Array Value} (Z:oG K c P) (X:K.In h) (hp:h.get? P=some { cls:=.none,data:=.fields ps }) (tr:TriplesOk ps.toList):h.IsCode c P ps∧h.TableAt c P ps:=by
 obtain ⟨ne,o,vs,file,tf,flags,tg,inF,text,tt,lk,hc,hd,h11,h18,h7,h9,h10⟩:=Z
 have e11:vs.getD 11 .none=.ref P:=by
  rw [Array.getD_eq_getD_getElem?,h11];rfl
 exact ⟨⟨o,vs,file,tf,flags,tg,inF,text,tt,_,X _ _ lk,hd,e11,h18,h7,h9,h10,hp,rfl,tr,ne⟩,⟨o,vs,X _ _ lk,hc,hd,h11⟩,hp⟩
section
variable {X:Cx} {pins:List (Addr × Obj)} {σ:L2.St} {H:Hp} {s:Shared} {c P:Addr}
theorem BI {s':Shared} (I:Inv X pins σ H s) (hP:H P=some (.ext (dC P))) (os:s'.os=s.os) (bare:AllBare s'.gens) (k:∀ b o,b≠P→s.heap.get? b=some o→s'.heap.get? b=some o) (t:dC P s'.heap):Inv X pins σ H s':=by
 have nP:∀ b,H b=none→b≠P:=fun b n z=>by rw [z,hP] at n;cases n
 have hok:jE X.prog X.w H s'.heap:=fun b u e=>by
  by_cases hb:b=P
  ·subst hb
   rw [hP] at e;cases e
   obtain ⟨ps,hp,_⟩:=id t
   exact ⟨t,⟨_,hp⟩,((I.hok b _ hP)).2.2⟩
  ·refine (I.hok b u e).nC (fun d v hd q=>k d v ?_ q) (fun _ q=>q) fun _ _ q=>q
   rcases hd with rfl | hd
   ·exact hb
   ·intro z
    rw [z,hP] at hd;cases hd
 have un:Un (gT X.stack) [] H H s.heap s'.heap:=⟨fun b o e n _ _=>k b o (nP b n) e,fun b o e n _ _=>⟨o.slots,k b o (nP b n) e⟩,fun _ _ _ n _=>n,fun b o e _=>by
  by_cases hb:b=P
  ·subst hb
   obtain ⟨ps,hp,_⟩:=t
   exact ⟨_,hp⟩
  ·exact ⟨o,k b o hb e⟩,fun _ _ q=>q,fun _ _ _ q=>q,fun _ ps q=>⟨#[],by rw [q];simp⟩⟩
 exact I.Ge os un hok bare fun b z=>absurd z (by simp)
theorem zh {M:Model} {A:Around} {E:Value→Shared→Prop} {env:Env} {pos:Pos} {q:Str} {sc:Scope} {Q:Value→Shared→Prop} {s:Shared} (hc:env.code=.ref c) (Z:oG X.K c P) (kin:X.K.In s.heap) (t:dC P s.heap)
  (h:∀ code h' tk,(∀ b o,b≠P→s.heap.get? b=some o→h'.get? b=some o)→s.heap.objs.size≤h'.objs.size→dC P h'→Q code { s with heap:=h',toks:=tk }):wpAny M A (genexprCode env pos q sc) Q E s:=by
 obtain ⟨ps,hp,tr⟩:=t
 obtain ⟨ic,ta⟩:=Z.at kin hp tr
 cases hf:codeAmong pos ps.toList with
 | some c'=>exact wpAny_genexprCode_hit hc ic hf (h c' s.heap s.toks (fun _ _ _ e=>e) (Nat.le_refl _) ⟨ps,hp,tr⟩)
 | none =>
  refine wpAny_genexprCodeX hc ic ta hf fun c' h' tk ext l1 l2 ic' _ ta' _=>h _ h' tk (fun b o nb e=>ext b o nb e) (Nat.le_of_lt (Nat.lt_of_le_of_lt l1 l2)) ⟨_,ta'.2,?_⟩
  obtain ⟨_,_,_,_,_,_,_,_,_,_,_,_,_,_,_,_,_,hop,hpd,tr',_⟩:=ic'
  exact tr'
theorem yR {α:Type} (B:List α) (q:α→Bool):((List.range B.length).all fun j=>(B[j]?).elim true q)=B.all q:=by
 rw [Bool.eq_iff_iff,List.all_eq_true,List.all_eq_true]
 refine ⟨fun h b hb=>?_,fun h j hj=>?_⟩
 ·obtain ⟨j,hj,rfl⟩:=List.getElem_of_mem hb
  have:=h j (List.mem_range.mpr hj)
  rwa [List.getElem?_eq_getElem hj] at this
 ·have hj:=List.mem_range.mp hj
  rw [List.getElem?_eq_getElem hj]
  exact h _ (List.getElem_mem hj)
def dB (tx:Str) (ch:Nat):Bool:=!(Builtin.Str.occurrences tx ⟨#[ch]⟩ 0 tx.length 1).isEmpty
def A4 (P:Addr) (tx:Str) (ti:TE):TE:=fun σ H Q=>ti σ H fun v H1=>∃ y:Str,v=.str y∧H1 P=some (.ext (dC P))∧Q (.bl (y.cps.toList.all (dB tx))) H1
theorem Ax {prog:Program} {w:World} {env:Env} {scope:Scope} {x g:Str} {tx y:Str} {tt:Tok} {C:Addr} {code:Value} {fp wr:List Addr} {href:Heap} {D U:Nat} {p1 p2 p3:Pos} {mg:Str→Option Value} (sck:scope.kind=.function) (hx:scope.names.lookup x=some .local) (hg:scope.names.lookup g=some .globalImplicit)
  (ns:href.Ns env.globals mg) (hm:mg g=some (.str tx tt)) (h1:env.globals∈fp) (h2:env.globals ∉ wr) (hmk:behindInMarks .In (.Name g p2)=false) (hdx:(x == ("__debug__":Str))=false) (hdg:(g == ("__debug__":Str))=false) :
  QuietGenD prog w (genEnv scope [] C code builtinsNs env) x [] (.Compare (.Name x p1) [.In] [.Name g p2] p3) fp wr (SignAt y) (fun _=>true) (fun i v=>∃ ch,y.cps[i]?=some ch∧v=.bool (dB tx ch)) href D U where
 tests:=fun A' E' i v s₂ m₂ _ _ _ _ _ _ _=>wpAny_pure ⟨rfl,_,_,rfl,fun _ _ e=>e⟩
 elt:=fun A' E' i v s₂ m₂ _ _ _ hP _ hn hmx hk=>by
  obtain ⟨ch,u,hch,rfl⟩:=hP
  refine wpAny_Compare1 (wpAny_Name (wpAny_loadName_local (show (genEnv scope [] C code builtinsNs env).scope.kind=.function from sck) (show (genEnv scope [] C code builtinsNs env).kindOf x=some .local from hx) hn hmx ?_) hdx) hmk
  refine Calls.Name_function_global (show (genEnv scope [] C code builtinsNs env).scope.kind=.function from sck) (show (genEnv scope [] C code builtinsNs env).kindOf g=some .globalImplicit from hg) (Calls.loadGlobal_global (ns.at' fun o e=>hk _ h1 h2 o e) hm ?_) hdg
  exact in_str ⟨⟨ch,hch,rfl⟩,_,_,rfl,fun _ _ e=>e⟩
theorem yi {x g:Str} {p px p1 p2 p3 gpos cpos:Pos} {iter:Expr} {ti:TE} {scope:Scope} {tx:Str} {tt:Tok} (hcalm:X.calm=true) (Bm:BMain X.mg X.base) (hcode:X.env.code=.ref c) (Z:oG X.K c P) (hdep:X.A.depth < recursionLimit)
  (hgl:Gl X "all") (hma:X.mg "all"=none) (hsg:X.mg g=some (.str tx tt)) (hi:PE X iter ti) (sck:scope.kind=.function) (hco:scope.isCoroutine=false) (hclos:closureFor scope X.env=pure []) (hcell:∀ y∈scope.names,y.2≠.cell)
  (h0:scope.names.lookup (".0":Str)=some NameKind.local) (hx:scope.names.lookup x=some .local) (hsc:scope.names.lookup g=some .globalImplicit) (hmk:behindInMarks .In (.Name g p2)=false) (hs:∀ x,genFold iter X.env x=pure x)
  (hst:starEach [.GeneratorExp (.Compare (.Name x p1) [.In] [.Name g p2] p3) [⟨.Name x px,iter,[],0⟩] scope gpos] X.env=[(false,eval (.GeneratorExp (.Compare (.Name x p1) [.In] [.Name g p2] p3) [⟨.Name x px,iter,[],0⟩] scope gpos) X.env)])
  (hdx:(x == ("__debug__":Str))=false) (hdg:(g == ("__debug__":Str))=false) :
  PE X (.Call (.Name "all" p) [.GeneratorExp (.Compare (.Name x p1) [.In] [.Name g p2] p3) [⟨.Name x px,iter,[],0⟩] scope gpos] [] cpos) (A4 P tx ti):=by
 intro pins s σ H Q I h
 refine wpAny_Call_Name_kw (jq I hgl hma PyProof.Rows.Boot.«all» ?_)
 refine PyProof.Rows.callWith_builtin1 ?_ hst rfl
 rw [hst]
 show wpAny _ _ (spliced ((false,eval (.GeneratorExp (.Compare (.Name x p1) [.In] [.Name g p2] p3) [⟨.Name x px,iter,[],0⟩] scope gpos) X.env) :: [])) _ _ s
 refine Calls.spliced_cons ?_
 refine wpAny_GeneratorExp_walksQD (I.ok.hd hcalm) hco hclos hcell h0 hx sck hdep ?_ hs
 refine bK (hi pins s σ H _ I h) fun xv s1 ⟨v,H1,I1,r1,y,ev,hP,q⟩=>?_
 subst ev
 obtain ⟨ty,rfl⟩:=r1
 have t1:dC P s1.heap:=(I1.hok P _ hP).1
 have ltP:P < s1.heap.objs.size:=I1.hok.lt hP
 refine wpAny_pyIter_str fun o St W st0=>?_
 have k1:∀ b ob,s1.heap.get? b=some ob→(s1.heap.push o).get? b=some ob:=fun b ob e=>Heap.get?_push_of_some _ e
 refine ⟨I1.nolimit.keeps k1,?_⟩
 have t2:dC P (s1.heap.push o):=let ⟨ps,hp,tr⟩:=t1;⟨ps,k1 _ _ hp,tr⟩
 refine zh (X:=X) (s:={ s1 with heap:=s1.heap.push o }) hcode Z (I1.jP.keeps k1) t2 fun code h' tk k sz t'=>?_
 have kk:∀ b ob,b≠P→s1.heap.get? b=some ob→h'.get? b=some ob:=fun b ob nb e=>k b ob nb (k1 b ob e)
 have nsP:∀ (b:Addr) (m:Str→Option Value),s1.heap.Ns b m→b≠P:=fun b m hn z=>by
  obtain ⟨ob,es,ep,ho,hd,_⟩:=hn
  obtain ⟨ps,hp,_⟩:=t1
  rw [z,hp] at ho;cases ho;cases hd
 have nsK:∀ (b:Addr) (m:Str→Option Value),s1.heap.Ns b m→h'.Ns b m:=fun b m hn=>hn.at' fun ob e=>kk b ob (nsP b m hn) e
 have nsG:s1.heap.Ns X.env.globals X.mg:=by rw [I1.ok.glob];exact I1.mod.glob.keeps I1.bk
 have nl:h'.NoLimit:=let ⟨mc,h1,h2⟩:=I1.nolimit;⟨mc,nsK _ _ h1,h2⟩
 have ltC:cStatics < s1.heap.objs.size:=let ⟨mc,h1,_⟩:=I1.nolimit;h1.lt
 have szI:s1.heap.objs.size < h'.objs.size:=Nat.lt_of_lt_of_le (by rw [Heap.size_push];exact Nat.lt_succ_self _) sz
 obtain ⟨bm,ob,b1,b2,b3,b4,b5,b6⟩:=Bm
 have b3':=I1.bk _ _ b3
 have nbm:bm≠P:=fun z=>by
  obtain ⟨ps,hp,_⟩:=t1
  rw [z,hp] at b3'
  rw [← Option.some.inj b3'] at b6;cases b6
 refine wpAny_builtinsFor (nsK _ _ nsG) b1 b2 (kk _ _ nbm b3') b4 b5 b6 ?_
 refine ⟨s1.heap.objs.size,[s1.heap.objs.size],[s1.heap.objs.size],y.cps.size,SignAt y,St,fun _=>true,fun i v=>∃ ch,y.cps[i]?=some ch∧v=.bool (dB tx ch),rfl,W,
  (W X.A (I.ok.hd hcalm)).frame _ _ _ st0 fun b hb o' e=>k b o' (by rw [List.mem_singleton.mp hb];exact Nat.ne_of_gt ltP) e,fun b hb=>by rw [List.mem_singleton.mp hb];exact szI,nl,
  fun hb=>Nat.ne_of_lt ltC (List.mem_singleton.mp hb),fun href kh=>Ax sck hx hsc ((nsK _ _ nsG).keeps kh) hsg (List.mem_range.mpr (nsK _ _ nsG).lt) (fun hb=>Nat.ne_of_lt nsG.lt (List.mem_singleton.mp hb)) hmk hdx hdg,fun a h5 tk5 gs hgs ltA szA k5 WS G=>?_⟩
 refine Calls.spliced_nil ?_
 have pall:passing (fun _=>true) y.cps.size 0=List.range y.cps.size:=by simp [passing]
 have WS:=WS.in4_1
 refine call_all_walkS (WS.self 0 _ _ _ G ⟨a,_,_,_,_,_,_,(fun j=>(y.cps.toList[j]?).elim true (dB tx)),rfl,WS,G,fun j v s Q E hv hQ=>?_,fun s' hm=>?_⟩)
 ·obtain ⟨i,hi,ch,hch,rfl⟩:=hv
  rw [pall] at hi
  have hji:i=j:=by
   obtain ⟨hj,e⟩:=List.getElem?_eq_some_iff.mp hi
   simpa using e.symm
  subst hji
  have e:y.cps.toList[i]?=some ch:=by simpa using hch
  simp only [e,Option.elim] at hQ
  exact wpAny_truthy_bool hQ
 ·have nwr:∀ b,b < s1.heap.objs.size→b ∉ h'.objs.size :: [s1.heap.objs.size]:=fun b hb hm=>by
   rcases List.mem_cons.mp hm with z | z
   ·omega
   ·have:=List.mem_singleton.mp z
    omega
  refine ⟨.bl _,H1,BI I1 hP hm.os ((I1.bare.push hgs).movedS hm) (fun b o' nb e=>hm.heap b o' (nwr b (Heap.lt_size e)) (k5 b o' (kk b o' nb e))) ?_,rfl,?_⟩
  ·obtain ⟨ps,hp,tr⟩:=t'
   exact ⟨ps,hm.heap P _ (nwr P ltP) (k5 P _ hp),tr⟩
  ·rw [pall]
   have e:y.cps.size=y.cps.toList.length:=by simp
   have z:=yR y.cps.toList (dB tx)
   rw [List.length_range,e,z]
   exact q
end
section
variable {X:Cx} {c P:Addr}
theorem Af {x g:Str} {p px p1 p2 p3 gpos cpos:Pos} {iter:Expr} {ti:TE} {scope:Scope} {tx:Str} {tt:Tok} {k:Nat} (hcalm:X.calm=true) (Bm:BMain X.mg X.base) (hcode:X.env.code=.ref c) (Z:oG X.K c P) (hr:bE k X.A)
  (hgl:Gl X "all") (hma:X.mg "all"=none) (hsg:X.mg g=some (.str tx tt)) (hi:QE X iter ti) (sck:scope.kind=.function:=by rfl) (hco:scope.isCoroutine=false:=by rfl) (hclos:closureFor scope X.env=pure []:=by rfl) (hcell:∀ y∈scope.names,y.2≠.cell:=by decide)
  (h0:scope.names.lookup (".0":Str)=some NameKind.local:=by rfl) (hx:scope.names.lookup x=some .local:=by rfl) (hsc:scope.names.lookup g=some .globalImplicit:=by rfl) (hmk:behindInMarks .In (.Name g p2)=false:=by with_unfolding_all rfl) (hs:∀ x,genFold iter X.env x=pure x:=by intro _;rfl)
  (hst:starEach [.GeneratorExp (.Compare (.Name x p1) [.In] [.Name g p2] p3) [⟨.Name x px,iter,[],0⟩] scope gpos] X.env=[(false,eval (.GeneratorExp (.Compare (.Name x p1) [.In] [.Name g p2] p3) [⟨.Name x px,iter,[],0⟩] scope gpos) X.env)]:=by rfl)
  (hdx:(x == ("__debug__":Str))=false:=by decide) (hdg:(g == ("__debug__":Str))=false:=by decide) :
  QE X (.Call (.Name "all" p) [.GeneratorExp (.Compare (.Name x p1) [.In] [.Name g p2] p3) [⟨.Name x px,iter,[],0⟩] scope gpos] [] cpos) (A4 P tx ti) :=
 ⟨yi hcalm Bm hcode Z (by have:=hr.dp;omega) hgl hma hsg hi.run sck hco hclos hcell h0 hx hsc hmk hs hst hdx hdg⟩
end
structure Bp (K:PySem.W.Frag) (mg:Str→Option Value) (x:Str) (st:Stmt) (P:Addr) (f:Addr) (fd:FuncData) (c:Addr):Prop where
 fn:bQ K x x st f fd
 mg:mg x=some (.ref f)
 code:fd.code=.ref c
 tab:oG K c P
 out:K.lookup P=none
def t_ (K:PySem.W.Frag) (mg:Str→Option Value) (x:Str) (st:Stmt) (P:Addr):Prop:=∃ f fd c,Bp K mg x st P f fd c
section
variable {P:Program} {w:World} {K:PySem.W.Frag} {mg:Str→Option Value} {base:Heap}
theorem K2 {x:Str} {st:Stmt} {T f c:Addr} {fd:FuncData} {N ps:List Str} {k:Nat} {sp:Sp} (F:Bp K mg x st T f fd c) (S:aw N ps (aj st)) (len:∀ vs H Q E,sp vs H Q E→vs.length=ps.length)
  (hbody:∀ (A:Around) (outer:List Env) (s:Shared) (H:Hp) (vs:List V) (Q:VK) (E:XK),bE k (A.deeper (envOfC x (aj st) s.heap.objs.size f (.ref c)))→sp vs H Q E →
   ∃ t,QB (pH ma P w K mg base N x (aj st) f (.ref c) A outer s H E).EM (bJ st) t∧t { nx:=fun _ H'=>Q .non H',rt:=Q } (start N vs) H):aH P w K mg base ma (k + 1) f fd ps sp:=by
 obtain ⟨oc,od,kV,doc,pm,an,cdv,ct,osl,rfl,lk,hcd⟩:=F.fn.ex
 obtain rfl:cdv=.ref c:=F.code
 refine y_ lk hcd S len fun A outer s H vs Q E hr hsp=>?_
 obtain ⟨t,h,q⟩:=hbody A outer s H vs Q E hr hsp
 exact ⟨t,h.run.EM,q⟩
theorem t_.yW {x:Str} {st:Stmt} {T:Addr} {k:Nat} {ps:List Str} {sp:Sp} (D:t_ K mg x st T)
  (h:∀ f fd c,Bp K mg x st T f fd c→aH P w K mg base ma k f fd ps sp)
  (hb:∀ (kV doc pm:Value) (an:Option Addr) (cdv ct:Value) (us:List Value),us.length=ps.length→bindArgs (PySem.W.fnOf x x (cJ st) (bJ st) (aj st) .none kV doc pm an cdv ct) ⟨us,[]⟩=pure (ps.zip us)) :
  nJ P w K mg base k x ps sp:=by
 obtain ⟨f,fd,c,F⟩:=D
 exact ⟨f,fd,h f fd c F,F.fn.binds hb,F.fn.kp,F.mg⟩
end
def codeB (vs:Array Value):Bool:=(match vs.getD 18 .none with | .str _ _=>true | _=>false) && (match vs.getD 7 .none with | .int _ _=>true | _=>false) && (match vs.getD 9 .none with | .bool _=>true | _=>false) && (match vs.getD 10 .none with | .int _ _=>true | _=>false)
theorem Bv {K:PySem.W.Frag} {h:Heap} {mg:Str→Option Value} {x:Str} {st:Stmt} (X:K.In h) (G:h.Ns mainGlobals mg) {f c T:Addr} {od an od':Option Addr} {sl sl':Array (Option Value)} {vs:Array Value} {oc kV dc pm ct:Value}
  (a:PySem.W.nsIn K mainGlobals x=some (some (.ref f))) (l:K.lookup f=some ⟨oc,od,.func (PySem.W.fnOf x x (cJ st) (bJ st) (aj st) .none kV dc pm an (.ref c) ct),sl⟩) (cc:PySem.W.codeIn K (.ref c) x=true) (k:PySem.W.keepIn K (.ref f)=true)
  (t:K.lookup c=some ⟨.type "code",od',.fields vs,sl'⟩) (p:vs[11]?=some (.ref T)) (b:codeB vs=true) (ne:c≠T) (out:K.lookup T=none):t_ K mg x st T:=by
 refine ⟨f,_,c,ux l cc k,PySem.W.mg_of X G a,rfl,⟨ne,?_⟩,out⟩
 simp only [codeB,Bool.and_eq_true] at b
 obtain ⟨⟨⟨b1,b2⟩,b3⟩,b4⟩:=b
 cases e1:vs.getD 18 .none with
 | str file tf =>
  cases e2:vs.getD 7 .none with
  | int fl tg =>
   cases e3:vs.getD 9 .none with
   | bool inF =>
    cases e4:vs.getD 10 .none with
    | int text tt=>exact ⟨_,vs,file,tf,fl,tg,inF,text,tt,t,rfl,rfl,p,e1,e2,e3,e4⟩
    | _=>rw [e4] at b4;cases b4
   | _=>rw [e3] at b3;cases b3
  | _=>rw [e2] at b2;cases b2
 | _=>rw [e1] at b1;cases b1
def F1 (K:PySem.W.Frag) (mg:Str→Option Value) (names:List Str) (T:Addr):Prop:=∃ x∈names,∃ st,t_ K mg x st T
theorem xN {P:Program} {w:World} {K:PySem.W.Frag} {mg mb:Str→Option Value} {k:Nat} {fa a:Addr} {fd:FuncData} {x:Str} {sp:Sp} {s₁:Shared} {vs:List Value} {ns:List Int} {tabs:List Addr}
  (KX:K.In s₁.heap) (hns:s₁.heap.Ns mainGlobals mg) (hb:s₁.heap.Ns builtinsNs mb) (hbb:∀ x:Str,x≠"__name__"→mb x=bootBuiltins x) (hlim:s₁.heap.NoLimit) (hg:s₁.gens=#[])
  (ha:s₁.heap.get? a=some { cls:=.type "list",data:=.seq vs.toArray }) (hi:IntsAre vs ns) (hl:ns.length≤sizeLine) (hr:bE k callerA) (hbm:BMain mg s₁.heap)
  (htab:∀ T∈tabs,isCodeTable s₁.heap T∧s₁.heap.get? T=some { cls:=.none,data:=.fields #[] }∧K.lookup T=none)
  (F:∀ base:Heap,K.In base→base.Ns mainGlobals mg→BMain mg base→aH P w K mg base ma k fa fd [x] sp) (hbind:∀ (s:Shared) (u:Value),BindsTo s fd ⟨[u],[]⟩ [(x,u)])
  (hsp:∀ H:Hp,(∀ T∈tabs,H T=some (.ext (dC T)))→cD K H a (ns.map V.int)→(∀ b,H b≠none→b=a∨b∈tabs)→(∀ u,H a=some u→∃ o xs,u=.my o (.lst xs))→sp [.ref a] H (fun v H'=>v=.bl true∧ba H H') fun _ _ _=>False) :
  codeAny (model P w) callerA (.call (.ref fa) ⟨[.ref a],[]⟩) (fun r s'=>r=.ok (.ret (.bool true))∧OldK s₁.heap s'.heap∧s'.os=s₁.os∧AllBare s'.gens) s₁:=by
 have rv:=pB hi
 have lenV:=hi.length
 have naT:∀ T∈tabs,T≠a:=fun T hT z=>by
  have:=(htab T hT).2.1
  rw [z,ha] at this
  have h1:=congrArg Obj.cls (Option.some.inj this)
  cases h1
 have core:∀ H:Hp,(∀ T∈tabs,H T=some (.ext (dC T)))→cD K H a (ns.map V.int)→jE P w H s₁.heap→(∀ b,H b≠none→b=a∨b∈tabs)→(∀ u,H a=some u→K.lookup a=none∧∃ o xs,u=.my o (.lst xs)) →
   codeAny (model P w) callerA (.call (.ref fa) ⟨[.ref a],[]⟩) (fun r s'=>r=.ok (.ret (.bool true))∧OldK s₁.heap s'.heap∧s'.os=s₁.os∧AllBare s'.gens) s₁:=by
  intro H hT hS hok hA hK
  have base_of:∀ {b:Addr} {o:Obj},s₁.heap.get? b=some o→H b=none→(nS s₁.heap H).get? b=some o:=fun e n=>zk e n
  have no:∀ {b:Addr} {o:Obj},s₁.heap.get? b=some o→(∀ xs n,o.data≠.seq xs n)→(∀ xs,o.data≠.fields xs)→H b=none:=fun {b o} e d1 d2=>by
   cases q:H b with
   | none=>rfl
   | some u =>
    rcases hA b (by rw [q];simp) with rfl | hb
    ·rw [ha] at e;cases e;exact absurd rfl (d1 _ _)
    ·rw [(htab b hb).2.1] at e;cases e;exact absurd rfl (d2 _)
  have nsK:∀ {b:Addr} {m:Str→Option Value},s₁.heap.Ns b m→(nS s₁.heap H).Ns b m:=fun {b m} ⟨o,es,ep,e,d,r⟩=>⟨o,es,ep,base_of e (no e (fun _ _ z=>by rw [d] at z;cases z) fun _ z=>by rw [d] at z;cases z),d,r⟩
  have hKb:K.In (nS s₁.heap H):=fun b o e=>base_of (KX b o e) (by
   cases q:H b with
   | none=>rfl
   | some u =>
    rcases hA b (by rw [q];simp) with rfl | hb
    ·have:=(hK u q).1
     exact absurd (this.symm.trans e) (fun z=>nomatch z)
    ·have:=(htab b hb).2.2
     exact absurd (this.symm.trans e) (fun z=>nomatch z))
  have hM:Mod K mg (nS s₁.heap H):=⟨hKb,nsK hns,⟨mb,nsK hb,hbb⟩,let ⟨mc,h1,h2⟩:=hlim;⟨mc,nsK h1,h2⟩⟩
  have hbm':BMain mg (nS s₁.heap H):=by
   obtain ⟨bm,ob,b1,b2,b3,b4,b5,b6⟩:=hbm
   exact ⟨bm,ob,b1,b2,base_of b3 (no b3 (fun _ _ z=>by rw [b6] at z;cases z) fun _ z=>by rw [b6] at z;cases z),b4,b5,b6⟩
  have e0:ua P w K mg (nS s₁.heap H) callerA [] s₁ H:=⟨rfl,hM,fun b o e=>B1 e,Nat.le_of_eq (xI _ _),trivial,fun b hb=>absurd (show b∈([]:List Addr) from hb) (by simp),hok,.of_eq hg⟩
  refine codeAny_mono ((F _ hKb (nsK hns) hbm').run callerA [] s₁ H ⟨[.ref a],[]⟩ [.ref a] [.ref a] _ _ hr e0 (hbind s₁ (.ref a)) (.cons rfl .nil) (hsp H hT hS hA fun u z=>(hK u z).2)) fun r s' h=>?_
  cases r with
  | error e=>exact False.elim h
  | ok fl =>
   cases fl with
   | next=>exact False.elim h
   | brk=>exact False.elim h
   | cont=>exact False.elim h
   | ret u =>
    obtain ⟨v,H',os,bare,un,hok',r',rfl,same⟩:=h
    obtain rfl:u=Value.bool true:=r'
    refine ⟨rfl,⟨fun b o e=>?_,fun b o e=>?_⟩,os,bare⟩
    ·cases q:H b with
     | none=>exact .inl (un.keep b o e q (by intro z;exact absurd (show b∈([]:List Addr) from z) (by simp)) (by simp))
     | some u =>
      have q':=same b u q
      rcases hA b (by rw [q];simp) with rfl | hb'
      ·obtain ⟨_,ob,xs,rfl⟩:=hK u q
       obtain ⟨e1,_⟩:=hok _ _ q
       obtain ⟨e2,_⟩:=hok' _ _ q'
       rw [e] at e1;cases e1
       exact .inl e2
      ·have hz:=hT b hb'
       rw [q] at hz;cases hz
       obtain ⟨⟨ps,hp,_⟩,_⟩:=hok' _ _ q'
       obtain ⟨t1,t2,_⟩:=htab b hb'
       rw [t2] at e;cases e
       exact .inr (.inl ⟨t1,rfl,#[],ps,rfl,by rw [hp];simp⟩)
    ·exact un.there b o e (by simp)
 have hTt:∀ T∈tabs,∀ H:Hp,cI P w H s₁.heap T (.ext (dC T)):=fun T hT H=>by
  have:=(htab T hT).2.1
  exact ⟨⟨#[],this,trivial⟩,⟨_,this⟩,fun h1 h2 ⟨ps,hp,tr⟩ kk=>⟨ps,kk _ hp,tr⟩⟩
 cases hk:K.lookup a with
 | some o =>
  have e:=KX a o hk
  rw [ha] at e
  cases e
  refine core (fun b=>if b∈tabs then some (.ext (dC b)) else none) (fun T hT=>if_pos hT) (.inr ⟨_,vs.toArray,_,hk,rfl,rfl,rfl,by rw [List.size_toArray,lenV];exact hl,by simpa using rv⟩) (fun b u z=>?_) (fun b z=>?_) fun u z=>?_
  ·by_cases hb:b∈tabs
   ·have z':=(if_pos hb).symm.trans z
    cases z'
    exact hTt b hb _
   ·have z':=(if_neg hb).symm.trans z
    cases z'
  ·by_cases hb:b∈tabs
   ·exact .inr hb
   ·exact absurd (if_neg hb) z
  ·have hb:a ∉ tabs:=fun hb=>naT a hb rfl
   have z':=(if_neg hb).symm.trans z
   cases z'
 | none =>
  refine core (fun b=>if b=a then some (.my { cls:=.type "list",data:=.seq vs.toArray } (.lst (ns.map V.int))) else if b∈tabs then some (.ext (dC b)) else none) (fun T hT=>?_) (.inl (.inr ⟨{ cls:=.type "list",data:=.seq vs.toArray },if_pos rfl⟩)) (fun b u z=>?_) (fun b z=>?_) fun u z=>?_
  ·show (if T=a then _ else _)=_
   rw [if_neg (naT T hT),if_pos hT]
  ·by_cases hb:b=a
   ·have z':=(if_pos hb).symm.trans z
    cases z'
    subst hb
    exact ⟨ha,by rw [List.length_map];exact hl,vs,_,rv,ha⟩
   ·have z:=(if_neg hb).symm.trans z
    by_cases hb:b∈tabs
    ·have z':=(if_pos hb).symm.trans z
     cases z'
     exact hTt b hb _
    ·have z':=(if_neg hb).symm.trans z
     cases z'
  ·by_cases hb:b=a
   ·exact .inl hb
   ·by_cases hb':b∈tabs
    ·exact .inr hb'
    ·exact absurd ((if_neg hb).trans (if_neg hb')) z
  ·have z':=(if_pos rfl).symm.trans z
   cases z'
   exact ⟨hk,_,_,rfl⟩
theorem FE {p:Program} {loose:List Str} {mean:ExcName→Option Value} {mg mb:Str→Option Value} {h:Heap} {K:PySem.W.Frag} {x:Str} {st:Stmt} {T:Addr} (Tp:Top p loose mean mg mb h) (KX:K.In h) (hx:∃ d∈recsOf p,d.name=x) (D:t_ K mg x st T) :
  isCodeTable h T∧h.get? T=some { cls:=.none,data:=.fields #[] }∧K.lookup T=none:=by
 obtain ⟨f,fd,c,F⟩:=D
 obtain ⟨d,hd,rfl⟩:=hx
 obtain ⟨a',o',fd',c',P',h1,h2,h3,h4,h5,h6⟩:=Tp.tab d hd
 rw [F.mg] at h1;cases h1
 obtain ⟨oc,od,kV,doc,pm,an,cdv,ct,osl,rfl,lk,_⟩:=F.fn.ex
 have:=KX _ _ lk
 rw [h2] at this;cases this
 have e3:fd'=_:=(Data.func.inj h3).symm
 subst e3
 have e4:=F.code.symm.trans h4
 cases e4
 obtain ⟨_,oo,vs,_,_,_,_,_,_,_,lk',_,hd',h11,_⟩:=F.tab
 obtain ⟨⟨o2,vs2,g1,g2,g3,g4⟩,g5⟩:=id h6
 rw [KX _ _ lk'] at g1;cases g1
 rw [hd'] at g3;cases g3
 rw [h11] at g4;cases g4
 exact ⟨h6.isCodeTable,g5,F.out⟩
theorem Bg {l:PySem.W.OpenLaw} {n k:Nat} {q:Program} {loose:List Str} {XP:(Str→Option Value)→Heap→Prop} {YP:World→Heap→Prop} {d:DefRec} {K:Params→PySem.W.Frag} {sp:List Addr→PySem.W.Frag→Sp} {x:Str} (names:List Str)
  (hn:l.most=some n) (hn2:n≤sizeLine) (hdf:d.params.defaults=[]) (hr:bE k callerA) (hY:∀ (w:World) (h:Heap),YP w h→(K w.params).In h) (hnm:∀ x∈names,∃ d∈recsOf q,d.name=x)
  (F:∀ (w:World) (mg:Str→Option Value) (fa:Addr) (h:Heap),(K w.params).In h→h.Ns mainGlobals mg→mg d.name=some (.ref fa) →
   ∃ (fd:FuncData) (tabs:List Addr),(∀ (s:Shared) (u:Value),BindsTo s fd ⟨[u],[]⟩ [(x,u)])∧(∀ T∈tabs,F1 (K w.params) mg names T) ∧
    ∀ base:Heap,(K w.params).In base→base.Ns mainGlobals mg→BMain mg base→aH l.prog w (K w.params) mg base ma k fa fd [x] (sp tabs (K w.params)))
  (hsp:∀ (tabs:List Addr) (K:PySem.W.Frag) (H:Hp) (a:Addr) (ns:List Int),ns.length≤n→(∀ T∈tabs,H T=some (.ext (dC T)))→cD K H a (ns.map V.int)→(∀ b,H b≠none→b=a∨b∈tabs)→(∀ u,H a=some u→∃ o xs,u=.my o (.lst xs))→sp tabs K [.ref a] H (fun v H'=>v=.bl true∧ba H H') fun _ _ _=>False) :
  PySem.W.WalkO q loose XP YP l.row.toRowW d [] (fun f vs=>PySem.call f vs):=by
 refine Att.rE hn hdf fun w s₀ s₁ mg mb fa o pm cd doc a vs ns G Y ho hd hcd hmg hobj hints hlen hg=>?_
 have KX:=hY w _ Y
 obtain ⟨fd,tabs,hb,ht,hF⟩:=F w mg fa _ KX G.T.g hmg
 refine xN KX G.T.g G.T.b G.T.builtins G.T.nolimit hg hobj hints (Nat.le_trans hlen hn2) hr G.T.bmain (fun T hT=>?_) hF hb (fun H hT hS hA hK=>hsp tabs _ H a ns hlen hT hS hA hK)
 obtain ⟨x,hx,st,D⟩:=ht T hT
 exact FE G.T KX (hnm x hx) D
def zt (s:Str):Value→Bool
 | .str y _=>y == s
 | _=>false
def zq (i:Int):Value→Bool
 | .int j _=>j == i
 | _=>false
theorem xB {K:PySem.W.Frag} {h:Heap} {mg:Str→Option Value} {x s:Str} {u:Value} (X:K.In h) (G:h.Ns mainGlobals mg) (e:PySem.W.nsIn K mainGlobals x=some (some u)) (hu:zt s u=true):∃ t,mg x=some (.str s t):=by
 cases u with
 | str y t =>
  have:y=s:=by simpa [zt] using hu
  subst this
  exact ⟨t,PySem.W.mg_of X G e⟩
 | _=>cases hu
theorem const_int {K:PySem.W.Frag} {h:Heap} {mg:Str→Option Value} {x:Str} {i:Int} {u:Value} (X:K.In h) (G:h.Ns mainGlobals mg) (e:PySem.W.nsIn K mainGlobals x=some (some u)) (hu:zq i u=true):∃ t,mg x=some (.int i t):=by
 cases u with
 | int y t =>
  have:y=i:=by simpa [zq] using hu
  subst this
  exact ⟨t,PySem.W.mg_of X G e⟩
 | _=>cases hu
section
variable {X:Cx} {tg:Expr}
end
section
variable {prog:Program} {w:World} {A:Around} {R:Result→Shared→Prop} {s:Shared}
theorem uG {elt iter cnd:Expr} {x:Str} {px:Pos} {sc:Scope} {pos:Pos} {it acc:Value} {env:Env} (I:Nat→Shared→Prop)
  (turn:∀ n s,I n s→wpAny (model prog w) A (pyNext it) (fun r s₁=>match r with
   | none=>R (.ok .next) s₁
   | some v=>wpAny (model prog w) A (letOwnedTupleGo (.Name x px) it v) (fun _ s₂=>wpAny (model prog w) A (assign (.Name x px) env v) (fun _ s₃=>wpAny (model prog w) A (isTrue cnd env (eval cnd env)) (fun ok s₃=>if ok=true then wpAny (model prog w) A (eval elt env) (fun y s₄ =>
     wpAny (model prog w) A (call (.builtin "list.append") [acc,y]) (fun _ s₅=>∃ m,m < n∧I m s₅) (fun _ _=>False) s₄) (fun _ _=>False) s₃ else ∃ m,m < n∧I m s₃) (fun _ _=>False) s₃) (fun _ _=>False) s₂) (fun _ _=>False) s₁) (fun _ _=>False) s)
  (n:Nat) (h:I n s):codeAny (model prog w) A (.compLoop (.ListComp elt [⟨.Name x px,iter,[cnd],0⟩] sc pos) 0 it acc env) R s:=by
 refine codeAny_loop rfl I (fun n s hI=>?_) n h
 show wpAny _ _ ((compTurn (.ListComp elt [⟨.Name x px,iter,[cnd],0⟩] sc pos) 0 it acc env).onRaise (fun x=>do noteFrame x env;theTreesLotGoes x)) _ _ s
 refine wpAny_noted ?_
 rw [compTurn_list]
 have no:∀ (e:Value) (s':Shared),False→notedBy (model prog w) A env (fun e s'=>R (.error e) s') e s':=fun _ _ z=>z.elim
 refine wpAny_bind (wpAny_standAt (wpAny_bind (wpAny_mono (turn n s hI) (fun r s₁ h₁=>?_) no)))
 cases r with
 | none=>exact wpAny_pure h₁
 | some v =>
  refine wpAny_bind (wpAny_mono h₁ (fun _ s₂ h₂=>?_) no)
  refine wpAny_bind (wpAny_mono h₂ (fun _ s₃ h₃=>wpAny_bind (wpAny_mono (wpAny_tests_one h₃) (fun ok s₃' h₃'=>?_) no)) no)
  cases ok with
  | false=>exact wpAny_pure ⟨rfl,h₃'⟩
  | true =>
   exact wpAny_bind (wpAny_bind (wpAny_mono h₃' (fun y s₄ h₄=>wpAny_bind (wpAny_mono h₄ (fun _ s₅ h₅=>wpAny_pure (wpAny_pure ⟨rfl,h₅⟩)) no)) no))
end
def FA (wi:TI) (ks:List (Str × Nat)) (tc:TT) (te:TE):TE:=fun σ H Q=>wi σ H fun J H1=>∀ D,H1 D=none→∃ W:Nat→Nat→Hp→Prop,(∃ m,W 0 m (upd H1 D (.lst []))) ∧
 ∀ i m H2,W i m H2→(J.stop i H2∧Q (.ref D) H2)∨(J.go i H2∧∀ v H3,J.yld i H2 v H3→tc (some v :: cP ks σ) H3 fun b H4=>if b=true then te (some v :: cP ks σ) H4 fun y H5=>∃ ys,H5 D=some (.lst ys)∧ys.length < sizeLine∧∃ m',m' < m∧W (i + 1) m' (upd H5 D (.lst (ys ++ [y]))) else ∃ m',m' < m∧W (i + 1) m' H4)
section
variable {X:Cx}
theorem yp {elt iter cnd:Expr} {x:Str} {px:Pos} {sc:Scope} {pos:Pos} {te:TE} {tc:TT} {ks:List (Str × Nat)} {cl:List (Str × Addr)} {pins:List (Addr × Obj)} {σ:L2.St} {H:Hp} {s:Shared} {it:Addr} {fp:List Addr} {tn:Nat→Heap→Prop} {J:It} {Q:VK}
  {RR:Value→Addr→Result→Shared→Prop} {E:Value→Shared→Prop}
  (hc:X.calm=true) (ok:cb sc X.env.scope X.N x ks) (h1:∀ y c,cl.lookup y=some c→X.env.cells.lookup y=some c) (h2:∀ y∈sc.names,y.2=.free→∃ c,cl.lookup y.1=some c)
  (he:∀ cl C s₀ H₀ fp pins,PE (dT X sc cl C x ks s₀ H₀ fp pins) elt te) (hcn:∀ cl C s₀ H₀ fp pins,PT (dT X sc cl C x ks s₀ H₀ fp pins) cnd tc)
  (I:Inv X pins σ H s) (T:Turn X.prog X.w X.K (.Name x px) J fp it tn) (st:tn 0 s.heap) (f:∀ b∈fp,gi X pins H b)
  (hw:∀ D,H D=none→∃ W:Nat→Nat→Hp→Prop,(∃ m,W 0 m (upd H D (.lst [])))∧∀ i m H2,W i m H2→(J.stop i H2∧Q (.ref D) H2) ∨
   (J.go i H2∧∀ v H3,J.yld i H2 v H3→tc (some v :: cP ks σ) H3 fun b H4=>if b=true then te (some v :: cP ks σ) H4 fun y H5=>∃ ys,H5 D=some (.lst ys)∧ys.length < sizeLine∧∃ m',m' < m∧W (i + 1) m' (upd H5 D (.lst (ys ++ [y]))) else ∃ m',m' < m∧W (i + 1) m' H4))
  (hR:∀ (D C:Addr) (s':Shared) (H':Hp) (m:Str→Option Value),Inv X pins σ H' s'→Q (.ref D) H'→s'.heap.Ns C m→H' C=none→C≠X.env.locals→X.s₀.heap.objs.size≤C→(∀ y c,X.env.cells.lookup y=some c→c≠C)→(∀ p∈X.pn ++ pins,p.1≠C)→RR (.ref D) C (.ok .next) s') :
  wpAny (model X.prog X.w) X.A (newList []) (fun acc s₃=>wpAny (model X.prog X.w) X.A (newFunctionEnv sc X.env.globals cl [] X.env.qual none .none (some X.env)) (fun cenv s₄ =>
   codeAny (model X.prog X.w) X.A (.compStart (.ListComp elt [⟨.Name x px,iter,[cnd],0⟩] sc pos) 0 (.ref it) acc { cenv with scope:=relabel sc X.env }) (RR acc cenv.locals) s₄) E s₃) E s:=by
 have okk:=ok
 obtain ⟨kd,nc,lx,ll,fr,kk,nd⟩:=okk
 have hD0:H s.heap.objs.size=none:=I.hok.fresh (Nat.le_refl _)
 obtain ⟨W,⟨m0,w0⟩,turn⟩:=hw s.heap.objs.size hD0
 refine wpAny_newObj_type ?_
 have I3:Inv X pins σ (upd H s.heap.objs.size (.lst [])) { s with heap:=s.heap.push { cls:=.type "list",dict:=none,data:=.seq ([]:List Value).toArray } } :=
  I.laid (t':=s.toks) (fun b u e=>Heap.get?_push_of_some _ e) (Nat.le_refl _) (show cI X.prog X.w _ _ _ (.lst []) from ⟨Nat.zero_le _,[],0,.nil,Heap.get?_push_size _ rfl⟩)
 have st3:tn 0 (s.heap.push { cls:=.type "list",dict:=none,data:=.seq ([]:List Value).toArray }):=T.keep 0 _ _ st fun b hb o e=>Heap.get?_push_of_some _ e
 generalize hD:s.heap.objs.size=D at *
 generalize hH:upd H D (.lst [])=H3 at *
 generalize hs3:({ s with heap:=s.heap.push { cls:=.type "list",dict:=none,data:=.seq ([]:List Value).toArray } }:Shared)=s3 at *
 have e3:s.heap.push { cls:=.type "list",dict:=none,data:=.seq ([]:List Value).toArray }=s3.heap:=by rw [← hs3]
 rw [e3] at st3
 have fD:∀ b∈fp,b≠D:=fun b hb z=>by
  obtain ⟨o,ho,_⟩:=T.obj 0 _ st b hb
  have:=Heap.lt_size ho
  rw [z,← hD] at this
  exact Nat.lt_irrefl _ this
 have f3:∀ b∈fp,gi X pins H3 b:=fun b hb=>⟨by rw [← hH,aK (fD b hb)];exact (f b hb).1,(f b hb).2⟩
 have g3:∀ b∈fp,∃ o,s3.heap.get? b=some o:=fun b hb=>by
  obtain ⟨o,ho,_⟩:=T.obj 0 _ st3 b hb
  exact ⟨o,ho⟩
 refine wpAny_newFunctionEnv nc (by intro y hy;simp at hy) (fun h₁ hns hsb=>?_) kd
 have kp:∀ b o,s3.heap.get? b=some o→h₁.get? b=some o:=fun b o e=>hsb.extBut b o (Nat.ne_of_lt (Heap.lt_size e)) (Heap.get?_push_of_some _ e)
 have J0:=mD (fp:=fp) (cl:=cl) (t':=s3.toks + ([]:List (Str × Value)).length) I3 ok h1 h2 (fun b hb=>⟨f3 b hb,g3 b hb⟩) hns kp
 have st4:tn 0 h₁:=T.keep 0 _ _ st3 fun b hb o e=>kp b o e
 have ltC:∀ b o,s3.heap.get? b=some o→b≠s3.heap.objs.size:=fun b o e=>Nat.ne_of_lt (Heap.lt_size e)
 have cC:∀ y c,X.env.cells.lookup y=some c→c≠s3.heap.objs.size:=fun y c e=>by
  obtain ⟨v,o,ho,_⟩:=I3.cell y c e
  exact ltC c o ho
 have pC:∀ p∈X.pn ++ pins,p.1≠s3.heap.objs.size:=fun p hp=>ltC _ _ (I3.pin p hp).1
 have lC:s3.heap.objs.size≠X.env.locals:=Nat.ne_of_gt I3.lt
 have fX:∀ {H':Hp},(∀ b∈fp,H' b=none)→∀ b∈fp,gi (dT X sc cl s3.heap.objs.size x ks s3 H3 fp pins) [] H' b:=fun hn b hb=>by
  obtain ⟨o,ho⟩:=g3 b hb
  obtain ⟨_,q1,q2,q3,q4,q5⟩:=f b hb
  refine ⟨hn b hb,ltC b o ho,fun z=>?_,.inl hb,fun y c e=>q4 y c (h1 y c e),fun p hp=>q5 p (by simpa [dT] using hp)⟩
  rcases List.mem_cons.mp (I3.jA b z) with e | e
  ·exact q1 e
  ·exact q2 e
 have back:∀ {o:Option V} {H':Hp} {s':Shared},Inv (dT X sc cl s3.heap.objs.size x ks s3 H3 fp pins) [] (o :: cP ks σ) H' s'→Inv X pins σ H' s':=fun {o H' s'} J=>by
  obtain ⟨hh,g,d,t,os'⟩:=s'
  obtain rfl:os'=s3.os:=J.os
  exact I3.call (h':=hh) (g':=g) (d':=d) (t':=t) (ch:=fp) J.base J.hok J.bare fun b hb=>⟨(f b hb).2.2.2.1,(f b hb).2.1,(f b hb).2.2.2.2.1,(f b hb).2.2.2.2.2⟩
 have lookX:(relabel sc X.env).names.lookup x=some .local:=lookup_relabel_local lx
 have loop:∀ s',(∃ (i:Nat) (o:Option V) (H':Hp),Inv (dT X sc cl s3.heap.objs.size x ks s3 H3 fp pins) [] (o :: cP ks σ) H' s'∧tn i s'.heap∧(∀ b∈fp,H' b=none)∧W i m0 H') →
   codeAny (model X.prog X.w) X.A (.compLoop (.ListComp elt [⟨.Name x px,iter,[cnd],0⟩] sc pos) 0 (.ref it) (.ref D) (compEnvC sc cl s3.heap.objs.size X.env)) (RR (.ref D) s3.heap.objs.size) s':=by
  intro s' hs'
  refine uG (fun n s'=>∃ (i:Nat) (o:Option V) (H':Hp),Inv (dT X sc cl s3.heap.objs.size x ks s3 H3 fp pins) [] (o :: cP ks σ) H' s'∧tn i s'.heap∧(∀ b∈fp,H' b=none)∧W i n H') ?_ m0 hs'
  rintro n s5 ⟨i,o,H5,J5,t5,n5,w5⟩
  rcases turn i n H5 w5 with ⟨stop,hq⟩ | ⟨go,step⟩
  ·refine bK (T.done (dT X sc cl s3.heap.objs.size x ks s3 H3 fp pins) rfl rfl rfl hc i [] s5 _ H5 _ J5 (fX n5) t5 stop) fun r s6 ⟨hr,J6⟩=>?_
   subst hr
   obtain ⟨m,hm,_⟩:=J6.loc
   exact hR D _ s6 H5 m (back J6) hq hm J6.free lC I3.sz cC pC
  ·refine bK (T.item (dT X sc cl s3.heap.objs.size x ks s3 H3 fp pins) rfl rfl rfl hc i [] s5 _ H5 _ J5 (fX n5) t5 go) fun r s6 ⟨u,hr,h6⟩=>?_
   subst hr
   refine bK h6 fun _ s7 ⟨v,H7,J7,r7,y7,t7,n7⟩=>?_
   have J7':=J7.pinned (fX n7) (T.obj _ _ t7)
   refine wpAny_assign_Name (eh (X:=dT X sc cl s3.heap.objs.size x ks s3 H3 fp pins) (i:=0) J7' nd rfl (.inl lookX) r7 (fun s8 J8=>?_) (.inr lookX))
   refine bK (hcn cl s3.heap.objs.size s3 H3 fp pins _ s8 _ H7 _ J8 (step v H7 y7)) fun ok s8' ⟨H8,J8',q8⟩=>?_
   cases ok with
   | false =>
    simp only [Bool.false_eq_true,if_false] at q8 ⊢
    obtain ⟨m',hm,w'⟩:=q8
    refine ⟨m',hm,i + 1,_,_,J8'.er,?_,?_,w'⟩
    ·exact T.keep _ _ _ t7 fun b hb o e=>(J8'.pin (b,o) (List.mem_append_right _ (List.mem_append_right _ (bG hb e)))).1
    ·intro b hb
     obtain ⟨o,e,d⟩:=T.obj _ _ t7 b hb
     exact (J8'.pin (b,o) (List.mem_append_right _ (List.mem_append_right _ (bG hb e)))).2.1
   | true =>
    simp only [if_true] at q8 ⊢
    refine bK (he cl s3.heap.objs.size s3 H3 fp pins _ s8' _ H8 _ J8' q8) fun y s9 ⟨vy,H9,J9,r9,ys,hys,hz,m',hm,w'⟩=>?_
    refine bK (e_ (X:=dT X sc cl s3.heap.objs.size x ks s3 H3 fp pins) _ s9 _ H9 (.ref D) [vy] (.ref D) [y] (fun _ H'=>H'=upd H9 D (.lst (ys ++ [vy]))) J9 rfl (.cons r9 .nil) ⟨D,ys,vy,rfl,rfl,hys,hz,rfl⟩) fun _ s10 ⟨_,H10,J10,_,eH⟩=>?_
    subst eH
    refine ⟨m',hm,i + 1,_,_,J10.er,?_,?_,w'⟩
    ·exact T.keep _ _ _ t7 fun b hb o e=>(J10.pin (b,o) (List.mem_append_right _ (List.mem_append_right _ (bG hb e)))).1
    ·intro b hb
     obtain ⟨o,e,d⟩:=T.obj _ _ t7 b hb
     exact (J10.pin (b,o) (List.mem_append_right _ (List.mem_append_right _ (bG hb e)))).2.1
 have l0:=loop _ ⟨0,none,H3,J0,st4,fun b hb=>(f3 b hb).1,w0⟩
 exact codeAny_compStart_list l0 (T.self _ 0 _ _ _ st4 l0)
def HJ (wi:TI) (ks:List (Str × Nat)) (tc:TT) (te:TE) (i:Nat):TS:=fun D σ H=>FA wi ks tc te σ H fun v H1=>D.nx (σ.set i (some v)) H1
theorem Am {elt iter cnd:Expr} {x y:Str} {px py:Pos} {sc:Scope} {pos spos:Pos} {wi:TI} {te:TE} {tc:TT} {i:Nat} (osc:Scope) (N:List Str) (ks:List (Str × Nat)) (hc:X.calm=true) (ho:X.env.scope=osc) (hN:X.N=N) (hnd:X.N.Nodup) (hy:X.N[i]?=some y) (hl:Loc X.env.scope y)
  (hi:PI X (.Name x px) iter wi) (he:∀ cl C s₀ H₀ fp pins,PE (dT X sc cl C x ks s₀ H₀ fp pins) elt te) (hcn:∀ cl C s₀ H₀ fp pins,PT (dT X sc cl C x ks s₀ H₀ fp pins) cnd tc) (ok:cb sc osc N x ks:=by decide +kernel) (hs:∀ x,foldedSetIterable iter X.env x=pure x:=by intro _;rfl)
  (hsw:swapsWith (.ListComp elt [⟨.Name x px,iter,[cnd],0⟩] sc pos) (some (.Name y py)) spos.line X.env=pure true:=by rfl) (hf:X.fn y=true∨X.env.scope.names.lookup y=some .local:=by first | exact .inl rfl | exact .inr rfl | assumption) :
  PS X (.Assign [.Name y py] (.ListComp elt [⟨.Name x px,iter,[cnd],0⟩] sc pos) spos) (HJ wi ks tc te i):=by
 intro pins s σ H Dn I hw
 obtain ⟨cl,hcl,h1,h2⟩:=gu (jW ok I ho)
 have ok':cb sc X.env.scope X.N x ks:=by rw [ho,hN];exact ok
 rw [exec_Assign_Name_used _ _ _ _ hsw]
 refine wpAny_bind (wpAny_standAt (wpAny_bind ?_))
 show wpAny _ X.A (do let _ ← comprehension (.ListComp elt [⟨.Name x px,iter,[cnd],0⟩] sc pos) sc X.env _ (newList []) false (eval iter X.env) (some (assign (.Name y py) X.env))) _ _ s
 refine wpAny_bind (wpAny_mono (wpAny_comprehension_free (use:=some (assign (.Name y py) X.env)) (Q:=fun _ s'=>SP X pins Dn .next s') rfl hs hcl ok.1 ok.2.2.2.1
  (bK (hi pins s σ H _ I hw) fun v s1 h3=>bK h3 fun itv s2 h4=>?_)) (fun _ s' hq=>wpAny_pure (wpAny_pure hq)) fun _ _ e=>e)
 obtain ⟨it,fp,tn,J,H2,rfl,I2,T,st2,f2,hR⟩:=h4
 refine yp (Q:=fun v H1=>Dn.nx (σ.set i (some v)) H1) (RR:=fun acc C=>compPost (model X.prog X.w) X.A X.xe (some (assign (.Name y py) X.env)) (fun _ s'=>SP X pins Dn .next s') acc C) hc ok' h1 h2 he hcn I2 T st2 f2 hR ?_
 intro D C s' H' m J' q hn hC cl' cs cc cp
 show wpAny _ X.A (assign (.Name y py) X.env (.ref D)) _ _ _
 refine wpAny_assign_Name (k6 J' hnd hy hl (v:=.ref D) rfl (fun s'' J'' ⟨a,hsb,ha⟩=>?_) hf)
 refine ⟨m,hn.sameBut hsb (fun z=>?_),fun h' hsb'=>⟨_,H',?_,q⟩⟩
 ·rcases ha with e | e
  ·exact cl' (z.trans e)
  ·exact cc _ _ e z.symm
 ·exact J''.turned (t':=s''.toks) (it:=C) (fun b o ne e=>hsb'.extBut b o ne e) hC cl' (.inr cs) cc cp
end
end Ov
namespace Ov
open PySem PySem.Spec PyProof.Rows
open L2 (V HO Hp Inv Cx VK XK TE TT TA TS TG mi TI TO i5 Ends rq Loc Gl Rd RelV Vals eu t8 bP md oJ mf i4 R2 upd aB aK cD fQ Sp nM It ba)
inductive PV where
 | non | bl (b:Bool) | int (i:Int) | str (x:Str) | ref (a:Addr) | ty (n:String) | tup (xs:List PV) | fl (xs:List PV)
inductive HQ where
 | lst (xs:List PV) | ins (C:Addr) (fs:List (Str × PV)) | dct (kvs:List (Str × PV)) (ep:Nat) | tab
abbrev Hq:=Addr→Option HQ
def put (J:Hq) (a:Addr) (o:HQ):Hq:=fun b=>if b=a then some o else J b
theorem au {J:Hq} {a:Addr} {o:HQ}:put J a o a=some o:=by unfold put;rw [if_pos rfl]
theorem ar {J:Hq} {a b:Addr} {o:HQ} (h:b≠a):put J a o b=J b:=by unfold put;rw [if_neg h]
theorem d3 {J:Hq} {a:Addr} {o u:HQ}:put (put J a o) a u=put J a u:=by
 funext b;unfold put;split <;> rfl
theorem Ar {J:Hq} {a b:Addr} {o u:HQ} (h:a≠b):put (put J a o) b u=put (put J b u) a o:=by
 funext c;unfold put
 by_cases h1:c=b <;> by_cases h2:c=a <;> simp [h1,h2]
 ·exact absurd (h2.symm.trans h1) h
 ·intro z;exact absurd z.symm h
 ·intro z;exact absurd z h
theorem qs {J:Hq} {a:Addr} {o:HQ} (h:J a=some o):put J a o=J:=by
 funext b;unfold put
 by_cases e:b=a
 ·subst e;rw [if_pos rfl,h]
 ·rw [if_neg e]
def yM (K:PySem.W.Frag) (J:Hq) (H:Hp) (a:Addr) (vs:List V):Prop:=(J a=none∧Rd H a (.lst vs))∨∃ (o:Obj) (its:Array Value) (n:Nat),K.lookup a=some o∧o.cls=.type "list"∧o.dict=none∧o.data=.seq its n∧its.size≤sizeLine∧Vals vs its.toList
theorem yM.sq {K:PySem.W.Frag} {J:Hq} {H:Hp} {a:Addr} {vs:List V} (h:yM K J H a vs):cD K H a vs:=by
 rcases h with h | h
 ·exact .inl h.2
 ·exact .inr h
section
variable (K:PySem.W.Frag)
mutual
def bR (J:Hq) (H:Hp):PV→V→Prop
 | .non,v=>v=.non
 | .bl b,v=>v=.bl b
 | .int i,v=>v=.int i
 | .str x,v=>v=.str x
 | .ref a,v=>v=.ref a
 | .ty n,v=>v=.ty n
 | .tup xs,v=>∃ a vs,v=.ref a∧fQ K H a vs∧aJ J H xs vs
 | .fl xs,v=>∃ a vs,v=.ref a∧yM K J H a vs∧aJ J H xs vs
def aJ (J:Hq) (H:Hp):List PV→List V→Prop
 | [],vs=>vs=[]
 | x :: xs,vs=>∃ v us,vs=v :: us∧bR J H x v∧aJ J H xs us
end
def ji {κ:Type} (J:Hq) (H:Hp) (fs:List (κ × PV)) (gs:List (κ × V)):Prop:=fs.map (·.1)=gs.map (·.1)∧aJ K J H (fs.map (·.2)) (gs.map (·.2))
def yO (J:Hq) (H:Hp) (a:Addr):HQ→Prop
 | .lst xs=>∃ vs,H a=some (.lst vs)∧aJ K J H xs vs
 | .ins C fs=>∃ dx gs,H a=some (.ins C dx gs)∧ji K J H fs gs
 | .dct kvs ep=>∃ gs,H a=some (.dE gs ep)∧ji K J H kvs gs
 | .tab=>H a=some (.ext (dC a))
def Rep (J:Hq) (H:Hp):Prop:=∀ a o,J a=some o→yO K J H a o
structure Ext (J:Hq) (H:Hp) (J':Hq) (H':Hp):Prop where
 tup:∀ a vs,fQ K H a vs→fQ K H' a vs
 ll:∀ a o,J a=none→H a=some o→((∃ vs,o=.lst vs)∨∃ ob vs,o=.my ob (.lst vs))→J' a=none∧H' a=some o
end
section
variable {K:PySem.W.Frag} {J J' J'':Hq} {H H' H'':Hp}
theorem Ext.fl (e:Ext K J H J' H') (a:Addr) (vs:List V) (n:J a=none) (h:Rd H a (.lst vs)):J' a=none∧Rd H' a (.lst vs):=by
 rcases h with h | ⟨o,h⟩
 ·obtain ⟨a,b⟩:=e.ll a _ n h (.inl ⟨_,rfl⟩);exact ⟨a,.inl b⟩
 ·obtain ⟨a,b⟩:=e.ll a _ n h (.inr ⟨_,_,rfl⟩);exact ⟨a,.inr ⟨o,b⟩⟩
theorem Ext.flat (e:Ext K J H J' H') {a:Addr} {vs:List V} (h:yM K J H a vs):yM K J' H' a vs:=by
 rcases h with h | h
 ·exact .inl (e.fl a vs h.1 h.2)
 ·exact .inr h
mutual
theorem Ext.rep (e:Ext K J H J' H'):∀ {x:PV} {v:V},bR K J H x v→bR K J' H' x v
 | .non,_,h=>h
 | .bl _,_,h=>h
 | .int _,_,h=>h
 | .str _,_,h=>h
 | .ref _,_,h=>h
 | .ty _,_,h=>h
 | .tup xs,_,⟨a,vs,e1,h,k⟩=>⟨a,vs,e1,e.tup _ _ h,Ext.gC e k⟩
 | .fl xs,_,⟨a,vs,e1,h,k⟩=>⟨a,vs,e1,e.flat h,Ext.gC e k⟩
theorem Ext.gC (e:Ext K J H J' H'):∀ {xs:List PV} {vs:List V},aJ K J H xs vs→aJ K J' H' xs vs
 | [],_,h=>h
 | _ :: _,_,⟨v,us,e1,h,k⟩=>⟨v,us,e1,Ext.rep e h,Ext.gC e k⟩
end
theorem Ext.refl:Ext K J H J H:=⟨fun _ _ h=>h,fun _ _ n h _=>⟨n,h⟩⟩
theorem Ext.trans (a:Ext K J H J' H') (b:Ext K J' H' J'' H''):Ext K J H J'' H'' :=
 ⟨fun c vs h=>b.tup c vs (a.tup c vs h),fun c o n h z=>b.ll c o (a.ll c o n h z).1 (a.ll c o n h z).2 z⟩
theorem Ext.tm {κ:Type} (e:Ext K J H J' H') {fs:List (κ × PV)} {gs:List (κ × V)} (h:ji K J H fs gs):ji K J' H' fs gs:=⟨h.1,e.gC h.2⟩
theorem Ext.same (s:ba H H'):Ext K J H J H':=⟨fun a vs h=>s.tup h,fun a o n h _=>⟨n,s _ _ h⟩⟩
theorem yO.same (s:ba H H') {a:Addr} {o:HQ} (h:yO K J H a o):yO K J H' a o:=by
 have e:=Ext.same (K:=K) (J:=J) s
 cases o with
 | lst xs=>obtain ⟨vs,h1,h2⟩:=h;exact ⟨vs,s _ _ h1,e.gC h2⟩
 | ins C fs=>obtain ⟨dx,gs,h1,h2⟩:=h;exact ⟨dx,gs,s _ _ h1,e.tm h2⟩
 | dct kvs ep=>obtain ⟨gs,h1,h2⟩:=h;exact ⟨gs,s _ _ h1,e.tm h2⟩
 | tab=>exact s _ _ (show H a=some (.ext (dC a)) from h)
theorem Rep.same (s:ba H H') (h:Rep K J H):Rep K J H':=fun a o q=>(h a o q).same s
theorem Ext.less (h:∀ a,J' a=J a∨J' a=none):Ext K J H J' H:=⟨fun _ _ h=>h,fun a o n z _=>⟨(h a).elim (fun e=>e.trans n) (fun e=>e),z⟩⟩
theorem Rep.less (h:∀ a,J' a=J a∨J' a=none) (r:Rep K J H):Rep K J' H:=fun a o q=>by
 have e:J a=some o:=by
  rcases h a with e | e
  ·rw [← e];exact q
  ·rw [e] at q;cases q
 have x:=Ext.less (K:=K) (H:=H) h
 have z:=r a o e
 cases o with
 | lst xs=>obtain ⟨vs,h1,h2⟩:=z;exact ⟨vs,h1,x.gC h2⟩
 | ins C fs=>obtain ⟨dx,gs,h1,h2⟩:=z;exact ⟨dx,gs,h1,x.tm h2⟩
 | dct kvs ep=>obtain ⟨gs,h1,h2⟩:=z;exact ⟨gs,h1,x.tm h2⟩
 | tab=>exact z
theorem aJ.length:∀ {xs:List PV} {vs:List V},aJ K J H xs vs→xs.length=vs.length
 | [],_,h=>by cases h;rfl
 | _ :: xs,_,⟨v,us,e1,_,k⟩=>by subst e1;simp [aJ.length k]
theorem aJ.get:∀ {xs:List PV} {vs:List V} {i:Nat} {x:PV},aJ K J H xs vs→xs[i]?=some x→∃ v,vs[i]?=some v∧bR K J H x v
 | [],_,i,x,h,e=>by simp at e
 | y :: xs,_,0,x,⟨v,us,e1,h,k⟩,e=>by subst e1;simp at e;subst e;exact ⟨v,rfl,h⟩
 | y :: xs,_,i + 1,x,⟨v,us,e1,h,k⟩,e=>by
  subst e1
  obtain ⟨w,h1,h2⟩:=aJ.get (i:=i) (x:=x) k (by simpa using e)
  exact ⟨w,by simpa using h1,h2⟩
theorem aJ.get':∀ {xs:List PV} {vs:List V} {i:Nat} {v:V},aJ K J H xs vs→vs[i]?=some v→∃ x,xs[i]?=some x∧bR K J H x v
 | [],_,i,x,h,e=>by cases h;simp at e
 | y :: xs,_,0,x,⟨v,us,e1,h,k⟩,e=>by subst e1;simp at e;subst e;exact ⟨y,rfl,h⟩
 | y :: xs,_,i + 1,x,⟨v,us,e1,h,k⟩,e=>by
  subst e1
  obtain ⟨w,h1,h2⟩:=aJ.get' (i:=i) (v:=x) k (by simpa using e)
  exact ⟨w,by simpa using h1,h2⟩
theorem aJ.append:∀ {xs ys:List PV} {vs us:List V},aJ K J H xs vs→aJ K J H ys us→aJ K J H (xs ++ ys) (vs ++ us)
 | [],_,_,_,h,k=>by cases h;exact k
 | x :: xs,ys,_,us,⟨v,ws,e1,h,h'⟩,k=>by subst e1;exact ⟨v,ws ++ us,rfl,h,aJ.append h' k⟩
theorem aJ.drop:∀ (n:Nat) {xs:List PV} {vs:List V},aJ K J H xs vs→aJ K J H (xs.drop n) (vs.drop n)
 | 0,_,_,h=>h
 | n + 1,[],_,h=>by cases h;rfl
 | n + 1,x :: xs,_,⟨v,ws,e1,h,h'⟩=>by subst e1;exact aJ.drop n h'
theorem aJ.take:∀ (n:Nat) {xs:List PV} {vs:List V},aJ K J H xs vs→aJ K J H (xs.take n) (vs.take n)
 | 0,_,_,h=>rfl
 | n + 1,[],_,h=>by cases h;rfl
 | n + 1,x :: xs,_,⟨v,ws,e1,h,h'⟩=>by subst e1;exact ⟨v,_,rfl,h,aJ.take n h'⟩
theorem aJ.erase:∀ (n:Nat) {xs:List PV} {vs:List V},aJ K J H xs vs→aJ K J H (xs.eraseIdx n) (vs.eraseIdx n)
 | n,[],_,h=>by cases h;rfl
 | 0,y :: xs,_,⟨w,ws,e1,h,h'⟩=>by subst e1;exact h'
 | n + 1,y :: xs,_,⟨w,ws,e1,h,h'⟩=>by subst e1;exact ⟨w,_,rfl,h,aJ.erase n h'⟩
theorem ji.look {κ:Type} [BEq κ] [LawfulBEq κ] {f:κ}:∀ {fs:List (κ × PV)} {gs:List (κ × V)} {x:PV},ji K J H fs gs→fs.lookup f=some x→∃ v,gs.lookup f=some v∧bR K J H x v
 | [],_,_,_,e=>by cases e
 | (k,y) :: fs,[],x,h,e=>by cases h.1
 | (k,y) :: fs,(k',w) :: gs,x,h,e=>by
  obtain ⟨h1,v,us,h2,h3,h4⟩:=h
  simp only [List.map_cons,List.cons.injEq] at h1 h2
  obtain ⟨rfl,h1⟩:=h1
  obtain ⟨rfl,rfl⟩:=h2
  rw [List.lookup_cons] at e ⊢
  cases hk:f == k with
  | true=>rw [hk] at e;cases e;exact ⟨w,rfl,h3⟩
  | false=>rw [hk] at e;exact ji.look ⟨h1,h4⟩ e
theorem ji.none {κ:Type} [BEq κ] [LawfulBEq κ] {f:κ}:∀ {fs:List (κ × PV)} {gs:List (κ × V)},ji K J H fs gs→fs.lookup f=none→gs.lookup f=none
 | [],[],_,_=>rfl
 | [],_ :: _,h,e=>by cases h.1
 | (k,y) :: fs,[],h,e=>by cases h.1
 | (k,y) :: fs,(k',w) :: gs,h,e=>by
  obtain ⟨h1,v,us,h2,h3,h4⟩:=h
  simp only [List.map_cons,List.cons.injEq] at h1 h2
  obtain ⟨rfl,h1⟩:=h1
  obtain ⟨rfl,rfl⟩:=h2
  rw [List.lookup_cons] at e ⊢
  cases hk:f == k with
  | true=>rw [hk] at e;cases e
  | false=>rw [hk] at e;exact ji.none ⟨h1,h4⟩ e
end
section
variable {K:PySem.W.Frag} {J J':Hq} {H H':Hp} {p:Addr}
theorem BX {a p:Addr} {o:HQ} (r:Rep K J H) (h:J a=some o) (n:H p=none):a≠p:=by
 intro e;subst e
 have:=r _ _ h
 cases o with
 | lst xs=>obtain ⟨vs,h1,_⟩:=this;rw [n] at h1;cases h1
 | ins C fs=>obtain ⟨dx,gs,h1,_⟩:=this;rw [n] at h1;cases h1
 | dct kvs ep=>obtain ⟨gs,h1,_⟩:=this;rw [n] at h1;cases h1
 | tab=>have h1:H a=some (.ext (dC a)):=this;rw [n] at h1;cases h1
theorem Rep.free (r:Rep K J H) (n:H p=none):J p=none:=by
 cases e:J p with
 | none=>rfl
 | some o=>exact absurd rfl (BX r e n)
theorem Ext.laid {o:HO} {u:HQ} (n:H p=none):Ext K J H (put J p u) (upd H p o):=by
 refine ⟨fun a vs h=>(ba.new n o).tup h,fun a o' z h _=>⟨?_,ba.new n o _ _ h⟩⟩
 have ne:a≠p:=by intro e;subst e;rw [n] at h;cases h
 rw [ar ne];exact z
theorem Rep.yB {J':Hq} {H':Hp} (e:Ext K J H J' H') (r:Rep K J H) (p:Addr) (q:∀ a,a≠p→J' a=J a) (s:∀ a o,a≠p→J a≠none→H a=some o→H' a=some o) (h:∀ u,J' p=some u→yO K J' H' p u):Rep K J' H':=fun a o z=>by
 by_cases ep:a=p
 ·subst ep;exact h o z
 ·rw [q a ep] at z
  have t:=r a o z
  have jn:J a≠none:=by rw [z];exact fun y=>nomatch y
  cases o with
  | lst xs=>obtain ⟨vs,h1,h2⟩:=t;exact ⟨vs,s _ _ ep jn h1,e.gC h2⟩
  | ins C fs=>obtain ⟨dx,gs,h1,h2⟩:=t;exact ⟨dx,gs,s _ _ ep jn h1,e.tm h2⟩
  | dct kvs eq=>obtain ⟨gs,h1,h2⟩:=t;exact ⟨gs,s _ _ ep jn h1,e.tm h2⟩
  | tab=>exact s _ _ ep jn (show H a=some (.ext (dC a)) from t)
theorem Rep.zC {xs:List PV} {vs:List V} (r:Rep K J H) (n:H p=none) (h:aJ K J H xs vs):Rep K (put J p (.lst xs)) (upd H p (.lst vs)):=by
 have e:=Ext.laid (K:=K) (J:=J) (o:=.lst vs) (u:=.lst xs) n
 refine r.yB e p (fun a ne=>ar ne) (fun a o ne _ z=>by rw [aK ne];exact z) fun u z=>?_
 rw [au] at z;cases z
 exact ⟨vs,aB,e.gC h⟩
theorem Ext.wrote {xs ys:List PV} {ws vs:List V} (h:J p=some (.lst xs)) (k:H p=some (.lst ws)):Ext K J H (put J p (.lst ys)) (upd H p (.lst vs)):=by
 have sm:∀ a u,(∀ l,u≠HO.lst l)∨a≠p→Rd H a u→Rd (upd H p (.lst vs)) a u:=fun a u d z=>by
  have ne:a≠p:=by
   rcases d with d | d
   ·intro e;subst e
    rcases z with z | ⟨o,z⟩
    ·rw [k] at z;cases z;exact d _ rfl
    ·rw [k] at z;cases z
   ·exact d
  rcases z with z | ⟨o,z⟩
  ·exact .inl (by rw [aK ne];exact z)
  ·exact .inr ⟨o,by rw [aK ne];exact z⟩
 refine ⟨fun a vs' z=>?_,fun a o z q _=>?_⟩
 ·rcases z with z | z
  ·exact .inl (sm a _ (.inl fun l e=>nomatch e) z)
  ·exact .inr z
 ·have ne:a≠p:=by intro e;subst e;rw [h] at z;cases z
  exact ⟨by rw [ar ne];exact z,by rw [aK ne];exact q⟩
theorem Rep.wrote {xs ys:List PV} {ws vs:List V} (r:Rep K J H) (h:J p=some (.lst xs)) (k:H p=some (.lst ws)) (q:aJ K J H ys vs):Rep K (put J p (.lst ys)) (upd H p (.lst vs)):=by
 have e:=Ext.wrote (K:=K) (ys:=ys) (vs:=vs) h k
 refine r.yB e p (fun a ne=>ar ne) (fun a o ne _ z=>by rw [aK ne];exact z) fun u z=>?_
 rw [au] at z;cases z
 exact ⟨vs,aB,e.gC q⟩
end
abbrev Sr:=List (Option PV)
abbrev cQ:=Sr→Hq→(PV→Hq→Prop)→Prop
abbrev jk:=Sr→Hq→(Bool→Hq→Prop)→Prop
abbrev k8:=Sr→Hq→(List PV→Hq→Prop)→Prop
structure En where
 nx:Sr→Hq→Prop
 rt:PV→Hq→Prop
 bk:Sr→Hq→Prop:=fun _ _=>False
 ct:Sr→Hq→Prop:=fun _ _=>False
abbrev gP:=En→Sr→Hq→Prop
structure jj (K:PySem.W.Frag) (J:Hq) (H:Hp) (τ:Sr) (σ:L2.St):Prop where
 len:τ.length=σ.length
 get:∀ (i:Nat) (x:PV),τ[i]?=some (some x)→∃ v,σ[i]?=some (some v)∧bR K J H x v
theorem jj.ext {K:PySem.W.Frag} {J J':Hq} {H H':Hp} {τ:Sr} {σ:L2.St} (r:jj K J H τ σ) (e:Ext K J H J' H'):jj K J' H' τ σ :=
 ⟨r.len,fun i x h=>let ⟨v,a,b⟩:=r.get i x h;⟨v,a,e.rep b⟩⟩
theorem jj.set {K:PySem.W.Frag} {J:Hq} {H:Hp} {τ:Sr} {σ:L2.St} (r:jj K J H τ σ) {x:PV} {v:V} (i:Nat) (h:bR K J H x v):jj K J H (τ.set i (some x)) (σ.set i (some v)):=by
 refine ⟨by rw [List.length_set,List.length_set,r.len],fun j y e=>?_⟩
 by_cases hj:i=j
 ·subst hj
  by_cases hl:i < τ.length
  ·rw [List.getElem?_set_self hl] at e
   cases e
   exact ⟨v,List.getElem?_set_self (by rw [← r.len];exact hl),h⟩
  ·rw [List.getElem?_eq_none (by rw [List.length_set];omega)] at e
   cases e
 ·rw [List.getElem?_set_ne hj] at e ⊢
  exact r.get j y e
abbrev G2:=Hq × Hp
structure rd (K:PySem.W.Frag) (G:G2) (τ:Sr) (J:Hq) (σ:L2.St) (H:Hp):Prop where
 sl:jj K J H τ σ
 hp:Rep K J H
 ext:Ext K G.1 G.2 J H
section
variable (K:PySem.W.Frag) (G:G2)
def LE (t:cQ):TE:=fun σ H Q=>∃ τ J Q2,rd K G τ J σ H∧t τ J Q2∧∀ x J' v H',bR K J' H' x v→Rep K J' H'→Ext K J H J' H'→Q2 x J'→Q v H'
def LT (t:jk):TT:=fun σ H Q=>∃ τ J Q2,rd K G τ J σ H∧t τ J Q2∧∀ b J' H',Rep K J' H'→Ext K J H J' H'→Q2 b J'→Q b H'
def LA (t:k8):TA:=fun σ H Q=>∃ τ J Q2,rd K G τ J σ H∧t τ J Q2∧∀ xs J' vs H',aJ K J' H' xs vs→Rep K J' H'→Ext K J H J' H'→Q2 xs J'→Q vs H'
structure Goes (J:Hq) (H:Hp) (D2:En) (D:Ends):Prop where
 nx:∀ τ J' σ H',jj K J' H' τ σ→Rep K J' H'→Ext K J H J' H'→D2.nx τ J'→D.nx σ H'
 rt:∀ x J' v H',bR K J' H' x v→Rep K J' H'→Ext K J H J' H'→D2.rt x J'→D.rt v H'
 bk:∀ τ J' σ H',jj K J' H' τ σ→Rep K J' H'→Ext K J H J' H'→D2.bk τ J'→D.bk σ H'
 ct:∀ τ J' σ H',jj K J' H' τ σ→Rep K J' H'→Ext K J H J' H'→D2.ct τ J'→D.ct σ H'
def LS (t:gP):TS:=fun D σ H=>∃ τ J D2,rd K G τ J σ H∧t D2 τ J∧Goes K J H D2 D
end
theorem Goes.ext {K:PySem.W.Frag} {J J':Hq} {H H':Hp} {D2:En} {D:Ends} (g:Goes K J H D2 D) (e:Ext K J H J' H'):Goes K J' H' D2 D :=
 ⟨fun τ J1 σ H1 a b c=>g.nx τ J1 σ H1 a b (e.trans c),fun x J1 v H1 a b c=>g.rt x J1 v H1 a b (e.trans c),fun τ J1 σ H1 a b c=>g.bk τ J1 σ H1 a b (e.trans c),fun τ J1 σ H1 a b c=>g.ct τ J1 σ H1 a b (e.trans c)⟩
theorem rd.go {K:PySem.W.Frag} {G:G2} {τ:Sr} {J J':Hq} {σ:L2.St} {H H':Hp} (a:rd K G τ J σ H) (r:Rep K J' H') (e:Ext K J H J' H'):rd K G τ J' σ H':=⟨a.sl.ext e,r,a.ext.trans e⟩
structure RE (X:Cx) (G:G2) (e:Expr) (t:cQ):Prop where
 run:L2.PE X e (LE X.K G t)
structure RT (X:Cx) (G:G2) (e:Expr) (t:jk):Prop where
 run:L2.PT X e (LT X.K G t)
structure RW (X:Cx) (G:G2) (e:Expr) (t:jk):Prop where
 run:L2.PW X e (LT X.K G t)
structure RA (X:Cx) (G:G2) (es:List Expr) (t:k8):Prop where
 run:L2.PA X es (LA X.K G t)
structure RS (X:Cx) (G:G2) (st:Stmt) (t:gP):Prop where
 run:L2.PS X st (LS X.K G t)
structure RB (X:Cx) (G:G2) (st:List Stmt) (t:gP):Prop where
 run:L2.oI X st (LS X.K G t)
theorem i7 {X:Cx} {e:Expr} {t t':TE} (h:L2.PE X e t) (k:∀ σ H Q,t' σ H Q→t σ H Q):L2.PE X e t':=fun pins s σ H Q I q=>h pins s σ H Q I (k _ _ _ q)
theorem Il {X:Cx} {e:Expr} {t t':TT} (h:L2.PT X e t) (k:∀ σ H Q,t' σ H Q→t σ H Q):L2.PT X e t':=fun pins s σ H Q I q=>h pins s σ H Q I (k _ _ _ q)
theorem Ku {X:Cx} {e:Expr} {t t':TT} (h:L2.PW X e t) (k:∀ σ H Q,t' σ H Q→t σ H Q):L2.PW X e t':=fun wh pins s σ H Q I q=>h wh pins s σ H Q I (k _ _ _ q)
theorem Js {X:Cx} {e:List Expr} {t t':TA} (h:L2.PA X e t) (k:∀ σ H Q,t' σ H Q→t σ H Q):L2.PA X e t':=fun pos pins s σ H Q I q=>h pos pins s σ H Q I (k _ _ _ q)
theorem uZ {X:Cx} {e:Stmt} {t t':TS} (h:L2.PS X e t) (k:∀ D σ H,t' D σ H→t D σ H):L2.PS X e t':=fun pins s σ H D I q=>h pins s σ H D I (k _ _ _ q)
theorem Jt {X:Cx} {e:List Stmt} {t t':TS} (h:L2.oI X e t) (k:∀ D σ H,t' D σ H→t D σ H):L2.oI X e t':=fun pins s σ H D I q=>h pins s σ H D I (k _ _ _ q)
end Ov
namespace Ov
open PySem PySem.Spec PyProof.Rows
open L2 (V HO Hp Inv Cx VK XK TE TT TA TS TG mi TI TO i5 Ends rq Loc Gl Rd RelV Vals eu t8 bP md oJ mf i4 R2 upd aB aK cD fQ Sp nM It ba cU bE Passes lI az Meth Mk Binds aH bQ aw c5 ft)
section
variable {X:Cx} {G:G2} {a b c e o:Expr} {es rest:List Expr} {ta tb te tc to:cQ} {tA tB':jk} {t:k8} {pos px p p2 apos cpos:Pos} {x:Str} {i j:Nat}
def gA (i:Nat):cQ:=fun τ J Q=>∃ x,τ[i]?=some (some x)∧Q x J
theorem rv (i:Nat) {x:Str} {pos:Pos} (hN:X.N[i]?=some x:=by rfl) (hv:rq X.env.scope x:=by first | exact Or.inl rfl | exact Or.inr (Or.inl rfl) | exact Or.inr (Or.inr rfl)) (hd:(x == ("__debug__":Str))=false:=by decide)
  (hcd:(x == ("__classdict__":Str))=false:=by decide):RE X G (.Name x pos) (gA i) :=
 ⟨i7 (L2.uW hN hv hd hcd) fun σ H Q ⟨τ,J,Q2,a2,⟨y,ey,q⟩,k⟩=>let ⟨v,e1,r⟩:=a2.sl.get i y ey;⟨v,e1,k y J v H r a2.hp .refl q⟩⟩
def rC (x:PV):cQ:=fun _ J Q=>Q x J
theorem ag {i:Int} {j pos}:RE X G (.Constant (.int i) j pos) (rC (.int i)):=⟨i7 L2.aI fun σ H Q ⟨τ,J,Q2,a2,q,k⟩=>k (.int i) J _ H rfl a2.hp .refl q⟩
theorem dR {b:Bool} {j pos}:RE X G (.Constant (.bool b) j pos) (rC (.bl b)):=⟨i7 L2.sT fun σ H Q ⟨τ,J,Q2,a2,q,k⟩=>k (.bl b) J _ H rfl a2.hp .refl q⟩
theorem gB {j pos}:RE X G (.Constant .none j pos) (rC .non):=⟨i7 L2.uT fun σ H Q ⟨τ,J,Q2,a2,q,k⟩=>k .non J _ H rfl a2.hp .refl q⟩
theorem bD {x:Str} {j pos}:RE X G (.Constant (.str x) j pos) (rC (.str x)):=⟨i7 L2.kL fun σ H Q ⟨τ,J,Q2,a2,q,k⟩=>k (.str x) J _ H rfl a2.hp .refl q⟩
theorem eL {v:V} {u:Value} (y:PV) (hg:Gl X x) (hm:X.mg x=some u) (r:RelV v u) (hr:∀ J H,bR X.K J H y v) (hd:(x == ("__debug__":Str))=false:=by decide):RE X G (.Name x pos) (rC y) :=
 ⟨i7 (L2.lR hg hm r hd) fun σ H Q ⟨τ,J,Q2,a2,q,k⟩=>k y J v H (hr J H) a2.hp .refl q⟩
theorem jZ {n:String} (hg:Gl X x) (hm:X.mg x=none) (hv:bootBuiltins x=some (.type n)) (hn:x≠"__name__":=by decide) (hd:(x == ("__debug__":Str))=false:=by decide):RE X G (.Name x pos) (rC (.ty n)) :=
 ⟨i7 (L2.qh (v:=.ty n) hg hm hv rfl hn hd) fun σ H Q ⟨τ,J,Q2,a2,q,k⟩=>k (.ty n) J _ H rfl a2.hp .refl q⟩
abbrev jH:=PV→PV→Hq→(PV→Hq→Prop)→Prop
abbrev FZ:=PV→Hq→(PV→Hq→Prop)→Prop
abbrev vF:=List PV→Hq→(PV→Hq→Prop)→Prop
def Kn (K:PySem.W.Frag) (J:Hq) (H:Hp) (Q2:PV→Hq→Prop) (Q:VK):Prop:=∀ z J' u H',bR K J' H' z u→Rep K J' H'→Ext K J H J' H'→Q2 z J'→Q u H'
def LR (K:PySem.W.Frag) (r:R2) (q:jH):Prop:=∀ J H x y v w Q2 Q,bR K J H x v→bR K J H y w→Rep K J H→q x y J Q2→Kn K J H Q2 Q→r v w H Q
def KO (K:PySem.W.Frag) (r:V→Hp→VK→Prop) (q:FZ):Prop:=∀ J H x v Q2 Q,bR K J H x v→Rep K J H→q x J Q2→Kn K J H Q2 Q→r v H Q
def J_ (K:PySem.W.Frag) (r:List V→Hp→VK→Prop) (q:vF):Prop:=∀ J H xs vs Q2 Q,aJ K J H xs vs→Rep K J H→q xs J Q2→Kn K J H Q2 Q→r vs H Q
def jG (X:Cx) (f:Value→Value→Sem Value) (q:jH):Prop:=∃ r,eu X f r∧LR X.K r q
def Kc (X:Cx) (f:Value→Sem Value) (q:FZ):Prop:=∃ r,t8 X f r∧KO X.K r q
def Iz (X:Cx) (q:jH):Prop:=∃ r,md X r∧LR X.K r q
def Dc (X:Cx) (f:Value) (q:vF):Prop:=∃ r,bP X f r∧J_ X.K r q
def rg (q:jH) (ta tb:cQ):cQ:=fun τ J Q=>ta τ J fun x J1=>tb τ J1 fun y J2=>q x y J2 Q
def KG (q:FZ) (ta:cQ):cQ:=fun τ J Q=>ta τ J fun x J1=>q x J1 Q
theorem lO {r:R2} {q:jH} (lr:LR X.K r q):∀ σ H Q,LE X.K G (rg q ta tb) σ H Q→L2.A_ r (LE X.K G ta) (LE X.K G tb) σ H Q:=fun σ H Q ⟨τ,J,Q2,a2,h,k⟩ =>
 ⟨τ,J,_,a2,h,fun x J1 v H1 rx r1 e1 q1=>⟨τ,J1,_,a2.go r1 e1,q1,fun y J2 w H2 ry r2 e2 q2 =>
  lr J2 H2 x y v w Q2 Q (e2.rep rx) ry r2 q2 fun z J' u H' rz rr ee qq=>k z J' u H' rz rr ((e1.trans e2).trans ee) qq⟩⟩
theorem aL {op:Operator} {q:jH} (ho:jG X (binaryOp op) q) (ha:RE X G a ta) (hb:RE X G b tb):RE X G (.BinOp a op b pos) (rg q ta tb):=by
 obtain ⟨r,h,lr⟩:=ho
 exact ⟨i7 (L2.a8 h ha.run hb.run) (lO lr)⟩
theorem pd {op:UnaryOp} {q:FZ} (ho:Kc X (unaryOp op) q) (ha:RE X G a ta):RE X G (.UnaryOp op a pos) (KG q ta):=by
 obtain ⟨r,h,lr⟩:=ho
 exact ⟨i7 (L2.wy h ha.run) fun σ H Q ⟨τ,J,Q2,a2,h,k⟩=>⟨τ,J,_,a2,h,fun x J1 v H1 rx r1 e1 q1 =>
  lr J1 H1 x v Q2 Q rx r1 q1 fun z J' u H' rz rr ee qq=>k z J' u H' rz rr (e1.trans ee) qq⟩⟩
theorem aq {q:jH} (hr:Iz X q) (ha:RE X G a ta) (hb:RE X G b tb) (hs:cU b):RE X G (.Subscript a b pos) (rg q ta tb):=by
 obtain ⟨r,h,lr⟩:=hr
 exact ⟨i7 (L2.bO h ha.run hb.run hs) (lO lr)⟩
theorem dZ {op:CmpOp} {q:jH} (ho:jG X (compareOp op) q) (ha:RE X G a ta) (hb:RE X G b tb) (hm:behindInMarks op b=false):RE X G (.Compare a [op] [b] pos) (rg q ta tb):=by
 obtain ⟨r,h,lr⟩:=ho
 exact ⟨i7 (L2.lQ h ha.run hb.run hm) (lO lr)⟩
def rB (t:cQ):jk:=fun τ J Q=>t τ J fun x J1=>∃ k,x=.bl k∧Q k J1
theorem aD {op:CmpOp} {q:jH} (ho:jG X (compareOp op) q) (ha:RE X G a ta) (hb:RE X G b tb) (hm:behindInMarks op b=false):RT X G (.Compare a [op] [b] pos) (rB (rg q ta tb)):=by
 obtain ⟨r,h,lr⟩:=ho
 refine ⟨Il (L2.cW h ha.run hb.run hm) fun σ H Q ⟨τ,J,Q2,a2,h,k⟩=>?_⟩
 refine lO lr σ H _ ⟨τ,J,_,a2,h,fun z J' u H' rz rr ee qq=>?_⟩
 obtain ⟨b,rfl,q⟩:=qq
 exact ⟨b,rz,k b J' H' rr ee q⟩
theorem bz (h:RE X G e te) (he:∀ whole,isTrue e X.env whole=(do let v ← whole;standAt e.pos;holding [v] (truthy v)):=by intro _;rfl):RT X G e (rB te) :=
 ⟨Il (L2.vb h.run he) fun σ H Q ⟨τ,J,Q2,a2,h,k⟩=>⟨τ,J,_,a2,h,fun z J' u H' rz rr ee ⟨b,eb,q⟩=>by subst eb;exact ⟨b,rz,k b J' H' rr ee q⟩⟩⟩
def rb (J:Hq):PV→Option Bool
 | .non=>some false
 | .bl b=>some b
 | .int i=>some (i != 0)
 | .tup xs=>some (!xs.isEmpty)
 | .fl xs=>some (!xs.isEmpty)
 | .ref a=>match J a with
  | some (.lst xs)=>some (!xs.isEmpty)
  | some (.dct kvs _)=>some (!kvs.isEmpty)
  | _=>none
 | _=>none
theorem fA {α β:Type} {xs:List α} {ys:List β} (h:xs.length=ys.length):xs.isEmpty=ys.isEmpty:=by cases xs <;> cases ys <;> simp_all
theorem C6 {K:PySem.W.Frag} {J:Hq} {H:Hp} {x:PV} {v:V} {k:Bool} (r:bR K J H x v) (hp:Rep K J H) (h:rb J x=some k):L2.D8 K v H k:=by
 cases x with
 | non=>cases r;cases h;rfl
 | bl b=>cases r;cases h;rfl
 | int i=>cases r;cases h;rfl
 | str s=>cases h
 | ty n=>cases h
 | tup xs=>obtain ⟨a,vs,rfl,h1,h2⟩:=r;cases h;exact .inr (.inl ⟨vs,h1,by rw [fA h2.length]⟩)
 | fl xs=>obtain ⟨a,vs,rfl,h1,h2⟩:=r;cases h;exact .inl ⟨vs,h1.sq,by rw [fA h2.length]⟩
 | ref a =>
  cases r
  unfold rb at h
  dsimp only at h
  cases e:J a with
  | none=>rw [e] at h;cases h
  | some o =>
   rw [e] at h
   have z:=hp a o e
   cases o with
   | lst xs=>obtain ⟨vs,h1,h2⟩:=z;cases h;exact .inl ⟨vs,.inl (.inl h1),by rw [fA h2.length]⟩
   | ins C fs=>cases h
   | tab=>cases h
   | dct kvs ep =>
    obtain ⟨gs,h1,h2⟩:=z;cases h
    refine .inr (.inr ⟨gs,ep,h1,?_⟩)
    have:=congrArg List.length h2.1
    simp only [List.length_map] at this
    rw [fA this]
def Hy (te:cQ):jk:=fun τ J Q=>te τ J fun x J1=>∃ k,rb J1 x=some k∧Q k J1
theorem Fp (h:RE X G e te) (he:∀ whole,isTrue e X.env whole=(do let v ← whole;standAt e.pos;holding [v] (truthy v)):=by intro _;rfl):RT X G e (Hy te) :=
 ⟨Il (L2.An h.run he) fun σ H Q ⟨τ,J,Q2,a2,h,k⟩=>⟨τ,J,_,a2,h,fun z J' u H' rz rr ee ⟨b,eb,q⟩=>⟨b,C6 rz rr eb,k b J' H' rr ee q⟩⟩⟩
def Cv (t u:jk):jk:=fun τ J Q=>t τ J fun c J1=>if c=true then u τ J1 Q else Q false J1
def JE (t u:jk):jk:=fun τ J Q=>t τ J fun c J1=>if c=true then Q true J1 else u τ J1 Q
def Hr (t:jk):jk:=fun τ J Q=>t τ J fun c J1=>Q (!c) J1
theorem cj (ha:RT X G a tA):RT X G (.UnaryOp .Not a pos) (Hr tA):=⟨Il (L2.u_ ha.run) fun σ H Q ⟨τ,J,Q2,a2,h,k⟩=>⟨τ,J,_,a2,h,fun b J' H' rr ee q=>k _ J' H' rr ee q⟩⟩
theorem dN (ha:RT X G a tA):RW X G (.BoolOp .And [a] pos) tA:=⟨L2.lU ha.run⟩
theorem fU (ha:RT X G a tA):RW X G (.BoolOp .Or [a] pos) tA:=⟨L2.qw ha.run⟩
theorem yT {σ:L2.St} {H:Hp} {Q:Bool→Hp→Prop}:LT X.K G (Cv tA tB') σ H Q→L2.A5 (LT X.K G tA) (LT X.K G tB') σ H Q:=fun ⟨τ,J,Q2,a2,h,k⟩ =>
 ⟨τ,J,_,a2,h,fun b J' H' rr ee q=>by
  cases b with
  | true=>simp only [if_true] at q ⊢;exact ⟨τ,J',Q2,a2.go rr ee,q,fun b J2 H2 r2 e2 q2=>k b J2 H2 r2 (ee.trans e2) q2⟩
  | false=>simp only [Bool.false_eq_true,if_false] at q ⊢;exact k _ J' H' rr ee q⟩
theorem B_ {σ:L2.St} {H:Hp} {Q:Bool→Hp→Prop}:LT X.K G (JE tA tB') σ H Q→L2.HL (LT X.K G tA) (LT X.K G tB') σ H Q:=fun ⟨τ,J,Q2,a2,h,k⟩ =>
 ⟨τ,J,_,a2,h,fun b J' H' rr ee q=>by
  cases b with
  | false=>simp only [Bool.false_eq_true,if_false] at q ⊢;exact ⟨τ,J',Q2,a2.go rr ee,q,fun b J2 H2 r2 e2 q2=>k b J2 H2 r2 (ee.trans e2) q2⟩
  | true=>simp only [if_true] at q ⊢;exact k _ J' H' rr ee q⟩
theorem eG (ha:RT X G a tA) (hb:RW X G (.BoolOp .And (b :: rest) pos) tB'):RW X G (.BoolOp .And (a :: b :: rest) pos) (Cv tA tB'):=⟨Ku (L2.qv ha.run hb.run) fun σ H Q h=>yT h⟩
theorem je (ha:RT X G a tA) (hb:RW X G (.BoolOp .Or (b :: rest) pos) tB'):RW X G (.BoolOp .Or (a :: b :: rest) pos) (JE tA tB'):=⟨Ku (L2.wB ha.run hb.run) fun σ H Q h=>B_ h⟩
theorem dh (h:RW X G e tA):RT X G e tA:=⟨h.run.pt⟩
def DN (ta tb:cQ):cQ:=fun τ J Q=>ta τ J fun x J1=>∃ c,x=.bl c∧if c=true then tb τ J1 Q else Q (.bl false) J1
def Hs (ta tb:cQ):cQ:=fun τ J Q=>ta τ J fun x J1=>∃ c,x=.bl c∧if c=true then Q (.bl true) J1 else tb τ J1 Q
def DR (ta:cQ):cQ:=fun τ J Q=>ta τ J fun x J1=>∃ c,x=.bl c∧Q (.bl (!c)) J1
theorem qA {op} (h:RE X G a ta):RE X G (.BoolOp op [a] pos) ta:=⟨L2.uV h.run⟩
theorem vf (ha:RE X G a ta) (hb:RE X G (.BoolOp .And (b :: rest) pos) tb):RE X G (.BoolOp .And (a :: b :: rest) pos) (DN ta tb):=⟨i7 (L2.uS ha.run hb.run) fun σ H Q ⟨τ,J,Q2,a2,h,k⟩ =>
 ⟨τ,J,_,a2,h,fun x J' v H' rx rr ee ⟨c,ec,q⟩=>by
  subst ec
  refine ⟨c,rx,?_⟩
  cases c with
  | true=>simp only [if_true] at q ⊢;exact ⟨τ,J',Q2,a2.go rr ee,q,fun z J2 u H2 rz r2 e2 q2=>k z J2 u H2 rz r2 (ee.trans e2) q2⟩
  | false=>simp only [Bool.false_eq_true,if_false] at q ⊢;exact k (.bl false) J' _ H' rfl rr ee q⟩⟩
theorem HD (ha:RE X G a ta) (hb:RE X G (.BoolOp .Or (b :: rest) pos) tb):RE X G (.BoolOp .Or (a :: b :: rest) pos) (Hs ta tb):=⟨i7 (L2.Aj ha.run hb.run) fun σ H Q ⟨τ,J,Q2,a2,h,k⟩ =>
 ⟨τ,J,_,a2,h,fun x J' v H' rx rr ee ⟨c,ec,q⟩=>by
  subst ec
  refine ⟨c,rx,?_⟩
  cases c with
  | false=>simp only [Bool.false_eq_true,if_false] at q ⊢;exact ⟨τ,J',Q2,a2.go rr ee,q,fun z J2 u H2 rz r2 e2 q2=>k z J2 u H2 rz r2 (ee.trans e2) q2⟩
  | true=>simp only [if_true] at q ⊢;exact k (.bl true) J' _ H' rfl rr ee q⟩⟩
theorem Fi (ha:RE X G a ta):RE X G (.UnaryOp .Not a pos) (DR ta):=⟨i7 (L2.uU ha.run) fun σ H Q ⟨τ,J,Q2,a2,h,k⟩ =>
 ⟨τ,J,_,a2,h,fun x J' v H' rx rr ee ⟨c,ec,q⟩=>by subst ec;exact ⟨c,rx,k (.bl (!c)) J' _ H' rfl rr ee q⟩⟩⟩
def Kz (t:jk) (ta tb:cQ):cQ:=fun τ J Q=>t τ J fun c J1=>if c=true then ta τ J1 Q else tb τ J1 Q
theorem HB (hc:RT X G c tA) (ha:RE X G a ta) (hb:RE X G b tb):RE X G (.IfExp c a b pos) (Kz tA ta tb):=⟨i7 (L2.mU hc.run ha.run hb.run) fun σ H Q ⟨τ,J,Q2,a2,h,k⟩ =>
 ⟨τ,J,_,a2,h,fun c J' H' rr ee q=>by
  cases c with
  | true=>simp only [if_true] at q ⊢;exact ⟨τ,J',Q2,a2.go rr ee,q,fun z J2 u H2 rz r2 e2 q2=>k z J2 u H2 rz r2 (ee.trans e2) q2⟩
  | false=>simp only [Bool.false_eq_true,if_false] at q ⊢;exact ⟨τ,J',Q2,a2.go rr ee,q,fun z J2 u H2 rz r2 e2 q2=>k z J2 u H2 rz r2 (ee.trans e2) q2⟩⟩⟩
def ou:k8:=fun _ J Q=>Q [] J
def ie (ta:cQ) (tr:k8):k8:=fun τ J Q=>ta τ J fun x J1=>tr τ J1 fun xs J2=>Q (x :: xs) J2
theorem ah:RA X G [] ou:=⟨Js L2.bt fun σ H Q ⟨τ,J,Q2,a2,h,k⟩=>k [] J [] H rfl a2.hp .refl h⟩
theorem af (ha:RE X G e te) (hr:RA X G es t) (hs:starEach (e :: es) X.env=(false,eval e X.env) :: starEach es X.env:=by rfl):RA X G (e :: es) (ie te t) :=
 ⟨Js (L2.aO ha.run hr.run hs) fun σ H Q ⟨τ,J,Q2,a2,h,k⟩=>⟨τ,J,_,a2,h,fun x J' v H' rx rr ee q=>⟨τ,J',_,a2.go rr ee,q,fun xs J2 vs H2 rs r2 e2 q2=>k (x :: xs) J2 (v :: vs) H2 ⟨v,vs,rfl,e2.rep rx,rs⟩ r2 (ee.trans e2) q2⟩⟩⟩
def vP:V→PV
 | .non=>.non | .bl b=>.bl b | .int i=>.int i | .str x=>.str x | _=>.non
theorem m3 {K:PySem.W.Frag} {J:Hq} {H:Hp}:∀ {es:List Expr} {vs:List V},es.map pG=vs.map some→aJ K J H (vs.map vP) vs
 | [],[],_=>rfl
 | [],_ :: _,h=>by cases h
 | _ :: _,[],h=>by cases h
 | e :: es,v :: vs,h=>by
  rw [List.map_cons,List.map_cons] at h
  injection h with h1 h2
  refine ⟨v,vs,rfl,?_,m3 h2⟩
  cases e with
  | Constant c j pos =>
   cases c with
   | int i=>cases h1;rfl
   | str x=>cases h1;rfl
   | bool b=>cases h1;rfl
   | _=>cases h1
  | _=>cases h1
theorem ve {es:List Expr} (vs:List V) (h:es.map pG=vs.map some) (xs:List PV) (hx:vs.map vP=xs):RA X G es (fun _ J Q=>Q xs J) :=
 ⟨Js (mR vs h) fun σ H Q ⟨τ,J,Q2,a2,q,k⟩=>k _ J _ H (by rw [← hx];exact m3 h) a2.hp .refl q⟩
def Hz (t:k8):cQ:=fun τ J Q=>t τ J fun xs J1=>xs.length≤sizeLine∧Q (.tup xs) J1
theorem cu {x1} (h:RA X G es t):RE X G (.Tuple es x1 pos) (Hz t):=⟨i7 (L2.mV h.run) fun σ H Q ⟨τ,J,Q2,a2,h,k⟩=>⟨τ,J,_,a2,h,fun xs J' vs H' rs rr ee ⟨hl,q⟩ =>
 ⟨by rw [← rs.length];exact hl,fun p hp=>by
  have sm:=ba.new hp (.tup vs)
  have e2:=Ext.same (K:=X.K) (J:=J') sm
  exact k (.tup xs) J' (.ref p) _ ⟨p,vs,rfl,.inl (.inl aB),e2.gC rs⟩ (rr.same sm) (ee.trans e2) q⟩⟩⟩
def Ho (t:k8):cQ:=fun τ J Q=>t τ J fun xs J1=>xs.length≤sizeLine∧∀ p,J1 p=none→Q (.ref p) (put J1 p (.lst xs))
theorem jv (h:RA X G es t):RE X G (.List es pos) (Ho t):=⟨i7 (L2.h_ h.run) fun σ H Q ⟨τ,J,Q2,a2,h,k⟩=>⟨τ,J,_,a2,h,fun xs J' vs H' rs rr ee ⟨hl,q⟩ =>
 ⟨by rw [← rs.length];exact hl,fun p hp=>k (.ref p) _ (.ref p) _ rfl (rr.zC hp rs) (ee.trans (.laid hp)) (q p (rr.free hp))⟩⟩⟩
def Kx (t:k8):cQ:=fun τ J Q=>t τ J fun xs J1=>xs.length≤sizeLine∧Q (.fl xs) J1
theorem uM {K:PySem.W.Frag} {J:Hq} {H:Hp} {xs:List PV} {vs:List V} {p:Addr} (rr:Rep K J H) (rs:aJ K J H xs vs) (hp:H p=none):bR K J (upd H p (.lst vs)) (.fl xs) (.ref p)∧Rep K J (upd H p (.lst vs))∧Ext K J H J (upd H p (.lst vs)):=by
 have sm:=ba.new hp (.lst vs)
 have e2:=Ext.same (K:=K) (J:=J) sm
 exact ⟨⟨p,vs,rfl,.inl ⟨rr.free hp,.inl aB⟩,e2.gC rs⟩,rr.same sm,e2⟩
theorem tj (h:RA X G es t):RE X G (.List es pos) (Kx t):=⟨i7 (L2.h_ h.run) fun σ H Q ⟨τ,J,Q2,a2,h,k⟩=>⟨τ,J,_,a2,h,fun xs J' vs H' rs rr ee ⟨hl,q⟩ =>
 ⟨by rw [← rs.length];exact hl,fun p hp=>let ⟨x1,x2,x3⟩:=uM rr rs hp;k (.fl xs) _ (.ref p) _ x1 x2 (ee.trans x3) q⟩⟩⟩
abbrev FK:=Sr→Hq→(Option Int→Hq→Prop)→Prop
def LO (K:PySem.W.Frag) (G:G2) (t:FK):TO:=fun σ H Q=>∃ τ J Q2,rd K G τ J σ H∧t τ J Q2∧∀ b J' H',Rep K J' H'→Ext K J H J' H'→Q2 b J'→Q b H'
structure RO (X:Cx) (G:G2) (e:Option Expr) (t:FK):Prop where
 run:L2.PO X e (LO X.K G t)
theorem Ks {X:Cx} {e:Option Expr} {t t':TO} (h:L2.PO X e t) (k:∀ σ H Q,t' σ H Q→t σ H Q):L2.PO X e t':=fun pins s σ H Q I q=>h pins s σ H Q I (k _ _ _ q)
def wH:FK:=fun _ J Q=>Q none J
def DS (t:cQ):FK:=fun τ J Q=>t τ J fun x J1=>∃ i,x=.int i∧Q (some i) J1
theorem iM:RO X G none wH:=⟨Ks L2.lT fun σ H Q ⟨τ,J,Q2,a2,h,k⟩=>k none J H a2.hp .refl h⟩
theorem iN (h:RE X G e te):RO X G (some e) (DS te):=⟨Ks (L2.iI h.run) fun σ H Q ⟨τ,J,Q2,a2,h,k⟩=>⟨τ,J,_,a2,h,fun x J' v H' rx rr ee ⟨i,ei,q⟩=>by subst ei;exact ⟨i,rx,k _ J' H' rr ee q⟩⟩⟩
abbrev xu:=PV→Option Int→Option Int→Hq→(PV→Hq→Prop)→Prop
def IC (X:Cx) (q:xu):Prop:=∃ r,oJ X r∧∀ J H x lo hi v Q2 Q,bR X.K J H x v→Rep X.K J H→q x lo hi J Q2→Kn X.K J H Q2 Q→r v lo hi H Q
def KD (q:xu) (te:cQ) (tl th:FK):cQ:=fun τ J Q=>te τ J fun x J1=>tl τ J1 fun l J2=>th τ J2 fun u J3=>q x l u J3 Q
theorem gf {lo hi:Option Expr} {tl th:FK} {q:xu} (hr:IC X q) (he:RE X G e te) (hl:RO X G lo tl) (hu:RO X G hi th):RE X G (.Subscript e (.Slice lo hi none p2) pos) (KD q te tl th):=by
 obtain ⟨r,h,lr⟩:=hr
 exact ⟨i7 (L2.ia h he.run hl.run hu.run) fun σ H Q ⟨τ,J,Q2,a2,h,k⟩=>⟨τ,J,_,a2,h,fun x J' v H' rx rr ee q1=>⟨τ,J',_,a2.go rr ee,q1,fun l J2 H2 r2 e2 q2 =>
  ⟨τ,J2,_,a2.go r2 (ee.trans e2),q2,fun u J3 H3 r3 e3 q3=>lr J3 H3 x l u v Q2 Q ((e2.trans e3).rep rx) r3 q3 fun z J4 w H4 rz r4 e4 q4=>k z J4 w H4 rz r4 (((ee.trans e2).trans e3).trans e4) q4⟩⟩⟩⟩
def Hg (q:vF) (t:k8):cQ:=fun τ J Q=>t τ J fun xs J1=>q xs J1 Q
theorem vJ {r:List V→Hp→VK→Prop} {q:vF} (lr:J_ X.K r q):∀ σ H Q,LE X.K G (Hg q t) σ H Q→L2.D0 r (LA X.K G t) σ H Q:=fun σ H Q ⟨τ,J,Q2,a2,h,k⟩ =>
 ⟨τ,J,_,a2,h,fun xs J1 vs H1 rs r1 e1 q1=>lr J1 H1 xs vs Q2 Q rs r1 q1 fun z J' u H' rz rr ee qq=>k z J' u H' rz rr (e1.trans ee) qq⟩
theorem aG {id:String} {q:vF} (hc:Dc X (.builtin id) q) (hg:Gl X x) (hm:X.mg x=none) (hv:bootBuiltins x=some (.builtin id)) (ha:RA X G (e :: es) t) (hn:x≠"__name__":=by decide) (hdb:(x == ("__debug__":Str))=false:=by decide)
  (he:starEach (e :: es) X.env=(false,eval e X.env) :: starEach es X.env:=by rfl) (hpl:(backTo pos (starEach es X.env)).any (·.1)=false:=by rfl):RE X G (.Call (.Name x p) (e :: es) [] pos) (Hg q t):=by
 obtain ⟨r,h,lr⟩:=hc
 exact ⟨i7 (L2.de h hg hm hv ha.run hn hdb he hpl) (vJ lr)⟩
theorem gd {T:String} {q:vF} (hc:Dc X (.type T) q) (hg:Gl X x) (hm:X.mg x=none) (hv:bootBuiltins x=some (.type T)) (ha:RA X G (e :: es) t) (hn:x≠"__name__":=by decide) (hdb:(x == ("__debug__":Str))=false:=by decide)
  (he:starEach (e :: es) X.env=(false,eval e X.env) :: starEach es X.env:=by rfl) (hpl:(backTo pos (starEach es X.env)).any (·.1)=false:=by rfl):RE X G (.Call (.Name x p) (e :: es) [] pos) (Hg q t):=by
 obtain ⟨r,h,lr⟩:=hc
 exact ⟨i7 (L2.kK h hg hm hv ha.run hn hdb he hpl) (vJ lr)⟩
abbrev yG:=PV→List PV→Hq→(PV→Hq→Prop)→Prop
def D7 (X:Cx) (T id:String) (q:yG):Prop:=∃ r,mf X id r∧∀ J H x xs v vs Q2 Q,bR X.K J H x v→aJ X.K J H xs vs→Rep X.K J H→q x xs J Q2→Kn X.K J H Q2 Q→r v vs H Q
def FX (T:String) (J:Hq):PV→Prop
 | .str _=>T="str"
 | .fl _=>T="list"
 | .ref a=>(T="list"∧∃ xs,J a=some (.lst xs))∨(T="dict"∧∃ kvs ep,J a=some (.dct kvs ep))
 | _=>False
theorem xp {K:PySem.W.Frag} {T:String} {J:Hq} {H:Hp} {x:PV} {v:V} (r:bR K J H x v) (hp:Rep K J H) (h:FX T J x):L2.Iv K T v H:=by
 cases x with
 | str s=>cases r;exact h
 | fl xs=>obtain ⟨a,vs,rfl,h1,h2⟩:=r;exact .inl ⟨h,vs,h1.sq⟩
 | ref a =>
  cases r
  rcases h with ⟨h,xs,e⟩ | ⟨h,kvs,ep,e⟩
  ·obtain ⟨vs,h1,_⟩:=hp _ _ e;exact .inl ⟨h,vs,.inl (.inl h1)⟩
  ·obtain ⟨gs,h1,_⟩:=hp _ _ e;exact .inr (.inr (.inl ⟨h,.inr ⟨gs,ep,h1⟩⟩))
 | _=>cases h
def Jz (T:String) (q:yG) (to:cQ) (t:k8):cQ:=fun τ J Q=>to τ J fun x J1=>FX T J1 x∧t τ J1 fun xs J2=>q x xs J2 Q
def Hf (T:String) (q:yG) (to:cQ):cQ:=fun τ J Q=>to τ J fun x J1=>FX T J1 x∧q x [] J1 Q
theorem jc {name:Str} {T id:String} {q:yG} (pa:PlainAttrs T) (slot:Slot T name id) (hty:typeOf (.builtin id)=pure (.type "method_descriptor")) (hm:D7 X T id q) (ho:RE X G o to) (ha:RA X G (e :: es) t)
  (hbase:attributeBase o name X.env (eval o X.env)=eval o X.env:=by rfl)
  (hfew:((backTo cpos (starEach (e :: es) X.env)).all (fun x=>!x.1) && (backToKw cpos (keywordEach [] X.env)).all (fun x=>x.1.isSome)
   && decide ((e :: es).length + ([]:List Keyword).length + (if ([]:List Keyword).isEmpty then 0 else 1) < 30))=true:=by rfl)
  (hline:(apos.endLine == cpos.line)=true:=by rfl) (hs:starEach (e :: es) X.env=(false,eval e X.env) :: starEach es X.env:=by rfl) (hplain:(backTo cpos (starEach es X.env)).any (·.1)=false:=by rfl) :
  RE X G (.Call (.Attribute o name apos) (e :: es) [] cpos) (Jz T q to t):=by
 obtain ⟨r,h,lr⟩:=hm
 exact ⟨i7 (L2.mT pa slot hty h ho.run ha.run hbase hfew hline hs hplain) fun σ H Q ⟨τ,J,Q2,a2,h,k⟩=>⟨τ,J,_,a2,h,fun x J1 v H1 rx r1 e1 ⟨ty,q1⟩=>⟨xp rx r1 ty,τ,J1,_,a2.go r1 e1,q1,fun xs J2 vs H2 rs r2 e2 q2 =>
  lr J2 H2 x xs v vs Q2 Q (e2.rep rx) rs r2 q2 fun z J' u H' rz rr ee qq=>k z J' u H' rz rr ((e1.trans e2).trans ee) qq⟩⟩⟩
theorem Fh {name:Str} {T id:String} {q:yG} (pa:PlainAttrs T) (slot:Slot T name id) (hty:typeOf (.builtin id)=pure (.type "method_descriptor")) (hm:D7 X T id q) (ho:RE X G o to)
  (hbase:attributeBase o name X.env (eval o X.env)=eval o X.env:=by rfl) (hline:(apos.endLine == cpos.line)=true:=by rfl):RE X G (.Call (.Attribute o name apos) [] [] cpos) (Hf T q to):=by
 obtain ⟨r,h,lr⟩:=hm
 exact ⟨i7 (L2.EZ pa slot hty h ho.run hbase hline) fun σ H Q ⟨τ,J,Q2,a2,h,k⟩=>⟨τ,J,_,a2,h,fun x J1 v H1 rx r1 e1 ⟨ty,q1⟩=>⟨xp rx r1 ty,
  lr J1 H1 x [] v [] Q2 Q rx rfl r1 q1 fun z J' u H' rz rr ee qq=>k z J' u H' rz rr (e1.trans ee) qq⟩⟩⟩
end
end Ov
namespace Ov
open PySem PySem.Spec PyProof.Rows
open L2 (V HO Hp Inv Cx VK XK TE TT TA TS TG mi TI TO i5 Ends rq Loc Gl Rd RelV Vals eu t8 bP md oJ mf i4 R2 upd aB aK cD fQ Sp nM It ba cU bE Passes lI az Meth Mk Binds aH bQ aw c5 ft dY)
abbrev b9:=List PV→Hq→(PV→Hq→Prop)→(Addr→Hq→Prop)→Prop
def D6 (K:PySem.W.Frag) (J:Hq) (H:Hp) (E2:Addr→Hq→Prop) (E:XK):Prop:=∀ c J' H',Rep K J' H'→Ext K J H J' H'→E2 c J'→E (.ref c) none H'
def c8 (K:PySem.W.Frag) (sp:b9):Sp:=fun vs H Q E=>∃ xs J Q2 E2,aJ K J H xs vs∧Rep K J H∧sp xs J Q2 E2∧Kn K J H Q2 Q∧D6 K J H E2 E
theorem D6.ext {K:PySem.W.Frag} {J J':Hq} {H H':Hp} {E2:Addr→Hq→Prop} {E:XK} (k:D6 K J H E2 E) (e:Ext K J H J' H'):D6 K J' H' E2 E:=fun c J1 H1 r x q=>k c J1 H1 r (e.trans x) q
theorem _root_.L2.aH.KU {P:Program} {w:World} {K:PySem.W.Frag} {mg:Str→Option Value} {base:Heap} {k:Nat} {f:Addr} {fd:FuncData} {ps:List Str} {sp:Sp} (F:aH P w K mg base L2.ma k f fd ps sp):aH P w K mg base (cF P w) k f fd ps sp :=
 ⟨F.len,fun A outer s H args us vs Q E hr he hb hv hs=>codeAny_mono (F.run A outer s H args us vs Q E hr he hb hv hs) fun r s' q=>by
  cases r with
  | error e=>exact False.elim q
  | ok fl=>cases fl <;> exact q⟩
theorem _root_.L2.aH.H_ {P:Program} {w:World} {K:PySem.W.Frag} {mg:Str→Option Value} {base:Heap} {k:Nat} {f:Addr} {fd:FuncData} {ps:List Str} {sp:Sp} (F:aH P w K mg base (cF P w) k f fd ps sp):aH P w K mg base L2.ma k f fd ps (fun vs H Q _=>sp vs H Q L2.E0) :=
 ⟨fun vs H Q E q=>F.len vs H Q _ q,fun A outer s H args us vs Q E hr he hb hv hs=>codeAny_mono (F.run A outer s H args us vs Q _ hr he hb hv hs) fun r s' q=>by
  cases r with
  | error e=>obtain ⟨_,_,_,_,_,z⟩:=q;exact z.elim
  | ok fl=>cases fl <;> exact q⟩
def aZ (P:Program) (w:World) (K:PySem.W.Frag) (mg:Str→Option Value) (base:Heap) (k:Nat) (x:Str) (ps:List Str) (sp:b9):Prop:=yK P w K mg base k x ps (c8 K sp)
theorem _root_.Ov.nJ.lift {P:Program} {w:World} {K:PySem.W.Frag} {mg:Str→Option Value} {base:Heap} {k:Nat} {x:Str} {ps:List Str} {sp:Sp} (C:nJ P w K mg base k x ps sp) {sp':b9}
  (h:∀ xs J vs H Q2 E2 Q E,aJ K J H xs vs→Rep K J H→sp' xs J Q2 E2→Kn K J H Q2 Q→sp vs H Q E):aZ P w K mg base k x ps sp':=by
 obtain ⟨f,fd,F,r⟩:=C
 exact ⟨f,fd,(F.KU).imp fun vs H Q E ⟨xs,J,Q2,E2,a,b,c,d,_⟩=>h xs J vs H Q2 E2 Q E a b c d,r⟩
theorem yK.lift {P:Program} {w:World} {K:PySem.W.Frag} {mg:Str→Option Value} {base:Heap} {k:Nat} {x:Str} {ps:List Str} {sp:Sp} (C:yK P w K mg base k x ps sp) {sp':b9}
  (h:∀ xs J vs H Q2 E2 Q E,aJ K J H xs vs→Rep K J H→sp' xs J Q2 E2→Kn K J H Q2 Q→D6 K J H E2 E→sp vs H Q E):aZ P w K mg base k x ps sp':=by
 obtain ⟨f,fd,F,r⟩:=C
 exact ⟨f,fd,F.imp fun vs H Q E ⟨xs,J,Q2,E2,a,b,c,d,e⟩=>h xs J vs H Q2 E2 Q E a b c d e,r⟩
section
variable {X:Cx} {G:G2} {a b c e o value:Expr} {es rest:List Expr} {ta tb te tc to tv:cQ} {tA tB':jk} {t:k8} {pos px p p2 apos cpos pos':Pos} {x:Str} {i j:Nat} {E:XK} {E2:Addr→Hq→Prop}
structure Bi (X:Cx) (G:G2) (E2:Addr→Hq→Prop) (E:XK):Prop where
 pass:Passes (cF X.prog X.w) X E
 kn:D6 X.K G.1 G.2 E2 E
def sY (sp:b9) (E2:Addr→Hq→Prop) (t:k8):cQ:=fun τ J Q=>t τ J fun xs J1=>sp xs J1 Q E2
theorem aM {k k':Nat} {ps:List Str} {sp:b9} (C:aZ X.prog X.w X.K X.mg X.base k x ps sp) (B:Bi X G E2 E) (hr:bE k' X.A) (hk:k≤k') (hg:Gl X x) (ha:RA X G (e :: es) t)
  (hdb:(x == ("__debug__":Str))=false:=by decide) (he:starEach (e :: es) X.env=(false,eval e X.env) :: starEach es X.env:=by rfl) (hpl:(backTo pos (starEach es X.env)).any (·.1)=false:=by rfl) :
  RE X G (.Call (.Name x p) (e :: es) [] pos) (sY sp E2 t) :=
 ⟨i7 (Ca C B.pass hr hk hg ha.run hdb he hpl) fun σ H Q ⟨τ,J,Q2,a2,h,k⟩=>⟨τ,J,_,a2,h,fun xs J1 vs H1 rs r1 e1 q1=>by
  simp only [List.append_nil]
  exact ⟨xs,J1,Q2,E2,rs,r1,q1,fun z J' u H' rz rr ee qq=>k z J' u H' rz rr (e1.trans ee) qq,B.kn.ext (a2.ext.trans e1)⟩⟩⟩
def Hh (C:Addr) (ta:cQ) (f:Str):cQ:=fun τ J Q=>ta τ J fun x J1=>∃ a fs v,x=.ref a∧J1 a=some (.ins C fs)∧fs.lookup f=some v∧Q v J1
theorem aP {C:Addr} {f:Str} (cl:lI X.K C) (na:az X.K C f) (he:RE X G e ta) (hb:attributeBase e f X.env (eval e X.env)=eval e X.env:=by rfl):RE X G (.Attribute e f pos) (Hh C ta f) :=
 ⟨i7 (L2.E3 he.run hb) fun σ H Q ⟨τ,J,Q2,a2,h,k⟩=>⟨τ,J,_,a2,h,fun x J1 v H1 rx r1 e1 ⟨a,fs,y,ex,ja,lk,q⟩=>by
  subst ex;cases rx
  obtain ⟨dx,gs,ha,rf⟩:=r1 _ _ ja
  obtain ⟨w,lw,rw'⟩:=rf.look lk
  exact ⟨a,C,dx,gs,w,rfl,ha,cl,na,lw,k y J1 w H1 rw' r1 e1 q⟩⟩⟩
structure cf (P:Program) (w:World) (K:PySem.W.Frag) (mg:Str→Option Value) (base:Heap) (C:Addr) (k:Nat) (m:Str) (ps:List Str) (sp:b9):Prop where
 cl:lI K C
 ex:∃ f fd,Meth K C m f∧aH P w K mg base (cF P w) k f fd ps (c8 K sp)∧Binds K fd ps []
def CA (C:Addr) (m:Str) (sp:b9) (E2:Addr→Hq→Prop) (ta:cQ) (t:k8):cQ:=fun τ J Q=>ta τ J fun x J1=>∃ a fs,x=.ref a∧J1 a=some (.ins C fs)∧fs.lookup m=none∧t τ J1 fun xs J2=>sp (x :: xs) J2 Q E2
theorem so {C:Addr} {m:Str} {sp:b9} (B:Bi X G E2 E):∀ σ H Q,LE X.K G (CA C m sp E2 to t) σ H Q→L2.A9 C m (c8 X.K sp) [] E (LE X.K G to) (LA X.K G t) σ H Q:=fun σ H Q ⟨τ,J,Q2,a2,h,k⟩ =>
 ⟨τ,J,_,a2,h,fun x J1 v H1 rx r1 e1 ⟨a,fs,ex,ja,lk,q⟩=>by
  subst ex;cases rx
  obtain ⟨dx,gs,ha,rf⟩:=r1 _ _ ja
  refine ⟨a,dx,gs,rfl,ha,rf.none lk,τ,J1,_,a2.go r1 e1,q,fun xs J2 vs H2 rs r2 e2 q2=>?_⟩
  simp only [List.append_nil]
  exact ⟨.ref a :: xs,J2,Q2,E2,⟨.ref a,vs,rfl,rfl,rs⟩,r2,q2,fun z J' u H' rz rr ee qq=>k z J' u H' rz rr ((e1.trans e2).trans ee) qq,B.kn.ext ((a2.ext.trans e1).trans e2)⟩⟩
theorem aY {C:Addr} {m:Str} {k k':Nat} {ps:List Str} {sp:b9} {pl:Sem Bool} (M:cf X.prog X.w X.K X.mg X.base C k m ps sp) (B:Bi X G E2 E) (hr:bE k' X.A) (hk:k≤k') (ho:RE X G o to) (ha:RA X G (e :: es) t)
  (hst:starEach (e :: es) X.env=(false,eval e X.env) :: starEach es X.env:=by rfl) (hpl:(backTo pos (starEach es X.env)).any (·.1)=false:=by rfl)
  (ht:eval (.Call (.Attribute o m apos) (e :: es) [] pos) X.env=(do
   let ov ← eval o X.env
   standAt apos.atName
   let (f,first) ← holding [ov] (getMethod ov m pl)
   callWith pos f first (backTo pos (starEach (e :: es) X.env)) (backToKw pos (keywordEach [] X.env))):=by rfl) :
  RE X G (.Call (.Attribute o m apos) (e :: es) [] pos) (CA C m sp E2 to t):=by
 obtain ⟨cl,f,fd,hm,F,b⟩:=M
 exact ⟨i7 (L2.Cd (pl:=pl) ho.run cl hm F (hr.mono hk) b .nil B.pass ha.run hst hpl ht) (so B)⟩
theorem cT {C:Addr} {m:Str} {k k':Nat} {ps:List Str} {sp:b9} {pl:Sem Bool} (M:cf X.prog X.w X.K X.mg X.base C k m ps sp) (B:Bi X G E2 E) (hr:bE k' X.A) (hk:k≤k') (ho:RE X G o to)
  (ht:eval (.Call (.Attribute o m apos) [] [] pos) X.env=(do
   let ov ← eval o X.env
   standAt apos.atName
   let (f,first) ← holding [ov] (getMethod ov m pl)
   callWith pos f first (backTo pos (starEach [] X.env)) (backToKw pos (keywordEach [] X.env))):=by rfl) :
  RE X G (.Call (.Attribute o m apos) [] [] pos) (CA C m sp E2 to ou):=by
 obtain ⟨cl,f,fd,hm,F,b⟩:=M
 refine ⟨i7 (L2.Ai (pl:=pl) ho.run cl hm F (hr.mono hk) b .nil B.pass ht) fun σ H Q h=>?_⟩
 have z:=so B σ H Q h
 obtain ⟨τ,J,Q2,a2,h1,k1⟩:=z
 refine ⟨τ,J,Q2,a2,h1,fun x J1 v H1 rx r1 e1 q1=>?_⟩
 obtain ⟨a,dx,fs,h2,h3,h4,τ',J',Q',a2',h5,k5⟩:=k1 x J1 v H1 rx r1 e1 q1
 exact ⟨a,dx,fs,h2,h3,h4,k5 [] J' [] H1 rfl a2'.hp .refl h5⟩
structure uc (P:Program) (w:World) (K:PySem.W.Frag) (mg:Str→Option Value) (base:Heap) (C:Addr) (k:Nat) (x:Str) (ps:List Str) (sp:b9):Prop where
 m:mg x=some (.ref C)
 ex:∃ f fd,Mk K C f∧aH P w K mg base (cF P w) k f fd ps (c8 K sp)∧Binds K fd ps []
def Cz (C:Addr) (sp:b9) (E2:Addr→Hq→Prop) (t:k8):cQ:=fun τ J Q=>t τ J fun xs J1=>∀ a,J1 a=none→sp (.ref a :: xs) (put J1 a (.ins C [])) (fun v J2=>v=.non∧Q (.ref a) J2) E2
theorem sh {C:Addr} {sp:b9} (B:Bi X G E2 E):∀ σ H Q,LE X.K G (Cz C sp E2 t) σ H Q→L2.A8 C (c8 X.K sp) [] E (LA X.K G t) σ H Q:=fun σ H Q ⟨τ,J,Q2,a2,h,k⟩ =>
 ⟨τ,J,_,a2,h,fun xs J1 vs H1 rs r1 e1 q1 x dx hx hdx ne=>by
  have s1:=ba.new hdx (.own x)
  have hx':upd H1 dx (.own x) x=none:=by rw [aK (Ne.symm ne)];exact hx
  have r2:=r1.same s1
  have e2:Ext X.K J1 H1 (put J1 x (.ins C [])) (upd (upd H1 dx (.own x)) x (.ins C dx [])):=(Ext.same s1).trans (.laid hx')
  have r3:Rep X.K (put J1 x (.ins C [])) (upd (upd H1 dx (.own x)) x (.ins C dx [])):=r2.yB (.laid hx') x (fun a ne=>ar ne) (fun a o ne _ z=>by rw [aK ne];exact z) fun u z=>by
   rw [au] at z;cases z
   exact ⟨dx,[],aB,rfl,rfl⟩
  simp only [List.append_nil]
  refine ⟨.ref x :: xs,_,_,E2,⟨.ref x,vs,rfl,rfl,e2.gC rs⟩,r3,q1 x (r1.free hx),fun z J' u H' rz rr ee ⟨ez,qq⟩=>?_,B.kn.ext ((a2.ext.trans e1).trans e2)⟩
  subst ez
  exact ⟨rz,k (.ref x) J' (.ref x) H' rfl rr ((e1.trans e2).trans ee) qq⟩⟩
theorem CD {C:Addr} {k k':Nat} {ps:List Str} {sp:b9} (M:uc X.prog X.w X.K X.mg X.base C k x ps sp) (B:Bi X G E2 E) (hr:bE k' X.A) (hk:k + 1≤k') (hg:Gl X x) (ha:RA X G (e :: es) t)
  (hdb:(x == ("__debug__":Str))=false:=by decide) (he:starEach (e :: es) X.env=(false,eval e X.env) :: starEach es X.env:=by rfl) (hpl:(backTo pos (starEach es X.env)).any (·.1)=false:=by rfl) :
  RE X G (.Call (.Name x p) (e :: es) [] pos) (Cz C sp E2 t):=by
 obtain ⟨hm,f,fd,mk,F,b⟩:=M
 exact ⟨i7 (L2.Cc mk F (hr.mono hk) hg hm b .nil B.pass ha.run hdb he hpl) (sh B)⟩
theorem mZ {C:Addr} {k k':Nat} {ps:List Str} {sp:b9} (M:uc X.prog X.w X.K X.mg X.base C k x ps sp) (B:Bi X G E2 E) (hr:bE k' X.A) (hk:k + 1≤k') (hg:Gl X x)
  (hdb:(x == ("__debug__":Str))=false:=by decide):RE X G (.Call (.Name x p) [] [] pos) (Cz C sp E2 ou):=by
 obtain ⟨hm,f,fd,mk,F,b⟩:=M
 refine ⟨i7 (L2.Ah mk F (hr.mono hk) hg hm b .nil B.pass hdb) fun σ H Q h=>?_⟩
 obtain ⟨τ,J,Q2,a2,h1,k1⟩:=sh (t:=ou) B σ H Q h
 exact k1 [] J [] H rfl a2.hp .refl h1
end
section
variable {X:Cx} {G:G2} {st:Stmt} {rest:List Stmt} {t u:gP} {e tg o value:Expr} {es:List Expr} {te ta tv:cQ} {tc:jk} {pos pos':Pos}
def mY:gP:=fun D τ J=>D.nx τ J
def b7 (t u:gP):gP:=fun D τ J=>t { D with nx:=u D } τ J
theorem aE:RB X G [] mY:=⟨Jt L2.eK fun D σ H ⟨τ,J,D2,a2,h,g⟩=>g.nx τ J σ H a2.sl a2.hp .refl h⟩
theorem ai (h1:RS X G st t) (h2:RB X G rest u):RB X G (st :: rest) (b7 t u):=⟨Jt (L2.aQ h1.run h2.run) fun D σ H ⟨τ,J,D2,a2,h,g⟩=>⟨τ,J,{ D2 with nx:=u D2 },a2,h,
 { nx:=fun τ' J' σ' H' rs rr ee q=>⟨τ',J',D2,⟨rs,rr,a2.ext.trans ee⟩,q,g.ext ee⟩,rt:=g.rt,bk:=g.bk,ct:=g.ct }⟩⟩
theorem ak (h1:RS X G st t):RB X G [st] t:=⟨L2.bx h1.run⟩
def Ay (t u:gP):gP:=fun D τ J=>∃ M:Sr→Hq→Prop,t { D with nx:=M } τ J∧∀ τ' J',M τ' J'→u D τ' J'
theorem dn (h1:RS X G st t) (h2:RB X G rest u):RB X G (st :: rest) (Ay t u):=⟨Jt (L2.aQ h1.run h2.run) fun D σ H ⟨τ,J,D2,a2,⟨M,h,hm⟩,g⟩=>⟨τ,J,{ D2 with nx:=M },a2,h,
 { nx:=fun τ' J' σ' H' rs rr ee q=>⟨τ',J',D2,⟨rs,rr,a2.ext.trans ee⟩,hm _ _ q,g.ext ee⟩,rt:=g.rt,bk:=g.bk,ct:=g.ct }⟩⟩
def JA:gP:=fun D τ J=>D.bk τ J
def JB:gP:=fun D τ J=>D.ct τ J
def wG (te:cQ):gP:=fun D τ J=>te τ J fun _ J1=>D.nx τ J1
theorem aX (he:RE X G e te) (hs:swapsWith e none pos.line X.env=pure false:=by rfl):RS X G (.Expr e pos) (wG te):=⟨uZ (L2.iJ he.run hs) fun D σ H ⟨τ,J,D2,a2,h,g⟩ =>
 ⟨τ,J,_,a2,h,fun x J' v H' rx rr ee q=>g.nx τ J' σ H' (a2.sl.ext ee) rr ee q⟩⟩
def Hv (te:cQ):gP:=fun D τ J=>te τ J D.rt
theorem ay (he:RE X G e te):RS X G (.Return (some e) pos) (Hv te):=⟨uZ (L2.c7 he.run) fun D σ H ⟨τ,J,D2,a2,h,g⟩=>⟨τ,J,_,a2,h,fun x J' v H' rx rr ee q=>g.rt x J' v H' rx rr ee q⟩⟩
def DT:gP:=fun D _ J=>D.rt .non J
theorem CI:RS X G (.Return none pos) DT:=⟨uZ L2.qm fun D σ H ⟨τ,J,D2,a2,h,g⟩=>g.rt .non J .non H rfl a2.hp .refl h⟩
def vd (c:jk) (t u:gP):gP:=fun D τ J=>c τ J fun b J1=>if b=true then t D τ J1 else u D τ J1
theorem aR {c:Expr} {a b:List Stmt} (hc:RT X G c tc) (ha:RB X G a t) (hb:RB X G b u):RS X G (.If c a b pos) (vd tc t u):=⟨uZ (L2.jY hc.run ha.run hb.run) fun D σ H ⟨τ,J,D2,a2,h,g⟩ =>
 ⟨τ,J,_,a2,h,fun c J' H' rr ee q=>by
  cases c with
  | true=>simp only [if_true] at q ⊢;exact ⟨τ,J',D2,a2.go rr ee,q,g.ext ee⟩
  | false=>simp only [Bool.false_eq_true,if_false] at q ⊢;exact ⟨τ,J',D2,a2.go rr ee,q,g.ext ee⟩⟩⟩
abbrev ue:=PV→Sr→Hq→(Sr→Hq→Prop)→Prop
abbrev rp:=List PV→Sr→Hq→(Sr→Hq→Prop)→Prop
def LG (K:PySem.W.Frag) (G:G2) (t:ue):TG:=fun v σ H Q=>∃ x τ J Q2,bR K J H x v∧rd K G τ J σ H∧t x τ J Q2∧∀ τ' J' σ' H',jj K J' H' τ' σ'→Rep K J' H'→Ext K J H J' H'→Q2 τ' J'→Q σ' H'
def KL (K:PySem.W.Frag) (G:G2) (t:rp):mi:=fun vs σ H Q=>∃ xs τ J Q2,aJ K J H xs vs∧rd K G τ J σ H∧t xs τ J Q2∧∀ τ' J' σ' H',jj K J' H' τ' σ'→Rep K J' H'→Ext K J H J' H'→Q2 τ' J'→Q σ' H'
structure RG (X:Cx) (G:G2) (e:Expr) (t:ue):Prop where
 run:L2.PG X e (LG X.K G t)
structure Ic (X:Cx) (G:G2) (es:List Expr) (t:rp):Prop where
 run:L2.Dd X es (KL X.K G t)
theorem Ju {X:Cx} {e:Expr} {t t':TG} (h:L2.PG X e t) (k:∀ v σ H Q,t' v σ H Q→t v σ H Q):L2.PG X e t':=fun pins s σ H v u Q I r q=>h pins s σ H v u Q I r (k _ _ _ _ q)
theorem G3 {X:Cx} {e:List Expr} {t t':mi} (h:L2.Dd X e t) (k:∀ v σ H Q,t' v σ H Q→t v σ H Q):L2.Dd X e t':=fun pins s σ H v u Q I r q=>h pins s σ H v u Q I r (k _ _ _ _ q)
def BA (i:Nat):ue:=fun x τ J Q=>Q (τ.set i (some x)) J
theorem bj {i:Nat} {x:Str} (hN:X.N.Nodup) (hi:X.N[i]?=some x) (hx:Loc X.env.scope x) (hf:X.fn x=true∨X.env.scope.names.lookup x=some .local:=by first | exact .inl rfl | exact .inr rfl | assumption):RG X G (.Name x pos) (BA i) :=
 ⟨Ju (L2.iH hN hi hx hf) fun v σ H Q ⟨x,τ,J,Q2,rx,a2,q,k⟩=>k _ J _ H (a2.sl.set i rx) a2.hp .refl q⟩
def Ke:rp:=fun vs τ J Q=>vs=[]∧Q τ J
def Kd (t:ue) (u:rp):rp:=fun vs τ J Q=>∃ v r,vs=v :: r∧t v τ J fun τ' J'=>u r τ' J' Q
theorem j1:Ic X G [] Ke:=⟨G3 L2.qj fun vs σ H Q ⟨xs,τ,J,Q2,rs,a2,⟨e,q⟩,k⟩=>by subst e;exact ⟨rs,k τ J σ H a2.sl a2.hp .refl q⟩⟩
theorem cA {e:Expr} {es:List Expr} {t:ue} {u:rp} (h1:RG X G e t) (h2:Ic X G es u)
  (hs:(assignEach (e :: es) X.env).map (·.2)=assign e X.env :: (assignEach es X.env).map (·.2):=by rfl):Ic X G (e :: es) (Kd t u):=⟨G3 (L2.mW h1.run h2.run hs) fun vs σ H Q ⟨xs,τ,J,Q2,rs,a2,⟨y,r,e,q⟩,k⟩=>by
 subst e
 obtain ⟨v,us,rfl,rv,ru⟩:=rs
 exact ⟨v,us,rfl,y,τ,J,_,rv,a2,q,fun τ' J' σ' H' rs' rr ee q'=>⟨r,τ',J',Q2,ee.gC ru,⟨rs',rr,a2.ext.trans ee⟩,q',fun τ2 J2 σ2 H2 rs2 rr2 ee2 q2=>k τ2 J2 σ2 H2 rs2 rr2 (ee.trans ee2) q2⟩⟩⟩
def Kf (n:Nat) (t:rp):ue:=fun x τ J Q=>∃ xs,x=.tup xs∧xs.length=n∧t xs τ J Q
theorem m4 {k:Nat} {t:rp} {n:Nat} (hc:X.calm=true) (h:Ic X G es t)
  (hn:(assignEach es X.env).length=n:=by rfl) (hst:(assignEach es X.env).findIdx? (·.1)=none:=by rfl):RG X G (.Tuple es k pos) (Kf n t):=⟨Ju (L2.uX hc h.run hn hst) fun v σ H Q ⟨x,τ,J,Q2,rx,a2,⟨xs,e,l,q⟩,k⟩=>by
 subst e
 obtain ⟨a,vs,rfl,h1,h2⟩:=rx
 exact ⟨a,vs,rfl,h1,by rw [← h2.length];exact l,xs,τ,J,Q2,h2,a2,q,k⟩⟩
def ot (te:cQ) (g:ue):gP:=fun D τ J=>te τ J fun x J1=>g x τ J1 D.nx
theorem qC {tg e:Expr} {g:ue} (he:RE X G e te) (hg:RG X G tg g) (hs:swapsWithSole [tg] e pos.line X.env=pure false:=by rfl) (hw:swappedStores [tg] e X.env=pure none:=by rfl)
  (h1:(assignEach [tg] X.env).map (·.2)=[assign tg X.env]:=by rfl):RS X G (.Assign [tg] e pos) (ot te g):=⟨uZ (L2.ql he.run hg.run hs hw h1) fun D σ H ⟨τ,J,D2,a2,h,g⟩ =>
 ⟨τ,J,_,a2,h,fun x J' v H' rx rr ee q=>⟨x,τ,J',_,rx,a2.go rr ee,q,fun τ' J2 σ' H2 rs r2 e2 q2=>g.nx τ' J2 σ' H2 rs r2 (ee.trans e2) q2⟩⟩⟩
theorem aF {i:Nat} {x:Str} {pos':Pos} (hN:X.N.Nodup) (hi:X.N[i]?=some x) (hx:Loc X.env.scope x) (he:RE X G e te) (hs:swapsWith e (some (.Name x pos')) pos.line X.env=pure false:=by rfl) (hf:X.fn x=true∨X.env.scope.names.lookup x=some .local:=by first | exact .inl rfl | exact .inr rfl | assumption) :
  RS X G (.Assign [.Name x pos'] e pos) (ot te (BA i)):=⟨uZ (L2.cq hN hi hx he.run hs hf) fun D σ H ⟨τ,J,D2,a2,h,g⟩ =>
 ⟨τ,J,_,a2,h,fun x J' v H' rx rr ee q=>g.nx _ J' _ H' ((a2.sl.ext ee).set i rx) rr ee q⟩⟩
def Ht (i j:Nat) (ta:k8):gP:=fun D τ J=>ta τ J fun vs J1=>∃ v w,vs=[v,w]∧D.nx ((τ.set i (some v)).set j (some w)) J1
theorem Fn {i j:Nat} {x y:Str} {a b:Expr} {ta:k8} {px py pt:Pos} {kt k2 pt2} (hc:X.calm=true) (hN:X.N.Nodup) (hi:X.N[i]?=some x) (hj:X.N[j]?=some y) (hij:i≠j)
  (hx:X.env.scope.names.lookup x=some .local) (hy:X.env.scope.names.lookup y=some .local) (ha:RA X G [a,b] ta)
  (hw:swappedStores [.Tuple [.Name x px,.Name y py] kt pt] (.Tuple [a,b] k2 pt2) X.env=pure (some [x,y]))
  (hs:swapsWithSole [.Tuple [.Name x px,.Name y py] kt pt] (.Tuple [a,b] k2 pt2) pos.line X.env=pure false:=by rfl) :
  RS X G (.Assign [.Tuple [.Name x px,.Name y py] kt pt] (.Tuple [a,b] k2 pt2) pos) (Ht i j ta):=⟨uZ (L2.kO hc hN hi hj hij hx hy ha.run hw hs) fun D σ H ⟨τ,J,D2,a2,h,g⟩ =>
 ⟨τ,J,_,a2,h,fun xs J' vs H' rs rr ee ⟨v,w,e,q⟩=>by
  subst e
  obtain ⟨v',us,rfl,rv,w',us',rfl,rw',e'⟩:=rs
  cases e'
  exact ⟨v',w',rfl,g.nx _ J' _ H' (((a2.sl.ext ee).set i rv).set j rw') rr ee q⟩⟩⟩
def kQ (f:Str) (v:PV):List (Str × PV)→List (Str × PV)
 | []=>[(f,v)]
 | (g,w) :: r=>if g=f then (g,v) :: r else (g,w) :: kQ f v r
theorem sX {K:PySem.W.Frag} {J:Hq} {H:Hp} {f:Str} {y:PV} {v:V} (r:bR K J H y v):∀ {fs:List (Str × PV)} {gs:List (Str × V)},ji K J H fs gs→ji K J H (kQ f y fs) (dY f v gs)
 | [],[],_=>⟨rfl,v,[],rfl,r,rfl⟩
 | [],_ :: _,h=>by cases h.1
 | _ :: _,[],h=>by cases h.1
 | (k,y') :: fs,(k',w) :: gs,h=>by
  obtain ⟨h1,v',us,h2,h3,h4⟩:=h
  simp only [List.map_cons,List.cons.injEq] at h1 h2
  obtain ⟨rfl,h1⟩:=h1
  obtain ⟨rfl,rfl⟩:=h2
  unfold kQ L2.dY
  by_cases hk:k=f
  ·rw [if_pos hk,if_pos hk]
   exact ⟨by simp only [List.map_cons,h1],v,_,rfl,r,h4⟩
  ·rw [if_neg hk,if_neg hk]
   obtain ⟨z1,z2⟩:=sX (f:=f) r (⟨h1,h4⟩:ji K J H fs gs)
   exact ⟨by simp only [List.map_cons,z1],w,_,rfl,h3,z2⟩
def DO (C:Addr) (ta tv:cQ) (f:Str):gP:=fun D τ J=>tv τ J fun y J1=>ta τ J1 fun x J2=>∃ a fs,x=.ref a∧J2 a=some (.ins C fs)∧fs.length < 1000∧D.nx τ (put J2 a (.ins C (kQ f y fs)))
theorem Ext.FI {K:PySem.W.Frag} {J:Hq} {H:Hp} {p C dx:Addr} {fs gs:List (Str × PV)} {fs' gs':List (Str × V)} (h:J p=some (.ins C fs)) (k:H p=some (.ins C dx fs')):Ext K J H (put J p (.ins C gs)) (upd H p (.ins C dx gs')):=by
 have sm:∀ a u,a≠p→Rd H a u→Rd (upd H p (.ins C dx gs')) a u:=fun a u ne z=>by
  rcases z with z | ⟨o,z⟩
  ·exact .inl (by rw [aK ne];exact z)
  ·exact .inr ⟨o,by rw [aK ne];exact z⟩
 have nn:∀ a u,(∀ c d l,u≠HO.ins c d l)→Rd H a u→a≠p:=fun a u d z e=>by
  subst e
  rcases z with z | ⟨o,z⟩
  ·rw [k] at z;cases z;exact d _ _ _ rfl
  ·rw [k] at z;cases z
 refine ⟨fun a vs' z=>?_,fun a o z q _=>?_⟩
 ·rcases z with z | z
  ·exact .inl (sm a _ (nn a (.tup vs') (fun _ _ _ e=>nomatch e) z) z)
  ·exact .inr z
 ·have ne:a≠p:=by intro e;subst e;rw [h] at z;cases z
  exact ⟨by rw [ar ne];exact z,by rw [aK ne];exact q⟩
theorem fT {C:Addr} {f:Str} (cl:lI X.K C) (na:az X.K C f) (ha:RE X G o ta) (hv:RE X G value tv) (hs:swapsWith value (some (.Attribute o f pos')) pos.line X.env=pure false:=by rfl):RS X G (.Assign [.Attribute o f pos'] value pos) (DO C ta tv f) :=
 ⟨uZ (L2.E6 ha.run hv.run hs) fun D σ H ⟨τ,J,D2,a2,h,g⟩=>⟨τ,J,_,a2,h,fun y J1 v H1 ry r1 e1 q1=>⟨τ,J1,_,a2.go r1 e1,q1,fun x J2 w H2 rx r2 e2 ⟨a,fs,ex,ja,hl,q2⟩=>by
  subst ex;cases rx
  obtain ⟨dx,gs,h2,rf⟩:=r2 _ _ ja
  have ll:gs.length=fs.length:=by have:=congrArg List.length rf.1;simpa using this.symm
  have e3:=Ext.FI (K:=X.K) (gs:=kQ f y fs) (gs':=dY f v gs) ja h2
  refine ⟨a,C,dx,gs,rfl,h2,cl,na,by omega,g.nx τ _ σ _ (((a2.sl.ext e1).ext e2).ext e3) ?_ ((e1.trans e2).trans e3) q2⟩
  refine r2.yB e3 a (fun b ne=>ar ne) (fun b o ne _ z=>by rw [aK ne];exact z) fun u z=>?_
  rw [au] at z;cases z
  exact ⟨dx,_,aB,e3.tm (sX (e2.rep ry) rf)⟩⟩⟩⟩
def AA (c:jk) (tb:gP):gP:=fun D τ J=>∃ W:Nat→Sr→Hq→Prop,(∃ m,W m τ J)∧∀ m τ J,W m τ J →
 c τ J fun b J1=>if b=true then ∃ N:Sr→Hq→Prop,(∀ τ' J',N τ' J'→∃ m',m' < m∧W m' τ' J')∧tb { D with nx:=N,ct:=N,bk:=D.nx } τ J1 else D.nx τ J1
theorem ij {c:Expr} {body:List Stmt} {tb:gP} (hp:PassesOwn (model X.prog X.w) X.A X.env X.xe) (hc:RT X G c tc) (hb:RB X G body tb):RS X G (.While c body [] pos) (AA tc tb):=⟨uZ (L2.ib hp hc.run hb.run) fun D σ H ⟨τ,J,D2,a2,⟨W,⟨m0,w0⟩,h⟩,g⟩=>by
 refine ⟨fun m σ' H'=>∃ τ' J',rd X.K G τ' J' σ' H'∧Ext X.K J H J' H'∧W m τ' J',⟨m0,τ,J,a2,.refl,w0⟩,fun m σ1 H1 ⟨τ1,J1,a1,e1,w1⟩=>?_⟩
 refine ⟨τ1,J1,_,a1,h m τ1 J1 w1,fun b J2 H2 r2 e2 q=>?_⟩
 cases b with
 | false=>simp only [Bool.false_eq_true,if_false] at q ⊢;exact g.nx τ1 J2 σ1 H2 (a1.sl.ext e2) r2 (e1.trans e2) q
 | true =>
  simp only [if_true] at q ⊢
  obtain ⟨N,hN,q⟩:=q
  refine ⟨fun σ' H'=>∃ τ' J',rd X.K G τ' J' σ' H'∧Ext X.K J H J' H'∧N τ' J',fun σ' H' ⟨τ',J',a',e',n'⟩=>let ⟨m',lt,w'⟩:=hN τ' J' n';⟨m',lt,τ',J',a',e',w'⟩,τ1,J2,{ D2 with nx:=N,ct:=N,bk:=D2.nx },a1.go r2 e2,q,?_⟩
  have ge:=g.ext (e1.trans e2)
  exact { nx:=fun τ' J' σ' H' rs rr ee q=>⟨τ',J',⟨rs,rr,(a1.ext.trans e2).trans ee⟩,(e1.trans e2).trans ee,q⟩,rt:=ge.rt,bk:=ge.nx,ct:=fun τ' J' σ' H' rs rr ee q=>⟨τ',J',⟨rs,rr,(a1.ext.trans e2).trans ee⟩,(e1.trans e2).trans ee,q⟩ }⟩
structure ub where
 xs:List PV
 ok:Hq→Prop
structure oH (K:PySem.W.Frag) (it:ub) (I:It) (J:Hq) (H:Hp):Prop where
 go:∀ J' H',Ext K J H J' H'→Rep K J' H'→it.ok J'→∀ i,i < it.xs.length→I.go i H'
 yl:∀ J' H',Ext K J H J' H'→Rep K J' H'→it.ok J'→∀ i,i < it.xs.length→∀ v H2,I.yld i H' v H2→∃ x,it.xs[i]?=some x∧bR K J' H2 x v∧Rep K J' H2∧Ext K J' H' J' H2
 stop:∀ J' H',Ext K J H J' H'→Rep K J' H'→it.ok J'→I.stop it.xs.length H'
abbrev nQ:=Sr→Hq→(ub→Hq→Prop)→Prop
def LI (K:PySem.W.Frag) (G:G2) (t:nQ):TI:=fun σ H R=>∃ τ J R2,rd K G τ J σ H∧t τ J R2∧∀ it J' I H',oH K it I J' H'→Rep K J' H'→Ext K J H J' H'→R2 it J'→R I H'
structure RI (X:Cx) (G:G2) (tg e:Expr) (t:nQ):Prop where
 run:L2.PI X tg e (LI X.K G t)
theorem G4 {X:Cx} {tg e:Expr} {t t':TI} (h:L2.PI X tg e t) (k:∀ σ H Q,t' σ H Q→t σ H Q):L2.PI X tg e t':=fun pins s σ H Q I q=>h pins s σ H Q I (k _ _ _ q)
def Hi (wi:nQ) (g:ue) (tb:gP):gP:=fun D τ J=>wi τ J fun it J1=>∃ Pv:Nat→Sr→Hq→Prop,Pv 0 τ J1∧(∀ i τ J,Pv i τ J→it.ok J) ∧
 (∀ i x τ J,it.xs[i]?=some x→Pv i τ J→g x τ J fun τ2 J2=>tb { D with nx:=Pv (i + 1),ct:=Pv (i + 1),bk:=D.nx } τ2 J2)∧∀ τ J,Pv it.xs.length τ J→D.nx τ J
theorem dM {iter:Expr} {body:List Stmt} {wi:nQ} {g:ue} {tb:gP} {pos:Pos} (hp:PassesOwn (model X.prog X.w) X.A X.env X.xe) (hc:X.calm=true) (hi:RI X G tg iter wi) (hg:RG X G tg g) (hb:RB X G body tb)
  (hs:∀ x,foldedSetIterable iter X.env x=pure x:=by intro _;rfl):RS X G (.For tg iter body [] pos) (Hi wi g tb):=⟨uZ (L2.kM hp hc hi.run hg.run hb.run hs) fun D σ H ⟨τ,J,D2,a2,h,g⟩=>by
 refine ⟨τ,J,_,a2,h,fun it J1 I H1 ir r1 e1 ⟨Pv,p0,pok,step,fin⟩=>?_⟩
 refine ⟨fun i m σ' H'=>m=it.xs.length - i∧i≤it.xs.length∧∃ τ' J',rd X.K G τ' J' σ' H'∧Ext X.K J1 H1 J' H'∧Pv i τ' J',⟨_,rfl,Nat.zero_le _,τ,J1,a2.go r1 e1,.refl,p0⟩,?_⟩
 rintro i m σ2 H2 ⟨rfl,hil,τ2,J2,a3,e3,p3⟩
 by_cases hlt:i < it.xs.length
 ·refine .inr ⟨ir.go J2 H2 e3 a3.hp (pok _ _ _ p3) i hlt,fun σ' H'=>∃ τ' J',rd X.K G τ' J' σ' H'∧Ext X.K J1 H1 J' H'∧Pv (i + 1) τ' J',fun σ' H' z=>⟨_,by omega,rfl,hlt,z⟩,fun v H4 y=>?_⟩
  obtain ⟨x,ex,rx,r4,e4⟩:=ir.yl J2 H2 e3 a3.hp (pok _ _ _ p3) i hlt v H4 y
  refine ⟨x,τ2,J2,_,rx,a3.go r4 e4,step i x τ2 J2 ex p3,fun τ5 J5 σ5 H5 rs5 r5 e5 q5=>?_⟩
  have ae:=(a3.ext.trans e4).trans e5
  have ge:=g.ext (((e1.trans e3).trans e4).trans e5)
  refine ⟨τ5,J5,{ D2 with nx:=Pv (i + 1),ct:=Pv (i + 1),bk:=D2.nx },⟨rs5,r5,ae⟩,q5,?_⟩
  exact { nx:=fun τ' J' σ' H' rs rr ee q=>⟨τ',J',⟨rs,rr,ae.trans ee⟩,((e3.trans e4).trans e5).trans ee,q⟩,rt:=ge.rt,bk:=ge.nx,ct:=fun τ' J' σ' H' rs rr ee q=>⟨τ',J',⟨rs,rr,ae.trans ee⟩,((e3.trans e4).trans e5).trans ee,q⟩ }
 ·have ei:i=it.xs.length:=by omega
  subst ei
  exact .inl ⟨ir.stop J2 H2 e3 a3.hp (pok _ _ _ p3),g.nx τ2 J2 σ2 H2 a3.sl a3.hp (e1.trans e3) (fin _ _ p3)⟩⟩
def Ii (J:Hq):PV→Option ub
 | .fl xs=>some ⟨xs,fun _=>True⟩
 | .ref a=>match J a with
  | some (.lst xs)=>some ⟨xs,fun J'=>J' a=some (.lst xs)⟩
  | _=>none
 | _=>none
def Ki (te:cQ):nQ:=fun τ J R=>te τ J fun x J1=>∃ it,Ii J1 x=some it∧R it J1
theorem oH.list {K:PySem.W.Frag} {it:ub} {a:Addr} {J:Hq} {H:Hp} (h:∀ J' H',Ext K J H J' H'→Rep K J' H'→it.ok J'→∃ vs,cD K H' a vs∧aJ K J' H' it.xs vs):oH K it (L2.Bq K a) J H where
 go:=fun J' H' e r o i hi=>by
  obtain ⟨vs,s,rs⟩:=h J' H' e r o
  exact ⟨vs,vs[i]'(by rw [← rs.length];exact hi),s,by simp⟩
 yl:=fun J' H' e r o i hi v H2 y=>by
  obtain ⟨vs,s,rs⟩:=h J' H' e r o
  obtain ⟨e1,y⟩:=y
  subst e1
  obtain ⟨x,ex,rx⟩:=rs.get' (y vs s)
  exact ⟨x,ex,rx,r,.refl⟩
 stop:=fun J' H' e r o=>by
  obtain ⟨vs,s,rs⟩:=h J' H' e r o
  exact ⟨vs,s,by rw [rs.length];exact Nat.le_refl _⟩
theorem eO {l:Expr} {tl:cQ} (hl:RE X G l tl):RI X G tg l (Ki tl):=⟨G4 (L2.jX hl.run) fun σ H R ⟨τ,J,R2,a2,h,k⟩=>⟨τ,J,_,a2,h,fun x J1 v H1 rx r1 e1 ⟨it,ei,q⟩=>by
 cases x with
 | fl xs =>
  obtain ⟨a,vs,rfl,h1,h2⟩:=rx
  cases ei
  refine ⟨a,rfl,⟨vs,h1.sq⟩,k _ J1 _ H1 (.list fun J' H' e r _=>⟨vs,(e.flat h1).sq,e.gC h2⟩) r1 e1 q⟩
 | ref a =>
  cases rx
  unfold Ii at ei
  dsimp only at ei
  cases ej:J1 a with
  | none=>rw [ej] at ei;cases ei
  | some o =>
   rw [ej] at ei
   cases o with
   | lst xs =>
    cases ei
    obtain ⟨vs,h1,h2⟩:=r1 _ _ ej
    refine ⟨a,rfl,⟨vs,.inl (.inl h1)⟩,k _ J1 _ H1 (.list fun J' H' e r o=>?_) r1 e1 q⟩
    obtain ⟨vs',h1',h2'⟩:=r _ _ o
    exact ⟨vs',.inl (.inl h1'),h2'⟩
   | _=>cases ei
 | _=>cases ei⟩⟩
def KY (te:cQ):nQ:=fun τ J R=>te τ J fun x J1=>∃ xs,x=.tup xs∧R ⟨xs,fun _=>True⟩ J1
def mE (lo:Int) (n:Nat):List PV:=(List.range n).map fun (i:Nat)=>PV.int (lo + (i:Int))
theorem f7 (lo:Int) (n:Nat):(mE lo n).length=n:=by simp [mE]
theorem mF (lo:Int) (n i:Nat) (x:PV):(mE lo n)[i]?=some x↔i < n∧x=.int (lo + i):=by
 unfold mE
 rw [List.getElem?_map]
 by_cases h:i < n
 ·rw [List.getElem?_range h];simp [h,eq_comm]
 ·rw [List.getElem?_eq_none (by simpa using h)];simp [h]
theorem oH.FV {K:PySem.W.Frag} {J:Hq} {H:Hp} (lo:Int) (n:Nat):oH K ⟨mE lo n,fun _=>True⟩ (L2.yN lo n) J H where
 go:=fun J' H' e r o i hi=>by
  show i < n
  simpa [f7] using hi
 yl:=fun J' H' e r o i hi v H2 y=>by
  obtain ⟨e1,y⟩:=y
  subst e1 y
  exact ⟨.int (lo + i),(mF lo n i _).mpr ⟨by simpa [f7] using hi,rfl⟩,rfl,r,.refl⟩
 stop:=fun J' H' e r o=>by
  show n≤(mE lo n).length
  rw [f7];exact Nat.le_refl _
def Kj (ta:k8):nQ:=fun τ J R=>ta τ J fun vs J1=>∃ j:Int,vs=[.int j]∧-(2 ^ 62)≤j∧j < 2 ^ 62∧R ⟨mE 0 j.toNat,fun _=>True⟩ J1
def KW (ta:k8):nQ:=fun τ J R=>ta τ J fun vs J1=>∃ i j:Int,vs=[.int i,.int j]∧(-(2 ^ 62)≤i∧i < 2 ^ 62∧-(2 ^ 62)≤j∧j < 2 ^ 62)∧R ⟨mE i (j - i).toNat,fun _=>True⟩ J1
theorem iK {a:Expr} {ta:k8} {p pos:Pos} (hg:Gl X "range") (hm:X.mg "range"=none) (ha:RA X G [a] ta) (hs:starEach [a] X.env=[(false,eval a X.env)]:=by rfl):RI X G tg (.Call (.Name "range" p) [a] [] pos) (Kj ta) :=
 ⟨G4 (L2.fb hg hm ha.run hs) fun σ H R ⟨τ,J,R2,a2,h,k⟩=>⟨τ,J,_,a2,h,fun xs J1 vs H1 rs r1 e1 ⟨j,ej,l1,l2,q⟩=>by
  subst ej
  obtain ⟨v,us,rfl,rv,e'⟩:=rs
  cases rv;cases e'
  exact ⟨j,rfl,l1,l2,k _ J1 _ H1 (.FV 0 _) r1 e1 q⟩⟩⟩
def eE (C:Addr) (E2:Addr→Hq→Prop) (t:k8):gP:=fun _ τ J=>t τ J fun xs J1=>xs.length≤sizeLine∧E2 C J1
theorem dg {E:XK} {E2:Addr→Hq→Prop} {C:Addr} {x:Str} {t:k8} {np cpos:Pos} (O:Own X.K X.mg x C) (hc:X.calm=true) (hx:Throws X E) (kn:D6 X.K G.1 G.2 E2 E) (hg:Gl X x) (ha:RA X G (e :: es) t)
  (hd:(x == ("__debug__":Str))=false:=by decide) (he:starEach (e :: es) X.env=(false,eval e X.env) :: starEach es X.env:=by rfl) (hpl:(backTo cpos (starEach es X.env)).any (·.1)=false:=by rfl) :
  RS X G (.Raise (some (.Call (.Name x np) (e :: es) [] cpos)) none pos) (eE C E2 t):=⟨uZ (yn O hc hx hg ha.run hd he hpl) fun D σ H ⟨τ,J,D2,a2,h,g⟩ =>
 ⟨τ,J,_,a2,h,fun xs J1 vs H1 rs r1 e1 ⟨hl,q⟩=>⟨by rw [← rs.length];exact hl,kn C J1 H1 r1 (a2.ext.trans e1) q⟩⟩⟩
end
section
variable {P:Program} {w:World} {K:PySem.W.Frag} {mg:Str→Option Value} {base:Heap}
def vt (N:List Str) (xs:List PV):Sr:=xs.map some ++ List.replicate (N.length - xs.length) none
theorem AZ {J:Hq} {H:Hp} {N:List Str} {xs:List PV} {vs:List V} (r:aJ K J H xs vs):jj K J H (vt N xs) (L2.start N vs):=by
 refine ⟨by simp [vt,L2.start,r.length],fun i x e=>?_⟩
 unfold vt at e
 unfold L2.start
 by_cases hi:i < xs.length
 ·rw [List.getElem?_append_left (by simpa using hi),List.getElem?_map] at e
  cases ex:xs[i]? with
  | none=>rw [ex] at e;cases e
  | some y =>
   rw [ex] at e
   cases e
   obtain ⟨v,h1,h2⟩:=r.get ex
   exact ⟨v,by rw [List.getElem?_append_left (by rw [List.length_map,← r.length];exact hi),List.getElem?_map,h1];rfl,h2⟩
 ·rw [List.getElem?_append_right (by simpa using hi)] at e
  have:=List.mem_of_getElem? e
  rw [List.mem_replicate] at this
  cases this.2
theorem Kr {x qual:Str} {st:Stmt} {f:Addr} {fd:FuncData} {N ps:List Str} {k:Nat} {sp:b9} (F:bQ K x qual st f fd) (S:aw N ps (L2.aj st)) (len:∀ xs J Q E,sp xs J Q E→xs.length=ps.length)
  (hbody:∀ (cdv:Value) (A:Around) (outer:List Env) (s:Shared) (H:Hp) (E:XK) (G:G2) (xs:List PV) (J:Hq) (Q:PV→Hq→Prop) (E2:Addr→Hq→Prop),bE k (A.deeper (envOfC qual (L2.aj st) s.heap.objs.size f cdv))→sp xs J Q E2 →
   Bi (yH P w K mg base N qual (L2.aj st) f cdv A outer s H E) G E2 E →
   ∃ t,RB (yH P w K mg base N qual (L2.aj st) f cdv A outer s H E) G (L2.bJ st) t∧t { nx:=fun _ J'=>Q .non J',rt:=Q } (vt N xs) J):aH P w K mg base (cF P w) (k + 1) f fd ps (c8 K sp):=by
 refine K3 F S (fun vs H Q E ⟨xs,J,Q2,E2,a,_,b,_⟩=>by rw [← a.length];exact len _ _ _ _ b) fun cdv A outer s H vs Q E hr ⟨xs,J,Q2,E2,rs,rr,hs,kn,ke⟩=>?_
 obtain ⟨t,hb,q⟩:=hbody cdv A outer s H E (J,H) xs J Q2 E2 hr hs ⟨ur,ke⟩
 refine ⟨_,⟨hb.run⟩,vt N xs,J,_,⟨AZ rs,rr,.refl⟩,q,?_⟩
 exact { nx:=fun τ J' σ H' _ r e q=>kn .non J' .non H' rfl r e q,rt:=fun x J' v H' rx r e q=>kn x J' v H' rx r e q,bk:=fun _ _ _ _ _ _ _ q=>q.elim,ct:=fun _ _ _ _ _ _ _ q=>q.elim }
theorem _root_.Ov.Def.d9 {x:Str} {st:Stmt} {k:Nat} {ps:List Str} {sp:b9} (D:Def K mg x st)
  (h:∀ f fd,bQ K x x st f fd→aH P w K mg base (cF P w) k f fd ps (c8 K sp))
  (hb:∀ (kV doc pm:Value) (an:Option Addr) (cdv ct:Value) (us:List Value),us.length=ps.length→bindArgs (PySem.W.fnOf x x (L2.cJ st) (L2.bJ st) (L2.aj st) .none kV doc pm an cdv ct) ⟨us,[]⟩=pure (ps.zip us)) :
  aZ P w K mg base k x ps sp:=D.II h hb
end
section
variable {X:Cx} {K:PySem.W.Frag}
def Au (g:Int→Int→PV):jH:=fun x y J Q=>∃ i j,x=.int i∧y=.int j∧Q (g i j) J
def qI (C:Int→Int→Prop) (g:Int→Int→PV):jH:=fun x y J Q=>∃ i j,x=.int i∧y=.int j∧C i j∧Q (g i j) J
theorem o5 {g:Int→Int→V} {g':Int→Int→PV} (hg:∀ J H i j,bR K J H (g' i j) (g i j)):LR K (L2.Bn g) (Au g'):=fun J H x y v w Q2 Q rx ry r ⟨i,j,ex,ey,q⟩ k=>by
 subst ex ey;exact ⟨i,j,rx,ry,k _ J _ H (hg _ _ _ _) r .refl q⟩
theorem EH {C:Int→Int→Prop} {g:Int→Int→V} {g':Int→Int→PV} (hg:∀ J H i j,bR K J H (g' i j) (g i j)):LR K (L2.rI C g) (qI C g'):=fun J H x y v w Q2 Q rx ry r ⟨i,j,ex,ey,c,q⟩ k=>by
 subst ex ey;exact ⟨i,j,rx,ry,c,k _ J _ H (hg _ _ _ _) r .refl q⟩
theorem cH:jG X (binaryOp .Add) (Au fun i j=>.int (i + j)):=⟨_,L2.gy,o5 fun _ _ _ _=>rfl⟩
theorem dJ:jG X (binaryOp .Sub) (Au fun i j=>.int (i - j)):=⟨_,L2.uQ,o5 fun _ _ _ _=>rfl⟩
theorem bS:jG X (binaryOp .Mult) (qI CM fun i j=>.int (i * j)):=⟨_,b_,EH fun _ _ _ _=>rfl⟩
theorem lP:jG X (binaryOp .FloorDiv) (qI CQ fun i j=>.int (i.fdiv j)):=⟨_,fi,EH fun _ _ _ _=>rfl⟩
theorem dI:jG X (binaryOp .Mod) (qI (fun _ j=>0 < j) fun i j=>.int (i % j)):=⟨_,L2.fj,EH fun _ _ _ _=>rfl⟩
theorem fB:jG X (compareOp .Lt) (Au fun i j=>.bl (decide (i < j))):=⟨_,L2.wt,o5 fun _ _ _ _=>rfl⟩
theorem DC:jG X (compareOp .LtE) (Au fun i j=>.bl (decide (i≤j))):=⟨_,L2.DA,o5 fun _ _ _ _=>rfl⟩
theorem jV:jG X (compareOp .Gt) (Au fun i j=>.bl (decide (j < i))):=⟨_,L2.Dz,o5 fun _ _ _ _=>rfl⟩
theorem Ab:jG X (compareOp .GtE) (Au fun i j=>.bl (decide (j≤i))):=⟨_,L2.Dy,o5 fun _ _ _ _=>rfl⟩
def qU (g:Int→PV):FZ:=fun x J Q=>∃ i,x=.int i∧Q (g i) J
theorem k7:Kc X (unaryOp .USub) (qU fun i=>.int (-i)):=⟨_,L2.Bf,fun J H x v Q2 Q rx r ⟨i,ex,q⟩ k=>by subst ex;exact ⟨i,rx,k (.int (-i)) J _ H rfl r .refl q⟩⟩
def G':jH:=fun x y J Q=>∃ i j,x=.str i∧y=.str j∧Q (.bl (decide (i.cps.toList < j.cps.toList))) J
theorem uR:jG X (compareOp .Lt) G':=⟨_,L2.ye,fun J H x y v w Q2 Q rx ry r ⟨i,j,ex,ey,q⟩ k=>by subst ex ey;exact ⟨i,j,rx,ry,k (.bl _) J _ H rfl r .refl q⟩⟩
def zr:PV→Bool
 | .non=>true
 | _=>false
theorem wb {J:Hq} {H:Hp} {x:PV} {v:V} (r:bR K J H x v):decide (v=.non)=zr x:=by
 cases x with
 | non=>cases r;rfl
 | tup xs=>obtain ⟨a,vs,rfl,_⟩:=r;rfl
 | fl xs=>obtain ⟨a,vs,rfl,_⟩:=r;rfl
 | _=>cases r;rfl
def Kv:jH:=fun x y J Q=>y=.non∧Q (.bl (zr x)) J
def Av:jH:=fun x y J Q=>y=.non∧Q (.bl (!zr x)) J
theorem GZ:jG X (compareOp .Is) Kv:=⟨_,L2.EV,fun J H x y v w Q2 Q rx ry r ⟨ey,q⟩ k=>by subst ey;cases ry;exact ⟨rfl,by rw [wb rx];exact k (.bl _) J _ H rfl r .refl q⟩⟩
theorem hX:jG X (compareOp .IsNot) Av:=⟨_,L2.B7,fun J H x y v w Q2 Q rx ry r ⟨ey,q⟩ k=>by subst ey;cases ry;exact ⟨rfl,by rw [wb rx];exact k (.bl _) J _ H rfl r .refl q⟩⟩
mutual
def fu:PV→Py
 | .non=>.non | .bl b=>.bl b | .int i=>.int i | .str x=>.str x | .ref _=>.non | .ty _=>.non | .tup xs=>.tup (fC xs) | .fl xs=>.lst (fC xs)
def fC:List PV→List Py
 | []=>[]
 | x :: xs=>fu x :: fC xs
end
mutual
def kr:PV→Bool
 | .ref _=>false | .ty _=>false | .tup xs=>i8 xs | .fl xs=>i8 xs | _=>true
def i8:List PV→Bool
 | []=>true
 | x :: xs=>kr x && i8 xs
end
mutual
theorem pE {J:Hq} {H:Hp}:∀ {x:PV} {v:V},kr x=true→bR K J H x v→At K H (fu x) v
 | .non,_,_,h=>h
 | .bl _,_,_,h=>h
 | .int _,_,_,h=>h
 | .str _,_,_,h=>h
 | .tup xs,_,p,⟨a,vs,e,h,k⟩=>⟨a,vs,e,h,ml (by simpa [kr] using p) k⟩
 | .fl xs,_,p,⟨a,vs,e,h,k⟩=>⟨a,vs,e,h.sq,ml (by simpa [kr] using p) k⟩
theorem ml {J:Hq} {H:Hp}:∀ {xs:List PV} {vs:List V},i8 xs=true→aJ K J H xs vs→nK K H (fC xs) vs
 | [],_,_,h=>h
 | x :: xs,_,p,⟨v,us,e,h,k⟩=>by
  have p':kr x=true∧i8 xs=true:=by simpa [i8] using p
  exact ⟨v,us,e,pE p'.1 h,ml p'.2 k⟩
end
def eqQ (x y:PV):Bool:=iF (fu x) (fu y)
def Df (x:PV):Prop:=kr x=true∧dep (fu x)≤60
def DH (f:Bool→Bool):jH:=fun x y J Q=>Df x∧kr y=true∧Q (.bl (f (eqQ x y))) J
theorem Dt (f:Bool→Bool):LR K (rP K f) (DH f):=fun J H x y v w Q2 Q rx ry r ⟨⟨px,d⟩,py,q⟩ k=>⟨fu x,fu y,pE px rx,pE py ry,d,k (.bl _) J _ H rfl r .refl q⟩
theorem cy (hu:X.A.units + 61 < cLine):jG X (compareOp .Eq) (DH id):=⟨_,ET hu,Dt id⟩
theorem jb (hu:X.A.units + 61 < cLine):jG X (compareOp .NotEq) (DH not):=⟨_,EW hu,Dt not⟩
def eD (J:Hq):PV→PV→Option PV
 | .tup xs,.int i=>c5 xs i
 | .fl xs,.int i=>c5 xs i
 | .ref a,.int i=>match J a with
  | some (.lst xs)=>c5 xs i
  | _=>none
 | _,_=>none
theorem aJ.c5 {J:Hq} {H:Hp} {xs:List PV} {vs:List V} {i:Int} {x:PV} (r:aJ K J H xs vs) (h:L2.c5 xs i=some x):∃ v,L2.c5 vs i=some v∧bR K J H x v:=by
 unfold L2.c5 at h ⊢
 rw [← r.length]
 cases e:L2.yI xs.length i with
 | none=>rw [e] at h;cases h
 | some j =>
  rw [e] at h
  obtain ⟨v,h1,h2⟩:=r.get h
  exact ⟨v,h1,h2⟩
def DI:jH:=fun x y J Q=>∃ v,eD J x y=some v∧Q v J
theorem av:Iz X DI:=⟨_,L2.pN.or L2.cn,fun J H x y v w Q2 Q rx ry r ⟨z,ez,q⟩ k=>by
 cases y with
 | int i =>
  cases ry
  cases x with
  | tup xs =>
   obtain ⟨a,vs,rfl,h1,h2⟩:=rx
   obtain ⟨u,e1,e2⟩:=h2.c5 (show L2.c5 xs i=some z from ez)
   exact .inr ⟨a,vs,i,u,rfl,rfl,h1,e1,k z J u H e2 r .refl q⟩
  | fl xs =>
   obtain ⟨a,vs,rfl,h1,h2⟩:=rx
   obtain ⟨u,e1,e2⟩:=h2.c5 (show L2.c5 xs i=some z from ez)
   exact .inl ⟨a,vs,i,u,rfl,rfl,h1.sq,e1,k z J u H e2 r .refl q⟩
  | ref a =>
   cases rx
   unfold eD at ez
   dsimp only at ez
   cases ej:J a with
   | none=>rw [ej] at ez;cases ez
   | some o =>
    rw [ej] at ez
    cases o with
    | lst xs =>
     obtain ⟨vs,h1,h2⟩:=r _ _ ej
     obtain ⟨u,e1,e2⟩:=h2.c5 (show L2.c5 xs i=some z from ez)
     exact .inl ⟨a,vs,i,u,rfl,rfl,.inl (.inl h1),e1,k z J u H e2 r .refl q⟩
    | _=>cases ez
  | _=>cases ez
 | _=>cases x <;> cases ez⟩
def jm (xs:List PV) (lo hi:Option Int):List PV:=(xs.drop (HT.dz xs.length 0 lo)).take (HT.dz xs.length xs.length hi - HT.dz xs.length 0 lo)
theorem vN {J:Hq} {H:Hp} {xs:List PV} {vs:List V} {lo hi:Option Int} (r:aJ K J H xs vs):aJ K J H (jm xs lo hi) (L2.mq vs lo hi):=by
 unfold jm L2.mq
 rw [← r.length]
 exact (r.drop _).take _
def Hd:xu:=fun x lo hi J Q=>∃ xs,x=.tup xs∧¬ (HT.dz xs.length 0 lo=0∧HT.dz xs.length xs.length hi=xs.length)∧Q (.tup (jm xs lo hi)) J
theorem vq:IC X Hd:=⟨_,L2.Fv,fun J H x lo hi v Q2 Q rx r ⟨xs,ex,hn,q⟩ k=>by
 subst ex
 obtain ⟨a,vs,rfl,h1,h2⟩:=rx
 refine ⟨a,vs,rfl,h1,by rw [← h2.length];exact hn,fun p hp=>?_⟩
 have sm:=ba.new hp (.tup (L2.mq vs lo hi))
 have e2:=Ext.same (K:=X.K) (J:=J) sm
 exact k (.tup (jm xs lo hi)) J (.ref p) _ ⟨p,_,rfl,.inl (.inl aB),e2.gC (vN h2)⟩ (r.same sm) e2 q⟩
def jF (J:Hq):PV→Option (List PV)
 | .fl xs=>some xs
 | .ref a=>match J a with
  | some (.lst xs)=>some xs
  | _=>none
 | _=>none
theorem pT {J:Hq} {H:Hp} {x:PV} {v:V} {xs:List PV} (rx:bR K J H x v) (r:Rep K J H) (h:jF J x=some xs):∃ a vs,v=.ref a∧cD K H a vs∧aJ K J H xs vs:=by
 cases x with
 | fl ys=>obtain ⟨a,vs,rfl,h1,h2⟩:=rx;cases h;exact ⟨a,vs,rfl,h1.sq,h2⟩
 | ref a =>
  cases rx
  unfold jF at h
  dsimp only at h
  cases ej:J a with
  | none=>rw [ej] at h;cases h
  | some o =>
   rw [ej] at h
   cases o with
   | lst ys=>cases h;obtain ⟨vs,h1,h2⟩:=r _ _ ej;exact ⟨a,vs,rfl,.inl (.inl h1),h2⟩
   | _=>cases h
 | _=>cases h
def Hc:xu:=fun x lo hi J Q=>∃ xs,jF J x=some xs∧Q (.fl (jm xs lo hi)) J
theorem AX:IC X Hc:=⟨_,L2.qQ,fun J H x lo hi v Q2 Q rx r ⟨xs,ex,q⟩ k=>by
 obtain ⟨a,vs,rfl,h1,h2⟩:=pT rx r ex
 refine ⟨a,vs,rfl,h1,fun p hp=>?_⟩
 obtain ⟨x1,x2,x3⟩:=uM r (vN (lo:=lo) (hi:=hi) h2) hp
 exact k _ J _ _ x1 x2 x3 q⟩
def Jy:xu:=fun x lo hi J Q=>∃ xs,jF J x=some xs∧∀ p,J p=none→Q (.ref p) (put J p (.lst (jm xs lo hi)))
def G6:vF:=fun xs J Q=>∃ i,xs=[.int i]∧Q (.int (if i < 0 then -i else i)) J
theorem uq:Dc X (.builtin "abs") G6:=⟨_,L2.jK,fun J H xs vs Q2 Q rs r ⟨i,ex,q⟩ k=>by
 subst ex;obtain ⟨v,us,rfl,rv,e⟩:=rs;cases rv;cases e
 exact ⟨i,rfl,k (.int _) J _ H rfl r .refl q⟩⟩
def r_ (J:Hq):PV→Option Nat
 | .tup xs=>some xs.length
 | x=>(jF J x).map List.length
def Fb:vF:=fun xs J Q=>∃ x n,xs=[x]∧r_ J x=some n∧Q (.int n) J
theorem bF:Dc X (.builtin "len") Fb:=⟨_,L2.gr,fun J H xs vs Q2 Q rs r ⟨x,n,ex,en,q⟩ k=>by
 subst ex;obtain ⟨v,us,rfl,rv,e⟩:=rs;cases e
 have go:∀ ys,jF J x=some ys→ys.length=n→∃ p ws,([v]:List V)=[.ref p]∧(cD X.K H p ws∨fQ X.K H p ws)∧Q (.int ws.length) H:=fun ys h1 h2=>by
  obtain ⟨a,ws,rfl,h3,h4⟩:=pT rv r h1
  exact ⟨a,ws,rfl,.inl h3,by rw [← h4.length,h2];exact k (.int _) J _ H rfl r .refl q⟩
 cases x with
 | tup ys =>
  obtain ⟨a,ws,rfl,h1,h2⟩:=rv
  cases en
  exact ⟨a,ws,rfl,.inr h1,by rw [← h2.length];exact k (.int _) J _ H rfl r .refl q⟩
 | fl ys=>cases en;exact go _ rfl rfl
 | ref a =>
  unfold r_ at en
  cases el:jF J (.ref a) with
  | none=>simp [el] at en
  | some ys=>simp [el] at en;exact go _ el en
 | _=>cases en⟩
def xo (J:Hq):PV→Option String
 | .non=>some "NoneType" | .bl _=>some "bool" | .int _=>some "int" | .str _=>some "str" | .tup _=>some "tuple" | .fl _=>some "list"
 | .ref a=>match J a with
  | some (.lst _)=>some "list"
  | some (.dct _ _)=>some "dict"
  | _=>none
 | _=>none
def jB (t n:String):Option Bool :=
 if n∈["int","bool","str","tuple","list"] then some (t == n || (t == "bool" && n == "int")) else none
theorem BK (K:PySem.W.Frag) {t n:String} {b:Bool} (ht:t∈["NoneType","bool","int","str","tuple","list","dict"]) (h:jB t n=some b):PySem.W.kitOne K (.type t) (.type n)=some b:=by
 unfold jB at h
 by_cases hn:n∈["int","bool","str","tuple","list"]
 ·rw [if_pos hn] at h
  simp only [List.mem_cons,List.not_mem_nil,or_false] at ht hn
  rcases ht with rfl | rfl | rfl | rfl | rfl | rfl | rfl <;> rcases hn with rfl | rfl | rfl | rfl | rfl <;> cases h <;> with_unfolding_all rfl
 ·rw [if_neg hn] at h;cases h
theorem C7 {J:Hq} {x:PV} {t:String} (h:xo J x=some t):t∈["NoneType","bool","int","str","tuple","list","dict"]:=by
 cases x with
 | ref a =>
  unfold xo at h
  dsimp only at h
  cases ej:J a with
  | none=>rw [ej] at h;cases h
  | some o=>rw [ej] at h;cases o <;> cases h <;> simp
 | ty n=>cases h
 | _=>cases h;simp
def G9:vF:=fun xs J Q=>∃ x n t b,xs=[x,.ty n]∧xo J x=some t∧jB t n=some b∧Q (.bl b) J
theorem xA:bP X (.builtin "isinstance") (fun xs H Q=>∃ x n t b,xs=[x,.ty n]∧(ft X.K H x (.type t)∨(t="tuple"∧∃ a vs,x=.ref a∧fQ X.K H a vs)∨(t="list"∧∃ a vs,x=.ref a∧cD X.K H a vs))∧PySem.W.kitOne X.K (.type t) (.type n)=some b∧Q (.bl b) H):=by
 intro pins s σ H xs us Q I r h
 obtain ⟨x,n,t,b,rfl,ty,e,q⟩:=h
 obtain ⟨u,w',rfl,rx,ry⟩:=L2.vals2 r
 cases (show w'=Value.type n from ry)
 rcases ty with ty | ⟨rfl,a,vs,rfl,hs⟩ | ⟨rfl,a,vs,rfl,hs⟩
 ·exact L2.xK I rx ty e fun tk=>⟨.bl b,H,I.tok _,rfl,q⟩
 ·cases rx
  obtain ⟨its,_,⟨o,h1,h2,_⟩,_⟩:=I.tuple hs
  exact PySem.W.kia_one PySem.W.kitx_tuple I.jP ⟨o,h1,h2⟩ e (fun z=>nomatch z) fun tk=>⟨.bl b,H,I.tok _,rfl,q⟩
 ·cases rx
  obtain ⟨its,_,⟨o,_,h1,h2,_⟩,_⟩:=I.list hs
  exact PySem.W.kia_one PySem.W.kitx_list I.jP ⟨o,h1,h2⟩ e (fun z=>nomatch z) fun tk=>⟨.bl b,H,I.tok _,rfl,q⟩
theorem gw:Dc X (.builtin "isinstance") G9:=⟨_,xA,fun J H xs vs Q2 Q rs r ⟨x,n,t,b,ex,et,es,q⟩ k=>by
 subst ex
 obtain ⟨v,us,rfl,rv,w,us',rfl,rw',e⟩:=rs
 cases rw';cases e
 refine ⟨v,n,t,b,rfl,?_,BK X.K (C7 et) es,k (.bl _) J _ H rfl r .refl q⟩
 cases x with
 | non=>cases rv;cases et;exact .inl .non
 | bl i=>cases rv;cases et;exact .inl (.bl i)
 | int i=>cases rv;cases et;exact .inl (.int i)
 | str i=>cases rv;cases et;exact .inl (.str i)
 | tup xs=>obtain ⟨a,ws,rfl,h1,_⟩:=rv;cases et;exact .inr (.inl ⟨rfl,a,ws,rfl,h1⟩)
 | fl xs =>
  obtain ⟨a,ws,rfl,h1,_⟩:=rv;cases et
  exact .inr (.inr ⟨rfl,a,ws,rfl,h1.sq⟩)
 | ty n=>cases et
 | ref a =>
  cases rv
  unfold xo at et
  dsimp only at et
  cases ej:J a with
  | none=>rw [ej] at et;cases et
  | some o =>
   rw [ej] at et
   have z:=r _ _ ej
   cases o with
   | lst xs=>obtain ⟨ws,h1,_⟩:=z;cases et;exact .inl (.lst h1)
   | dct kvs ep=>obtain ⟨gs,h1,_⟩:=z;cases et;exact .inl (.dE h1)
   | tab=>cases et
   | ins C fs=>cases et⟩
def E9:vF:=fun xs J Q=>∃ x ys,xs=[x]∧jF J x=some ys∧Q (.fl ys) J
def As:vF:=fun xs J Q=>∃ x ys,xs=[x]∧jF J x=some ys∧∀ p,J p=none→Q (.ref p) (put J p (.lst ys))
theorem rJ:Dc X (.type "list") As:=⟨_,L2.pF,fun J H xs vs Q2 Q rs r ⟨x,ys,ex,el,q⟩ k=>by
 subst ex;obtain ⟨v,us,rfl,rv,e⟩:=rs;cases e
 obtain ⟨a,ws,rfl,h3,h4⟩:=pT rv r el
 exact ⟨a,ws,rfl,.inl h3,fun p hp=>k (.ref p) _ _ _ rfl (r.zC hp h4) (.laid hp) (q p (r.free hp))⟩⟩
def Jx:vF:=fun xs J Q=>∃ i j,xs=[.int i,.int j]∧Q (.int (if j > i then j else i)) J
def qx:yG:=fun x xs J Q=>∃ a ys y,x=.ref a∧xs=[y]∧J a=some (.lst ys)∧ys.length < sizeLine∧Q .non (put J a (.lst (ys ++ [y])))
theorem kI:D7 X "list" "list.append" qx:=⟨_,L2.e_,fun J H x xs v vs Q2 Q rx rs r ⟨a,ys,y,ex,exs,ja,hl,q⟩ k=>by
 subst ex exs;cases rx;obtain ⟨w,us,rfl,rw',e⟩:=rs;cases e
 obtain ⟨ws,h1,h2⟩:=r _ _ ja
 exact ⟨a,ws,w,rfl,rfl,h1,by rw [← h2.length];exact hl,k .non _ _ _ rfl (r.wrote (ys:=ys ++ [y]) ja h1 (h2.append (show aJ X.K J H [y] [w] from ⟨w,[],rfl,rw',rfl⟩))) (.wrote ja h1) q⟩⟩
def Ha:yG:=fun x xs J Q=>∃ a ys y,x=.ref a∧xs=[]∧J a=some (.lst ys)∧ys[ys.length - 1]?=some y∧Q y (put J a (.lst ys.dropLast))
theorem aJ.dropLast {J:Hq} {H:Hp} {xs:List PV} {vs:List V} (r:aJ K J H xs vs):aJ K J H xs.dropLast vs.dropLast:=by
 rw [List.dropLast_eq_take,List.dropLast_eq_take,← r.length]
 exact r.take _
theorem EK:D7 X "list" "list.pop" Ha:=⟨_,L2.EL,fun J H x xs v vs Q2 Q rx rs r ⟨a,ys,y,ex,exs,ja,hy,q⟩ k=>by
 subst ex exs;cases rx;cases rs
 obtain ⟨ws,h1,h2⟩:=r _ _ ja
 obtain ⟨w,e1,e2⟩:=h2.get hy
 have ex:=Ext.wrote (K:=X.K) (ys:=ys.dropLast) (vs:=ws.dropLast) ja h1
 exact ⟨a,ws,w,rfl,rfl,h1,by rw [← h2.length];exact e1,k y _ w _ (ex.rep e2) (r.wrote ja h1 h2.dropLast) ex q⟩⟩
def E8:yG:=fun x xs J Q=>∃ a ys,x=.ref a∧xs=[]∧J a=some (.lst ys)∧Q .non (put J a (.lst []))
def Cy:V→List V→Hp→VK→Prop:=fun x vs H Q=>∃ l xs i y,x=.ref l∧vs=[.int (i:Nat),y]∧H l=some (.lst xs)∧i≤xs.length∧xs.length < sizeLine∧i < 2 ^ 62∧Q .non (upd H l (.lst (xs.take i ++ y :: xs.drop i)))
theorem uz (its:List Value) (i:Nat) (u:Value) (h:i≤its.length):((its.toArray.extract 0 (min ((i:Int)).toNat its.toArray.size)).push u ++ its.toArray.extract (min ((i:Int)).toNat its.toArray.size))=(its.take i ++ u :: its.drop i).toArray:=by
 have e:min ((i:Int)).toNat its.toArray.size=i:=by simp;omega
 rw [e]
 apply Array.ext'
 simp
 exact List.take_of_length_le (by simp)
theorem xW:mf X "list.insert" Cy:=by
 intro pins s σ H x vs v us Q I rx rv h
 obtain ⟨l,xs,i,y,rfl,rfl,hH,hi,hz,hb,q⟩:=h
 cases rx
 obtain ⟨u,w,rfl,ru,rw'⟩:=L2.vals2 rv
 obtain ⟨t,rfl⟩:=ru
 obtain ⟨z,its,n,r,hl,e⟩:=I.BO hH
 have h63:((i:Nat):Int) < 2 ^ 63:=by
  have:((i:Nat):Int) < ((2 ^ 62:Nat):Int):=Int.ofNat_lt.mpr hb
  exact Int.lt_trans this (by decide)
 have hf:Builtin.List.listFitsIndex ((i:Nat):Int)=true:=fitsIndex_both (Int.le_trans (by decide) (Int.natCast_nonneg i)) h63
 have hs:its.toArray.size≤sizeLine:=by rw [List.size_toArray,← hl];exact z
 have hn:¬(!Builtin.List.listFitsIndex ((i:Nat):Int))=true:=by rw [hf];exact fun z=>nomatch z
 have hneg:¬ (((i:Nat):Int) < 0):=by omega
 have hins:=uz its i w (by omega)
 clear hb h63 hf
 generalize ((i:Nat):Int)=ii at *
 have mm:=PySem.AutoSeq1.list_insert_list_int_val_1 l its.toArray n ii t w hn hs
 refine call_meets PySem.F.slot_list_insert ⟨_,e,rfl⟩ PySem.F.entry_list_insert (PySem.F.args_list_insert_3 _ _ _) mm ⟨e,?_⟩
 refine ⟨.non,_,I.BN (its':=its.take i ++ w :: its.drop i) hH e ?_ ((r.take i).append (.cons rw' (r.drop i))) ?_,rfl,q⟩
 ·simp only [if_neg hneg]
  exact hins
 ·rw [List.length_append,List.length_cons,List.length_take,List.length_drop];omega
def wC:yG:=fun x xs J Q=>∃ a ys i y,x=.ref a∧xs=[.int (i:Nat),y]∧J a=some (.lst ys)∧i≤ys.length∧ys.length < sizeLine∧i < 2 ^ 62∧Q .non (put J a (.lst (ys.take i ++ y :: ys.drop i)))
theorem iG:D7 X "list" "list.insert" wC:=⟨_,xW,fun J H x xs v vs Q2 Q rx rs r ⟨a,ys,i,y,ex,exs,ja,hi,hl,hb,q⟩ k=>by
 subst ex exs;cases rx;obtain ⟨w0,us,rfl,rw0,w,us',rfl,rw',e⟩:=rs;cases e;cases rw0
 obtain ⟨ws,h1,h2⟩:=r _ _ ja
 exact ⟨a,ws,i,w,rfl,rfl,h1,by rw [← h2.length];exact hi,by rw [← h2.length];exact hl,hb,k .non _ _ _ rfl (r.wrote (ys:=ys.take i ++ y :: ys.drop i) ja h1 ((h2.take i).append (show aJ X.K J H (y :: ys.drop i) (w :: ws.drop i) from ⟨w,_,rfl,rw',h2.drop i⟩))) (.wrote ja h1) q⟩⟩
end
def lH (ks:List (Str × Nat)) (τ:Sr):Sr:=ks.map fun p=>(τ[p.2]?).getD none
theorem wK {K:PySem.W.Frag} {J:Hq} {H:Hp} {τ:Sr} {σ:L2.St} (r:jj K J H τ σ) {x:PV} {v:V} (rx:bR K J H x v) (ks:List (Str × Nat)):jj K J H (some x :: lH ks τ) (some v :: cP ks σ):=by
 refine ⟨by simp [lH,cP],fun i y e=>?_⟩
 cases i with
 | zero=>rw [List.getElem?_cons_zero] at e ⊢;cases e;exact ⟨v,rfl,rx⟩
 | succ i =>
  rw [List.getElem?_cons_succ] at e ⊢
  unfold lH at e
  unfold cP
  rw [List.getElem?_map] at e ⊢
  cases ep:ks[i]? with
  | none=>rw [ep] at e;cases e
  | some p =>
   rw [ep] at e
   have e':(τ[p.2]?).getD none=some y:=Option.some.inj e
   have e2:τ[p.2]?=some (some y):=by
    cases q:τ[p.2]? with
    | none=>rw [q] at e';cases e'
    | some w=>rw [q] at e';exact congrArg some e'
   obtain ⟨v',h1,h2⟩:=r.get _ _ e2
   exact ⟨v',by show some ((σ[p.2]?).getD none)=_;rw [h1];rfl,h2⟩
def Sub (J J':Hq):Prop:=∀ a o,J a=some o→J' a=some o
theorem Sub.put {J:Hq} {D:Addr} {o:HQ} (h:J D=none):Sub J (put J D o):=fun a u e=>by
 have ne:a≠D:=by intro z;subst z;rw [h] at e;cases e
 rw [ar ne];exact e
def IA (it:ub) (J1:Hq) (ks:List (Str × Nat)) (τ:Sr) (tc:jk) (te:cQ) (c:PV→Bool) (g:PV→PV):Prop:=it.xs.length < sizeLine∧∀ J',Sub J1 J'→it.ok J' ∧
 ∀ x∈it.xs,tc (some x :: lH ks τ) J' (fun b J2=>b=c x∧J2=J')∧(c x=true→te (some x :: lH ks τ) J' fun y J2=>y=g x∧J2=J')
def sZ (wi:nQ) (ks:List (Str × Nat)) (tc:jk) (te:cQ):cQ:=fun τ J Q=>wi τ J fun it J1=>∃ (c:PV→Bool) (g:PV→PV),IA it J1 ks τ tc te c g∧Q (.fl ((it.xs.filter c).map g)) J1
def Fe (wi:nQ) (ks:List (Str × Nat)) (tc:jk) (te:cQ):cQ:=fun τ J Q=>wi τ J fun it J1=>∃ (c:PV→Bool) (g:PV→PV),IA it J1 ks τ tc te c g∧∀ p,J1 p=none→Q (.ref p) (put J1 p (.lst ((it.xs.filter c).map g)))
def s_:jk:=fun _ J Q=>Q true J
section
variable {X:Cx} {G:G2}
theorem ly {α:Type} (c:α→Bool) {xs:List α} {i:Nat} {x:α} (h:xs[i]?=some x):(xs.take (i + 1)).filter c=(xs.take i).filter c ++ (if c x=true then [x] else []):=by
 rw [List.take_add_one,h,List.filter_append]
 congr 1
 simp only [Option.toList_some,List.filter_cons,List.filter_nil]
theorem pR {K:PySem.W.Frag} {ks:List (Str × Nat)} {tc:jk} {te:cQ} {σ:L2.St} {H:Hp} {Q:VK} {τ:Sr} {J:Hq} (a2:rd K G τ J σ H) {it:ub} {J1:Hq} {I:It} {H1:Hp} (ir:oH K it I J1 H1) (r1:Rep K J1 H1) (e1:Ext K J H J1 H1) {c:PV→Bool} {g:PV→PV}
  (w:IA it J1 ks τ tc te c g)
  (q:∀ D H2,H1 D=none→J1 D=none→Rep K (put J1 D (.lst ((it.xs.filter c).map g))) H2→Ext K J1 H1 (put J1 D (.lst ((it.xs.filter c).map g))) H2→Q (.ref D) H2) :
  ∀ D,H1 D=none→∃ W:Nat→Nat→Hp→Prop,(∃ m,W 0 m (upd H1 D (.lst [])))∧∀ i m H2,W i m H2→(I.stop i H2∧Q (.ref D) H2) ∨
   (I.go i H2∧∀ v H3,I.yld i H2 v H3→LT K G tc (some v :: cP ks σ) H3 fun b H4=>if b=true then LE K G te (some v :: cP ks σ) H4 fun y H5=>∃ ys,H5 D=some (.lst ys)∧ys.length < sizeLine∧∃ m',m' < m∧W (i + 1) m' (upd H5 D (.lst (ys ++ [y]))) else ∃ m',m' < m∧W (i + 1) m' H4):=by
 intro D hD
 obtain ⟨hlen,w⟩:=w
 have jD:J1 D=none:=r1.free hD
 refine ⟨fun i m H2=>m=it.xs.length - i∧i≤it.xs.length∧Rep K (put J1 D (.lst (((it.xs.take i).filter c).map g))) H2∧Ext K J1 H1 (put J1 D (.lst (((it.xs.take i).filter c).map g))) H2,⟨_,rfl,Nat.zero_le _,r1.zC (xs:=[]) (vs:=[]) hD rfl,.laid hD⟩,?_⟩
 rintro i m H2 ⟨rfl,hi,r2,e2⟩
 obtain ⟨ok,ww⟩:=w _ (Sub.put (o:=.lst (((it.xs.take i).filter c).map g)) jD)
 by_cases hlt:i < it.xs.length
 ·refine .inr ⟨ir.go _ H2 e2 r2 ok i hlt,fun v H3 y=>?_⟩
  obtain ⟨x,ex,rx,r3,e3⟩:=ir.yl _ H2 e2 r2 ok i hlt v H3 y
  obtain ⟨hc,he⟩:=ww x (List.mem_of_getElem? ex)
  have a3:rd K G (some x :: lH ks τ) _ (some v :: cP ks σ) H3:=⟨wK (a2.sl.ext ((e1.trans e2).trans e3)) rx ks,r3,((a2.ext.trans e1).trans e2).trans e3⟩
  refine ⟨_,_,_,a3,hc,fun b J4 H4 r4 e4 ⟨eb,ej⟩=>?_⟩
  subst ej
  cases hb:c x with
  | false =>
   rw [eb,hb]
   simp only [Bool.false_eq_true,if_false]
   refine ⟨_,by omega,rfl,hlt,?_⟩
   rw [ly c ex,hb]
   simp only [Bool.false_eq_true,if_false,List.append_nil]
   exact ⟨r4,(e2.trans e3).trans e4⟩
  | true =>
   rw [eb,hb]
   simp only [if_true]
   refine ⟨_,_,_,a3.go r4 e4,he hb,fun z J5 u H5 rz r5 e5 ⟨ez,ej⟩=>?_⟩
   subst ej ez
   obtain ⟨ys,h5,ry⟩:=r5 D _ au
   have ll:ys.length≤i:=by
    rw [← ry.length,List.length_map]
    exact Nat.le_trans (List.length_filter_le _ _) (by rw [List.length_take];omega)
   have r6:=r5.wrote (ys:=((it.xs.take i).filter c).map g ++ [g x]) (vs:=ys ++ [u]) au h5 (ry.append (show aJ K _ H5 [g x] [u] from ⟨u,[],rfl,rz,rfl⟩))
   have e6:=Ext.wrote (K:=K) (ys:=((it.xs.take i).filter c).map g ++ [g x]) (vs:=ys ++ [u]) (J:=put J1 D (.lst (((it.xs.take i).filter c).map g))) au h5
   rw [d3] at r6 e6
   refine ⟨ys,h5,by omega,_,by omega,rfl,hlt,?_⟩
   rw [ly c ex,hb,if_pos rfl,List.map_append]
   exact ⟨r6,(((e2.trans e3).trans e4).trans e5).trans e6⟩
 ·have ei:i=it.xs.length:=by omega
  subst ei
  rw [List.take_length] at r2 e2 ok
  exact .inl ⟨ir.stop _ H2 e2 r2 ok,q D H2 hD jD r2 e2⟩
theorem freeze {K:PySem.W.Frag} {J1:Hq} {H2:Hp} {D:Addr} {xs:List PV} (jD:J1 D=none) (r:Rep K (put J1 D (.lst xs)) H2):bR K J1 H2 (.fl xs) (.ref D)∧Rep K J1 H2∧Ext K (put J1 D (.lst xs)) H2 J1 H2:=by
 obtain ⟨ys,h,ry⟩:=r D _ au
 have less:∀ a,J1 a=put J1 D (.lst xs) a∨J1 a=none:=fun a=>by
  by_cases e:a=D
  ·subst e;exact .inr jD
  ·rw [ar e];exact .inl rfl
 have e:=Ext.less (K:=K) (H:=H2) less
 exact ⟨⟨D,ys,rfl,.inl ⟨jD,.inl h⟩,e.gC ry⟩,r.less less,e⟩
theorem zE {wi:nQ} {ks:List (Str × Nat)} {tc:jk} {te:cQ}:∀ σ H Q,LE X.K G (sZ wi ks tc te) σ H Q→FA (LI X.K G wi) ks (LT X.K G tc) (LE X.K G te) σ H Q:=fun σ H Q ⟨τ,J,Q2,a2,h,k⟩ =>
 ⟨τ,J,_,a2,h,fun it J1 I H1 ir r1 e1 ⟨c,g,w,q⟩=>pR (Q:=Q) a2 ir r1 e1 w fun D H2 hD jD r2 e2=>let ⟨x1,x2,x3⟩:=freeze jD r2;k _ J1 _ H2 x1 x2 ((e1.trans e2).trans x3) q⟩
theorem zF {wi:nQ} {ks:List (Str × Nat)} {tc:jk} {te:cQ}:∀ σ H Q,LE X.K G (Fe wi ks tc te) σ H Q→FA (LI X.K G wi) ks (LT X.K G tc) (LE X.K G te) σ H Q:=fun σ H Q ⟨τ,J,Q2,a2,h,k⟩ =>
 ⟨τ,J,_,a2,h,fun it J1 I H1 ir r1 e1 ⟨c,g,w,q⟩=>pR (Q:=Q) a2 ir r1 e1 w fun D H2 hD jD r2 e2=>k (.ref D) _ _ H2 rfl r2 (e1.trans e2) (q D jD)⟩
theorem rY {wi:nQ} {ks:List (Str × Nat)} {te:cQ}:∀ σ H Q,LE X.K G (sZ wi ks s_ te) σ H Q→Ip (LI X.K G wi) ks (LE X.K G te) σ H Q:=fun σ H Q ⟨τ,J,Q2,a2,h,k⟩ =>
 ⟨τ,J,_,a2,h,fun it J1 I H1 ir r1 e1 ⟨c,g,w,q⟩ D hD=>by
  obtain ⟨W,w0,turn⟩:=pR (Q:=Q) a2 ir r1 e1 w (fun D H2 hD jD r2 e2=>let ⟨x1,x2,x3⟩:=freeze jD r2;k _ J1 _ H2 x1 x2 ((e1.trans e2).trans x3) q) D hD
  refine ⟨W,w0,fun i m H2 hw=>?_⟩
  rcases turn i m H2 hw with z | ⟨go,z⟩
  ·exact .inl z
  ·refine .inr ⟨go,fun v H3 y=>?_⟩
   obtain ⟨τ',J',Q',a',t',k'⟩:=z v H3 y
   have:=k' true J' H3 a'.hp .refl t'
   simpa using this⟩
variable {elt iter cnd:Expr} {x y:Str} {px py:Pos} {sc:Scope} {pos spos:Pos} {wi:nQ} {te:cQ} {tc:jk} {i:Nat}
theorem HC (osc:Scope) (N:List Str) (ks:List (Str × Nat)) (hc:X.calm=true) (ho:X.env.scope=osc) (hN:X.N=N) (hi:RI X G (.Name x px) iter wi) (he:∀ cl C s₀ H₀ fp pins,RE (dT X sc cl C x ks s₀ H₀ fp pins) G elt te)
  (ok:cb sc osc N x ks:=by decide +kernel) (hs:∀ x,foldedSetIterable iter X.env x=pure x:=by intro _;rfl):RE X G (.ListComp elt [⟨.Name x px,iter,[],0⟩] sc pos) (sZ wi ks s_ te) :=
 ⟨i7 (DD osc N ks hc ho hN hi.run (fun cl C s₀ H₀ fp pins=>(he cl C s₀ H₀ fp pins).run) ok hs) rY⟩
theorem mI {t:cQ} {u:TE} (h:∀ σ H Q,LE X.K G t σ H Q→u σ H Q):∀ D σ H,LS X.K G (ot t (BA i)) D σ H→u σ H fun v H1=>D.nx (σ.set i (some v)) H1:=fun D σ H ⟨τ,J,D2,a2,q,g⟩ =>
 h σ H _ ⟨τ,J,_,a2,q,fun x J' v H' rx rr ee q=>g.nx _ J' _ H' ((a2.sl.ext ee).set i rx) rr ee q⟩
theorem Fm (osc:Scope) (N:List Str) (ks:List (Str × Nat)) (hc:X.calm=true) (ho:X.env.scope=osc) (hN:X.N=N) (hnd:X.N.Nodup) (hy:X.N[i]?=some y) (hl:Loc X.env.scope y) (hi:RI X G (.Name x px) iter wi) (he:∀ cl C s₀ H₀ fp pins,RE (dT X sc cl C x ks s₀ H₀ fp pins) G elt te) (hcn:∀ cl C s₀ H₀ fp pins,RT (dT X sc cl C x ks s₀ H₀ fp pins) G cnd tc)
  (ok:cb sc osc N x ks:=by decide +kernel) (hs:∀ x,foldedSetIterable iter X.env x=pure x:=by intro _;rfl) (hsw:swapsWith (.ListComp elt [⟨.Name x px,iter,[cnd],0⟩] sc pos) (some (.Name y py)) spos.line X.env=pure true:=by rfl) (hf:X.fn y=true∨X.env.scope.names.lookup y=some .local:=by first | exact .inl rfl | exact .inr rfl | assumption) :
  RS X G (.Assign [.Name y py] (.ListComp elt [⟨.Name x px,iter,[cnd],0⟩] sc pos) spos) (ot (sZ wi ks tc te) (BA i)) :=
 ⟨uZ (Am osc N ks hc ho hN hnd hy hl hi.run (fun cl C s₀ H₀ fp pins=>(he cl C s₀ H₀ fp pins).run) (fun cl C s₀ H₀ fp pins=>(hcn cl C s₀ H₀ fp pins).run) ok hs hsw hf) (mI zE)⟩
theorem CH (osc:Scope) (N:List Str) (ks:List (Str × Nat)) (hc:X.calm=true) (ho:X.env.scope=osc) (hN:X.N=N) (hnd:X.N.Nodup) (hy:X.N[i]?=some y) (hl:Loc X.env.scope y) (hi:RI X G (.Name x px) iter wi) (he:∀ cl C s₀ H₀ fp pins,RE (dT X sc cl C x ks s₀ H₀ fp pins) G elt te) (hcn:∀ cl C s₀ H₀ fp pins,RT (dT X sc cl C x ks s₀ H₀ fp pins) G cnd tc)
  (ok:cb sc osc N x ks:=by decide +kernel) (hs:∀ x,foldedSetIterable iter X.env x=pure x:=by intro _;rfl) (hsw:swapsWith (.ListComp elt [⟨.Name x px,iter,[cnd],0⟩] sc pos) (some (.Name y py)) spos.line X.env=pure true:=by rfl) (hf:X.fn y=true∨X.env.scope.names.lookup y=some .local:=by first | exact .inl rfl | exact .inr rfl | assumption) :
  RS X G (.Assign [.Name y py] (.ListComp elt [⟨.Name x px,iter,[cnd],0⟩] sc pos) spos) (ot (Fe wi ks tc te) (BA i)) :=
 ⟨uZ (Am osc N ks hc ho hN hnd hy hl hi.run (fun cl C s₀ H₀ fp pins=>(he cl C s₀ H₀ fp pins).run) (fun cl C s₀ H₀ fp pins=>(hcn cl C s₀ H₀ fp pins).run) ok hs hsw hf) (mI zF)⟩
theorem HF (osc:Scope) (N:List Str) (ks:List (Str × Nat)) (hc:X.calm=true) (ho:X.env.scope=osc) (hN:X.N=N) (hnd:X.N.Nodup) (hy:X.N[i]?=some y) (hl:Loc X.env.scope y) (hi:RI X G (.Name x px) iter wi) (he:∀ cl C s₀ H₀ fp pins,RE (dT X sc cl C x ks s₀ H₀ fp pins) G elt te)
  (ok:cb sc osc N x ks:=by decide +kernel) (hs:∀ x,foldedSetIterable iter X.env x=pure x:=by intro _;rfl) (hsw:swapsWith (.ListComp elt [⟨.Name x px,iter,[],0⟩] sc pos) (some (.Name y py)) spos.line X.env=pure true:=by rfl) (hf:X.fn y=true∨X.env.scope.names.lookup y=some .local:=by first | exact .inl rfl | exact .inr rfl | assumption) :
  RS X G (.Assign [.Name y py] (.ListComp elt [⟨.Name x px,iter,[],0⟩] sc pos) spos) (ot (sZ wi ks s_ te) (BA i)) :=
 ⟨uZ (DE osc N ks hc ho hN hnd hy hl hi.run (fun cl C s₀ H₀ fp pins=>(he cl C s₀ H₀ fp pins).run) ok hs hsw hf) (mI rY)⟩
end
end Ov
namespace Ov
open PySem PySem.Spec PyProof.Rows
section
open HT (lexLt)
def jt:List Str→List Str→Bool
 | [],[]=>false
 | [],_ :: _=>true
 | _ :: _,[]=>false
 | x :: xs,y :: ys=>if x=y then jt xs ys else decide (x.cps.toList < y.cps.toList)
theorem kG (x y:Str) (xs ys:List Str):jt (x :: xs) (y :: ys)=if x=y then jt xs ys else decide (x.cps.toList < y.cps.toList):=rfl
theorem jR:jt [] []=false:=rfl
theorem nW (y:Str) (ys:List Str):jt [] (y :: ys)=true:=rfl
theorem nV (x:Str) (xs:List Str):jt (x :: xs) []=false:=rfl
theorem y6 (A:Around) (s:Shared) (a:Str) (t:Tok) (c:Str) (u:Tok):∃ e,SeqAt.EqAt A s (.str a t) (.str c u) e∧(e=true↔a=c) :=
 ⟨(a == c),SeqAt.EqAt.str_str a t c u,by simp⟩
theorem AD (A:Around) (s:Shared) (a:Str) (t:Tok) (c:Str) (u:Tok) (prog:Program) (w:World) (E:Value→Shared→Prop) (Q:Value→Shared→Prop) (h:Q (.bool (decide (a.cps.toList < c.cps.toList))) s) :
  wpAny (model prog w) A (richCompare .Lt (.str a t) (.str c u)) Q E s :=
 (PyProof.Rows.lt_str h:wpAny (model prog w) A (compareOp .Lt (.str a t) (.str c u)) Q E s)
open PySem.SeqAt
open PySem.AutoSeq1 (wpAny_loadPart')
open PySem.MeetsSeq PySem.MeetsSeq2 PySem.MeetsSeq3
theorem oF (l b:Addr) (items items2:Array Value) (n n2:Nat) (dd dd2:Option Addr) (sl sl2:Array (Option Value)) (ns ms:List Str) (hi:StrsAre items.toList ns) (hj:StrsAre items2.toList ms) :
  Meets (Builtin.«tuple.__lt__» ⟨[.ref l,.ref b],[]⟩)
   (fun _ R s=>s.heap.get? l=some { cls:=.type "tuple",dict:=dd,data:=.seq items n,slots:=sl }∧s.heap.get? b=some { cls:=.type "tuple",dict:=dd2,data:=.seq items2 n2,slots:=sl2 } ∧
    R (.ok (.ret (.bool (jt ns ms)))) s) :=
 .of_wp fun prog w A R s h=>by
  obtain ⟨hp,g,d,tk,os⟩:=s;obtain ⟨hl,hb,h⟩:=h
  have f2:=AutoSeq1.sub_tuple_tuple
  have z1:items.size=ns.length:=by rw [← hi.length];simp
  have z2:items2.size=ms.length:=by rw [← hj.length];simp
  wp_walk using wpAny_loadPart' hl,wpAny_loadPart' hb,wpAny_forIn_list _ (fun rest b s'=>b.1=none∧s'=⟨hp,g,d,tk,os⟩∧∃ (vs ws:List Value) (ns' ms':List Str),rest=vs.zip ws ∧
   StrsAre vs ns'∧StrsAre ws ms'∧ns'.length + items2.size=ms'.length + items.size∧R (.ok (.ret (.bool (jt ns' ms')))) ⟨hp,g,d,tk,os⟩) _
  case turn =>
   rintro ⟨y,x⟩ rest b s' ⟨hb',rfl,vs,ws,ns',ms',hz,hvi,hwi,hlen,hR⟩
   cases hvi with
   | nil=>rw [List.zip_nil_left] at hz;cases hz
   | cons a t hvi' =>
    cases hwi with
    | nil=>rw [List.zip_nil_right] at hz;cases hz
    | cons c u hwi' =>
     rw [List.zip_cons_cons] at hz
     injection hz with hyx hrest
     injection hyx with hy hx
     subst hy hx
     rw [kG] at hR
     simp only [List.length_cons] at hlen
     obtain ⟨e,he,hiff⟩:=y6 A.in1 ⟨hp,g,d,tk,os⟩ a t c u
     refine wpAny_bind (he prog w _ _ ?_)
     cases e with
     | true =>
      rw [if_pos (hiff.mp rfl)] at hR
      wp_walk
      exact ⟨rfl,rfl,_,_,_,_,hrest,hvi',hwi',by omega,hR⟩
     | false =>
      rw [if_neg (fun q=>absurd (hiff.mpr q) Bool.false_ne_true)] at hR
      have hri:=AD A.in1 ⟨hp,g,d,tk,os⟩ a t c u prog w
      wp_walk using hri
      exact ⟨_,rfl,by simpa using hR⟩
  case fin =>
   rintro ⟨b1,b2⟩ s' ⟨hb',rfl,vs,ws,ns',ms',hz,hvi,hwi,hlen,hR⟩
   simp only at hb'
   subst hb'
   have hv:jt ns' ms'=decide (items.size < items2.size):=by
    cases hvi with
    | nil =>
     cases hwi with
     | nil =>
      simp only [List.length_nil] at hlen
      rw [jR]
      exact (decide_eq_false (by omega)).symm
     | cons c u hw =>
      simp only [List.length_nil,List.length_cons] at hlen
      rw [nW]
      exact (decide_eq_true (by omega)).symm
    | cons a t hv =>
     cases hwi with
     | nil =>
      simp only [List.length_nil,List.length_cons] at hlen
      rw [nV]
      exact (decide_eq_false (by omega)).symm
     | cons c u hw =>
      rw [List.zip_cons_cons] at hz
      cases hz
   rw [hv] at hR
   wp_walk
   exact ⟨_,rfl,by simpa [Builtin.Tuple.tupleCompareSizes] using hR⟩
  case h =>
   exact ⟨rfl,rfl,items.toList,items2.toList,ns,ms,rfl,hi,hj,by omega,h⟩
section
variable {prog:Program} {w:World} {A:Around} {E:Value→Shared→Prop} {s:Shared}
theorem uH {l b:Addr} {items items2:Array Value} {ns ms:List Str} {Q:Value→Shared→Prop} (hl:IsTup s.heap l items) (hb:IsTup s.heap b items2) (hi:StrsAre items.toList ns) (hj:StrsAre items2.toList ms)
  (hu:A.units < cLine) (h:Q (.bool (jt ns ms)) s):wpAny (model prog w) A (compareOp .Lt (.ref l) (.ref b)) Q E s:=by
 obtain ⟨⟨cls,dd,data,sl⟩,ho,hc,n,hd⟩:=id hl
 obtain ⟨⟨cls2,dd2,data2,sl2⟩,ho2,hc2,n2,hd2⟩:=id hb
 simp only at hc hd hc2 hd2
 subst hc hd hc2 hd2
 exact richCompare_meets_room (op:=.Lt) ⟨_,ho,rfl⟩ ⟨_,ho2,rfl⟩ PySem.F.slot_tuple_lt PySem.F.entry_tuple_lt (PySem.F.args_tuple_lt_2 _ _) (oF l b items items2 n n2 dd dd2 sl sl2 ns ms hi hj)
  ⟨ho,ho2,show Value.bool (jt ns ms)≠Value.notImplemented∧Q (.bool (jt ns ms)) s from ⟨(fun x=>nomatch x),h⟩⟩ hu
end
end
open L2 (V HO Hp Inv Cx VK XK TE TT TA TS TG mi TI TO i5 Ends rq Loc Gl Rd RelV Vals eu t8 bP md oJ mf i4 R2 upd aB aK cD fQ Sp nM It ba cU bE Passes lI az Meth Mk Binds aH bQ aw c5 ft dY)
section
variable {X:Cx} {K:PySem.W.Frag}
theorem B6 (hu:X.A.units < cLine):eu X (compareOp .Lt) (fun x y H Q=>∃ a b ns ms,x=.ref a∧y=.ref b∧fQ X.K H a (ns.map V.str)∧fQ X.K H b (ms.map V.str)∧Q (.bl (jt ns ms)) H):=by
 intro pins s σ H x y v u Q I rx ry h
 obtain ⟨a,b,ns,ms,rfl,rfl,ha,hb,q⟩:=h
 cases rx;cases ry
 obtain ⟨is,r1,t1,_⟩:=I.tuple ha
 obtain ⟨js,r2,t2,_⟩:=I.tuple hb
 exact uH t1 t2 (by simpa using gL r1) (by simpa using gL r2) hu ⟨.bl _,H,I,rfl,q⟩
theorem nE {J:Hq} {H:Hp}:∀ {ns:List Str} {vs:List V},aJ K J H (ns.map PV.str) vs→vs=ns.map V.str
 | [],_,h=>h
 | n :: ns,_,⟨v,us,e,h,k⟩=>by subst e;cases h;rw [nE k];rfl
def DK:jH:=fun x y J Q=>∃ ns ms,x=.tup (ns.map .str)∧y=.tup (ms.map .str)∧Q (.bl (jt ns ms)) J
theorem B8 (hu:X.A.units < cLine):jG X (compareOp .Lt) DK:=⟨_,B6 hu,fun J H x y v w Q2 Q rx ry r ⟨ns,ms,ex,ey,q⟩ k=>by
 subst ex ey
 obtain ⟨a,vs,rfl,h1,h2⟩:=rx
 obtain ⟨b,ws,rfl,h3,h4⟩:=ry
 cases nE h2;cases nE h4
 exact ⟨a,b,ns,ms,rfl,rfl,h1,h3,k (.bl _) J _ H rfl r .refl q⟩⟩
def G7:jH:=fun x y J Q=>∃ xs ys,jF J x=some xs∧jF J y=some ys∧xs.length + ys.length≤sizeLine∧Q (.fl (xs ++ ys)) J
end
def bq (K:PySem.W.Frag) (C:Addr) (m qual:Str) (st:Stmt):Prop:=∃ f fd,Meth K C m f∧bQ K m qual st f fd
structure cR (K:PySem.W.Frag) (mg:Str→Option Value) (x:Str) (C:Addr):Prop where
 cl:lI K C
 m:mg x=some (.ref C)
 mkz:PySem.W.makesIn K C=true
 kp:PySem.W.keepIn K (.ref C)=true
theorem a9 {K:PySem.W.Frag} {C f:Addr} {m qual:Str} {st:Stmt} {od an:Option Addr} {sl:Array (Option Value)} {oc kV dc pm cd ct:Value} (a:PySem.W.findIn K (.ref C) m=some (some (.ref f))) (i:PySem.W.isFn K (.ref f)=true)
  (l:K.lookup f=some ⟨oc,od,.func (PySem.W.fnOf m qual (L2.cJ st) (L2.bJ st) (L2.aj st) .none kV dc pm an cd ct),sl⟩) (c:PySem.W.codeIn K cd qual=true) (k:PySem.W.keepIn K (.ref f)=true):bq K C m qual st :=
 ⟨f,_,⟨a,i,k⟩,L2.ux l c k⟩
theorem pO {K:PySem.W.Frag} {h:Heap} {mg:Str→Option Value} {x:Str} {C:Addr} (X:K.In h) (G:h.Ns mainGlobals mg) (aC:PySem.W.nsIn K mainGlobals x=some (some (.ref C)))
  (pg:PySem.W.plainGet K C Str.empty=true) (hd:PySem.W.hasDictIn K C=true) (po:PySem.W.plainOver K C=true) (sa:PySem.W.findIn K (.ref C) "__setattr__"=some (some (.builtin "object.__setattr__"))) (mk:PySem.W.makesIn K C=true) (kc:PySem.W.keepIn K (.ref C)=true):cR K mg x C :=
 ⟨⟨pg,hd,po,sa⟩,PySem.W.mg_of X G aC,mk,kc⟩
section
variable {P:Program} {w:World} {K:PySem.W.Frag} {mg:Str→Option Value} {base:Heap}
theorem bq.lN {C:Addr} {m qual:Str} {st:Stmt} {k:Nat} {ps:List Str} {sp:b9} (D:bq K C m qual st) (cl:lI K C) (h:∀ f fd,bQ K m qual st f fd→aH P w K mg base (cF P w) k f fd ps (c8 K sp))
  (hb:∀ (kV doc pm:Value) (an:Option Addr) (cdv ct:Value) (us:List Value),us.length=ps.length→bindArgs (PySem.W.fnOf m qual (L2.cJ st) (L2.bJ st) (L2.aj st) .none kV doc pm an cdv ct) ⟨us,[]⟩=pure (ps.zip us)):cf P w K mg base C k m ps sp:=by
 obtain ⟨f,fd,hm,F⟩:=D
 exact ⟨cl,f,fd,hm,h f fd F,F.binds hb⟩
theorem bq.Jn {x:Str} {C:Addr} {qual:Str} {st:Stmt} {k:Nat} {ps:List Str} {sp:b9} (D:bq K C "__init__" qual st) (kd:cR K mg x C) (h:∀ f fd,bQ K "__init__" qual st f fd→aH P w K mg base (cF P w) k f fd ps (c8 K sp))
  (hb:∀ (kV doc pm:Value) (an:Option Addr) (cdv ct:Value) (us:List Value),us.length=ps.length→bindArgs (PySem.W.fnOf "__init__" qual (L2.cJ st) (L2.bJ st) (L2.aj st) .none kV doc pm an cdv ct) ⟨us,[]⟩=pure (ps.zip us)):uc P w K mg base C k x ps sp:=by
 obtain ⟨f,fd,hm,F⟩:=D
 exact ⟨kd.m,f,fd,⟨kd.mkz,hm.at_,hm.fn,kd.kp⟩,h f fd F,F.binds hb⟩
end
theorem xy {F:List Value→Prop} (h:∀ a,F [a]):∀ us:List Value,us.length=1→F us
 | [a],_=>h a
theorem gS {F:List Value→Prop} (h:∀ a b,F [a,b]):∀ us:List Value,us.length=2→F us
 | [a,b],_=>h a b
theorem FL {F:List Value→Prop} (h:∀ a b c,F [a,b,c]):∀ us:List Value,us.length=3→F us
 | [a,b,c],_=>h a b c
theorem F4 {F:List Value→Prop} (h:∀ a b c d,F [a,b,c,d]):∀ us:List Value,us.length=4→F us
 | [a,b,c,d],_=>h a b c d
theorem KP {F:List Value→Prop} (h:∀ a b c d e,F [a,b,c,d,e]):∀ us:List Value,us.length=5→F us
 | [a,b,c,d,e],_=>h a b c d e
theorem KQ {F:List Value→Prop} (h:∀ a b c d e f,F [a,b,c,d,e,f]):∀ us:List Value,us.length=6→F us
 | [a,b,c,d,e,f],_=>h a b c d e f
end Ov
namespace Ov
open PySem PySem.Spec PyProof.Rows
open L2 (V HO Hp Inv Cx VK XK Rd cD fQ Sp ba bE Passes aH bQ aw c5 upd aB aK)
def fr (q:Rat):PV:=.tup [.int q.num,.int (q.den:Int)]
theorem Em (a b:Rat):(fr a=fr b)=(a=b):=by
 apply propext
 constructor
 ·intro h
  unfold fr at h
  simp only [PV.tup.injEq,List.cons.injEq,PV.int.injEq,and_true] at h
  exact Rat.ext h.1 (by have:=h.2;omega)
 ·intro h;rw [h]
theorem Dg (a:Rat):fr a=.tup [.int a.num,.int (a.den:Int)]:=rfl
theorem Et (J:Hq) (q:Rat):eD J (fr q) (.int 0)=some (.int q.num):=c6 _ _
theorem Eu (J:Hq) (q:Rat):eD J (fr q) (.int 1)=some (.int (q.den:Int)):=eI _ _ _
theorem HZ (J:Hq) (q:Rat):xo J (fr q)=some "tuple":=rfl
theorem EC (J:Hq) (q:Rat):r_ J (fr q)=some 2:=rfl
theorem vc (q:Rat):kr (fr q)=true:=by simp [fr,kr,i8]
theorem mH (q:Rat):zr (fr q)=false:=rfl
theorem Eh (q:Rat):dep (fu (fr q))=1:=by simp [fr,fu,fC,dep,dw]
theorem Gg (q:Rat):Df (fr q)=True:=eq_true ⟨vc q,by rw [Eh];decide⟩
theorem Eb (i:Int):Df (.int i)=True:=eq_true ⟨by simp [kr],by simp [fu,dep]⟩
theorem Ed (i:Str):Df (.str i)=True:=eq_true ⟨by simp [kr],by simp [fu,dep]⟩
theorem Gf (i:Bool):Df (.bl i)=True:=eq_true ⟨by simp [kr],by simp [fu,dep]⟩
theorem Ec:Df .non=True:=eq_true ⟨by simp [kr],by simp [fu,dep]⟩
theorem Cq (i:Int):kr (.int i)=true:=by simp [kr]
theorem qr (i:Str):kr (.str i)=true:=by simp [kr]
theorem E7 (i:Bool):kr (.bl i)=true:=by simp [kr]
theorem Cr:kr .non=true:=by simp [kr]
theorem Cs (xs:List PV):kr (.tup xs)=i8 xs:=by simp [kr]
theorem o_ (x:PV) (xs:List PV):i8 (x :: xs)=(kr x && i8 xs):=by simp [i8]
theorem Aq:i8 []=true:=by simp [i8]
theorem eq_int (a b:Int):eqQ (.int a) (.int b)=decide (a=b):=by unfold eqQ fu iF;rw [Bool.beq_eq_decide_eq]
theorem eq_str (a b:Str):eqQ (.str a) (.str b)=decide (a=b):=by
 unfold eqQ fu iF
 cases h:a == b with
 | true=>simp at h;simp [h]
 | false=>simp at h;simp [h]
theorem Gj (a b:Bool):eqQ (.bl a) (.bl b)=decide (a=b):=by unfold eqQ fu iF;rw [Bool.beq_eq_decide_eq]
def uu (xs ys:List PV):Bool:=g7 (fC xs) (fC ys)
theorem pJ (xs ys:List PV):eqQ (.tup xs) (.tup ys)=uu xs ys:=by unfold eqQ fu iF uu;rfl
theorem c_ (x y:PV) (xs ys:List PV):uu (x :: xs) (y :: ys)=(eqQ x y && uu xs ys):=by unfold uu eqQ;simp [fC,g7]
theorem lK:uu [] []=true:=by unfold uu;simp [fC,g7]
theorem eq_self (x:PV):eqQ x x=true:=rO _
theorem vS (a b:Rat):eqQ (fr a) (fr b)=decide (a=b):=by
 rw [Dg,Dg,pJ,c_,c_,lK,eq_int,eq_int,Bool.and_true,← Bool.decide_and]
 exact decide_eq_decide.mpr (by rw [CC])
theorem K6 (a b c:PV):jm [a,b,c] (some 1) none=[b,c]:=rfl
theorem ty_int (b:Bool):(jB "int" "int"=some b)=(b=true):=by cases b <;> simp [jB]
theorem ty_bool (b:Bool):(jB "int" "bool"=some b)=(b=false):=by cases b <;> simp [jB]
theorem HY (b:Bool):(jB "bool" "bool"=some b)=(b=true):=by cases b <;> simp [jB]
theorem ty_str (b:Bool):(jB "str" "str"=some b)=(b=true):=by cases b <;> simp [jB]
theorem FG (b:Bool):(jB "tuple" "tuple"=some b)=(b=true):=by cases b <;> simp [jB]
theorem ty_list (b:Bool):(jB "list" "list"=some b)=(b=true):=by cases b <;> simp [jB]
theorem dm {n:Nat} (h:n≤1000):n≤sizeLine:=Nat.le_of_lt (L2.aV h)
theorem Ds:(0≤sizeLine)=True:=eq_true (Nat.zero_le _)
theorem GF:(1≤sizeLine)=True:=eq_true (dm (by decide))
theorem GG:(2≤sizeLine)=True:=eq_true (dm (by decide))
theorem GH:(3≤sizeLine)=True:=eq_true (dm (by decide))
theorem GI:(4≤sizeLine)=True:=eq_true (dm (by decide))
section
variable (J:Hq) (xs:List PV) (a:Addr) (i:Int) (b:Bool) (z:Str) (T:String)
theorem Jd:eD J (.tup xs) (.int i)=c5 xs i:=rfl
theorem I_:eD J (.fl xs) (.int i)=c5 xs i:=rfl
theorem Gy:eD J (.ref a) (.int i)=(match J a with | some (.lst xs)=>c5 xs i | _=>none):=rfl
theorem Jl:jF J (.fl xs)=some xs:=rfl
theorem Jm:jF J (.ref a)=(match J a with | some (.lst xs)=>some xs | _=>none):=rfl
theorem GD:r_ J (.tup xs)=some xs.length:=rfl
theorem GC:r_ J (.fl xs)=some xs.length:=rfl
theorem Dq:r_ J (.ref a)=(match J a with | some (.lst xs)=>some xs | _=>none).map List.length:=rfl
theorem JT:xo J .non=some "NoneType":=rfl
theorem HX:xo J (.bl b)=some "bool":=rfl
theorem JS:xo J (.int i)=some "int":=rfl
theorem JU:xo J (.str z)=some "str":=rfl
theorem JV:xo J (.tup xs)=some "tuple":=rfl
theorem JR:xo J (.fl xs)=some "list":=rfl
theorem H0:xo J (.ref a)=(match J a with | some (.lst _)=>some "list" | some (.dct _ _)=>some "dict" | _=>none):=rfl
theorem HS:rb J .non=some false:=rfl
theorem D1:rb J (.bl b)=some b:=rfl
theorem HR:rb J (.int i)=some (i != 0):=rfl
theorem HV:rb J (.tup xs)=some (!xs.isEmpty):=rfl
theorem HP:rb J (.fl xs)=some (!xs.isEmpty):=rfl
theorem HU:rb J (.ref a)=(match J a with | some (.lst xs)=>some (!xs.isEmpty) | some (.dct kvs _)=>some (!kvs.isEmpty) | _=>none):=rfl
theorem I8:Ii J (.fl xs)=some ⟨xs,fun _=>True⟩:=rfl
theorem I9:Ii J (.ref a)=(match J a with | some (.lst xs)=>some ⟨xs,fun J'=>J' a=some (.lst xs)⟩ | _=>none):=rfl
theorem Gs:zr .non=true:=rfl
theorem IU:zr (.bl b)=false:=rfl
theorem IW:zr (.int i)=false:=rfl
theorem IY:zr (.str z)=false:=rfl
theorem IZ:zr (.tup xs)=false:=rfl
theorem IV:zr (.fl xs)=false:=rfl
theorem IX:zr (.ref a)=false:=rfl
theorem JN:FX T J (.fl xs)=(T="list"):=rfl
theorem JP:FX T J (.str z)=(T="str"):=rfl
theorem JO:FX T J (.ref a)=((T="list"∧∃ xs,J a=some (.lst xs))∨(T="dict"∧∃ kvs ep,J a=some (.dct kvs ep))):=rfl
end
def Fo (it:ub) (g:ue) (tb:gP) (D:En) (τ:Sr) (J1:Hq):Prop:=∃ Pv:Nat→Sr→Hq→Prop,Pv 0 τ J1∧(∀ i τ J,Pv i τ J→it.ok J) ∧
 (∀ i x τ J,it.xs[i]?=some x→Pv i τ J→g x τ J fun τ2 J2=>tb { D with nx:=Pv (i + 1),ct:=Pv (i + 1),bk:=D.nx } τ2 J2)∧∀ τ J,Pv it.xs.length τ J→D.nx τ J
theorem Cw (wi:nQ) (g:ue) (tb:gP) (D:En) (τ:Sr) (J:Hq):Hi wi g tb D τ J=wi τ J fun it J1=>Fo it g tb D τ J1:=rfl
theorem pK {lo:Int} {n:Nat} {g:ue} {tb:gP} {D:En} {τ:Sr} {J1:Hq} (Pv:Nat→Sr→Hq→Prop) (h0:Pv 0 τ J1)
  (hs:∀ (i:Nat) τ J,i < n→Pv i τ J→g (.int (lo + (i:Int))) τ J fun τ2 J2=>tb { D with nx:=Pv (i + 1),ct:=Pv (i + 1),bk:=D.nx } τ2 J2) (hd:∀ τ J,Pv n τ J→D.nx τ J):Fo ⟨mE lo n,fun _=>True⟩ g tb D τ J1 :=
 ⟨Pv,h0,fun _ _ _ _=>trivial,fun i x τ J e p=>by obtain ⟨a,b⟩:=(mF lo n i x).mp e;subst b;exact hs i τ J a p,fun τ J p=>hd τ J (by simpa [f7] using p)⟩
structure bC (mg:Str→Option Value):Prop extends yF mg where
 str:mg "str"=none
 dict:mg "dict"=none
 max:mg "max"=none
 zip:mg "zip"=none
 enumerate:mg "enumerate"=none
def me (J' J:Hq):Prop:=∀ a,J' a=J a∨J' a=none
def Fg (Q:PV→Hq→Prop) (v:PV) (J:Hq):Prop:=∃ x J',me J' J∧(x=v∨∃ a xs,v=.ref a∧x=.fl xs∧J a=some (.lst xs)∧J' a=none)∧Q x J'
theorem Fg.same {Q:PV→Hq→Prop} {v:PV} {J:Hq} (h:Q v J):Fg Q v J:=⟨v,J,fun _=>.inl rfl,.inl rfl,h⟩
theorem Fg.less {Q:PV→Hq→Prop} {v:PV} {J J':Hq} (l:me J' J) (h:Q v J'):Fg Q v J:=⟨v,J',l,.inl rfl,h⟩
theorem Fg.my {Q:PV→Hq→Prop} {a:Addr} {xs:List PV} {J J':Hq} (l:me J' J) (ha:J a=some (.lst xs)) (hn:J' a=none) (h:Q (.fl xs) J'):Fg Q (.ref a) J:=⟨.fl xs,J',l,.inr ⟨a,xs,rfl,rfl,ha,hn⟩,h⟩
section
variable {P:Program} {w:World} {K:PySem.W.Frag} {mg:Str→Option Value} {base:Heap}
theorem Fg.kn {J:Hq} {H:Hp} {Q2:PV→Hq→Prop} {Q:VK} (k:Kn K J H Q2 Q):Kn K J H (Fg Q2) Q:=fun z J1 u H1 rz r1 e1 ⟨x,J',l,hx,q⟩=>by
 have el:=Ext.less (K:=K) (H:=H1) l
 rcases hx with rfl | ⟨a,xs,rfl,rfl,ha,hn⟩
 ·exact k x J' u H1 (el.rep rz) (r1.less l) (e1.trans el) q
 ·cases rz
  obtain ⟨vs,h1,h2⟩:=r1 _ _ ha
  exact k (.fl xs) J' _ H1 ⟨a,vs,rfl,.inl ⟨hn,.inl h1⟩,el.gC h2⟩ (r1.less l) (e1.trans el) q
theorem FT {x qual:Str} {st:Stmt} {f:Addr} {fd:FuncData} {N ps:List Str} {k:Nat} {sp:b9} (F:bQ K x qual st f fd) (S:aw N ps (L2.aj st)) (len:∀ xs J Q E,sp xs J Q E→xs.length=ps.length)
  (hbody:∀ (cdv:Value) (A:Around) (outer:List Env) (s:Shared) (H:Hp) (E:XK) (G:G2) (xs:List PV) (J:Hq) (Q:PV→Hq→Prop) (E2:Addr→Hq→Prop),bE k (A.deeper (envOfC qual (L2.aj st) s.heap.objs.size f cdv))→sp xs J Q E2 →
   Bi (yH P w K mg base N qual (L2.aj st) f cdv A outer s H E) G E2 E →
   ∃ t,RB (yH P w K mg base N qual (L2.aj st) f cdv A outer s H E) G (L2.bJ st) t∧t { nx:=fun _ J'=>Fg Q .non J',rt:=Fg Q } (vt N xs) J):aH P w K mg base (cF P w) (k + 1) f fd ps (c8 K sp):=by
 have:=Kr (sp:=fun xs J Q E=>∃ Q0,Q=Fg Q0∧sp xs J Q0 E) F S (fun xs J Q E ⟨Q0,_,h⟩=>len xs J Q0 E h) (fun cdv A outer s H E G xs J Q E2 hr ⟨Q0,eq,h⟩ B=>by subst eq;exact hbody cdv A outer s H E G xs J Q0 E2 hr h B)
 exact this.imp fun vs H Q E ⟨xs,J,Q2,E2,a,b,c,d,e⟩=>⟨xs,J,Fg Q2,E2,a,b,⟨Q2,rfl,c⟩,Fg.kn d,e⟩
end
theorem Gh {X:Cx} {G:G2}:Bi X G (fun _ _=>False) L2.E0:=⟨fun _ _ _ _ _ _ _ ⟨_,_,_,_,_,z⟩=>z.elim,fun _ _ _ _ _ z=>z.elim⟩
theorem kR {K:PySem.W.Frag} {J:Hq} {H:Hp}:∀ ns:List Int,aJ K J H (ns.map PV.int) (ns.map V.int)
 | []=>rfl
 | n :: ns=>⟨_,_,rfl,rfl,kR ns⟩
end Ov
namespace Ov
open PySem PySem.Spec PyProof.Rows L2
theorem F6 {α:Type} (a b c d e:α) (xs:List α):c5 (a :: b :: c :: d :: e :: xs) 4=some e:=bc (j:=4) rfl
theorem F7 {α:Type} (a b c d e f:α) (xs:List α):c5 (a :: b :: c :: d :: e :: f :: xs) 5=some f:=bc (j:=5) rfl
theorem F8 {α:Type} (a b c d e f g:α) (xs:List α):c5 (a :: b :: c :: d :: e :: f :: g :: xs) 6=some g:=bc (j:=6) rfl
theorem F9 {α:Type} (a b c d e f g h:α) (xs:List α):c5 (a :: b :: c :: d :: e :: f :: g :: h :: xs) 7=some h:=bc (j:=7) rfl
theorem F_ {α:Type} (a b c d e f g h i:α) (xs:List α):c5 (a :: b :: c :: d :: e :: f :: g :: h :: i :: xs) 8=some i:=bc (j:=8) rfl
theorem F' {α:Type} (a b c d e f g h i j:α) (xs:List α):c5 (a :: b :: c :: d :: e :: f :: g :: h :: i :: j :: xs) 9=some j:=bc (j:=9) rfl
theorem D_ {α:Type} (a b c d e f g h i j k:α) (xs:List α):c5 (a :: b :: c :: d :: e :: f :: g :: h :: i :: j :: k :: xs) 10=some k:=bc (j:=10) rfl
theorem D' {α:Type} (a b c d e f g h i j k l:α) (xs:List α):c5 (a :: b :: c :: d :: e :: f :: g :: h :: i :: j :: k :: l :: xs) 11=some l:=bc (j:=11) rfl
theorem GJ:(5≤sizeLine)=True:=eq_true (dm (by decide))
theorem GK:(6≤sizeLine)=True:=eq_true (dm (by decide))
theorem GL:(7≤sizeLine)=True:=eq_true (dm (by decide))
theorem GN:(8≤sizeLine)=True:=eq_true (dm (by decide))
theorem GO:(9≤sizeLine)=True:=eq_true (dm (by decide))
theorem ED:(10≤sizeLine)=True:=eq_true (dm (by decide))
theorem EE:(11≤sizeLine)=True:=eq_true (dm (by decide))
theorem EF:(12≤sizeLine)=True:=eq_true (dm (by decide))
theorem ka {ss:List Int} (h:ss.all (fun s=>decide (0 < s) && decide (s < 2 ^ 63))=true):∀ s∈ss,0 < s∧Bd 9000 s:=fun s hs=>by
 have:=List.all_eq_true.mp h s hs
 rw [Bool.and_eq_true,decide_eq_true_eq,decide_eq_true_eq] at this
 exact ⟨this.1,(Bd.small (by omega) (by omega)).mono (by decide)⟩
theorem Sz.div {n:Nat} {t b:Int} (ht:Bd n t) (hb:Bd n b) (h:b≠0):Sz n (Rat.divInt t b):=⟨ht.le (wo t b),hb.le (pI h)⟩
end Ov
namespace Ov
open PySem PySem.Spec PyProof.Rows
open L2 (V HO Hp Inv Cx VK XK TE TT TA TS TG mi TI TO i5 Ends rq Loc Gl Rd RelV Vals eu t8 bP md oJ mf i4 R2 upd aB aK cD fQ Sp nM It ba cU bE Passes lI az Meth Mk Binds aH bQ aw c5 ft dY)
section
variable {X:Cx} {G:G2}
abbrev xw:=PV→PV→PV→Hq→(Hq→Prop)→Prop
def ID (X:Cx) (q:xw):Prop:=∃ r,i4 X r∧∀ J H o i y ov iv u R2 R,bR X.K J H o ov→bR X.K J H i iv→bR X.K J H y u→Rep X.K J H→q o i y J R2→(∀ J' H',Rep X.K J' H'→Ext X.K J H J' H'→R2 J'→R H')→r ov iv u H R
def IP (to ti:cQ) (t:xw):ue:=fun y τ J R=>to τ J fun o J1=>ti τ J1 fun i J2=>t o i y J2 fun J3=>R τ J3
theorem Fj {o i:Expr} {to ti:cQ} {t:xw} {pos:Pos} (hs:ID X t) (ho:RE X G o to) (hi:RE X G i ti)
  (ha:∀ v,assign (.Subscript o i pos) X.env v=(do
   let ov ← holding [v] (eval o X.env)
   let iv ← holding [v,ov] (eval i X.env)
   standAt pos
   holding [v,ov,iv] (setItem ov iv v)
   release [v,ov,iv] []):=by intro _;rfl):RG X G (.Subscript o i pos) (IP to ti t):=by
 obtain ⟨r,hr,lf⟩:=hs
 exact ⟨Ju (L2.qi ho.run hi.run hr ha) fun v σ H Q ⟨y,τ,J,Q2,ry,a2,h,k⟩ =>
  ⟨τ,J,_,a2,h,fun x J1 ov H1 rx r1 e1 h1=>⟨τ,J1,_,a2.go r1 e1,h1,fun z J2 iv H2 rz r2 e2 h2 =>
   lf J2 H2 x z y ov iv v _ _ (e2.rep rx) rz (e2.rep (e1.rep ry)) r2 h2 fun J3 H3 r3 e3 q=>k τ J3 σ H3 ((((a2.sl.ext e1).ext e2).ext e3)) r3 ((e1.trans e2).trans e3) q⟩⟩⟩
def Hb:xw:=fun o i y J R=>∃ p xs k j,o=.ref p∧i=.int k∧J p=some (.lst xs)∧L2.yI xs.length k=some j∧R (put J p (.lst (xs.set j y)))
theorem m5 {o i e:Expr} {to ti te:cQ} {t:xw} {pos pos':Pos} (hs:ID X t) (ho:RE X G o to) (hi:RE X G i ti) (he:RE X G e te)
  (ha:∀ v,assign (.Subscript o i pos') X.env v=(do
   let ov ← holding [v] (eval o X.env)
   let iv ← holding [v,ov] (eval i X.env)
   standAt pos'
   holding [v,ov,iv] (setItem ov iv v)
   release [v,ov,iv] []):=by intro _;rfl)
  (hq:swapsWithSole [.Subscript o i pos'] e pos.line X.env=pure false:=by rfl) (hw:swappedStores [.Subscript o i pos'] e X.env=pure none:=by rfl)
  (h1:(assignEach [.Subscript o i pos'] X.env).map (·.2)=[assign (.Subscript o i pos') X.env]:=by rfl):RS X G (.Assign [.Subscript o i pos'] e pos) (ot te (IP to ti t)):=qC he (Fj hs ho hi ha) hq hw h1
def JW (X:Cx) (op:Operator) (q:jH):Prop:=∃ r,L2.IB X op r∧LR X.K r q
def He (i:Nat) (te:cQ) (q:jH):gP:=fun D τ J=>∃ x,τ[i]?=some (some x)∧te τ J fun y J1=>q x y J1 fun z J2=>D.nx (τ.set i (some z)) J2
theorem AG {i:Nat} {x:Str} {e:Expr} {te:cQ} {op:Operator} {q:jH} {pos pos':Pos} (hN:X.N.Nodup) (hi:X.N[i]?=some x) (hx:Loc X.env.scope x) (he:RE X G e te) (ho:JW X op q) (hf:X.fn x=true∨X.env.scope.names.lookup x=some .local:=by first | exact .inl rfl | exact .inr rfl | assumption) :
  RS X G (.AugAssign (.Name x pos') op e pos) (He i te q):=by
 obtain ⟨r,hr,lf⟩:=ho
 exact ⟨uZ (L2.E5 hN hi hx he.run hr hf) fun D σ H ⟨τ,J,D2,a2,⟨x,hx,h⟩,g⟩=>by
  obtain ⟨v,h1,h2⟩:=a2.sl.get _ _ hx
  exact ⟨v,h1,τ,J,_,a2,h,fun y J1 u H1 ry r1 e1 q1=>lf J1 H1 x y v u _ _ (e1.rep h2) ry r1 q1 fun z J2 u2 H2 rz r2 e2 q2=>g.nx _ J2 _ H2 (((a2.sl.ext e1).ext e2).set i rz) r2 (e1.trans e2) q2⟩⟩
theorem zp:JW X .Sub (Au fun i j=>.int (i - j)):=⟨_,L2.Es,fun J H x y v w Q2 Q rx ry r ⟨i,j,ex,ey,q⟩ k=>by
 subst ex ey;cases rx;cases ry;exact ⟨i,j,rfl,rfl,k (.int _) J _ H rfl r .refl q⟩⟩
end
theorem fe {xs:List PV} {ok:Hq→Prop} {g:ue} {tb:gP} {D:En} {τ:Sr} {J1:Hq} (Pv:Nat→Sr→Hq→Prop) (h0:Pv 0 τ J1) (hk:∀ i τ J,Pv i τ J→ok J)
  (hs:∀ (i:Nat) x τ J,xs[i]?=some x→Pv i τ J→g x τ J fun τ2 J2=>tb { D with nx:=Pv (i + 1),ct:=Pv (i + 1),bk:=D.nx } τ2 J2) (hd:∀ τ J,Pv xs.length τ J→D.nx τ J):Fo ⟨xs,ok⟩ g tb D τ J1:=⟨Pv,h0,hk,hs,hd⟩
theorem vH {α:Type} (xs:List α) (x:α):c5 (xs ++ [x]) (-1)=some x:=by
 unfold L2.c5 L2.yI
 rw [if_neg (by decide),if_pos (by simp;omega)]
 have e:(-1 + ((xs ++ [x]).length:Int)).toNat=xs.length:=by simp only [List.length_append,List.length_cons,List.length_nil];omega
 rw [e]
 simp
theorem hZ {K:PySem.W.Frag} {h:Heap} {mg:Str→Option Value} {x:Str} {C:Addr} (X:K.In h) (G:h.Ns mainGlobals mg) (a:PySem.W.nsIn K mainGlobals x=some (some (.ref C))) (b:(PySem.W.excIn K C IH "ValueError.__new__" && Bh K C)=true):Own K mg x C :=
 ⟨PySem.W.mg_of X G a,(Bool.and_eq_true_iff.mp b).1,C_ (Bool.and_eq_true_iff.mp b).2⟩
theorem jS {J:Hq} {x:PV} {ys:List PV} (h:jF J x=some ys):x=.fl ys∨∃ a,x=.ref a∧J a=some (.lst ys):=by
 cases x with
 | fl xs=>cases h;exact .inl rfl
 | ref a =>
  right
  refine ⟨a,rfl,?_⟩
  unfold jF at h
  simp only at h
  split at h
  ·rename_i e;cases h;exact e
  ·cases h
 | _=>cases h
theorem GU {J:Hq} {x:PV} {ys:List PV} (h:jF J x=some ys):xo J x=some "list":=by
 rcases jS h with rfl | ⟨a,rfl,ha⟩
 ·rfl
 ·rw [H0,ha]
theorem zM {J:Hq} {x:PV} {ys:List PV} (h:jF J x=some ys):r_ J x=some ys.length:=by
 rcases jS h with rfl | ⟨a,rfl,ha⟩
 ·rfl
 ·rw [Dq,ha];rfl
theorem Du {J:Hq} {x:PV} {ys:List PV} (h:jF J x=some ys) (i:Int):eD J x (.int i)=c5 ys i:=by
 rcases jS h with rfl | ⟨a,rfl,ha⟩
 ·rfl
 ·rw [Gy,ha]
def Ej (j:Nat):List PV:=.bl true :: (List.range 10).map fun k=>.bl (decide (j=k))
def JH (c:Nat→Addr) (N n:Nat) (t:(Addr→Hq→Prop)→gP):gP:=fun D τ J =>
 t (fun a J'=>∃ j,j < 10∧a=c j∧D.nx ((List.replicate N none).set n (some (.fl (Ej j)))) J') D τ J
section
variable {X:Cx} {G:G2}
end
theorem Fs {a b:gP} {D:En} {τ:Sr} {J:Hq} (h:a { D with nx:=fun τ' J'=>b D τ' J' } τ J):b7 a b D τ J:=h
def FW (J:Hq):PV→Option (List PV)
 | .tup xs=>some xs
 | .fl xs=>some xs
 | .ref a=>match J a with
  | some (.lst xs)=>some xs
  | _=>none
 | _=>none
theorem AY {K:PySem.W.Frag} {J:Hq} {H:Hp} {y:PV} {u:V} {xs:List PV} (h:FW J y=some xs) (r:bR K J H y u) (rr:Rep K J H):∃ p vs,u=.ref p∧(cD K H p vs∨fQ K H p vs)∧aJ K J H xs vs:=by
 cases y with
 | tup ys=>cases h;obtain ⟨a,vs,rfl,h1,h2⟩:=r;exact ⟨a,vs,rfl,.inr h1,h2⟩
 | fl ys=>cases h;obtain ⟨a,vs,rfl,h1,h2⟩:=r;exact ⟨a,vs,rfl,.inl h1.sq,h2⟩
 | ref a =>
  cases r
  unfold FW at h
  simp only at h
  split at h
  ·rename_i e;cases h
   obtain ⟨vs,h1,h2⟩:=rr _ _ e
   exact ⟨a,vs,rfl,.inl (cD.of h1),h2⟩
  ·cases h
 | _=>cases h
theorem gE {K:PySem.W.Frag} {J:Hq} {H:Hp}:∀ {ns:List Str} {vs:List V},aJ K J H (ns.map PV.str) vs→vs=ns.map V.str
 | [],_,h=>h
 | n :: ns,_,⟨v,us,e,h,k⟩=>by subst e;cases h;rw [gE k];rfl
theorem j0 {K:PySem.W.Frag} {J:Hq} {H:Hp}:∀ {ns:List Int} {vs:List V},aJ K J H (ns.map PV.int) vs→vs=ns.map V.int
 | [],_,h=>h
 | n :: ns,_,⟨v,us,e,h,k⟩=>by subst e;cases h;rw [j0 k];rfl
theorem vI {α:Type} [BEq α] [LawfulBEq α] [DecidableEq α] (x y:α):(x == y)=decide (x=y):=by by_cases h:x=y <;> simp [h]
theorem BH (s:Str) (ss:List Str):L2.FO (.str s) (ss.map V.str)=decide (s∈ss):=by
 unfold L2.FO
 induction ss with
 | nil=>rfl
 | cons x ss ih =>
  rw [List.map_cons,List.any_cons,ih,show L2.Bk (.str x) (.str s)=(x == s) from rfl,vI]
  by_cases h:x=s
  ·subst h;simp
  ·simp [h,show ¬ s=x from fun e=>h e.symm]
theorem BG (s:Int) (ss:List Int):L2.FO (.int s) (ss.map V.int)=decide (s∈ss):=by
 unfold L2.FO
 induction ss with
 | nil=>rfl
 | cons x ss ih =>
  rw [List.map_cons,List.any_cons,ih,show L2.Bk (.int x) (.int s)=(x == s) from rfl,vI]
  by_cases h:x=s
  ·subst h;simp
  ·simp [h,show ¬ s=x from fun e=>h e.symm]
section
variable {X:Cx} {G:G2}
def G8 (f:Bool→Bool):jH:=fun x y J Q=>∃ (s:Str) (ss:List Str),x=.str s∧FW J y=some (ss.map .str)∧Q (.bl (f (decide (s∈ss)))) J
def Jw (f:Bool→Bool):jH:=fun x y J Q=>∃ (s:Int) (ss:List Int),x=.int s∧FW J y=some (ss.map .int)∧Q (.bl (f (decide (s∈ss)))) J
theorem xF (ss:List Str):(ss.map V.str).all L2.gQ=true:=by simp [L2.gQ]
theorem xE (ss:List Int):(ss.map V.int).all L2.gQ=true:=by simp [L2.gQ]
theorem wu:jG X (compareOp .NotIn) (G8 not):=⟨_,L2.qd,fun J H x y v w Q2 Q rx ry r ⟨s,ss,ex,hy,q⟩ k=>by
 subst ex;cases rx
 obtain ⟨p,vs,rfl,hq,h2⟩:=AY hy ry r
 cases gE h2
 exact ⟨p,_,rfl,hq,rfl,xF ss,k (.bl _) J _ H (by rw [if_pos rfl,BH];rfl) r .refl q⟩⟩
theorem EY:jG X (compareOp .In) (Jw id):=⟨_,L2.yd,fun J H x y v w Q2 Q rx ry r ⟨s,ss,ex,hy,q⟩ k=>by
 subst ex;cases rx
 obtain ⟨p,vs,rfl,hq,h2⟩:=AY hy ry r
 cases j0 h2
 exact ⟨p,_,rfl,hq,rfl,xE ss,k (.bl _) J _ H (by rw [if_neg (by decide),BG];rfl) r .refl q⟩⟩
end
end Ov
namespace L2
open PySem PySem.Spec PyProof.Rows
section
variable {X:Cx} {tg:Expr}
end
end L2
namespace Ov
open PySem PySem.Spec PyProof.Rows
open L2 (V HO Hp Inv Cx VK XK TE TT TA TS TG mi TI TO i5 Ends rq Loc Gl Rd RelV Vals eu t8 bP md oJ mf i4 R2 upd aB aK cD fQ Sp nM It ba cU bE Passes lI az Meth Mk Binds aH bQ aw c5 ft dY)
section
variable {X:Cx} {G:G2} {tg:Expr}
theorem kH {K:PySem.W.Frag} {J:Hq} {H:Hp} {y:PV} {u:V} {xs:List PV} (h:jF J y=some xs) (r:bR K J H y u) (rr:Rep K J H):∃ p vs,u=.ref p∧cD K H p vs∧aJ K J H xs vs:=by
 rcases jS h with rfl | ⟨a,rfl,ha⟩
 ·obtain ⟨a,vs,rfl,h1,h2⟩:=r;exact ⟨a,vs,rfl,h1.sq,h2⟩
 ·cases r
  obtain ⟨vs,h1,h2⟩:=rr _ _ ha
  exact ⟨a,vs,rfl,cD.of h1,h2⟩
end
end Ov
namespace L2
open PySem PySem.Spec PyProof.Rows
section
variable {X:Cx} {pins:List (Addr × Obj)} {σ:St} {H:Hp} {s:Shared} {h':Heap}
theorem Inv.l9 {t':Nat} {ch:List Addr} (I:Inv X pins σ H s) (k:∀ b o,b ∉ ch→s.heap.get? b=some o→h'.get? b=some o) (hf:∀ b∈ch,gi X pins H b):Inv X pins σ H { s with heap:=h',toks:=t' }:=by
 have nit:∀ b u,H b=some u→b ∉ ch:=fun b u e z=>by rw [(hf b z).1] at e;cases e
 refine I.step (g':=s.gens) (d':=s.drawn) (ch:=ch) (fun b hb=>?_) (fun b o _ _ hc e _=>k b o hc e) (fun b o _ _ hc e _=>⟨o.slots,k b o hc e⟩) (fun _ _ _ _ n=>n)
  (fun b o hc e=>⟨o,k b o hc e⟩) (fun _ _ e=>e) (fun _ _ _ e=>e) (fun b ps e=>⟨#[],by rw [e];simp⟩) (fun m hm=>?_) (fun b u e=>?_) I.bare
 ·obtain ⟨f0,f1,f2,f3,f4,f5⟩:=hf b hb
  exact ⟨f3,f1,f4,f5⟩
 ·obtain ⟨o,es,ep,ho,r⟩:=hm
  exact ⟨o,es,ep,k _ o (fun z=>(hf _ z).2.1 rfl) ho,r⟩
 ·refine (I.hok b u e).nC (fun c v hc q=>k c v ?_ q) (fun _ q=>q) fun _ _ q=>q
  rcases hc with z | z
  ·rw [z];exact nit b u e
  ·exact nit c _ z
end
def JZ (K:PySem.W.Frag) (a b:Addr):It :=
 ⟨fun i H=>∃ xs ys x y,cD K H a xs∧cD K H b ys∧xs[i]?=some x∧ys[i]?=some y,
  fun i H z H'=>∃ T x y,H T=none∧z=.ref T∧H'=upd H T (.tup [x,y])∧(∀ xs,cD K H a xs→xs[i]?=some x)∧∀ ys,cD K H b ys→ys[i]?=some y,
  fun i H=>∃ xs ys,cD K H a xs∧cD K H b ys∧(xs.length≤i∨ys.length≤i)⟩
theorem Bc {P:Program} {w:World} {K:PySem.W.Frag} {elts:List Expr} {x1} {pos:Pos} {z TI TO i1 i2 l1 l2:Addr} (D:ZipApart z TI TO i1 i2 l1 l2) :
  Turn P w K (.Tuple elts x1 pos) (JZ K l1 l2) [z,TI,TO,i1,i2] z (fun i h=>IsZip h z TI TO .none∧IsPair h TI (.ref i1) (.ref i2)∧(∃ a b,IsPair h TO a b)∧h.IsListIter i1 l1 i∧h.IsListIter i2 l2 i) where
 mem:=by simp
 obj:=fun i h ⟨hz,hTI,⟨a,b,hTO⟩,h1,h2⟩ c hc=>by
  simp only [List.mem_cons,List.not_mem_nil,or_false] at hc
  rcases hc with rfl | rfl | rfl | rfl | rfl
  ·exact ⟨_,hz,fun v z=>by cases z⟩
  ·exact ⟨_,hTI,fun v z=>by cases z⟩
  ·exact ⟨_,hTO,fun v z=>by cases z⟩
  ·obtain ⟨o,e,c,d⟩:=h1;exact ⟨o,e,fun v z=>by rw [d] at z;cases z⟩
  ·obtain ⟨o,e,c,d⟩:=h2;exact ⟨o,e,fun v z=>by rw [d] at z;cases z⟩
 keep:=fun i h h' ⟨hz,hTI,⟨a,b,hTO⟩,h1,h2⟩ k=>⟨k z (by simp) _ hz,k TI (by simp) _ hTI,⟨a,b,k TO (by simp) _ hTO⟩,h1.at fun o e=>k i1 (by simp) o e,h2.at fun o e=>k i2 (by simp) o e⟩
 item:=by
  intro X hP hw hK hc i pins s σ H E I hf st hg
  subst hP hw hK
  obtain ⟨hz,hTI,⟨a,b,hTO⟩,h1,h2⟩:=st
  obtain ⟨xs,ys,x,y,hqx,hqy,hx,hy⟩:=hg
  obtain ⟨its,rv,p,hzx⟩:=I.list hqx
  obtain ⟨jts,ru,p',hzy⟩:=I.list hqy
  obtain ⟨u,hu,rx⟩:=rv.get hx
  obtain ⟨v,hv,ry⟩:=ru.get hy
  refine wpAny_pyNext_zip_item D hz hTI hTO h1 h2 p.isList p'.isList (x:=u) (y:=v) (by simpa using hu) (by simpa using hv) fun h' a1 a2 a3 a4 a5 a6 hk=>?_
  refine ⟨_,rfl,wpAny_letOwnedTupleGo_zip a1 fun h'' hz' hs'=>?_⟩
  have hT:H s.heap.objs.size=none:=I.hok.fresh (Nat.le_refl _)
  have lt:∀ {c o},s.heap.get? c=some o→c≠s.heap.objs.size:=fun e=>Nat.ne_of_lt (Heap.lt_size e)
  have nz:s.heap.objs.size≠z:=Ne.symm (lt hz)
  have I0:Inv X pins σ (upd H s.heap.objs.size (.tup [x,y])) { s with heap:=s.heap.push { cls:=.type "tuple",data:=.seq #[u,v] },toks:=s.toks }:=I.laid (t':=s.toks) (fun b u e=>Heap.get?_push_of_some _ e) (Nat.le_refl _) ⟨by simp [sizeLine],[u,v],.cons rx (.cons ry .nil),⟨_,Heap.get?_push_size _ rfl,rfl,_,rfl⟩⟩
  have fpn:∀ b∈[z,TI,TO,i1,i2],b≠s.heap.objs.size:=fun b hb=>by
   simp only [List.mem_cons,List.not_mem_nil,or_false] at hb
   rcases hb with rfl | rfl | rfl | rfl | rfl
   ·exact lt hz
   ·exact lt hTI
   ·exact lt hTO
   ·obtain ⟨o,e,_⟩:=h1;exact lt e
   ·obtain ⟨o,e,_⟩:=h2;exact lt e
  have fpu:∀ b∈[z,TI,TO,i1,i2],gi X pins (upd H s.heap.objs.size (.tup [x,y])) b:=fun b hb=>⟨by rw [aK (fpn b hb)];exact (hf b hb).1,(hf b hb).2⟩
  have I1:Inv X pins σ (upd H s.heap.objs.size (.tup [x,y])) { s with heap:=h'' }:=Inv.l9 (s:={ s with heap:=s.heap.push { cls:=.type "tuple",data:=.seq #[u,v] },toks:=s.toks }) (t':=s.toks) (ch:=[z,TI,TO,i1,i2]) I0 (fun b o hb e=>by
   simp only [List.mem_cons,List.not_mem_nil,or_false,not_or] at hb
   rcases Heap.get?_push_cases e with ⟨rfl,rfl⟩ | e'
   ·exact hs'.extBut _ _ hb.1 a5
   ·exact hs'.extBut _ _ hb.1 (hk b o hb.1 hb.2.2.1 hb.2.2.2.1 hb.2.2.2.2 e')) fpu
  refine ⟨.ref s.heap.objs.size,_,I1,rfl,⟨_,x,y,hT,rfl,rfl,fun zs hq=>by rw [I.g_ hq hqx];exact hx,fun zs hq=>by rw [I.g_ hq hqy];exact hy⟩,⟨hz',hs'.extBut _ _ D.TIz (hk _ _ D.TIz D.TITO D.TIi1 D.TIi2 hTI),⟨_,_,hs'.extBut _ _ D.TOz a2⟩,a3.extBut hs'.extBut D.i1z,a4.extBut hs'.extBut D.i2z⟩,fun b hb=>(fpu b hb).1⟩
 done:=by
  intro X hP hw hK hc i pins s σ H E I hf st hg
  subst hP hw hK
  obtain ⟨hz,hTI,⟨a,b,hTO⟩,h1,h2⟩:=st
  obtain ⟨xs,ys,hqx,hqy,hl⟩:=hg
  obtain ⟨its,rv,p,hzx⟩:=I.list hqx
  obtain ⟨jts,ru,p',hzy⟩:=I.list hqy
  have e1:=rv.length
  have e2:=ru.length
  refine wpAny_pyNext_zip_end (I.ok.hd hc) D hz hTI hTO h1 h2 p.isList p'.isList ?_ fun h' hk=>⟨rfl,I.l9 (t':=s.toks) (ch:=[z,TI,TO,i1,i2]) (fun b o hb e=>?_) hf⟩
  ·rcases hl with hl | hl
   ·exact .inl (by simp;omega)
   ·exact .inr (by simp;omega)
  ·simp only [List.mem_cons,List.not_mem_nil,or_false,not_or] at hb
   exact hk b o hb.1 hb.2.2.1 hb.2.2.2.1 hb.2.2.2.2 e
 self:=fun _ _ _ _ _ st h=>wpAny_pyIter_zip st.1 h
def IS (K:PySem.W.Frag) (ta:TA):TI:=fun σ H R=>ta σ H fun vs H1=>∃ a b xs ys,vs=[.ref a,.ref b]∧cD K H1 a xs∧cD K H1 b ys∧R (JZ K a b) H1
section
variable {X:Cx}
theorem E4 {l m:Expr} {elts:List Expr} {x1} {tp:Pos} {ta:TA} {p pos:Pos} (hg:Gl X "zip") (hm:X.mg "zip"=none) (ha:PA X [l,m] ta) (hs:starEach [l,m] X.env=(false,eval l X.env) :: starEach [m] X.env:=by rfl) (hp:(backTo pos (starEach [m] X.env)).any (·.1)=false:=by rfl):PI X (.Tuple elts x1 tp) (.Call (.Name "zip" p) [l,m] [] pos) (IS X.K ta):=by
 intro pins s σ H R I h
 refine Call_ (jq I hg hm PyProof.Rows.Boot.«zip» (PyProof.Rows.callWith_type1 (bK (ha pos pins s σ H _ I h) fun us s1 ⟨vs,H1,I1,r1,q1⟩=>?_) hs hp))
 obtain ⟨a,b,xs,ys,e,hqa,hqb,q⟩:=q1
 subst e
 cases r1 with
 | cons r rr =>
  cases rr with
  | cons r' rr' =>
   cases rr'
   cases r
   cases r'
   obtain ⟨its,rv,pl,hz⟩:=I1.list hqa
   obtain ⟨jts,ru,pl',hz'⟩:=I1.list hqb
   refine call_zip_2 pl.isList pl'.isList fun h' b1 b2 b3 b4 b5 b6 hk=>?_
   refine wpAny_pyIter_zip b1 ?_
   have la:a < s1.heap.objs.size:=by obtain ⟨o,e,_⟩:=pl.isList;exact Heap.lt_size e
   have lb:b < s1.heap.objs.size:=by obtain ⟨o,e,_⟩:=pl'.isList;exact Heap.lt_size e
   have D:ZipApart (s1.heap.objs.size + 4) (s1.heap.objs.size + 2) (s1.heap.objs.size + 3) s1.heap.objs.size (s1.heap.objs.size + 1) a b:=by
    have la':@LT.lt Nat _ a s1.heap.objs.size:=la
    have lb':@LT.lt Nat _ b s1.heap.objs.size:=lb
    constructor <;> (show @Ne Nat _ _;omega)
   refine ⟨_,_,_,_,H1,rfl,I1.kept (t':=s1.toks) hk,Bc D,⟨b1,b2,⟨_,_,b3⟩,b4,b5⟩,fun c hc=>?_,q⟩
   have hc':s1.heap.objs.size≤c:=by
    simp only [List.mem_cons,List.not_mem_nil,or_false] at hc
    show @LE.le Nat _ _ _
    rcases hc with rfl | rfl | rfl | rfl | rfl
    ·exact Nat.le_add_right _ _
    ·exact Nat.le_add_right _ _
    ·exact Nat.le_add_right _ _
    ·exact Nat.le_refl _
    ·exact Nat.le_add_right _ _
   exact I1.zd hc' (I1.hok.fresh hc')
end
end L2
namespace Ov
open PySem PySem.Spec PyProof.Rows
open L2 (V HO Hp Inv Cx VK XK TE TT TA TS TG mi TI TO i5 Ends rq Loc Gl Rd RelV Vals eu t8 bP md oJ mf i4 R2 upd aB aK cD fQ Sp nM It ba cU bE Passes lI az Meth Mk Binds aH bQ aw c5 ft dY)
section
variable {X:Cx} {G:G2}
def Kk (ta:k8):nQ:=fun τ J R=>ta τ J fun vs J1=>∃ x y xs ys,vs=[x,y]∧jF J1 x=some xs∧jF J1 y=some ys∧R ⟨(xs.zip ys).map fun p=>.tup [p.1,p.2],fun J'=>jF J' x=some xs∧jF J' y=some ys⟩ J1
theorem Fl {l m:Expr} {elts:List Expr} {x1} {tp:Pos} {ta:k8} {p pos:Pos} (hg:Gl X "zip") (hm:X.mg "zip"=none) (ha:RA X G [l,m] ta) (hs:starEach [l,m] X.env=(false,eval l X.env) :: starEach [m] X.env:=by rfl) (hp:(backTo pos (starEach [m] X.env)).any (·.1)=false:=by rfl) :
  RI X G (.Tuple elts x1 tp) (.Call (.Name "zip" p) [l,m] [] pos) (Kk ta):=⟨G4 (L2.E4 hg hm ha.run hs hp) fun σ H R ⟨τ,J,R2,a2,h,k⟩=>⟨τ,J,_,a2,h,fun vs J1 us H1 rs r1 e1 ⟨x,y,xs,ys,ev,hx,hy,q⟩=>by
 subst ev
 obtain ⟨v,us',rfl,rv,v',us'',rfl,rv',e'⟩:=rs
 cases e'
 obtain ⟨a,ws,rfl,h1,h2⟩:=kH hx rv r1
 obtain ⟨b,ws',rfl,h1',h2'⟩:=kH hy rv' r1
 refine ⟨a,b,ws,ws',rfl,h1,h1',k _ J1 _ H1 ?_ r1 e1 q⟩
 have at_:∀ J' H',Ext X.K J1 H1 J' H'→Rep X.K J' H'→jF J' x=some xs∧jF J' y=some ys→∃ vs us,cD X.K H' a vs∧aJ X.K J' H' xs vs∧cD X.K H' b us∧aJ X.K J' H' ys us:=fun J' H' e r o=>by
  obtain ⟨c,vs,eb,g1,g2⟩:=kH o.1 (e.rep rv) r
  cases eb
  obtain ⟨c',us,eb,g1',g2'⟩:=kH o.2 (e.rep rv') r
  cases eb
  exact ⟨vs,us,g1,g2,g1',g2'⟩
 exact {
  go:=fun J' H' e r o i hi=>by
   obtain ⟨vs,us,s,rs,s',rs'⟩:=at_ J' H' e r o
   rw [List.length_map,List.length_zip] at hi
   have i1:i < vs.length:=by rw [← rs.length];omega
   have i2:i < us.length:=by rw [← rs'.length];omega
   exact ⟨vs,us,vs[i],us[i],s,s',List.getElem?_eq_getElem i1,List.getElem?_eq_getElem i2⟩
  yl:=fun J' H' e r o i hi v H2 y=>by
   obtain ⟨vs,us,s,rs,s',rs'⟩:=at_ J' H' e r o
   obtain ⟨T,z,z',hT,rfl,rfl,y1,y2⟩:=y
   obtain ⟨c,ec,rc⟩:=rs.get' (y1 vs s)
   obtain ⟨c',ec',rc'⟩:=rs'.get' (y2 us s')
   have sm:=ba.new hT (.tup [z,z'])
   have e2:=Ext.same (K:=X.K) (J:=J') sm
   refine ⟨.tup [c,c'],?_,⟨T,[z,z'],rfl,.inl (.inl aB),e2.gC ⟨z,_,rfl,rc,z',_,rfl,rc',rfl⟩⟩,r.same sm,e2⟩
   rw [List.getElem?_map,(List.getElem?_zip_eq_some (z:=(c,c'))).mpr ⟨ec,ec'⟩];rfl
  stop:=fun J' H' e r o=>by
   obtain ⟨vs,us,s,rs,s',rs'⟩:=at_ J' H' e r o
   refine ⟨vs,us,s,s',?_⟩
   rw [List.length_map,List.length_zip,← rs.length,← rs'.length]
   omega }⟩⟩
end
end Ov
namespace L2
open PySem PySem.Spec PyProof.Rows
section
variable {α β:Type}
def i9 (kvs:List (Str × α)) (k:Str):Option α:=(kvs.find? fun kv=>decide (kv.1=k)).map (·.2)
def qo (kvs:List (Str × α)) (k:Str) (v:α):List (Str × α):=if kvs.any (fun kv=>decide (kv.1=k)) then kvs.map (fun kv=>if kv.1=k then (kv.1,v) else kv) else kvs ++ [(k,v)]
def xC (kvs:List (Str × α)) (k:Str):List (Str × α):=kvs.filter fun kv=>decide (kv.1≠k)
theorem kq (p:Str × α) (r:List (Str × α)) (k:Str):i9 (p :: r) k=if p.1=k then some p.2 else i9 r k:=by
 unfold i9
 rw [List.find?_cons]
 by_cases h:p.1=k <;> simp [h]
theorem wA (kvs:List (Str × α)) (k:Str) (v:α):(qo kvs k v).length≤kvs.length + 1:=by
 unfold qo;split <;> simp
theorem Bx (kvs:List (Str × α)) (k:Str):(xC kvs k).length≤kvs.length:=List.length_filter_le _ _
abbrev lJ (R:α→β→Prop):List (Str × α)→List (Str × β)→Prop:=Paired fun p q=>p.1=q.1∧R p.2 q.2
variable {R:α→β→Prop}
theorem lJ.va {kvs:List (Str × α)} {vs:List (Str × β)} (h:lJ R kvs vs) (k:Str):(∀ x,i9 kvs k=some x→∃ y,i9 vs k=some y∧R x y)∧(i9 kvs k).isSome=(i9 vs k).isSome:=by
 induction h with
 | nil=>exact ⟨fun x e=>by simp [i9] at e,rfl⟩
 | @cons p q kvs vs r _ ih =>
  rw [kq,kq,← r.1]
  by_cases e:p.1=k
  ·rw [if_pos e,if_pos e];exact ⟨fun x z=>by cases z;exact ⟨_,rfl,r.2⟩,rfl⟩
  ·rw [if_neg e,if_neg e];exact ih
theorem lJ.any {kvs:List (Str × α)} {vs:List (Str × β)} (h:lJ R kvs vs) (k:Str):(kvs.any fun kv=>decide (kv.1=k))=vs.any fun kv=>decide (kv.1=k):=by
 induction h with
 | nil=>rfl
 | cons r _ ih=>rw [List.any_cons,List.any_cons,ih,r.1]
theorem lJ.snoc {kvs:List (Str × α)} {vs:List (Str × β)} (h:lJ R kvs vs) {k:Str} {x:α} {y:β} (r:R x y):lJ R (kvs ++ [(k,x)]) (vs ++ [(k,y)]):=by
 induction h with
 | nil=>exact .cons ⟨rfl,r⟩ .nil
 | cons q _ ih=>exact .cons q ih
theorem lJ.pu {kvs:List (Str × α)} {vs:List (Str × β)} (h:lJ R kvs vs) {k:Str} {x:α} {y:β} (r:R x y):lJ R (qo kvs k x) (qo vs k y):=by
 unfold qo
 rw [h.any k]
 split
 ·rename_i hany;clear hany
  induction h with
  | nil=>exact .nil
  | @cons p q kvs vs z _ ih =>
   rw [List.map_cons,List.map_cons]
   refine .cons ?_ ih
   by_cases e:p.1=k
   ·rw [if_pos e,if_pos (z.1 ▸ e)];exact ⟨z.1,r⟩
   ·rw [if_neg e,if_neg (z.1 ▸ e)];exact z
 ·exact h.snoc r
theorem lJ.dr {kvs:List (Str × α)} {vs:List (Str × β)} (h:lJ R kvs vs) (k:Str):lJ R (xC kvs k) (xC vs k):=by
 unfold xC
 induction h with
 | nil=>exact .nil
 | @cons p q kvs vs z _ ih =>
  rw [List.filter_cons,List.filter_cons,z.1]
  split
  ·exact .cons z ih
  ·exact ih
theorem lJ.len {kvs:List (Str × α)} {vs:List (Str × β)} (h:lJ R kvs vs):kvs.length=vs.length:=Paired.length h
theorem lJ.keys {kvs:List (Str × α)} {vs:List (Str × β)} (h:lJ R kvs vs):kvs.map (·.1)=vs.map (·.1):=by
 induction h with
 | nil=>rfl
 | cons r _ ih=>rw [List.map_cons,List.map_cons,ih,r.1]
end
theorem pA (vs:List (Str × Value)) (k:Str):valueAt vs k=i9 vs k:=rfl
theorem str_is {P:Program} {w:World} {k:Str} {u:Value} (r:RelV (.str k) u):(PySem.strKind P w).is k u=true:=by
 obtain ⟨t,rfl⟩:=r
 simp [PySem.strKind,Value.isStrOf]
theorem zu {P:Program} {w:World} {k:Str} {u:Value} (h:(PySem.strKind P w).is k u=true):RelV (.str k) u:=Value.isStrOf_shape h
section
variable {X:Cx} {pins:List (Addr × Obj)} {σ:St} {H:Hp} {s:Shared} {a:Addr} {A:Around} {E:Value→Shared→Prop} {kvs:List (Str × V)} {ep:Nat}
theorem g6 (I:Inv X pins σ H s) (e:H a=some (.dE kvs ep)):kvs.length≤sizeLine∧(a == sysModules)=false∧∃ vs,lJ RelV kvs vs∧s.heap.DictAt (PySem.strKind X.prog X.w) a vs ep:=I.hok a _ e
theorem mr {h':Heap} {t':Nat} {kvs':List (Str × V)} {vs':List (Str × Value)} (I:Inv X pins σ H s) (e:H a=some (.dE kvs ep)) (hs:Heap.SameBut a s.heap h') (hz:kvs'.length≤sizeLine) (hd:(a == sysModules)=false) (rel:lJ RelV kvs' vs') (dd:h'.DictOf (PySem.strKind X.prog X.w) a vs') :
  ∃ ep',Inv X pins σ (upd H a (.dE kvs' ep')) { s with heap:=h',toks:=t' }:=by
 obtain ⟨ep',da⟩:=dd.dictAt
 refine ⟨ep',I.write (x:=a) (e:=a) (by rw [e];exact True.intro) (.inl rfl) (fun b q hb z=>(hs.2 b hb).trans z) (let ⟨q,_,_,hq,_⟩:=dd;⟨q,hq⟩) ⟨hz,hd,vs',rel,da⟩⟩
theorem Inv.Gb (I:Inv X pins σ H s):sysModules < s.heap.objs.size:=by
 have h:mainGlobals < s.heap.objs.size:=(I.mod.glob.keeps I.bk).lt
 exact Nat.lt_trans (by decide) h
end
theorem xM {P:Program} {w:World} {kvs:List (Str × V)} {vs:List (Str × Value)} (rel:lJ RelV kvs vs):∀ {us:List Value},us.length=kvs.length→(∀ (j:Nat) (v:Value),us[j]?=some v→∃ k x,vs[j]?=some (k,x)∧(PySem.strKind P w).is k v=true)→Vals (kvs.map fun kv=>V.str kv.1) us:=by
 induction rel with
 | nil =>
  intro us hlen _
  cases us with
  | nil=>exact .nil
  | cons _ _=>cases hlen
 | @cons p q kvs vs z _ ih =>
  intro us hlen hget
  cases us with
  | nil=>cases hlen
  | cons u us =>
   rw [List.map_cons]
   refine .cons ?_ (ih (by simpa using hlen) fun j v e=>?_)
   ·obtain ⟨k,x,e1,e2⟩:=hget 0 u rfl
    rw [List.getElem?_cons_zero] at e1
    cases e1
    rw [z.1];exact zu e2
   ·obtain ⟨k,x,e1,e2⟩:=hget (j + 1) v (by rw [List.getElem?_cons_succ];exact e)
    rw [List.getElem?_cons_succ] at e1
    exact ⟨k,x,e1,e2⟩
def JD:R2:=fun x y H Q=>∃ a kvs ep k v,x=.ref a∧y=.str k∧H a=some (.dE kvs ep)∧i9 kvs k=some v∧Q v H
def Fd (f:Bool→Bool):R2:=fun x y H Q=>∃ a kvs ep k,x=.str k∧y=.ref a∧H a=some (.dE kvs ep)∧Q (.bl (f (i9 kvs k).isSome)) H
def Hn:List V→Hp→VK→Prop:=fun xs H Q=>∃ a kvs ep,xs=[.ref a]∧H a=some (.dE kvs ep)∧Q (.int kvs.length) H
def Ff:List V→Hp→VK→Prop:=fun xs H Q=>∃ a kvs ep,xs=[.ref a]∧H a=some (.dE kvs ep)∧∀ p,H p=none→Q (.ref p) (upd H p (.lst (kvs.map fun kv=>.str kv.1)))
def Hu:V→List V→Hp→VK→Prop:=fun x xs H Q=>∃ a kvs ep k v,x=.ref a∧xs=[.str k]∧H a=some (.dE kvs ep)∧i9 kvs k=some v∧∀ ep',Q v (upd H a (.dE (xC kvs k) ep'))
def Hw:i5:=fun o i v H Q=>∃ a kvs ep k,o=.ref a∧i=.str k∧H a=some (.dE kvs ep)∧kvs.length < sizeLine∧∀ ep',Q (upd H a (.dE (qo kvs k v) ep'))
def HK:TE:=fun _ H Q=>∀ p,H p=none→∀ ep,Q (.ref p) (upd H p (.dE [] ep))
section
variable {X:Cx}
theorem Gu:md X JD:=by
 intro value slice pins s σ H x y v u Q I rx ry q hs
 obtain ⟨a,kvs,ep,k,z,rfl,rfl,hp,hz,q⟩:=q
 cases rx
 obtain ⟨_,hd,vs,rel,da⟩:=g6 I hp
 have hT:s.TypeIs (.ref a) "dict":=da.dictOf.typeIs
 obtain ⟨w',hw,rw'⟩:=(rel.va k).1 z hz
 unfold subscriptTail
 refine wpAny_bind ?_
 rw [getitemInPython_of_ne hT.not_modules]
 refine wpAny_bind (wpAny_specialOf hT PySem.F.slot_dict_getitem.lookup ?_)
 have fin:wpAny (model X.prog X.w) X.A (subscripted slice false (.ref a) u) (fun r s₃=>wpAny (model X.prog X.w) X.A (letTemporaryGo value (.ref a) r >>= fun _=>pure r) (EP X pins σ Q) X.xe s₃) X.xe s:=by
  rw [hs]
  exact wpAny_operating (wpAny_getItem_of (str_is ry) da.dictOf.mapOf hw (wpAny_bind (wpAny_letTemporaryGo (wpAny_pure ⟨z,H,I.tok _,rw',q⟩))))
 first
  | exact wpAny_pure (wpAny_bind fin)
  | exact wpAny_bind (wpAny_pure (wpAny_bind fin))
  | exact wpAny_bind fin
theorem EU:eu X (compareOp .In) (Fd id):=by
 intro pins s σ H x y v u Q I rx ry ⟨a,kvs,ep,k,ex,ey,hp,q⟩
 subst ex ey
 cases ry
 obtain ⟨_,hd,vs,rel,da⟩:=g6 I hp
 refine wpAny_in_of (str_is rx) hd da.dictOf.mapOf ?_
 exact ⟨.bl _,H,I.tok _,by rw [pA,← (rel.va k).2];rfl,q⟩
theorem yf:eu X (compareOp .NotIn) (Fd not):=by
 intro pins s σ H x y v u Q I rx ry ⟨a,kvs,ep,k,ex,ey,hp,q⟩
 subst ex ey
 cases ry
 obtain ⟨_,hd,vs,rel,da⟩:=g6 I hp
 refine wpAny_notIn_of (str_is rx) hd da.dictOf.mapOf ?_
 exact ⟨.bl _,H,I.tok _,by rw [pA,← (rel.va k).2];rfl,q⟩
theorem um:bP X (.builtin "len") Hn:=by
 intro pins s σ H xs us Q I r ⟨a,kvs,ep,ex,hp,q⟩
 subst ex
 obtain ⟨u,rfl,ru⟩:=vals1 r
 cases ru
 obtain ⟨hz,hd,vs,rel,da⟩:=g6 I hp
 have hl:=rel.len
 refine call_len_dict hd da.dictOf (by rw [← hl];rw [sizeLine_eq] at hz;omega) ?_
 rw [← hl]
 exact ⟨.int _,H,(I.tok _),⟨_,rfl⟩,q⟩
theorem rF (hc:X.calm=true):bP X (.type "list") Ff:=by
 intro pins s σ H xs us Q I r ⟨a,kvs,ep,ex,hp,q⟩
 subst ex
 obtain ⟨u,rfl,ru⟩:=vals1 r
 cases ru
 obtain ⟨hz,hd,vs,rel,da⟩:=g6 I hp
 have hl:=rel.len
 refine PySem.W.kdl_call (PySem.W.kdl_dict (knd:=PySem.strKind X.prog X.w) (kvs:=vs) (ep:=ep) hd) (I.ok.hd hc) da (by rw [← hl];exact hz) fun h' tk acc c hk hS hacc=>?_
 have hkeys:Vals (kvs.map fun kv=>V.str kv.1) acc.toList:=by
  have hlen:acc.toList.length=kvs.length:=by rw [Array.length_toList,hacc.1,hl]
  have hget:∀ j v,acc.toList[j]?=some v→∃ k x,vs[j]?=some (k,x)∧(PySem.strKind X.prog X.w).is k v=true:=fun j v e=>hacc.2 j v (by rw [← Array.getElem?_toList];exact e)
  exact xM rel hlen hget
 have I2:Inv X pins σ (upd H s.heap.objs.size (.lst (kvs.map fun kv=>V.str kv.1))) { s with heap:=h',toks:=tk } :=
  I.laid (t':=tk) hk (Nat.le_refl _) (show cI X.prog X.w _ _ _ (.lst _) from ⟨by rw [List.length_map];exact hz,acc.toList,c,hkeys,by rw [Array.toArray_toList];exact hS⟩)
 exact ⟨.ref s.heap.objs.size,_,I2,rfl,q _ (I.hok.fresh (Nat.le_refl _))⟩
theorem BV:mf X "dict.pop" Hu:=by
 intro pins s σ H x xs v us Q I rx r ⟨a,kvs,ep,k,z,ex,exs,hp,hv,q⟩
 subst ex exs
 cases rx
 obtain ⟨u,rfl,ru⟩:=vals1 r
 obtain ⟨hz,hd,vs,rel,da⟩:=g6 I hp
 obtain ⟨w',hw,rw'⟩:=(rel.va k).1 z hv
 have hpart:(keyPart u).isSome=true:=by obtain ⟨t,q⟩:=(show ∃ t,u=Value.str k t from ru);subst q;rfl
 refine call_meetsIn PySem.F.slot_dict_pop da.dictOf.typeIs PySem.F.entry_dict_pop (PySem.F.args_dict_pop_2 _ _) (meets_dict_pop_there (PySem.strKind X.prog X.w) a (str_is ru) [] (.inl rfl) hpart)
  ⟨vs,w',da.dictOf,by rw [← rel.len];exact hz,hw,fun h' dd' hs=>?_⟩
 obtain ⟨ep',I2⟩:=mr (t':=s.toks + 1) I hp hs (Nat.le_trans (Bx kvs k) hz) hd (rel.dr k) dd'
 exact ⟨z,_,I2,rw',q ep'⟩
theorem Fu:i4 X Hw:=by
 intro pins s σ H o i v ov iv u Q I ro ri rv ⟨a,kvs,ep,k,eo,ei,hp,hl,q⟩
 subst eo ei
 cases ro
 obtain ⟨hz,hd,vs,rel,da⟩:=g6 I hp
 refine wpAny_setItem_pairs (hsz:=by rw [← rel.len];exact hz) (str_is ri) da.dictOf fun h' dd' hs=>?_
 obtain ⟨ep',I2⟩:=mr (t':=s.toks + 1) I hp hs (show (qo kvs k v).length≤sizeLine from Nat.le_trans (wA kvs k v) hl) hd (rel.pu rv) dd'
 exact ⟨_,I2,q ep'⟩
theorem Ce {pos:Pos}:PE X (.Dict [] [] pos) HK:=fun pins s σ H Q I h=>by
 have hd:(s.heap.push { cls:=.type "dict",data:=.dict #[] }).DictOf (PySem.strKind X.prog X.w) s.heap.objs.size []:=Heap.DictOf.new s.heap
 obtain ⟨ep,da⟩:=hd.dictAt
 exact wpAny_Dict_empty ⟨.ref s.heap.objs.size,_,I.laid (a:=s.heap.objs.size) (o:=.dE [] ep) (t':=s.toks) (fun _ _ q=>Heap.get?_push_of_some _ q) (Nat.le_refl _)
  ⟨Nat.zero_le _,beq_eq_false_iff_ne.mpr (Ne.symm (Nat.ne_of_lt I.Gb)),[],.nil,da⟩,rfl,h _ (I.hok.fresh (Nat.le_refl _)) ep⟩
end
def JX (a:Addr) (ks:List Str) (ep:Nat):It :=
 ⟨fun i H=>(∃ kvs,H a=some (.dE kvs ep)∧kvs.map (·.1)=ks)∧i < ks.length,
  fun i H z H'=>H'=H∧∃ k,ks[i]?=some k∧z=.str k,
  fun i H=>(∃ kvs,H a=some (.dE kvs ep)∧kvs.map (·.1)=ks)∧ks.length≤i⟩
theorem yy {P:Program} {w:World} {K:PySem.W.Frag} {tg:Expr} (a it:Addr) (ks:List Str) (ep:Nat):Turn P w K tg (JX a ks ep) [it] it (fun i h=>h.IsKeyIter it a i ks.length ep) where
 mem:=by simp
 obj:=fun i h st b hb=>by
  have e:b=it:=by simpa using hb
  subst e
  obtain ⟨o,e,c,d⟩:=st
  exact ⟨o,e,fun v z=>by rw [d] at z;cases z⟩
 keep:=fun i h h' st k=>st.at fun o e=>k it (by simp) o e
 item:=by
  intro X hP hw hK hc i pins s σ H E I hf st hg
  subst hP hw hK
  obtain ⟨⟨kvs,hp,hks⟩,hi⟩:=hg
  obtain ⟨hz,hd,vs,rel,da⟩:=g6 I hp
  have hl:ks.length=vs.length:=by rw [← hks,List.length_map];exact rel.len
  obtain ⟨f0,f1,f2,f3,f4,f5⟩:=hf it (by simp)
  obtain ⟨⟨k,x⟩,hx⟩:∃ p,vs[i]?=some p:=⟨vs[i]'(by omega),List.getElem?_eq_getElem (by omega)⟩
  have hk:ks[i]?=some k:=by rw [← hks,rel.keys,List.getElem?_map,hx];rfl
  refine wpAny_pyNext_dict_item (by rw [← hl];exact st) da hx fun key h' hkey st' sb=>?_
  rw [← hl] at st'
  have I1:Inv X pins σ H { s with heap:=h' }:=I.turned (t':=s.toks) (fun b o hb e=>(sb.2 b hb).trans e) f0 f1 f3 f4 f5
  obtain ⟨o,e,c,d⟩:=id st'
  exact ⟨key,rfl,zj (s:={ s with heap:=h' }) e c d (by decide) ⟨.str k,H,I1,zu hkey,⟨rfl,k,hk,rfl⟩,st',fun b hb=>(hf b hb).1⟩⟩
 done:=by
  intro X hP hw hK hc i pins s σ H E I hf st hg
  subst hP hw hK
  obtain ⟨⟨kvs,hp,hks⟩,hi⟩:=hg
  obtain ⟨hz,hd,vs,rel,da⟩:=g6 I hp
  have hl:ks.length=vs.length:=by rw [← hks,List.length_map];exact rel.len
  obtain ⟨f0,f1,f2,f3,f4,f5⟩:=hf it (by simp)
  refine wpAny_pyNext_dict_end (I.ok.hd hc) (by rw [← hl];exact st) da (by rw [List.getElem?_eq_none_iff];omega) fun h' hk=>⟨rfl,I.turned (t':=s.toks) (fun b o hb e=>hk b o hb e) f0 f1 f3 f4 f5⟩
 self:=fun _ _ _ _ _ st h=>wpAny_pyIter_keyiter st h
def Gq (td:TE):TI:=fun σ H R=>td σ H fun x H1=>∃ a kvs ep,x=.ref a∧H1 a=some (.dE kvs ep)∧R (JX a (kvs.map (·.1)) ep) H1
theorem Cg {X:Cx} {tg l:Expr} {tl:TE} (hl:PE X l tl):PI X tg l (Gq tl):=by
 intro pins s σ H R I h
 refine bK (hl pins s σ H _ I h) fun v s1 ⟨x,H1,I1,r1,q1⟩=>?_
 obtain ⟨a,kvs,ep,e,hp,q⟩:=q1
 subst e
 cases r1
 obtain ⟨hz,hd,vs,rel,da⟩:=g6 I1 hp
 refine wpAny_pyIter_dict hd da ?_
 refine ⟨s1.heap.objs.size,[s1.heap.objs.size],_,_,H1,rfl,I1.kept (t':=s1.toks) fun b o e=>Heap.get?_push_of_some _ e,yy a _ (kvs.map (·.1)) ep,⟨_,Heap.get?_push_size _ rfl,rfl,by rw [List.length_map,rel.len];rfl⟩,fun b hb=>?_,q⟩
 have e:b=s1.heap.objs.size:=by simpa using hb
 subst e
 exact I1.zd (Nat.le_refl _) (I1.hok.fresh (Nat.le_refl _))
end L2
namespace Ov
open PySem PySem.Spec PyProof.Rows L2
def FY (X:Cx) (ifs:List Expr) (t:TT):Prop :=
 ∀ (pins:List (Addr × Obj)) (s:Shared) (σ:L2.St) (H:Hp) (Q:Bool→Hp→Prop),Inv X pins σ H s→t σ H Q →
  wpAny (model X.prog X.w) X.A (forIn ifs true fun c r=>if r=true then do let ok ← isTrue c X.env (eval c X.env);pure (ForInStep.yield ok) else pure (ForInStep.yield r)) (TP X pins σ Q) X.xe s
theorem Cp {X:Cx}:FY X [] (fun _ H Q=>Q true H):=fun pins s σ H Q I h=>by rw [List.forIn_nil];exact wpAny_pure ⟨H,I,h⟩
section
variable {prog:Program} {w:World} {A:Around} {R:Result→Shared→Prop} {s:Shared}
theorem uF {kx vx iter:Expr} {ifs:List Expr} {x:Str} {px:Pos} {sc:Scope} {pos:Pos} {it:Value} {D:Addr} {env:Env} (I:Nat→Shared→Prop)
  (turn:∀ n s,I n s→wpAny (model prog w) A (pyNext it) (fun r s₁=>match r with
   | none=>R (.ok .next) s₁
   | some v=>wpAny (model prog w) A (letOwnedTupleGo (.Name x px) it v) (fun _ s₂=>wpAny (model prog w) A (assign (.Name x px) env v) (fun _ s₃=>wpAny (model prog w) A (forIn ifs true fun c r=>if r=true then do let ok ← isTrue c env (eval c env);pure (ForInStep.yield ok) else pure (ForInStep.yield r)) (fun ok s₃=>if ok=true then wpAny (model prog w) A (eval kx env) (fun kv s₄ =>
     wpAny (model prog w) A (eval vx env) (fun vv s₅=>wpAny (model prog w) A (dictSet D kv vv) (fun _ s₅=>∃ m,m < n∧I m s₅) (fun _ _=>False) s₅) (fun _ _=>False) s₄) (fun _ _=>False) s₃ else ∃ m,m < n∧I m s₃) (fun _ _=>False) s₃) (fun _ _=>False) s₂) (fun _ _=>False) s₁) (fun _ _=>False) s)
  (n:Nat) (h:I n s):codeAny (model prog w) A (.compLoop (.DictComp kx vx [⟨.Name x px,iter,ifs,0⟩] sc pos) 0 it (.ref D) env) R s:=by
 refine codeAny_loop rfl I (fun n s hI=>?_) n h
 show wpAny _ _ ((compTurn (.DictComp kx vx [⟨.Name x px,iter,ifs,0⟩] sc pos) 0 it (.ref D) env).onRaise (fun x=>do noteFrame x env;theTreesLotGoes x)) _ _ s
 refine wpAny_noted ?_
 rw [compTurn_dict]
 have no:∀ (e:Value) (s':Shared),False→notedBy (model prog w) A env (fun e s'=>R (.error e) s') e s':=fun _ _ z=>z.elim
 refine wpAny_bind (wpAny_standAt (wpAny_bind (wpAny_mono (turn n s hI) (fun r s₁ h₁=>?_) no)))
 cases r with
 | none=>exact wpAny_pure h₁
 | some v =>
  refine wpAny_bind (wpAny_mono h₁ (fun _ s₂ h₂=>?_) no)
  refine wpAny_bind (wpAny_mono h₂ (fun _ s₃ h₃=>wpAny_bind (wpAny_mono h₃ (fun ok s₃' h₃'=>?_) no)) no)
  cases ok with
  | false=>exact wpAny_pure ⟨rfl,h₃'⟩
  | true =>
   exact wpAny_bind (wpAny_bind (wpAny_mono h₃' (fun kv s₄ h₄=>wpAny_bind (wpAny_holding (wpAny_mono h₄ (fun vv s₅ h₅=>wpAny_bind (wpAny_standAt (wpAny_holding (wpAny_mono h₅ (fun _ s₆ h₆=>wpAny_pure ⟨rfl,h₆⟩) no)))) no))) no))
end
def KH (wi:TI) (ks:List (Str × Nat)) (tc:TT) (tk te:TE):TE:=fun σ H Q=>wi σ H fun J H1=>∀ D,H1 D=none→∀ ep,∃ W:Nat→Nat→Hp→Prop,(∃ m,W 0 m (upd H1 D (.dE [] ep))) ∧
 ∀ i m H2,W i m H2→(J.stop i H2∧Q (.ref D) H2)∨(J.go i H2∧∀ v H3,J.yld i H2 v H3→tc (some v :: cP ks σ) H3 fun b H4=>if b=true then tk (some v :: cP ks σ) H4 fun y H5=>te (some v :: cP ks σ) H5 fun z H6=>∃ kvs ep k,y=.str k∧H6 D=some (.dE kvs ep)∧kvs.length < sizeLine∧∃ m',m' < m∧∀ ep',W (i + 1) m' (upd H6 D (.dE (L2.qo kvs k z) ep')) else ∃ m',m' < m∧W (i + 1) m' H4)
section
variable {X:Cx}
theorem yo {kx vx iter:Expr} {ifs:List Expr} {x:Str} {px:Pos} {sc:Scope} {pos:Pos} {tk te:TE} {tc:TT} {ks:List (Str × Nat)} {cl:List (Str × Addr)} {pins:List (Addr × Obj)} {σ:L2.St} {H:Hp} {s:Shared} {it:Addr} {fp:List Addr} {tn:Nat→Heap→Prop} {J:It} {Q:VK}
  {RR:Value→Addr→Result→Shared→Prop} {E:Value→Shared→Prop}
  (hc:X.calm=true) (ok:cb sc X.env.scope X.N x ks) (h1:∀ y c,cl.lookup y=some c→X.env.cells.lookup y=some c) (h2:∀ y∈sc.names,y.2=.free→∃ c,cl.lookup y.1=some c)
  (hk:∀ cl C s₀ H₀ fp pins,PE (dT X sc cl C x ks s₀ H₀ fp pins) kx tk) (he:∀ cl C s₀ H₀ fp pins,PE (dT X sc cl C x ks s₀ H₀ fp pins) vx te) (hcn:∀ cl C s₀ H₀ fp pins,FY (dT X sc cl C x ks s₀ H₀ fp pins) ifs tc)
  (I:Inv X pins σ H s) (T:Turn X.prog X.w X.K (.Name x px) J fp it tn) (st:tn 0 s.heap) (f:∀ b∈fp,gi X pins H b)
  (hw:∀ D,H D=none→∀ ep,∃ W:Nat→Nat→Hp→Prop,(∃ m,W 0 m (upd H D (.dE [] ep)))∧∀ i m H2,W i m H2→(J.stop i H2∧Q (.ref D) H2) ∨
   (J.go i H2∧∀ v H3,J.yld i H2 v H3→tc (some v :: cP ks σ) H3 fun b H4=>if b=true then tk (some v :: cP ks σ) H4 fun y H5=>te (some v :: cP ks σ) H5 fun z H6=>∃ kvs ep k,y=.str k∧H6 D=some (.dE kvs ep)∧kvs.length < sizeLine∧∃ m',m' < m∧∀ ep',W (i + 1) m' (upd H6 D (.dE (L2.qo kvs k z) ep')) else ∃ m',m' < m∧W (i + 1) m' H4))
  (hR:∀ (D C:Addr) (s':Shared) (H':Hp) (m:Str→Option Value),Inv X pins σ H' s'→Q (.ref D) H'→s'.heap.Ns C m→H' C=none→C≠X.env.locals→X.s₀.heap.objs.size≤C→(∀ y c,X.env.cells.lookup y=some c→c≠C)→(∀ p∈X.pn ++ pins,p.1≠C)→RR (.ref D) C (.ok .next) s') :
  wpAny (model X.prog X.w) X.A newDict (fun acc s₃=>wpAny (model X.prog X.w) X.A (newFunctionEnv sc X.env.globals cl [] X.env.qual none .none (some X.env)) (fun cenv s₄ =>
   codeAny (model X.prog X.w) X.A (.compStart (.DictComp kx vx [⟨.Name x px,iter,ifs,0⟩] sc pos) 0 (.ref it) acc { cenv with scope:=relabel sc X.env }) (RR acc cenv.locals) s₄) E s₃) E s:=by
 have okk:=ok
 obtain ⟨kd,nc,lx,ll,fr,kk,nd⟩:=okk
 have hD0:H s.heap.objs.size=none:=I.hok.fresh (Nat.le_refl _)
 have hdd:(s.heap.push { cls:=.type "dict",dict:=none,data:=.dict #[] }).DictOf (PySem.strKind X.prog X.w) s.heap.objs.size []:=Heap.DictOf.new s.heap
 obtain ⟨ep0,da⟩:=hdd.dictAt
 obtain ⟨W,⟨m0,w0⟩,turn⟩:=hw s.heap.objs.size hD0 ep0
 refine wpAny_newObj_type ?_
 have I3:Inv X pins σ (upd H s.heap.objs.size (.dE [] ep0)) { s with heap:=s.heap.push { cls:=.type "dict",dict:=none,data:=.dict #[] } } :=
  I.laid (t':=s.toks) (fun b u e=>Heap.get?_push_of_some _ e) (Nat.le_refl _) ⟨Nat.zero_le _,beq_eq_false_iff_ne.mpr (Ne.symm (Nat.ne_of_lt I.Gb)),[],.nil,da⟩
 have st3:tn 0 (s.heap.push { cls:=.type "dict",dict:=none,data:=.dict #[] }):=T.keep 0 _ _ st fun b hb o e=>Heap.get?_push_of_some _ e
 clear da hdd
 generalize hD:s.heap.objs.size=D at *
 generalize hH:upd H D (.dE [] ep0)=H3 at *
 generalize hs3:({ s with heap:=s.heap.push { cls:=.type "dict",dict:=none,data:=.dict #[] } }:Shared)=s3 at *
 have e3:s.heap.push { cls:=.type "dict",dict:=none,data:=.dict #[] }=s3.heap:=by rw [← hs3]
 rw [e3] at st3
 have fD:∀ b∈fp,b≠D:=fun b hb z=>by
  obtain ⟨o,ho,_⟩:=T.obj 0 _ st b hb
  have:=Heap.lt_size ho
  rw [z,← hD] at this
  exact Nat.lt_irrefl _ this
 have f3:∀ b∈fp,gi X pins H3 b:=fun b hb=>⟨by rw [← hH,aK (fD b hb)];exact (f b hb).1,(f b hb).2⟩
 have g3:∀ b∈fp,∃ o,s3.heap.get? b=some o:=fun b hb=>by
  obtain ⟨o,ho,_⟩:=T.obj 0 _ st3 b hb
  exact ⟨o,ho⟩
 refine wpAny_newFunctionEnv nc (by intro y hy;simp at hy) (fun h₁ hns hsb=>?_) kd
 have kp:∀ b o,s3.heap.get? b=some o→h₁.get? b=some o:=fun b o e=>hsb.extBut b o (Nat.ne_of_lt (Heap.lt_size e)) (Heap.get?_push_of_some _ e)
 have J0:=mD (fp:=fp) (cl:=cl) (t':=s3.toks + ([]:List (Str × Value)).length) I3 ok h1 h2 (fun b hb=>⟨f3 b hb,g3 b hb⟩) hns kp
 have st4:tn 0 h₁:=T.keep 0 _ _ st3 fun b hb o e=>kp b o e
 have ltC:∀ b o,s3.heap.get? b=some o→b≠s3.heap.objs.size:=fun b o e=>Nat.ne_of_lt (Heap.lt_size e)
 have cC:∀ y c,X.env.cells.lookup y=some c→c≠s3.heap.objs.size:=fun y c e=>by
  obtain ⟨v,o,ho,_⟩:=I3.cell y c e
  exact ltC c o ho
 have pC:∀ p∈X.pn ++ pins,p.1≠s3.heap.objs.size:=fun p hp=>ltC _ _ (I3.pin p hp).1
 have lC:s3.heap.objs.size≠X.env.locals:=Nat.ne_of_gt I3.lt
 have fX:∀ {H':Hp},(∀ b∈fp,H' b=none)→∀ b∈fp,gi (dT X sc cl s3.heap.objs.size x ks s3 H3 fp pins) [] H' b:=fun hn b hb=>by
  obtain ⟨o,ho⟩:=g3 b hb
  obtain ⟨_,q1,q2,q3,q4,q5⟩:=f b hb
  refine ⟨hn b hb,ltC b o ho,fun z=>?_,.inl hb,fun y c e=>q4 y c (h1 y c e),fun p hp=>q5 p (by simpa [dT] using hp)⟩
  rcases List.mem_cons.mp (I3.jA b z) with e | e
  ·exact q1 e
  ·exact q2 e
 have back:∀ {o:Option V} {H':Hp} {s':Shared},Inv (dT X sc cl s3.heap.objs.size x ks s3 H3 fp pins) [] (o :: cP ks σ) H' s'→Inv X pins σ H' s':=fun {o H' s'} J=>by
  obtain ⟨hh,g,d,t,os'⟩:=s'
  obtain rfl:os'=s3.os:=J.os
  exact I3.call (h':=hh) (g':=g) (d':=d) (t':=t) (ch:=fp) J.base J.hok J.bare fun b hb=>⟨(f b hb).2.2.2.1,(f b hb).2.1,(f b hb).2.2.2.2.1,(f b hb).2.2.2.2.2⟩
 have lookX:(relabel sc X.env).names.lookup x=some .local:=lookup_relabel_local lx
 have loop:∀ s',(∃ (i:Nat) (o:Option V) (H':Hp),Inv (dT X sc cl s3.heap.objs.size x ks s3 H3 fp pins) [] (o :: cP ks σ) H' s'∧tn i s'.heap∧(∀ b∈fp,H' b=none)∧W i m0 H') →
   codeAny (model X.prog X.w) X.A (.compLoop (.DictComp kx vx [⟨.Name x px,iter,ifs,0⟩] sc pos) 0 (.ref it) (.ref D) (compEnvC sc cl s3.heap.objs.size X.env)) (RR (.ref D) s3.heap.objs.size) s':=by
  intro s' hs'
  refine uF (fun n s'=>∃ (i:Nat) (o:Option V) (H':Hp),Inv (dT X sc cl s3.heap.objs.size x ks s3 H3 fp pins) [] (o :: cP ks σ) H' s'∧tn i s'.heap∧(∀ b∈fp,H' b=none)∧W i n H') ?_ m0 hs'
  rintro n s5 ⟨i,o,H5,J5,t5,n5,w5⟩
  rcases turn i n H5 w5 with ⟨stop,hq⟩ | ⟨go,step⟩
  ·refine bK (T.done (dT X sc cl s3.heap.objs.size x ks s3 H3 fp pins) rfl rfl rfl hc i [] s5 _ H5 _ J5 (fX n5) t5 stop) fun r s6 ⟨hr,J6⟩=>?_
   subst hr
   obtain ⟨m,hm,_⟩:=J6.loc
   exact hR D _ s6 H5 m (back J6) hq hm J6.free lC I3.sz cC pC
  ·refine bK (T.item (dT X sc cl s3.heap.objs.size x ks s3 H3 fp pins) rfl rfl rfl hc i [] s5 _ H5 _ J5 (fX n5) t5 go) fun r s6 ⟨u,hr,h6⟩=>?_
   subst hr
   refine bK h6 fun _ s7 ⟨v,H7,J7,r7,y7,t7,n7⟩=>?_
   have J7':=J7.pinned (fX n7) (T.obj _ _ t7)
   refine wpAny_assign_Name (eh (X:=dT X sc cl s3.heap.objs.size x ks s3 H3 fp pins) (i:=0) J7' nd rfl (.inl lookX) r7 (fun s8 J8=>?_) (.inr lookX))
   refine bK (hcn cl s3.heap.objs.size s3 H3 fp pins _ s8 _ H7 _ J8 (step v H7 y7)) fun ok s8' ⟨H8,J8',q8⟩=>?_
   cases ok with
   | false =>
    simp only [Bool.false_eq_true,if_false] at q8 ⊢
    obtain ⟨m',hm,w'⟩:=q8
    refine ⟨m',hm,i + 1,_,_,J8'.er,?_,?_,w'⟩
    ·exact T.keep _ _ _ t7 fun b hb o e=>(J8'.pin (b,o) (List.mem_append_right _ (List.mem_append_right _ (bG hb e)))).1
    ·intro b hb
     obtain ⟨o,e,d⟩:=T.obj _ _ t7 b hb
     exact (J8'.pin (b,o) (List.mem_append_right _ (List.mem_append_right _ (bG hb e)))).2.1
   | true =>
    simp only [if_true] at q8 ⊢
    refine bK (hk cl s3.heap.objs.size s3 H3 fp pins _ s8' _ H8 _ J8' q8) fun ky s8'' ⟨vk,H8',J8'',rk,q8'⟩=>?_
    refine bK (he cl s3.heap.objs.size s3 H3 fp pins _ s8'' _ H8' _ J8'' q8') fun y s9 ⟨vy,H9,J9,r9,kvs,ep,k,ek,hys,hz,m',hm,w'⟩=>?_
    subst ek
    obtain ⟨hz',hd',vs,rel,da⟩:=g6 J9 hys
    refine wpAny_dictSet_pairs (hsz:=by rw [← rel.len];exact hz') (str_is rk) da.dictOf fun h' dd' hsb=>?_
    obtain ⟨ep',J10⟩:=mr (t':=s9.toks + 1) J9 hys hsb (show (L2.qo kvs k vy).length≤sizeLine from Nat.le_trans (wA kvs k vy) hz) hd' (rel.pu r9) dd'
    refine ⟨m',hm,i + 1,_,_,J10.er,?_,?_,w' ep'⟩
    ·exact T.keep _ _ _ t7 fun b hb o e=>(J10.pin (b,o) (List.mem_append_right _ (List.mem_append_right _ (bG hb e)))).1
    ·intro b hb
     obtain ⟨o,e,d⟩:=T.obj _ _ t7 b hb
     exact (J10.pin (b,o) (List.mem_append_right _ (List.mem_append_right _ (bG hb e)))).2.1
 have l0:=loop _ ⟨0,none,H3,J0,st4,fun b hb=>(f3 b hb).1,w0⟩
 exact codeAny_compStart_dict l0 (T.self _ 0 _ _ _ st4 l0)
theorem G1 {kx vx iter:Expr} {ifs:List Expr} {x:Str} {px:Pos} {sc:Scope} {pos:Pos} {wi:TI} {tk te:TE} {tc:TT} (osc:Scope) (N:List Str) (ks:List (Str × Nat)) (hc:X.calm=true) (ho:X.env.scope=osc) (hN:X.N=N) (hi:PI X (.Name x px) iter wi)
  (hk:∀ cl C s₀ H₀ fp pins,PE (dT X sc cl C x ks s₀ H₀ fp pins) kx tk) (he:∀ cl C s₀ H₀ fp pins,PE (dT X sc cl C x ks s₀ H₀ fp pins) vx te) (hcn:∀ cl C s₀ H₀ fp pins,FY (dT X sc cl C x ks s₀ H₀ fp pins) ifs tc) (ok:cb sc osc N x ks:=by decide +kernel) (hs:∀ x,foldedSetIterable iter X.env x=pure x:=by intro _;rfl) :
  PE X (.DictComp kx vx [⟨.Name x px,iter,ifs,0⟩] sc pos) (KH wi ks tc tk te):=by
 intro pins s σ H Q I hw
 obtain ⟨cl,hcl,h1,h2⟩:=gu (jW ok I ho)
 have ok':cb sc X.env.scope X.N x ks:=by rw [ho,hN];exact ok
 rw [arm_eval_DictComp]
 refine wpAny_comprehension_free (use:=none) rfl hs hcl ok.1 ok.2.2.2.1 (bK (hi pins s σ H _ I hw) fun v s1 h3=>bK h3 fun itv s2 h4=>?_)
 obtain ⟨it,fp,tn,J,H2,rfl,I2,T,st2,f2,hR⟩:=h4
 refine yo (RR:=fun acc C=>compPost (model X.prog X.w) X.A X.xe none (EP X pins σ Q) acc C) hc ok' h1 h2 hk he hcn I2 T st2 f2 hR ?_
 intro D C s' H' m J' q hn hC cl' cs cc cp
 refine ⟨m,hn,fun h' hsb=>⟨.ref D,H',?_,rfl,q⟩⟩
 exact J'.turned (t':=s'.toks) (it:=C) (fun b o ne e=>hsb.extBut b o ne e) hC cl' (.inr cs) cc cp
end
end Ov
namespace Ov
open PySem PySem.Spec PyProof.Rows
open L2 (V HO Hp Inv Cx VK XK TE TT TA TS TG mi TI TO i5 Ends rq Loc Gl Rd RelV Vals eu t8 bP md oJ mf i4 R2 upd aB aK cD fQ Sp nM It ba cU bE Passes lI az Meth Mk Binds aH bQ aw c5 ft dY i9 qo xC lJ)
section
variable {K:PySem.W.Frag} {J:Hq} {H:Hp}
theorem df:∀ {kvs:List (Str × PV)} {gs:List (Str × V)},ji K J H kvs gs→lJ (bR K J H) kvs gs
 | [],[],_=>.nil
 | [],_ :: _,h=>by cases h.1
 | _ :: _,[],h=>by cases h.1
 | (k,y) :: fs,(k',w) :: gs,h=>by
  obtain ⟨h1,v',us,h2,h3,h4⟩:=h
  simp only [List.map_cons,List.cons.injEq] at h1 h2
  obtain ⟨rfl,h1⟩:=h1
  obtain ⟨rfl,rfl⟩:=h2
  exact .cons ⟨rfl,h3⟩ (df ⟨h1,h4⟩)
theorem sV:∀ {kvs:List (Str × PV)} {gs:List (Str × V)},lJ (bR K J H) kvs gs→ji K J H kvs gs
 | _,_,.nil=>⟨rfl,rfl⟩
 | _,_,.cons (a:=p) (b:=q) r t=>by
  obtain ⟨h1,h2⟩:=sV t
  exact ⟨by rw [List.map_cons,List.map_cons,h1,r.1],q.2,_,rfl,r.2,h2⟩
theorem Ext.iu {p:Addr} {kvs kvs':List (Str × PV)} {gs gs':List (Str × V)} {ep ep':Nat} (h:J p=some (.dct kvs ep)) (k:H p=some (.dE gs ep)):Ext K J H (put J p (.dct kvs' ep')) (upd H p (.dE gs' ep')):=by
 have sm:∀ a u,a≠p→Rd H a u→Rd (upd H p (.dE gs' ep')) a u:=fun a u ne z=>by
  rcases z with z | ⟨o,z⟩
  ·exact .inl (by rw [aK ne];exact z)
  ·exact .inr ⟨o,by rw [aK ne];exact z⟩
 refine ⟨fun a vs' z=>?_,fun a o z q _=>?_⟩
 ·rcases z with z | z
  ·have ne:a≠p:=by
    intro e;subst e
    rcases z with z | ⟨o,z⟩
    ·rw [k] at z;cases z
    ·rw [k] at z;cases z
   exact .inl (sm a _ ne z)
  ·exact .inr z
 ·have ne:a≠p:=by intro e;subst e;rw [h] at z;cases z
  exact ⟨by rw [ar ne];exact z,by rw [aK ne];exact q⟩
theorem Rep.iu {p:Addr} {kvs kvs':List (Str × PV)} {gs gs':List (Str × V)} {ep ep':Nat} (r:Rep K J H) (h:J p=some (.dct kvs ep)) (k:H p=some (.dE gs ep)) (q:lJ (bR K J H) kvs' gs'):Rep K (put J p (.dct kvs' ep')) (upd H p (.dE gs' ep')):=by
 have e:=Ext.iu (K:=K) (kvs':=kvs') (gs':=gs') (ep':=ep') h k
 refine r.yB e p (fun a ne=>ar ne) (fun a o ne _ z=>by rw [aK ne];exact z) fun u z=>?_
 rw [au] at z;cases z
 exact ⟨gs',aB,e.tm (sV q)⟩
theorem Rep.Dm {p:Addr} {ep:Nat} (r:Rep K J H) (n:H p=none):Rep K (put J p (.dct [] ep)) (upd H p (.dE [] ep)):=by
 have e:=Ext.laid (K:=K) (J:=J) (o:=.dE [] ep) (u:=.dct [] ep) n
 refine r.yB e p (fun a ne=>ar ne) (fun a o ne _ z=>by rw [aK ne];exact z) fun u z=>?_
 rw [au] at z;cases z
 exact ⟨[],aB,⟨rfl,rfl⟩⟩
end
def G_:jH:=fun x y J Q=>∃ a kvs ep k v,x=.ref a∧y=.str k∧J a=some (.dct kvs ep)∧i9 kvs k=some v∧Q v J
def Cu (f:Bool→Bool):jH:=fun x y J Q=>∃ a kvs ep k,x=.str k∧y=.ref a∧J a=some (.dct kvs ep)∧Q (.bl (f (i9 kvs k).isSome)) J
def DJ:vF:=fun xs J Q=>∃ a kvs ep,xs=[.ref a]∧J a=some (.dct kvs ep)∧Q (.int kvs.length) J
def Aw:vF:=fun xs J Q=>∃ a kvs ep,xs=[.ref a]∧J a=some (.dct kvs ep)∧Q (.fl (kvs.map fun kv=>.str kv.1)) J
def DL:yG:=fun x xs J Q=>∃ a kvs ep k v,x=.ref a∧xs=[.str k]∧J a=some (.dct kvs ep)∧i9 kvs k=some v∧∀ ep',Q v (put J a (.dct (xC kvs k) ep'))
def DM:xw:=fun o i y J R=>∃ a kvs ep k,o=.ref a∧i=.str k∧J a=some (.dct kvs ep)∧kvs.length < sizeLine∧∀ ep',R (put J a (.dct (qo kvs k y) ep'))
def DQ:cQ:=fun _ J Q=>∀ p,J p=none→∀ ep,Q (.ref p) (put J p (.dct [] ep))
def Kg (te:cQ):nQ:=fun τ J R=>te τ J fun x J1=>∃ a kvs ep,x=.ref a∧J1 a=some (.dct kvs ep)∧R ⟨kvs.map fun kv=>.str kv.1,fun J'=>J' a=some (.dct kvs ep)⟩ J1
section
variable {X:Cx} {G:G2}
theorem cG:Iz X G_:=⟨_,L2.Gu,fun J H x y v w Q2 Q rx ry r ⟨a,kvs,ep,k,z,ex,ey,ja,hz,q⟩ kn=>by
 subst ex ey
 cases rx;cases ry
 obtain ⟨gs,h1,h2⟩:=r _ _ ja
 obtain ⟨u,hu,ru⟩:=((df h2).va k).1 z hz
 exact ⟨a,gs,ep,k,u,rfl,rfl,h1,hu,kn z J u H ru r .refl q⟩⟩
theorem zL (f:Bool→Bool):LR X.K (L2.Fd f) (Cu f):=fun J H x y v w Q2 Q rx ry r ⟨a,kvs,ep,k,ex,ey,ja,q⟩ kn=>by
 subst ex ey
 cases rx;cases ry
 obtain ⟨gs,h1,h2⟩:=r _ _ ja
 exact ⟨a,gs,ep,k,rfl,rfl,h1,by rw [← ((df h2).va k).2];exact kn (.bl _) J _ H rfl r .refl q⟩
theorem EX:jG X (compareOp .In) (Cu id):=⟨_,L2.EU,zL id⟩
theorem B9:jG X (compareOp .NotIn) (Cu not):=⟨_,L2.yf,zL not⟩
theorem vM:Dc X (.builtin "len") DJ:=⟨_,L2.um,fun J H xs vs Q2 Q rs r ⟨a,kvs,ep,ex,ja,q⟩ k=>by
 subst ex;obtain ⟨v,us,rfl,rv,e⟩:=rs;cases e;cases rv
 obtain ⟨gs,h1,h2⟩:=r _ _ ja
 exact ⟨a,gs,ep,rfl,h1,by rw [← (df h2).len];exact k (.int _) J _ H rfl r .refl q⟩⟩
theorem kS {K:PySem.W.Frag} {J:Hq} {H:Hp}:∀ {ks:List Str},aJ K J H (ks.map PV.str) (ks.map V.str)
 | []=>rfl
 | k :: ks=>⟨_,_,rfl,rfl,kS (ks:=ks)⟩
theorem mn (hc:X.calm=true):Dc X (.type "list") Aw:=⟨_,L2.rF hc,fun J H xs vs Q2 Q rs r ⟨a,kvs,ep,ex,ja,q⟩ k=>by
 subst ex;obtain ⟨v,us,rfl,rv,e⟩:=rs;cases e;cases rv
 obtain ⟨gs,h1,h2⟩:=r _ _ ja
 refine ⟨a,gs,ep,rfl,h1,fun p hp=>?_⟩
 have hk:aJ X.K J H (kvs.map fun kv=>PV.str kv.1) (gs.map fun kv=>V.str kv.1):=by
  have:=(df h2).keys
  rw [show (kvs.map fun kv=>PV.str kv.1)=(kvs.map (·.1)).map PV.str by rw [List.map_map];rfl,show (gs.map fun kv=>V.str kv.1)=(gs.map (·.1)).map V.str by rw [List.map_map];rfl,this]
  exact kS
 obtain ⟨x1,x2,x3⟩:=uM r hk hp
 exact k _ J _ _ x1 x2 x3 q⟩
theorem wm:D7 X "dict" "dict.pop" DL:=⟨_,L2.BV,fun J H x xs v vs Q2 Q rx rs r ⟨a,kvs,ep,k,z,ex,exs,ja,hz,q⟩ kn=>by
 subst ex exs;cases rx
 obtain ⟨u,us,rfl,ru,e⟩:=rs;cases e;cases ru
 obtain ⟨gs,h1,h2⟩:=r _ _ ja
 have pk:=df h2
 obtain ⟨y,hy,ry⟩:=(pk.va k).1 z hz
 refine ⟨a,gs,ep,k,y,rfl,rfl,h1,hy,fun ep'=>?_⟩
 have e2:=Ext.iu (K:=X.K) (kvs':=xC kvs k) (gs':=xC gs k) (ep':=ep') ja h1
 exact kn z _ y _ (e2.rep ry) (r.iu ja h1 (pk.dr k)) e2 (q ep')⟩
theorem kj:ID X DM:=⟨_,L2.Fu,fun J H o i y ov iv u R2 R ro ri ry r ⟨a,kvs,ep,k,eo,ei,ja,hl,q⟩ kk=>by
 subst eo ei;cases ro;cases ri
 obtain ⟨gs,h1,h2⟩:=r _ _ ja
 have pk:=df h2
 refine ⟨a,gs,ep,k,rfl,rfl,h1,by rw [← pk.len];exact hl,fun ep'=>?_⟩
 exact kk _ _ (r.iu ja h1 (pk.pu ry)) (Ext.iu (K:=X.K) ja h1) (q ep')⟩
theorem qz {pos:Pos}:RE X G (.Dict [] [] pos) DQ:=⟨i7 L2.Ce fun σ H Q ⟨τ,J,Q2,a2,q,k⟩ p hp ep=>k (.ref p) _ _ _ rfl (a2.hp.Dm hp) (.laid hp) (q p (a2.hp.free hp) ep)⟩
theorem lV {tg l:Expr} {tl:cQ} (hl:RE X G l tl):RI X G tg l (Kg tl):=⟨G4 (L2.Cg hl.run) fun σ H R ⟨τ,J,R2,a2,h,k⟩=>⟨τ,J,_,a2,h,fun x J1 v H1 rx r1 e1 ⟨a,kvs,ep,ex,ja,q⟩=>by
 subst ex;cases rx
 obtain ⟨gs,h1,h2⟩:=r1 _ _ ja
 have pk:=df h2
 have hl':=pk.len
 refine ⟨a,gs,ep,rfl,h1,k _ J1 _ H1 ?_ r1 e1 q⟩
 have hks:=pk.keys
 have key:∀ J' H',Rep X.K J' H'→J' a=some (.dct kvs ep)→∃ gs',H' a=some (.dE gs' ep)∧gs'.map (·.1)=gs.map (·.1):=fun J' H' r o=>by
  obtain ⟨gs',h1',h2'⟩:=r _ _ o
  exact ⟨gs',h1',by rw [← (df h2').keys,hks]⟩
 exact {
  go:=fun J' H' e r o i hi=>⟨key J' H' r o,by rw [List.length_map] at hi ⊢;omega⟩
  yl:=fun J' H' e r o i hi v H2 y=>by
   obtain ⟨rfl,k,hk,rfl⟩:=y
   rw [← hks,List.getElem?_map] at hk
   obtain ⟨kv,hkv,rfl⟩:=Option.map_eq_some_iff.mp hk
   exact ⟨.str kv.1,by rw [List.getElem?_map,hkv];rfl,rfl,r,.refl⟩
  stop:=fun J' H' e r o=>⟨key J' H' r o,by rw [List.length_map,List.length_map];omega⟩ }⟩⟩
def JC (wi:nQ) (ks:List (Str × Nat)) (tc:jk) (tk te:cQ):cQ:=fun τ J Q=>wi τ J fun it J1=>∀ D,J1 D=none→∀ ep,∃ W:Nat→Hq→Prop,W 0 (put J1 D (.dct [] ep))∧(∀ i J2,W i J2→it.ok J2) ∧
 (∀ i x J2,it.xs[i]?=some x→W i J2→tc (some x :: lH ks τ) J2 fun b J3=>if b=true then tk (some x :: lH ks τ) J3 fun y J4=>te (some x :: lH ks τ) J4 fun z J5 =>
  ∃ kvs ep k,y=.str k∧J5 D=some (.dct kvs ep)∧kvs.length < sizeLine∧∀ ep',W (i + 1) (put J5 D (.dct (qo kvs k z) ep')) else W (i + 1) J3)∧∀ J2,W it.xs.length J2→Q (.ref D) J2
theorem Bu {wi:nQ} {ks:List (Str × Nat)} {tc:jk} {tk te:cQ}:∀ σ H Q,LE X.K G (JC wi ks tc tk te) σ H Q→KH (LI X.K G wi) ks (LT X.K G tc) (LE X.K G tk) (LE X.K G te) σ H Q:=fun σ H Q ⟨τ,J,Q2,a2,h,k⟩ =>
 ⟨τ,J,_,a2,h,fun it J1 I H1 ir r1 e1 w D hD ep=>by
  obtain ⟨W,w0,wok,step,fin⟩:=w D (r1.free hD) ep
  refine ⟨fun i m H2=>m=it.xs.length - i∧i≤it.xs.length∧∃ J2,Rep X.K J2 H2∧Ext X.K J1 H1 J2 H2∧W i J2,⟨_,rfl,Nat.zero_le _,_,r1.Dm hD,.laid hD,w0⟩,?_⟩
  rintro i m H2 ⟨rfl,hi,J2,r2,e2,w2⟩
  by_cases hlt:i < it.xs.length
  ·refine .inr ⟨ir.go J2 H2 e2 r2 (wok i J2 w2) i hlt,fun v H3 y=>?_⟩
   obtain ⟨x,ex,rx,r3,e3⟩:=ir.yl J2 H2 e2 r2 (wok i J2 w2) i hlt v H3 y
   have a3:rd X.K G (some x :: lH ks τ) J2 (some v :: cP ks σ) H3:=⟨wK (a2.sl.ext ((e1.trans e2).trans e3)) rx ks,r3,((a2.ext.trans e1).trans e2).trans e3⟩
   refine ⟨_,_,_,a3,step i x J2 ex w2,fun b J4 H4 r4 e4 q=>?_⟩
   cases b with
   | false =>
    simp only [Bool.false_eq_true,if_false] at q ⊢
    exact ⟨_,by omega,rfl,hlt,J4,r4,(e2.trans e3).trans e4,q⟩
   | true =>
    simp only [if_true] at q ⊢
    refine ⟨_,_,_,a3.go r4 e4,q,fun yk J5 u H5 rk r5 e5 q5=>?_⟩
    refine ⟨_,_,_,(a3.go r4 e4).go r5 e5,q5,fun z J6 vz H6 rz r6 e6 ⟨kvs,ep2,kk,ek,jD,hl,q6⟩=>?_⟩
    subst ek
    cases rk
    obtain ⟨gs,h1,h2⟩:=r6 _ _ jD
    have pk:=df h2
    refine ⟨gs,ep2,kk,rfl,h1,by rw [← pk.len];exact hl,it.xs.length - (i + 1),by omega,fun ep'=>⟨rfl,hlt,_,r6.iu jD h1 (pk.pu rz),?_,q6 ep'⟩⟩
    exact ((((e2.trans e3).trans e4).trans e5).trans e6).trans (Ext.iu (K:=X.K) jD h1)
  ·have ei:i=it.xs.length:=by omega
   subst ei
   exact .inl ⟨ir.stop J2 H2 e2 r2 (wok _ J2 w2),k (.ref D) J2 _ H2 rfl r2 (e1.trans e2) (fin J2 w2)⟩⟩
theorem Jv {X:Cx} {ifs:List Expr} {t t':TT} (h:FY X ifs t) (k:∀ σ H Q,t' σ H Q→t σ H Q):FY X ifs t':=fun pins s σ H Q I q=>h pins s σ H Q I (k _ _ _ q)
variable {kx vx iter cnd:Expr} {x y:Str} {px py:Pos} {sc:Scope} {pos spos:Pos} {wi:nQ} {tk te:cQ} {tc:jk} {i:Nat}
theorem HA (osc:Scope) (N:List Str) (ks:List (Str × Nat)) (hc:X.calm=true) (ho:X.env.scope=osc) (hN:X.N=N) (hi:RI X G (.Name x px) iter wi) (hk:∀ cl C s₀ H₀ fp pins,RE (dT X sc cl C x ks s₀ H₀ fp pins) G kx tk) (he:∀ cl C s₀ H₀ fp pins,RE (dT X sc cl C x ks s₀ H₀ fp pins) G vx te)
  (ok:cb sc osc N x ks:=by decide +kernel) (hs:∀ x,foldedSetIterable iter X.env x=pure x:=by intro _;rfl):RE X G (.DictComp kx vx [⟨.Name x px,iter,[],0⟩] sc pos) (JC wi ks s_ tk te) :=
 ⟨i7 (G1 osc N ks hc ho hN hi.run (fun cl C s₀ H₀ fp pins=>(hk cl C s₀ H₀ fp pins).run) (fun cl C s₀ H₀ fp pins=>(he cl C s₀ H₀ fp pins).run) (fun cl C s₀ H₀ fp pins=>Jv Cp fun σ H Q ⟨τ,J,Q2,a2,q,k⟩=>k true J H a2.hp .refl q) ok hs) Bu⟩
end
def vp (tabs:List Addr):b9:=fun xs J Q _=>∃ ns:List Int,xs=[.fl (ns.map .int)]∧ns.length≤63∧(∀ T∈tabs,J T=some .tab)∧(∀ a,a ∉ tabs→J a=none)∧∀ J',(∀ T∈tabs,J' T=some .tab)→Q (.bl true) J'
def AQ (tabs:List Addr) (K:PySem.W.Frag):Sp:=fun vs H Q _=>∃ (a:Addr) (ns:List Int),vs=[.ref a]∧cD K H a (ns.map V.int)∧ns.length≤63∧(∀ T∈tabs,H T=some (.ext (dC T))) ∧
 (∀ b,H b≠none→b=a∨b∈tabs)∧(∀ u,H a=some u→∃ o xs,u=.my o (.lst xs))∧∀ H',ba H H'→Q (.bl true) H'
theorem xO {P:Program} {w:World} {K:PySem.W.Frag} {mg:Str→Option Value} {base:Heap} {k:Nat} {f:Addr} {fd:FuncData} {ps:List Str} {tabs:List Addr} (F:aH P w K mg base (cF P w) k f fd ps (c8 K (vp tabs))) :
  aH P w K mg base L2.ma k f fd ps (AQ tabs K) :=
 F.H_.imp fun vs H Q E ⟨a,ns,e,hS,hl,hT,hA,hK,q⟩=>by
  subst e
  classical
  have na:∀ u,H a=some u→a ∉ tabs:=fun u hu hm=>by
   obtain ⟨o,xs,rfl⟩:=hK u hu
   rw [hT a hm] at hu;cases hu
  refine ⟨[.fl (ns.map .int)],fun b=>if b∈tabs then some .tab else none,fun x J'=>x=.bl true∧∀ T∈tabs,J' T=some .tab,fun _ _=>False,⟨.ref a,[],rfl,⟨a,ns.map V.int,rfl,?_,kR ns⟩,rfl⟩,?_,⟨ns,rfl,hl,fun T hT=>if_pos hT,fun b hb=>if_neg hb,fun J' h=>⟨rfl,h⟩⟩,?_,?_⟩
  ·rcases hS with h | h
   ·refine .inl ⟨?_,h⟩
    have:a ∉ tabs:=by
     rcases h with h | ⟨o,h⟩
     ·exact na _ h
     ·exact na _ h
    exact if_neg this
   ·exact .inr h
  ·intro b o z
   by_cases hb:b∈tabs
   ·have z':=(if_pos hb).symm.trans z
    cases z'
    exact hT b hb
   ·have z':=(if_neg hb).symm.trans z
    cases z'
  ·rintro z J' u H' rz rr ee ⟨rfl,ht⟩
   cases rz
   refine q H' fun b o hb=>?_
   rcases hA b (by rw [hb];simp) with rfl | hm
   ·obtain ⟨ob,xs,rfl⟩:=hK o hb
    exact (ee.ll b _ (if_neg (na _ hb)) hb (.inr ⟨_,_,rfl⟩)).2
   ·have:=hT b hm
    rw [hb] at this;cases this
    exact rr b _ (ht b hm)
  ·intro _ _ _ _ _ z;exact z.elim
end Ov
namespace L2
open PySem PySem.Spec PyProof.Rows
def IT (k:Str):Value→Bool
 | .str y _=>y.cps.toList == k.cps.toList
 | _=>false
theorem yD {ss:List Str} {us:List Value} (r:Vals (ss.map V.str) us):us.length=ss.length∧∀ (j:Nat) (u:Value),us[j]?=some u→∃ y t,ss[j]?=some y∧u=.str y t:=by
 induction ss generalizing us with
 | nil=>cases r;exact ⟨rfl,fun j u e=>by simp at e⟩
 | cons y ss ih =>
  rw [List.map_cons] at r
  cases r with
  | cons ru rr =>
   obtain ⟨t,rfl⟩:=ru
   obtain ⟨h1,h2⟩:=ih rr
   refine ⟨by simp [h1],fun j u e=>?_⟩
   cases j with
   | zero=>cases e;exact ⟨y,t,rfl,rfl⟩
   | succ j=>exact h2 j u (by simpa using e)
theorem oT {α β:Type} (f:α→β):∀ (l:List α) (j:Nat),(l.eraseIdx j).map f=(l.map f).eraseIdx j
 | [],_=>rfl
 | _ :: _,0=>rfl
 | x :: l,j + 1=>by simp only [List.eraseIdx_cons_succ,List.map_cons,oT f l j]
section
variable {X:Cx}
def Az:V→List V→Hp→VK→Prop:=fun x vs H Q=>∃ (l:Addr) (ss:List Str) (k:Str) (j:Nat),x=.ref l∧vs=[.str k]∧H l=some (.lst (ss.map V.str))∧ss[j]?=some k∧(∀ m:Nat,m < j→ss[m]?≠some k)∧Q .non (upd H l (.lst ((ss.eraseIdx j).map V.str)))
theorem uL:mf X "list.remove" Az:=by
 intro pins s σ H x vs v us Q I rx rv h
 obtain ⟨l,ss,k,j,rfl,rfl,hH,hj,hno,q⟩:=h
 cases rx
 obtain ⟨u,rfl,ru⟩:=rv.one
 obtain ⟨t,rfl⟩:=ru
 obtain ⟨z,its,n,r,hl,e⟩:=I.BO hH
 obtain ⟨h1,h2⟩:=yD r
 obtain ⟨hjl,hje⟩:=List.getElem?_eq_some_iff.mp hj
 have hz:ss.length≤sizeLine:=by simpa using z
 have at_:∀ (m:Nat) (hm:m < its.toArray.size),IT k its.toArray[m]=decide (ss[m]?=some k):=fun m hm=>by
  obtain ⟨y,t',hy,hu⟩:=h2 m its[m] (List.getElem?_eq_getElem (by simpa using hm))
  show IT k its[m]=_
  rw [hu,hy]
  show (y.cps.toList == k.cps.toList)=_
  by_cases hk:y=k
  ·subst hk;simp
  ·have:(y.cps.toList == k.cps.toList)=false:=by
    rw [beq_eq_false_iff_ne]
    intro z
    exact hk (by cases y;cases k;simp at z;rw [z])
   rw [this];symm;exact decide_eq_false fun z=>hk (Option.some.inj z)
 refine call_meets PySem.F.slot_list_remove ⟨_,e,rfl⟩ PySem.F.entry_list_remove (PySem.F.args_list_remove_2 _ _)
  (MeetsSeq.list_remove l its.toArray n (.str k t) (IT k) (fun y hy=>?_) j (by simpa using (show j < its.length by omega)) ?_ (fun m hm hlt=>?_) (by rw [List.size_toArray];omega)) ⟨e,?_⟩
 ·obtain ⟨m,hm⟩:=List.mem_iff_getElem?.mp (show y∈its by simpa using hy)
  obtain ⟨y',t',_,rfl⟩:=h2 m y hm
  exact SeqRoads2.EqGives.str _ _ _ _
 ·rw [at_];exact decide_eq_true hj
 ·rw [at_];exact decide_eq_false (hno m hlt)
 ·refine ⟨.non,_,I.BN (its':=its.eraseIdx j) hH e (by rw [List.eraseIdxIfInBounds_toArray]) ?_ ?_,rfl,q⟩
  ·rw [oT];exact r.eraseIdx j
  ·rw [List.length_map];exact Nat.le_trans (List.length_eraseIdx_le _ _) hz
end
end L2
namespace Ov
open PySem PySem.Spec PyProof.Rows
open L2 (V HO Hp Inv Cx VK XK TE TT TA TS TG mi TI TO i5 Ends rq Loc Gl Rd RelV Vals eu t8 bP md oJ mf i4 R2 upd aB aK cD fQ Sp nM It ba cU bE Passes lI az Meth Mk Binds aH bQ aw c5 ft dY)
section
variable {X:Cx} {G:G2}
def E_:yG:=fun x xs J Q=>∃ (a:Addr) (ss:List Str) (k:Str) (j:Nat),x=.ref a∧xs=[.str k]∧J a=some (.lst (ss.map .str))∧ss[j]?=some k∧(∀ m:Nat,m < j→ss[m]?≠some k)∧Q (.int (j:Nat)) J
def wD:yG:=fun x xs J Q=>∃ (a:Addr) (ss:List Str) (k:Str) (j:Nat),x=.ref a∧xs=[.str k]∧J a=some (.lst (ss.map .str))∧ss[j]?=some k∧(∀ m:Nat,m < j→ss[m]?≠some k)∧Q .non (put J a (.lst ((ss.eraseIdx j).map .str)))
theorem xV:D7 X "list" "list.remove" wD:=⟨_,L2.uL,fun J H x xs v vs Q2 Q rx rs r ⟨a,ss,k,j,ex,exs,ja,hj,hno,q⟩ kn=>by
 subst ex exs;cases rx
 obtain ⟨w,us,rfl,rw',e⟩:=rs;cases e;cases rw'
 obtain ⟨ws,h1,h2⟩:=r _ _ ja
 cases gE h2
 exact ⟨a,ss,k,j,rfl,rfl,h1,hj,hno,kn .non _ _ _ rfl (r.wrote (ys:=(ss.eraseIdx j).map .str) ja h1 kS) (.wrote ja h1) q⟩⟩
variable {a b c:Expr} {ta tb tc:cQ} {pos:Pos}
def qy (q q':jH) (ta tb tc:cQ):cQ:=fun τ J Q=>ta τ J fun x J1=>tb τ J1 fun y J2=>q x y J2 fun z J3=>∃ k,z=.bl k∧(if k=true then tc τ J3 fun w J4=>q' y w J4 Q else Q (.bl false) J3)
theorem uo {r r':R2} {q q':jH} (lr:LR X.K r q) (lr':LR X.K r' q'):∀ σ H Q,LE X.K G (qy q q' ta tb tc) σ H Q→L2.A6 r r' (LE X.K G ta) (LE X.K G tb) (LE X.K G tc) σ H Q:=fun σ H Q ⟨τ,J,Q2,a2,hh,k⟩=>⟨τ,J,_,a2,hh,fun x J1 v H1 rx r1 e1 q1=>⟨τ,J1,_,a2.go r1 e1,q1,fun y J2 w H2 ry r2 e2 q2 =>
  lr J2 H2 x y v w _ _ (e2.rep rx) ry r2 q2 fun z J3 u H3 rz r3 e3 ⟨kk,ez,q3⟩=>by
   subst ez;cases rz
   refine ⟨kk,rfl,?_⟩
   cases kk with
   | false=>simp only [Bool.false_eq_true,if_false] at q3 ⊢;exact k (.bl false) J3 _ H3 rfl r3 ((e1.trans e2).trans e3) q3
   | true =>
    simp only [if_true] at q3 ⊢
    exact ⟨τ,J3,_,((a2.go r1 e1).go r2 e2).go r3 e3,q3,fun w2 J4 u4 H4 r4 rr4 e4 q4=>lr' J4 H4 y w2 w u4 Q2 Q ((e3.trans e4).rep ry) r4 rr4 q4 fun z' J' u' H' rz' rr' ee' qq=>k z' J' u' H' rz' rr' ((((e1.trans e2).trans e3).trans e4).trans ee') qq⟩⟩⟩
theorem AF {op op':CmpOp} {q q':jH} (ho:jG X (compareOp op) q) (ho':jG X (compareOp op') q') (ha:RE X G a ta) (hb:RE X G b tb) (hc:RE X G c tc) (hm:lastMarks [op,op'] [b,c]=false:=by with_unfolding_all rfl) :
  RE X G (.Compare a [op,op'] [b,c] pos) (qy q q' ta tb tc):=by
 obtain ⟨r,h,lr⟩:=ho
 obtain ⟨r',h',lr'⟩:=ho'
 exact ⟨i7 (L2.Ag h h' ha.run hb.run hc.run hm) (uo lr lr')⟩
end
end Ov
namespace L2
open PySem PySem.Spec PyProof.Rows
def JY (K:PySem.W.Frag) (a:Addr):It :=
 ⟨fun i H=>∃ xs x,cD K H a xs∧xs[i]?=some x,
  fun i H z H'=>∃ T x,H T=none∧z=.ref T∧H'=upd H T (.tup [.int (i:Nat),x])∧(∀ xs,cD K H a xs→xs[i]?=some x),
  fun i H=>∃ xs,cD K H a xs∧xs.length≤i⟩
theorem yz {P:Program} {w:World} {K:PySem.W.Frag} {elts:List Expr} {x1} {pos:Pos} {e it l:Addr} (ne:e≠it) :
  Turn P w K (.Tuple elts x1 pos) (JY K l) [e,it] e (fun i h=>(∃ old,IsEnum h e it (i:Int) old)∧h.IsListIter it l i) where
 mem:=by simp
 obj:=fun i h ⟨⟨old,he⟩,h1⟩ c hc=>by
  simp only [List.mem_cons,List.not_mem_nil,or_false] at hc
  rcases hc with rfl | rfl
  ·exact ⟨_,he,fun v z=>by cases z⟩
  ·obtain ⟨o,e,c,d⟩:=h1;exact ⟨o,e,fun v z=>by rw [d] at z;cases z⟩
 keep:=fun i h h' ⟨⟨old,he⟩,h1⟩ k=>⟨⟨old,k e (by simp) _ he⟩,h1.at fun o q=>k it (by simp) o q⟩
 item:=by
  intro X hP hw hK hc i pins s σ H E I hf st hg
  subst hP hw hK
  obtain ⟨⟨old,he⟩,h1⟩:=st
  obtain ⟨xs,x,hqx,hx⟩:=hg
  obtain ⟨its,rv,p,hzx⟩:=I.list hqx
  obtain ⟨u,hu,rx⟩:=rv.get hx
  refine wpAny_pyNext_enum_item he h1 p.isList (x:=u) (by simpa using hu) ne fun h' a1 a3 a5 a6 hk=>?_
  refine ⟨_,rfl,wpAny_letOwnedTupleGo_enum a1 fun h'' hz' hs'=>?_⟩
  have hT:H s.heap.objs.size=none:=I.hok.fresh (Nat.le_refl _)
  have lt:∀ {c o},s.heap.get? c=some o→c≠s.heap.objs.size:=fun e=>Nat.ne_of_lt (Heap.lt_size e)
  have I0:Inv X pins σ (upd H s.heap.objs.size (.tup [.int (i:Nat),x])) { s with heap:=s.heap.push { cls:=.type "tuple",data:=.seq #[.int i s.toks,u] },toks:=s.toks + 1 }:=I.laid (t':=s.toks + 1) (fun b u e=>Heap.get?_push_of_some _ e) (Nat.le_refl _) ⟨by simp [sizeLine],[.int i s.toks,u],.cons ⟨_,rfl⟩ (.cons rx .nil),⟨_,Heap.get?_push_size _ rfl,rfl,_,rfl⟩⟩
  have fpn:∀ b∈[e,it],b≠s.heap.objs.size:=fun b hb=>by
   simp only [List.mem_cons,List.not_mem_nil,or_false] at hb
   rcases hb with rfl | rfl
   ·exact lt he
   ·obtain ⟨o,e,_⟩:=h1;exact lt e
  have fpu:∀ b∈[e,it],gi X pins (upd H s.heap.objs.size (.tup [.int (i:Nat),x])) b:=fun b hb=>⟨by rw [aK (fpn b hb)];exact (hf b hb).1,(hf b hb).2⟩
  have I1:Inv X pins σ (upd H s.heap.objs.size (.tup [.int (i:Nat),x])) { s with heap:=h'',toks:=s.toks + 1 }:=Inv.l9 (s:={ s with heap:=s.heap.push { cls:=.type "tuple",data:=.seq #[.int i s.toks,u] },toks:=s.toks + 1 }) (t':=s.toks + 1) (ch:=[e,it]) I0 (fun b o hb eb=>by
   simp only [List.mem_cons,List.not_mem_nil,or_false,not_or] at hb
   rcases Heap.get?_push_cases eb with ⟨rfl,rfl⟩ | e'
   ·exact hs'.extBut _ _ hb.1 a5
   ·exact hs'.extBut _ _ hb.1 (hk b o hb.1 hb.2 e')) fpu
  refine ⟨.ref s.heap.objs.size,_,I1,rfl,⟨_,x,hT,rfl,rfl,fun zs hq=>by rw [I.g_ hq hqx];exact hx⟩,⟨⟨_,by rw [Int.natCast_add];exact hz'⟩,a3.extBut hs'.extBut (Ne.symm ne)⟩,fun b hb=>(fpu b hb).1⟩
 done:=by
  intro X hP hw hK hc i pins s σ H E I hf st hg
  subst hP hw hK
  obtain ⟨⟨old,he⟩,h1⟩:=st
  obtain ⟨xs,hqx,hl⟩:=hg
  obtain ⟨its,rv,p,hzx⟩:=I.list hqx
  have e1:=rv.length
  refine wpAny_pyNext_enum_end (I.ok.hd hc) he h1 p.isList (by rw [List.getElem?_toArray,List.getElem?_eq_none_iff];omega) fun h' hk=>⟨rfl,I.l9 (t':=s.toks) (ch:=[e,it]) (fun b o hb e=>?_) hf⟩
  simp only [List.mem_cons,List.not_mem_nil,or_false,not_or] at hb
  exact hk b o hb.2 e
 self:=fun _ _ _ _ _ st h=>let ⟨⟨_,he⟩,_⟩:=st;wpAny_pyIter_enum he h
def Gr (K:PySem.W.Frag) (ta:TA):TI:=fun σ H R=>ta σ H fun vs H1=>∃ a xs,vs=[.ref a]∧cD K H1 a xs∧R (JY K a) H1
section
variable {X:Cx}
theorem Ci {l:Expr} {elts:List Expr} {x1} {tp:Pos} {ta:TA} {p pos:Pos} (hg:Gl X "enumerate") (hm:X.mg "enumerate"=none) (ha:PA X [l] ta) (hs:starEach [l] X.env=(false,eval l X.env) :: starEach [] X.env:=by rfl) (hp:(backTo pos (starEach [] X.env)).any (·.1)=false:=by rfl):PI X (.Tuple elts x1 tp) (.Call (.Name "enumerate" p) [l] [] pos) (Gr X.K ta):=by
 intro pins s σ H R I h
 refine Call_ (jq I hg hm PyProof.Rows.Boot.«enumerate» (PyProof.Rows.callWith_type1 (bK (ha pos pins s σ H _ I h) fun us s1 ⟨vs,H1,I1,r1,q1⟩=>?_) hs hp))
 obtain ⟨a,xs,e,hqa,q⟩:=q1
 subst e
 cases r1 with
 | cons r rr =>
  cases rr
  cases r
  obtain ⟨its,rv,pl,hz⟩:=I1.list hqa
  refine call_enumerate_list pl.isList ?_
  intro h' b1 b2 b6 hk
  refine wpAny_pyIter_enum b1 ?_
  have ne:s1.heap.objs.size + 1≠s1.heap.objs.size:=Nat.succ_ne_self _
  refine ⟨_,_,_,_,H1,rfl,I1.kept (t':=s1.toks) hk,yz ne,⟨⟨_,b1⟩,b2⟩,fun c hc=>?_,q⟩
  have hc':s1.heap.objs.size≤c:=by
   simp only [List.mem_cons,List.not_mem_nil,or_false] at hc
   show @LE.le Nat _ _ _
   rcases hc with rfl | rfl
   ·exact Nat.le_add_right _ _
   ·exact Nat.le_refl _
  exact I1.zd hc' (I1.hok.fresh hc')
end
end L2
namespace Ov
open PySem PySem.Spec PyProof.Rows
open L2 (V HO Hp Inv Cx VK XK TE TT TA TS TG mi TI TO i5 Ends rq Loc Gl Rd RelV Vals eu t8 bP md oJ mf i4 R2 upd aB aK cD fQ Sp nM It ba cU bE Passes lI az Meth Mk Binds aH bQ aw c5 ft dY)
def rM (xs:List PV):List PV:=(List.range xs.length).zipWith (fun i x=>PV.tup [.int ((i:Nat):Int),x]) xs
theorem iE (xs:List PV):(rM xs).length=xs.length:=by unfold rM;simp
theorem oS (xs:List PV) (i:Nat) (x:PV) (h:xs[i]?=some x):(rM xs)[i]?=some (.tup [.int (i:Int),x]):=by
 unfold rM
 obtain ⟨hi,e⟩:=List.getElem?_eq_some_iff.mp h
 rw [List.getElem?_zipWith,List.getElem?_range hi,h]
section
variable {X:Cx} {G:G2}
def Kh (ta:k8):nQ:=fun τ J R=>ta τ J fun vs J1=>∃ x xs,vs=[x]∧jF J1 x=some xs∧R ⟨rM xs,fun J'=>jF J' x=some xs⟩ J1
theorem CF {l:Expr} {elts:List Expr} {x1} {tp:Pos} {ta:k8} {p pos:Pos} (hg:Gl X "enumerate") (hm:X.mg "enumerate"=none) (ha:RA X G [l] ta) (hs:starEach [l] X.env=(false,eval l X.env) :: starEach [] X.env:=by rfl) (hp:(backTo pos (starEach [] X.env)).any (·.1)=false:=by rfl) :
  RI X G (.Tuple elts x1 tp) (.Call (.Name "enumerate" p) [l] [] pos) (Kh ta):=⟨G4 (L2.Ci hg hm ha.run hs hp) fun σ H R ⟨τ,J,R2,a2,h,k⟩=>⟨τ,J,_,a2,h,fun vs J1 us H1 rs r1 e1 ⟨x,xs,ev,hx,q⟩=>by
 subst ev
 obtain ⟨v,us',rfl,rv,e'⟩:=rs
 cases e'
 obtain ⟨a,ws,rfl,h1,h2⟩:=kH hx rv r1
 refine ⟨a,ws,rfl,h1,k _ J1 _ H1 ?_ r1 e1 q⟩
 have at_:∀ J' H',Ext X.K J1 H1 J' H'→Rep X.K J' H'→jF J' x=some xs→∃ vs,cD X.K H' a vs∧aJ X.K J' H' xs vs:=fun J' H' e r o=>by
  obtain ⟨c,vs,eb,g1,g2⟩:=kH o (e.rep rv) r
  cases eb
  exact ⟨vs,g1,g2⟩
 exact {
  go:=fun J' H' e r o i hi=>by
   obtain ⟨vs,s,rs⟩:=at_ J' H' e r o
   rw [iE] at hi
   exact ⟨vs,vs[i]'(by rw [← rs.length];exact hi),s,by simp⟩
  yl:=fun J' H' e r o i hi v H2 y=>by
   obtain ⟨vs,s,rs⟩:=at_ J' H' e r o
   obtain ⟨T,z,hT,rfl,rfl,y1⟩:=y
   obtain ⟨c,ec,rc⟩:=rs.get' (y1 vs s)
   have sm:=ba.new hT (.tup [.int (i:Nat),z])
   have e2:=Ext.same (K:=X.K) (J:=J') sm
   refine ⟨.tup [.int (i:Int),c],oS _ _ _ ec,⟨T,[.int (i:Nat),z],rfl,.inl (.inl aB),e2.gC ⟨.int (i:Nat),_,rfl,rfl,z,_,rfl,rc,rfl⟩⟩,r.same sm,e2⟩
  stop:=fun J' H' e r o=>by
   obtain ⟨vs,s,rs⟩:=at_ J' H' e r o
   exact ⟨vs,s,by rw [iE,← rs.length];exact Nat.le_refl _⟩ }⟩⟩
end
section
variable {X:Cx} {pins:List (Addr × Obj)} {σ:L2.St} {H:Hp} {s:Shared}
open Classical in
def eT (K:PySem.W.Frag) (H:Hp) (zs:List Py) (y:Py) (u:Value):Bool:=decide (∃ z∈zs,∃ v,RelV v u∧At K H z v∧iF z y=true)
end
section
variable {X:Cx} {G:G2}
end
end Ov
namespace Ov
open PySem
structure aA where
 m:Rat
 h:Str
 f:Str
 deriving DecidableEq
def slt (a b:Str):Prop:=a.cps.toList < b.cps.toList
instance (a b:Str):Decidable (slt a b):=inferInstanceAs (Decidable (a.cps.toList < b.cps.toList))
def aA.lt (a b:aA):Bool:=if a.m=b.m then (if a.h=b.h then decide (slt a.f b.f) else decide (slt a.h b.h)) else decide (a.m < b.m)
theorem kb (a:Str):¬ slt a a:=List.lt_irrefl _
theorem kY {a b c:Str} (h:slt a b) (k:slt b c):slt a c:=List.lt_trans h k
theorem zQ:∀ (a b:List Nat),a≠b→a < b∨b < a
 | [],[],h=>absurd rfl h
 | [],_ :: _,_=>.inl (List.nil_lt_cons _ _)
 | _ :: _,[],_=>.inr (List.nil_lt_cons _ _)
 | x :: a,y :: b,h=>by
  rcases Nat.lt_trichotomy x y with z | z | z
  ·exact .inl (List.cons_lt_cons_iff.mpr (.inl z))
  ·subst z
   rcases zQ a b (fun e=>h (by rw [e])) with q | q
   ·exact .inl (List.cons_lt_cons_iff.mpr (.inr ⟨rfl,q⟩))
   ·exact .inr (List.cons_lt_cons_iff.mpr (.inr ⟨rfl,q⟩))
  ·exact .inr (List.cons_lt_cons_iff.mpr (.inl z))
theorem qS {a b:Str} (h:a≠b):slt a b∨slt b a:=by
 have ne:a.cps.toList≠b.cps.toList:=fun e=>h (by cases a;cases b;simp at e;rw [e])
 exact zQ _ _ ne
theorem Fw {a b:Str} (h:slt a b):a≠b:=fun e=>by subst e;exact kb _ h
theorem aA.lt_iff (a b:aA):a.lt b=true↔a.m < b.m∨(a.m=b.m∧(slt a.h b.h∨(a.h=b.h∧slt a.f b.f))):=by
 unfold aA.lt
 by_cases e:a.m=b.m
 ·rw [if_pos e]
  have n:¬ a.m < b.m:=by rw [e];exact Rat.lt_irrefl
  by_cases k:a.h=b.h
  ·rw [if_pos k]
   have n2:¬ slt a.h b.h:=fun z=>Fw z k
   simp [e,k,n,n2]
   try (intro z;first | exact absurd z Rat.lt_irrefl | exact absurd z (kb _))
  ·rw [if_neg k]
   simp [e,k]
   try (intro z;exact absurd z Rat.lt_irrefl)
 ·rw [if_neg e]
  simp [e]
theorem aA.EJ (a:aA):a.lt a=false:=by
 cases h:a.lt a with
 | false=>rfl
 | true =>
  rcases (aA.lt_iff a a).mp h with h | ⟨_,h | ⟨_,h⟩⟩
  ·exact absurd h Rat.lt_irrefl
  ·exact absurd h (kb _)
  ·exact absurd h (kb _)
theorem pf {a b c:Rat} (h:a < b) (k:b < c):a < c:=by grind
theorem aA.lt_trans {a b c:aA} (h:a.lt b=true) (k:b.lt c=true):a.lt c=true:=by
 rw [aA.lt_iff] at *
 rcases h with h | ⟨e,h⟩ <;> rcases k with k | ⟨e',k⟩
 ·exact .inl (pf h k)
 ·exact .inl (e' ▸ h)
 ·exact .inl (e ▸ k)
 ·refine .inr ⟨e.trans e',?_⟩
  rcases h with h | ⟨z,h⟩ <;> rcases k with k | ⟨z',k⟩
  ·exact .inl (kY h k)
  ·exact .inl (z' ▸ h)
  ·exact .inl (z ▸ k)
  ·exact .inr ⟨z.trans z',kY h k⟩
theorem aA.zN {a b:aA} (h:a≠b):a.lt b=true∨b.lt a=true:=by
 rw [aA.lt_iff,aA.lt_iff]
 by_cases e:a.m=b.m
 ·by_cases z:a.h=b.h
  ·have:a.f≠b.f:=fun q=>h (by cases a;cases b;simp_all)
   rcases qS this with q | q
   ·exact .inl (.inr ⟨e,.inr ⟨z,q⟩⟩)
   ·exact .inr (.inr ⟨e.symm,.inr ⟨z.symm,q⟩⟩)
  ·rcases qS z with q | q
   ·exact .inl (.inr ⟨e,.inl q⟩)
   ·exact .inr (.inr ⟨e.symm,.inl q⟩)
 ·rcases (by grind:a.m < b.m∨b.m < a.m) with q | q
  ·exact .inl (.inl q)
  ·exact .inr (.inl q)
def gj (l:List aA):Prop:=l.Pairwise fun a b=>a.lt b=true
def gU (b:aA) (l:List aA):List aA:=l.filter (fun x=>x.lt b) ++ b :: l.filter (fun x=>!x.lt b)
def ph (h f:Str) (x:aA):Bool:=decide (x.h=h∧x.f=f)
def cx (h f:Str) (l:List aA):List aA:=l.filter fun x=>!ph h f x
theorem oR {h f:Str} {l:List aA} (s:gj l):gj (cx h f l):=s.filter _
theorem rV {b:aA} {l:List aA} (s:gj l) (n:∀ x∈l,x≠b):gj (gU b l):=by
 unfold gU gj
 rw [List.pairwise_append]
 refine ⟨s.filter _,?_,?_⟩
 ·rw [List.pairwise_cons]
  refine ⟨fun y hy=>?_,s.filter _⟩
  rw [List.mem_filter] at hy
  rcases aA.zN (n y hy.1) with q | q
  ·simp [q] at hy
  ·exact q
 ·intro x hx y hy
  rw [List.mem_filter] at hx
  rcases List.mem_cons.mp hy with rfl | hy
  ·exact hx.2
  ·rw [List.mem_filter] at hy
   rcases aA.zN (n y hy.1) with q | q
   ·simp [q] at hy
   ·exact aA.lt_trans hx.2 q
theorem By {h f:Str} {l:List aA} {m:Rat}:∀ x∈cx h f l,x≠⟨m,h,f⟩:=fun x hx e=>by
 subst e
 unfold cx at hx
 rw [List.mem_filter] at hx
 simp [ph] at hx
theorem o9 (p:aA→Bool):∀ {l:List aA} {i:Nat},i≤l.length→(∀ (j:Nat) x,j < i→l[j]?=some x→p x=true)→(∀ (j:Nat) x,i≤j→l[j]?=some x→p x=false)→l.take i ++ l.drop i=l∧l.filter p=l.take i∧l.filter (fun x=>!p x)=l.drop i
 | l,0,_,_,h=>by
  refine ⟨by simp,?_,?_⟩
  ·rw [List.take_zero]
   apply List.filter_eq_nil_iff.mpr
   intro x hx
   obtain ⟨j,hj⟩:=List.mem_iff_getElem?.mp hx
   rw [h j x (Nat.zero_le _) hj];simp
  ·rw [List.drop_zero]
   apply List.filter_eq_self.mpr
   intro x hx
   obtain ⟨j,hj⟩:=List.mem_iff_getElem?.mp hx
   rw [h j x (Nat.zero_le _) hj];rfl
 | [],i + 1,hi,_,_=>by simp at hi
 | x :: l,i + 1,hi,h1,h2=>by
  obtain ⟨a,b,c⟩:=o9 p (l:=l) (i:=i) (by simpa using hi) (fun j y hj e=>h1 (j + 1) y (by omega) (by simpa using e)) (fun j y hj e=>h2 (j + 1) y (by omega) (by simpa using e))
  have hx:p x=true:=h1 0 x (by omega) rfl
  refine ⟨by simp,?_,?_⟩
  ·rw [List.filter_cons,hx];simp [b]
  ·rw [List.filter_cons,hx];simp [c]
theorem v9 {b:aA} {l:List aA} {i:Nat} (hi:i≤l.length) (h1:∀ (j:Nat) x,j < i→l[j]?=some x→x.lt b=true) (h2:∀ (j:Nat) x,i≤j→l[j]?=some x→x.lt b=false):l.take i ++ b :: l.drop i=gU b l:=by
 obtain ⟨_,e1,e2⟩:=o9 (fun x=>x.lt b) hi h1 h2
 unfold gU
 rw [e1,e2]
theorem xa {l:List aA} {b x y:aA} {i j:Nat} (s:gj l) (hx:l[i]?=some x) (hy:l[j]?=some y) (h:j≤i) (k:x.lt b=true):y.lt b=true:=by
 rcases Nat.lt_or_eq_of_le h with h | h
 ·obtain ⟨hi,ei⟩:=List.getElem?_eq_some_iff.mp hx
  obtain ⟨hj,ej⟩:=List.getElem?_eq_some_iff.mp hy
  have:=List.pairwise_iff_getElem.mp s j i hj hi h
  rw [ei,ej] at this
  exact aA.lt_trans this k
 ·subst h;rw [hx] at hy;cases hy;exact k
theorem tX {l:List aA} {b x y:aA} {i j:Nat} (s:gj l) (hx:l[i]?=some x) (hy:l[j]?=some y) (h:i≤j) (k:x.lt b=false):y.lt b=false:=by
 cases q:y.lt b with
 | false=>rfl
 | true=>rw [xa s hy hx h q] at k;cases k
theorem zl {b x:aA} {l:List aA} (h:x∈gU b l):x=b∨x∈l:=by
 unfold gU at h
 rcases List.mem_append.mp h with h | h
 ·exact .inr (List.mem_filter.mp h).1
 ·rcases List.mem_cons.mp h with h | h
  ·exact .inl h
  ·exact .inr (List.mem_filter.mp h).1
theorem jM (p:aA→Bool):∀ l:List aA,(l.filter p).length + (l.filter fun x=>!p x).length=l.length
 | []=>rfl
 | x :: l=>by
  have:=jM p l
  cases h:p x <;> simp [h] <;> omega
theorem rT (b:aA) (l:List aA):(gU b l).length=l.length + 1:=by
 unfold gU
 rw [List.length_append,List.length_cons]
 have:=jM (fun x=>x.lt b) l
 omega
theorem kA (h f:Str) (l:List aA):(cx h f l).length≤l.length:=List.length_filter_le _ _
structure aS where
 m:Rat
 p:Rat
 v:Int
 deriving DecidableEq
def aS.at (l:aS) (t:Rat):Rat:=l.p + (t - l.m) * l.v
def turned (rows:List aS) (t:Rat) (v:Int):List aS :=
 match rows.getLast? with
 | none=>[]
 | some l =>
  let rest:=if l.m=t then rows.dropLast else rows
  if rest.getLast?.map aS.v=some v then rest else rest ++ [⟨t,l.at t,v⟩]
theorem fN (ls:List aS) (l:aS) (t:Rat) (v:Int):turned (ls ++ [l]) t v =
  if l.m=t then (if ls.getLast?.map aS.v=some v then ls else ls ++ [⟨t,l.at t,v⟩]) else (if l.v=v then ls ++ [l] else ls ++ [l] ++ [⟨t,l.at t,v⟩]):=by
 unfold turned
 simp only [List.getLast?_concat,List.dropLast_concat]
 split
 ·rfl
 ·simp only [List.getLast?_concat,Option.map_some,Option.some.injEq]
theorem pz {rows:List aS} {t:Rat} {v:Int} (h:rows≠[]):turned rows t v≠[]:=by
 obtain ⟨ls,l,rfl⟩:∃ ls l,rows=ls ++ [l]:=⟨rows.dropLast,rows.getLast h,(List.dropLast_concat_getLast h).symm⟩
 rw [fN]
 split
 ·split
  ·rename_i e
   intro z;subst z;cases e
  ·simp
 ·split <;> simp
theorem vD {rows:List aS} {t:Rat} {v:Int} {x:aS} (h:x∈turned rows t v):x∈rows∨∃ l∈rows,x=⟨t,l.at t,v⟩:=by
 by_cases e:rows=[]
 ·subst e;cases h
 obtain ⟨ls,l,rfl⟩:∃ ls l,rows=ls ++ [l]:=⟨rows.dropLast,rows.getLast e,(List.dropLast_concat_getLast e).symm⟩
 rw [fN] at h
 have key:∀ {y:List aS},(∀ z∈y,z∈ls ++ [l])→x∈y ++ [⟨t,l.at t,v⟩]→x∈ls ++ [l]∨∃ l'∈ls ++ [l],x=⟨t,l'.at t,v⟩:=fun hy hx=>by
  rcases List.mem_append.mp hx with h | h
  ·exact .inl (hy _ h)
  ·exact .inr ⟨l,by simp,by simpa using h⟩
 split at h
 ·split at h
  ·exact .inl (List.mem_append.mpr (.inl h))
  ·exact key (fun z hz=>List.mem_append.mpr (.inl hz)) h
 ·split at h
  ·exact .inl h
  ·exact key (fun z hz=>hz) h
theorem jC (rows:List aS) (t:Rat) (v:Int):(turned rows t v).length≤rows.length + 1:=by
 by_cases e:rows=[]
 ·subst e;simp [turned]
 obtain ⟨ls,l,rfl⟩:∃ ls l,rows=ls ++ [l]:=⟨rows.dropLast,rows.getLast e,(List.dropLast_concat_getLast e).symm⟩
 rw [fN]
 split <;> split <;> simp <;> omega
def r8 (rows:List aS) (t:Rat):Option aS:=(rows.filter fun l=>decide (l.m≤t)).getLast?
def lb (ms:List Rat) (t:Rat):Nat→Nat
 | 0=>0
 | k + 1=>if ms.getD k 0≤t then k + 1 else lb ms t k
theorem Dp (ms:List Rat) (t:Rat):∀ k,lb ms t k≤k
 | 0=>Nat.le_refl _
 | k + 1=>by unfold lb;split;exact Nat.le_refl _;exact Nat.le_succ_of_le (Dp ms t k)
theorem zD {ms:List Rat} {t:Rat} {j:Nat} (h:ms.getD j 0≤t):∀ {k},j < k→0 < lb ms t k
 | 0,hk=>absurd hk (Nat.not_lt_zero _)
 | k + 1,hk=>by
  unfold lb
  split
  ·exact Nat.succ_pos _
  ·rename_i c
   exact zD h (by rcases Nat.lt_succ_iff_lt_or_eq.mp hk with e | e;exact e;subst e;exact absurd h c)
theorem wg (t:Rat) (rows:List aS):∀ k,k≤rows.length→((rows.take k).filter fun l=>decide (l.m≤t)).getLast?=if lb (rows.map aS.m) t k=0 then none else rows[lb (rows.map aS.m) t k - 1]?
 | 0,_=>rfl
 | k + 1,hk=>by
  have hk':k < rows.length:=by omega
  have e:rows.take (k + 1)=rows.take k ++ [rows[k]]:=by rw [List.take_add_one,List.getElem?_eq_getElem hk'];rfl
  have em:(rows.map aS.m).getD k 0=rows[k].m:=by simp [List.getD,hk']
  rw [e,List.filter_append]
  unfold lb
  rw [em]
  by_cases c:rows[k].m≤t
  ·rw [if_pos c,List.filter_cons,if_pos (decide_eq_true c),List.filter_nil,List.getLast?_concat,if_neg (Nat.succ_ne_zero _),Nat.add_sub_cancel,List.getElem?_eq_getElem hk']
  ·rw [if_neg c,List.filter_cons,if_neg (by simp [c]),List.filter_nil,List.append_nil]
   exact wg t rows k (by omega)
theorem zI (rows:List aS) (t:Rat):r8 rows t=if lb (rows.map aS.m) t rows.length=0 then none else rows[lb (rows.map aS.m) t rows.length - 1]?:=by
 have:=wg t rows rows.length (Nat.le_refl _)
 rw [List.take_length] at this
 exact this
def Ig (g:Option Rat) (t:Rat):Bool:=match g with | none=>true | some q=>decide (t < q)
def there (rows:List aS) (g:Option Rat) (t:Rat):Bool :=
 match rows.head? with
 | none=>false
 | some l=>!decide (t < l.m) && Ig g t
theorem Bb {rows:List aS} {g:Option Rat} {t:Rat} (h:there rows g t=true):∃ l,r8 rows t=some l∧l∈rows∧l.m≤t∧0 < lb (rows.map aS.m) t rows.length∧rows[lb (rows.map aS.m) t rows.length - 1]?=some l:=by
 cases rows with
 | nil=>cases h
 | cons l0 ls =>
  have h0:l0.m≤t:=by
   unfold there at h
   simp only [List.head?_cons,Bool.and_eq_true,Bool.not_eq_true',decide_eq_false_iff_not] at h
   exact Rat.not_lt.mp h.1
  have hp:0 < lb ((l0 :: ls).map aS.m) t (l0 :: ls).length:=zD (j:=0) (by simpa using h0) (by simp)
  have hle:=Dp ((l0 :: ls).map aS.m) t (l0 :: ls).length
  have hx:=zI (l0 :: ls) t
  rw [if_neg (by omega)] at hx
  obtain ⟨l,hl⟩:∃ l,(l0 :: ls)[lb ((l0 :: ls).map aS.m) t (l0 :: ls).length - 1]?=some l:=⟨_,List.getElem?_eq_getElem (by omega)⟩
  rw [hl] at hx
  have hm:=List.mem_of_getLast? hx
  rw [List.mem_filter] at hm
  exact ⟨l,hx,hm.1,of_decide_eq_true hm.2,hp,hl⟩
def Sc (D A:Nat) (q:Rat):Prop:=∃ a:Int,q * (D:Rat)=(a:Rat)∧a.natAbs≤A
theorem Sc.mono {D A B:Nat} {q:Rat} (h:Sc D A q) (k:A≤B):Sc D B q:=let ⟨a,e,l⟩:=h;⟨a,e,Nat.le_trans l k⟩
theorem GW {D:Nat} (h:0 < D):(D:Rat)≠0:=by
 intro e
 have:D=0:=by exact_mod_cast e
 omega
theorem Sc.sz {D A n:Nat} {q:Rat} (h:Sc D A q) (hD:0 < D) (h1:D < 2 ^ n) (h2:A < 2 ^ n):Sz n q:=by
 obtain ⟨a,e,l⟩:=h
 have nz:=GW hD
 have:q=Rat.divInt a (D:Int):=by
  rw [Rat.divInt_eq_div,← e]
  have:((D:Int):Rat)=(D:Rat):=rfl
  rw [this]
  generalize (D:Rat)=d at nz ⊢
  grind
 rw [this]
 exact Sz.div ⟨Nat.lt_of_le_of_lt l h2⟩ ⟨by simpa using h1⟩ (by omega)
theorem Sc.scale {D A E:Nat} {p:Rat} (h:Sc D A p):Sc (E * D) (E * A) p:=by
 obtain ⟨a,e,l⟩:=h
 refine ⟨E * a,?_,?_⟩
 ·rw [Rat.intCast_mul,← e]
  have h1:((E * D:Nat):Rat)=(E:Rat) * (D:Rat):=Rat.natCast_mul ..
  have h2:((E:Int):Rat)=(E:Rat):=rfl
  rw [h1,h2]
  grind
 ·rw [Int.natAbs_mul];exact Nat.mul_le_mul (by simp) l
theorem Sc.EN {D A:Nat} {t:Int} {b:Nat} (hb:0 < b) (hd:b ∣ D) (hA:t.natAbs * (D / b)≤A):Sc D A (Rat.divInt t b):=by
 obtain ⟨c,rfl⟩:=hd
 rw [Nat.mul_div_cancel_left _ hb] at hA
 refine ⟨t * c,?_,by rw [Int.natAbs_mul];simpa using hA⟩
 have nb:=GW hb
 have e1:((b:Int):Rat)=(b:Rat):=rfl
 have e2:((c:Int):Rat)=(c:Rat):=rfl
 rw [Rat.divInt_eq_div,Rat.intCast_mul,e1,e2,Rat.natCast_mul]
 generalize (b:Rat)=b at nb ⊢
 grind
def fP:Nat:=9690712164777231700912800
theorem Kl:∀ b:Nat,1≤b→b≤60→b ∣ fP:=by
 intro b h1 h2
 have:∀ b:Fin 61,1≤b.val→b.val ∣ fP:=by decide
 exact this ⟨b,by omega⟩ h1
theorem pQ:0 < fP:=by decide
def MM:Nat:=2097152 * fP
structure KN (D k:Nat) (l:aS):Prop where
 m:Sc fP MM l.m
 p:Sc (D * fP) (fP * 2 ^ 101 + k * (2000 * (D * MM))) l.p
 v:l.v.natAbs≤1000
theorem GV:MM < 2 ^ 106:=by decide
theorem wj {q:Rat} (h:Sc fP MM q):Sz 106 q:=h.sz pQ (by decide) GV
structure Gd (D k:Nat) (rows:List aS):Prop where
 ne:rows≠[]
 ok:∀ l∈rows,KN D k l
 len:rows.length≤k + 1
def Later (c q:Rat):Prop:=q=c∨∃ u s:Nat,1≤u∧u≤60∧1≤s∧s≤500 * u∧q=Rat.divInt ((c.num * u).fdiv c.den + s) u
theorem Later.sc {c q:Rat} {A:Nat} (h:Later c q) (k:Sc fP A c):Sc fP (A + 501 * fP) q:=by
 rcases h with rfl | ⟨u,s,h1,h2,h3,h4,rfl⟩
 ·exact k.mono (Nat.le_add_right _ _)
 obtain ⟨a,e,l⟩:=k
 obtain ⟨w,hw⟩:=Kl u h1 h2
 refine Sc.EN (by omega) ⟨w,hw⟩ ?_
 have ew:fP / u=w:=by rw [hw,Nat.mul_div_cancel_left _ (by omega)]
 rw [ew]
 have hf:((c.num * u).fdiv c.den) * c.den≤c.num * u∧c.num * u < ((c.num * u).fdiv c.den + 1) * c.den:=by
  rw [Int.fdiv_eq_ediv_of_nonneg _ (by omega)]
  have:=dU c
  constructor
  ·exact Int.ediv_mul_le _ (by omega)
  ·have:=Int.lt_ediv_add_one_mul_self (c.num * u) this;exact this
 have ea:c.num * (fP:Int)=a * c.den:=by
  have h1:=cast_eq c
  have h2:=c9 c
  have h3:((fP:Nat):Rat)=(((fP:Nat):Int):Rat):=rfl
  have:((c.num * (fP:Int):Int):Rat)=((a * c.den:Int):Rat):=by
   rw [Rat.intCast_mul,Rat.intCast_mul,h1,← e,h3]
   grind
  exact_mod_cast this
 have hL:(fP:Int)=u * w:=by rw [hw];simp
 have hw0:0 < w:=by
  rcases Nat.eq_zero_or_pos w with z | z
  ·rw [z,Nat.mul_zero] at hw;exact absurd hw (by decide)
  ·exact z
 rw [hL] at ea
 have hd:=dU c
 generalize hF:(c.num * u).fdiv c.den=F at hf ⊢
 generalize hN:c.num=N at *
 generalize hDD:(c.den:Int)=d at *
 have g1:F * w≤a:=by
  have:F * w * d≤a * d:=by
   rw [← ea]
   have:=Int.mul_le_mul_of_nonneg_right hf.1 (show (0:Int)≤w by omega)
   calc F * w * d=F * d * w:=by rw [Int.mul_right_comm]
    _≤N * u * w:=this
    _=N * (u * w):=Int.mul_assoc ..
  exact Int.le_of_mul_le_mul_right this hd
 have g2:a≤(F + 1) * w:=by
  have:a * d≤(F + 1) * w * d:=by
   rw [← ea]
   have:=Int.mul_le_mul_of_nonneg_right (Int.le_of_lt hf.2) (show (0:Int)≤w by omega)
   calc N * (u * w)=N * u * w:=(Int.mul_assoc ..).symm
    _≤(F + 1) * d * w:=this
    _=(F + 1) * w * d:=by rw [Int.mul_right_comm]
  exact Int.le_of_mul_le_mul_right this hd
 have hsw:s * w≤500 * (u * w):=by
  calc s * w≤500 * u * w:=Nat.mul_le_mul_right _ h4
   _=500 * (u * w):=Nat.mul_assoc ..
 have huw:w≤u * w:=Nat.le_mul_of_pos_left _ (by omega)
 rw [hw]
 have:(F + s).natAbs * w=((F + s) * w).natAbs:=by rw [Int.natAbs_mul];simp
 rw [this,Int.add_mul]
 rw [Int.add_mul,Int.one_mul] at g2
 have hsw':(s:Int) * w≤500 * ((u * w:Nat):Int):=by exact_mod_cast hsw
 generalize F * (w:Int)=x at *
 have hs0:(0:Int)≤(s:Int) * w:=Int.mul_nonneg (by omega) (by omega)
 generalize (s:Int) * w=y at *
 generalize u * w=z at *
 omega
theorem Later.le {c q:Rat} (h:Later c q):c≤q:=by
 rcases h with rfl | ⟨u,s,h1,h2,h3,h4,rfl⟩
 ·exact Rat.le_refl
 have hf:c.num * u < ((c.num * u).fdiv c.den + 1) * c.den:=by
  rw [Int.fdiv_eq_ediv_of_nonneg _ (by omega)]
  exact Int.lt_ediv_add_one_mul_self (c.num * u) (dU c)
 generalize (c.num * u).fdiv c.den=F at hf ⊢
 have h5:c.num * u≤(F + s) * c.den:=by
  have:(F + 1) * c.den≤(F + s) * c.den:=Int.mul_le_mul_of_nonneg_right (by omega) (by omega)
  omega
 have hu:(0:Rat) < (u:Rat):=by exact_mod_cast (show 0 < u by omega)
 have hd:(0:Rat) < ((c.den:Int):Rat):=by exact_mod_cast dU c
 refine Rat.not_lt.mp fun hlt=>?_
 rw [Rat.divInt_eq_div] at hlt
 have e1:((u:Int):Rat)=(u:Rat):=rfl
 rw [e1,Rat.div_lt_iff hu] at hlt
 have h6:=Rat.mul_lt_mul_of_pos_right hlt hd
 have e2:c * (u:Rat) * ((c.den:Int):Rat)=((c.num * u:Int):Rat):=by
  rw [Rat.intCast_mul,cast_eq c,e1];grind
 rw [e2,← Rat.intCast_mul] at h6
 have h7:(F + s) * c.den < c.num * u:=by exact_mod_cast h6
 omega
section
variable {α:Type} {lt:α→α→Bool}
def lA (lt:α→α→Bool) (b:α) (l:List α):List α:=l.filter (fun x=>lt x b) ++ b :: l.filter (fun x=>!lt x b)
def ku (lt:α→α→Bool) (l:List α):Prop:=l.Pairwise fun a b=>lt a b=true
theorem Ae (p:α→Bool):∀ {l:List α} {i:Nat},i≤l.length→(∀ (j:Nat) x,j < i→l[j]?=some x→p x=true)→(∀ (j:Nat) x,i≤j→l[j]?=some x→p x=false)→l.filter p=l.take i∧l.filter (fun x=>!p x)=l.drop i
 | l,0,_,_,h=>by
  refine ⟨?_,?_⟩
  ·rw [List.take_zero]
   apply List.filter_eq_nil_iff.mpr
   intro x hx
   obtain ⟨j,hj⟩:=List.mem_iff_getElem?.mp hx
   rw [h j x (Nat.zero_le _) hj];simp
  ·rw [List.drop_zero]
   apply List.filter_eq_self.mpr
   intro x hx
   obtain ⟨j,hj⟩:=List.mem_iff_getElem?.mp hx
   rw [h j x (Nat.zero_le _) hj];rfl
 | [],i + 1,hi,_,_=>by simp at hi
 | x :: l,i + 1,hi,h1,h2=>by
  obtain ⟨b,c⟩:=Ae p (l:=l) (i:=i) (by simpa using hi) (fun j y hj e=>h1 (j + 1) y (by omega) (by simpa using e)) (fun j y hj e=>h2 (j + 1) y (by omega) (by simpa using e))
  have hx:p x=true:=h1 0 x (by omega) rfl
  refine ⟨?_,?_⟩
  ·rw [List.filter_cons,hx];simp [b]
  ·rw [List.filter_cons,hx];simp [c]
theorem v_ {b:α} {l:List α} {i:Nat} (hi:i≤l.length) (h1:∀ (j:Nat) x,j < i→l[j]?=some x→lt x b=true) (h2:∀ (j:Nat) x,i≤j→l[j]?=some x→lt x b=false):l.take i ++ b :: l.drop i=lA lt b l:=by
 obtain ⟨e1,e2⟩:=Ae (fun x=>lt x b) hi h1 h2
 unfold lA
 rw [e1,e2]
theorem rW {b x:α} {l:List α}:x∈lA lt b l↔x=b∨x∈l:=by
 unfold lA
 rw [List.mem_append,List.mem_cons,List.mem_filter,List.mem_filter]
 constructor
 ·rintro (h | h | h)
  ·exact .inr h.1
  ·exact .inl h
  ·exact .inr h.1
 ·rintro (h | h)
  ·exact .inr (.inl h)
  ·cases e:lt x b
   ·exact .inr (.inr ⟨h,by simp⟩)
   ·exact .inl ⟨h,rfl⟩
theorem zm (b:α) (l:List α):(lA lt b l).length=l.length + 1:=by
 unfold lA
 rw [List.length_append,List.length_cons]
 have:∀ l:List α,(l.filter fun x=>lt x b).length + (l.filter fun x=>!lt x b).length=l.length:=by
  intro l
  induction l with
  | nil=>rfl
  | cons x l ih=>cases h:lt x b <;> simp [h] <;> omega
 have:=this l
 omega
theorem zo (tr:∀ {a b c},lt a b=true→lt b c=true→lt a c=true) {b:α} {l:List α} (s:ku lt l) (HN:∀ x∈l,lt x b=true∨lt b x=true):ku lt (lA lt b l):=by
 unfold lA ku
 rw [List.pairwise_append]
 refine ⟨s.filter _,?_,?_⟩
 ·rw [List.pairwise_cons]
  refine ⟨fun y hy=>?_,s.filter _⟩
  rw [List.mem_filter] at hy
  rcases HN y hy.1 with q | q
  ·simp [q] at hy
  ·exact q
 ·intro x hx y hy
  rw [List.mem_filter] at hx
  rcases List.mem_cons.mp hy with rfl | hy
  ·exact hx.2
  ·rw [List.mem_filter] at hy
   rcases HN y hy.1 with q | q
   ·simp [q] at hy
   ·exact tr hx.2 q
theorem tW (tr:∀ {a b c},lt a b=true→lt b c=true→lt a c=true) {l:List α} {b x y:α} {i j:Nat} (s:ku lt l) (hx:l[i]?=some x) (hy:l[j]?=some y) (h:j≤i) (k:lt x b=true):lt y b=true:=by
 rcases Nat.lt_or_eq_of_le h with h | h
 ·obtain ⟨hi,ei⟩:=List.getElem?_eq_some_iff.mp hx
  obtain ⟨hj,ej⟩:=List.getElem?_eq_some_iff.mp hy
  have:=List.pairwise_iff_getElem.mp s j i hj hi h
  rw [ei,ej] at this
  exact tr this k
 ·subst h;rw [hx] at hy;cases hy;exact k
theorem yv (tr:∀ {a b c},lt a b=true→lt b c=true→lt a c=true) {l:List α} {b x y:α} {i j:Nat} (s:ku lt l) (hx:l[i]?=some x) (hy:l[j]?=some y) (h:i≤j) (k:lt x b=false):lt y b=false:=by
 cases q:lt y b with
 | false=>rfl
 | true=>have:=tW (lt:=lt) (b:=b) tr s hy hx h q;rw [this] at k;cases k
theorem ki (Bl:∀ a,lt a a=false) (tr:∀ {a b c},lt a b=true→lt b c=true→lt a c=true):∀ {l k:List α},ku lt l→ku lt k→(∀ x,x∈l↔x∈k)→l=k
 | [],[],_,_,_=>rfl
 | [],y :: k,_,_,h=>by have:=(h y).mpr List.mem_cons_self;cases this
 | x :: l,[],_,_,h=>by have:=(h x).mp List.mem_cons_self;cases this
 | x :: l,y :: k,hl,hk,h=>by
  obtain ⟨a1,a2⟩:=List.pairwise_cons.mp hl
  obtain ⟨b1,b2⟩:=List.pairwise_cons.mp hk
  have exy:x=y:=by
   rcases List.mem_cons.mp ((h x).mp List.mem_cons_self) with e | e
   ·exact e
   ·rcases List.mem_cons.mp ((h y).mpr List.mem_cons_self) with e' | e'
    ·exact e'.symm
    ·have:=tr (a1 y e') (b1 x e)
     rw [Bl] at this;cases this
  subst exy
  rw [ki Bl tr a2 b2 fun z=>?_]
  constructor
  ·intro hz
   rcases List.mem_cons.mp ((h z).mp (List.mem_cons_of_mem _ hz)) with e | e
   ·have:=a1 z hz;rw [e,Bl] at this;cases this
   ·exact e
  ·intro hz
   rcases List.mem_cons.mp ((h z).mpr (List.mem_cons_of_mem _ hz)) with e | e
   ·have:=b1 z hz;rw [e,Bl] at this;cases this
   ·exact e
end
structure Ky where
 p:Rat
 v:Int
 n:Str
 deriving DecidableEq
def Ky.lt (a b:Ky):Bool:=if a.p=b.p then (if a.v=b.v then decide (slt a.n b.n) else decide (a.v < b.v)) else decide (a.p < b.p)
theorem Ky.lt_iff (a b:Ky):a.lt b=true↔a.p < b.p∨(a.p=b.p∧(a.v < b.v∨(a.v=b.v∧slt a.n b.n))):=by
 unfold Ky.lt
 by_cases e:a.p=b.p
 ·rw [if_pos e]
  have n:¬ a.p < b.p:=by rw [e];exact Rat.lt_irrefl
  by_cases k:a.v=b.v
  ·rw [if_pos k,decide_eq_true_eq]
   have n2:¬ a.v < b.v:=by omega
   exact ⟨fun h=>.inr ⟨e,.inr ⟨k,h⟩⟩,fun h=>by
    rcases h with h | ⟨_,h | h⟩
    ·exact absurd h n
    ·exact absurd h n2
    ·exact h.2⟩
  ·rw [if_neg k,decide_eq_true_eq]
   exact ⟨fun h=>.inr ⟨e,.inl h⟩,fun h=>by
    rcases h with h | ⟨_,h | h⟩
    ·exact absurd h n
    ·exact h
    ·exact absurd h.1 k⟩
 ·rw [if_neg e,decide_eq_true_eq]
  exact ⟨.inl,fun h=>by
   rcases h with h | h
   ·exact h
   ·exact absurd h.1 e⟩
theorem Ky.Bl (a:Ky):a.lt a=false:=by
 cases h:a.lt a with
 | false=>rfl
 | true =>
  rcases (Ky.lt_iff a a).mp h with h | ⟨_,h | ⟨_,h⟩⟩
  ·exact absurd h Rat.lt_irrefl
  ·omega
  ·exact absurd h (kb _)
theorem Ky.tr {a b c:Ky} (h:a.lt b=true) (k:b.lt c=true):a.lt c=true:=by
 rw [Ky.lt_iff] at *
 rcases h with h | ⟨e,h⟩ <;> rcases k with k | ⟨e',k⟩
 ·exact .inl (pf h k)
 ·exact .inl (e' ▸ h)
 ·exact .inl (e ▸ k)
 ·refine .inr ⟨e.trans e',?_⟩
  rcases h with h | ⟨z,h⟩ <;> rcases k with k | ⟨z',k⟩
  ·exact .inl (by omega)
  ·exact .inl (by omega)
  ·exact .inl (by omega)
  ·exact .inr ⟨z.trans z',kY h k⟩
theorem Ky.HN {a b:Ky} (h:a.n≠b.n):a.lt b=true∨b.lt a=true:=by
 rw [Ky.lt_iff,Ky.lt_iff]
 by_cases e:a.p=b.p
 ·by_cases z:a.v=b.v
  ·rcases qS h with q | q
   ·exact .inl (.inr ⟨e,.inr ⟨z,q⟩⟩)
   ·exact .inr (.inr ⟨e.symm,.inr ⟨z.symm,q⟩⟩)
  ·rcases (by omega:a.v < b.v∨b.v < a.v) with q | q
   ·exact .inl (.inr ⟨e,.inl q⟩)
   ·exact .inr (.inr ⟨e.symm,.inl q⟩)
 ·rcases (by grind:a.p < b.p∨b.p < a.p) with q | q
  ·exact .inl (.inl q)
  ·exact .inr (.inl q)
theorem Ky.F5 {a b:Ky} (h:a.lt b=true):b.lt a=false:=by
 cases k:b.lt a with
 | false=>rfl
 | true=>have:=Ky.tr h k;rw [Ky.Bl] at this;cases this
def bT (ks:List Ky):List Ky:=ks.foldl (fun acc x=>lA Ky.lt x acc) []
theorem f' (ks:List Ky) (x:Ky):bT (ks ++ [x])=lA Ky.lt x (bT ks):=by unfold bT;rw [List.foldl_append];rfl
theorem snoc_ind {α:Type} {p:List α→Prop} (h0:p []) (h1:∀ l x,p l→p (l ++ [x])) (l:List α):p l:=by
 have:∀ l:List α,p l.reverse:=by
  intro l
  induction l with
  | nil=>exact h0
  | cons x l ih=>rw [List.reverse_cons];exact h1 _ _ ih
 have:=this l.reverse
 rwa [List.reverse_reverse] at this
theorem gx {α:Type} {l:List α} {x:α} (h:(l ++ [x]).Nodup):l.Nodup∧x ∉ l:=by
 rw [List.nodup_append] at h
 exact ⟨h.1,fun hm=>h.2.2 x hm x (by simp) rfl⟩
theorem a7:∀ (ks:List Ky) (x:Ky),x∈bT ks↔x∈ks:=by
 intro ks
 refine snoc_ind (p:=fun ks=>∀ x:Ky,x∈bT ks↔x∈ks) (fun x=>by simp [bT]) (fun ks y ih x=>?_) ks
 rw [f',rW,ih,List.mem_append,List.mem_singleton]
 exact Or.comm
theorem cg {ks:List Ky} (h:(ks.map Ky.n).Nodup):ku Ky.lt (bT ks):=by
 revert h
 refine snoc_ind (p:=fun ks=>(ks.map Ky.n).Nodup→ku Ky.lt (bT ks)) (fun _=>List.Pairwise.nil) (fun ks y ih h=>?_) ks
 ·rw [List.map_append,List.map_cons,List.map_nil] at h
  obtain ⟨h1,h2⟩:=gx h
  rw [f']
  refine zo (lt:=Ky.lt) Ky.tr (ih h1) fun x hx=>Ky.HN fun e=>h2 ?_
  rw [← e]
  exact List.mem_map_of_mem ((a7 ks x).mp hx)
theorem f_ (ks:List Ky):(bT ks).length=ks.length:=by
 refine snoc_ind (p:=fun ks=>(bT ks).length=ks.length) rfl (fun ks y ih=>?_) ks
 rw [f',zm,ih,List.length_append];rfl
theorem sJ {ks js:List Ky} (h:(ks.map Ky.n).Nodup) (k:(js.map Ky.n).Nodup) (e:∀ x,x∈ks↔x∈js):bT ks=bT js :=
 ki (lt:=Ky.lt) Ky.Bl Ky.tr (cg h) (cg k) fun x=>by rw [a7,a7];exact e x
def key (t:Rat) (x:Str × aS):Ky:=⟨x.2.at t,x.2.v,x.1⟩
def cm (t:Rat) (fs:List (Str × aS)):List Str:=(bT (fs.map (key t))).map Ky.n
theorem cE (t:Rat) (fs:List (Str × aS)):(fs.map (key t)).map Ky.n=fs.map (·.1):=by rw [List.map_map];rfl
theorem sS {t:Rat} {fs:List (Str × aS)} {n:Str}:n∈cm t fs↔n∈fs.map (·.1):=by
 rw [← cE t fs]
 unfold cm
 rw [List.mem_map,List.mem_map]
 exact ⟨fun ⟨x,h,e⟩=>⟨x,(a7 _ _).mp h,e⟩,fun ⟨x,h,e⟩=>⟨x,(a7 _ _).mpr h,e⟩⟩
theorem sQ (t:Rat) (fs:List (Str × aS)):(cm t fs).length=fs.length:=by unfold cm;rw [List.length_map,f_,List.length_map]
theorem iZ {l:List Ky} (s:ku Ky.lt l) (h:∀ x∈l,∀ y∈l,x.n=y.n→x=y):(l.map Ky.n).Nodup:=by
 refine List.pairwise_map.mpr (s.imp_of_mem fun {a b} ha hb hab e=>?_)
 have:=h a ha b hb e
 subst this
 rw [Ky.Bl] at hab;cases hab
theorem f9 {ks:List Ky} (h:(ks.map Ky.n).Nodup):∀ x∈ks,∀ y∈ks,x.n=y.n→x=y:=by
 intro x hx y hy e
 obtain ⟨i,hi,rfl⟩:=List.getElem_of_mem hx
 obtain ⟨j,hj,rfl⟩:=List.getElem_of_mem hy
 have:=(List.getElem_inj (xs:=ks.map Ky.n) (i:=i) (j:=j) (h₀:=by simpa using hi) (h₁:=by simpa using hj) h).mp (by rw [List.getElem_map,List.getElem_map];exact e)
 subst this;rfl
theorem mQ {t:Rat} {fs:List (Str × aS)} (h:(fs.map (·.1)).Nodup):(cm t fs).Nodup:=by
 rw [← cE t fs] at h
 exact iZ (cg h) fun x hx y hy e=>f9 h x ((a7 _ _).mp hx) y ((a7 _ _).mp hy) e
theorem sM {t:Rat} {fs gs:List (Str × aS)} (h:(fs.map (·.1)).Nodup) (k:(gs.map (·.1)).Nodup) (e:∀ x,x∈fs.map (key t)↔x∈gs.map (key t)):cm t fs=cm t gs:=by
 unfold cm
 rw [sJ (by rw [cE];exact h) (by rw [cE];exact k) e]
theorem fq {α β:Type} {fs:List (Str × α)} {f:α→β} (h:(fs.map (·.1)).Nodup) {n:Str} {l:α} (hm:(n,l)∈fs):L2.i9 (fs.map fun x=>(x.1,f x.2)) n=some (f l):=by
 induction fs with
 | nil=>cases hm
 | cons x fs ih =>
  rw [List.map_cons,List.nodup_cons] at h
  rw [List.map_cons,L2.kq]
  rcases List.mem_cons.mp hm with e | e
  ·subst e;rw [if_pos rfl]
  ·have ne:x.1≠n:=fun z=>h.1 (by rw [z];exact List.mem_map_of_mem (f:=fun x:Str × α=>x.1) e)
   rw [if_neg ne];exact ih h.2 e
theorem l_ {α β:Type} {fs:List (Str × α)} {f:α→β} (h:(fs.map (·.1)).Nodup) {n:Str} (hm:n∈fs.map (·.1)):∃ l,(n,l)∈fs∧L2.i9 (fs.map fun x=>(x.1,f x.2)) n=some (f l):=by
 obtain ⟨⟨m,l⟩,hx,rfl⟩:=List.mem_map.mp hm
 exact ⟨l,hx,fq h hx⟩
theorem C9 {α β:Type} {fs:List (Str × α)} {f:α→β} {n:Str} (hm:n ∉ fs.map (·.1)):L2.i9 (fs.map fun x=>(x.1,f x.2)) n=none:=by
 induction fs with
 | nil=>rfl
 | cons x fs ih =>
  rw [List.map_cons,L2.kq]
  rw [List.map_cons,List.mem_cons,not_or] at hm
  rw [if_neg (fun e=>hm.1 e.symm)];exact ih hm.2
theorem yC {α β:Type} {fs:List (Str × α)} {f:α→β} {n:Str} (h:(fs.map (·.1)).Nodup):(L2.i9 (fs.map fun x=>(x.1,f x.2)) n).isSome=decide (n∈fs.map (·.1)):=by
 by_cases hm:n∈fs.map (·.1)
 ·obtain ⟨l,_,e⟩:=l_ (f:=f) h hm
  rw [e,decide_eq_true hm];rfl
 ·rw [C9 hm,decide_eq_false hm];rfl
theorem qp {α β:Type} {fs:List (Str × α)} {f:α→β} {n:Str} {l:α} (hm:n ∉ fs.map (·.1)):L2.qo (fs.map fun x=>(x.1,f x.2)) n (f l)=(fs ++ [(n,l)]).map fun x=>(x.1,f x.2):=by
 unfold L2.qo
 rw [if_neg,List.map_append]
 ·rfl
 ·intro h
  rw [List.any_eq_true] at h
  obtain ⟨y,hy,e⟩:=h
  obtain ⟨x,hx,rfl⟩:=List.mem_map.mp hy
  exact hm (by rw [← of_decide_eq_true e];exact List.mem_map_of_mem (f:=fun x:Str × α=>x.1) hx)
def PP:Nat:=1000000 * fP + 1000 * MM
structure nL (l:aS):Prop where
 m0:0≤l.m
 m:Sc fP MM l.m
 p:∃ a:Int,l.p * (fP:Rat)=(a:Rat)
 b0:-(1000000 + 1000 * l.m)≤l.p
 b1:l.p≤1000000 + 1000 * l.m
 v:l.v.natAbs≤1000
theorem GA:(0:Rat) < (fP:Rat):=by
 have:((0:Nat):Rat) < ((fP:Nat):Rat):=Rat.natCast_lt_natCast.mpr pQ
 simpa using this
theorem nL.sc {l:aS} (h:nL l):Sc fP PP l.p:=by
 obtain ⟨a,ha⟩:=h.p
 obtain ⟨k,hk,hk1⟩:=h.m
 have hL:=GA
 have b0:=h.b0
 have b1:=h.b1
 have e1:(a:Rat)≤(((1000000 * fP + 1000 * k:Int)):Rat):=by
  rw [← ha,Rat.intCast_add,Rat.intCast_mul,Rat.intCast_mul,← hk]
  have:l.p * (fP:Rat)≤(1000000 + 1000 * l.m) * (fP:Rat):=Rat.mul_le_mul_of_nonneg_right b1 (Rat.le_of_lt hL)
  have e:(((fP:Nat):Int):Rat)=(fP:Rat):=rfl
  rw [e]
  grind
 have e2:(((-(1000000 * fP + 1000 * k):Int)):Rat)≤(a:Rat):=by
  rw [← ha,Rat.intCast_neg,Rat.intCast_add,Rat.intCast_mul,Rat.intCast_mul,← hk]
  have:-(1000000 + 1000 * l.m) * (fP:Rat)≤l.p * (fP:Rat):=Rat.mul_le_mul_of_nonneg_right b0 (Rat.le_of_lt hL)
  have e:(((fP:Nat):Int):Rat)=(fP:Rat):=rfl
  rw [e]
  grind
 have e1:=Rat.intCast_le_intCast.mp e1
 have e2:=Rat.intCast_le_intCast.mp e2
 refine ⟨a,ha,?_⟩
 unfold PP
 have:(k:Int)≤MM:=by omega
 have:-(MM:Int)≤k:=by omega
 omega
theorem G5:PP < 2 ^ 120:=by decide
theorem nL.Kt {l:aS} (h:nL l):Sz 120 l.p:=h.sc.sz pQ (by decide) G5
theorem nL.Ko {l:aS} (h:nL l):Sz 120 l.m:=(wj h.m).mono (by decide)
theorem nL.at {l:aS} {t:Rat} {v:Int} (h:nL l) (h0:l.m≤t) (ht:Sc fP MM t) (hv:v.natAbs≤1000):nL ⟨t,l.at t,v⟩:=by
 have hm:=h.m0
 have t0:0≤t:=Rat.le_trans hm h0
 have d0:0≤t - l.m:=by grind
 have v1:(l.v:Rat)≤1000:=by
  have:((l.v:Int):Rat)≤((1000:Int):Rat):=Rat.intCast_le_intCast.mpr (by have:=h.v;omega)
  exact this
 have v2:-1000≤(l.v:Rat):=by
  have:((-1000:Int):Rat)≤((l.v:Int):Rat):=Rat.intCast_le_intCast.mpr (by have:=h.v;omega)
  exact this
 have m1:(t - l.m) * (l.v:Rat)≤(t - l.m) * 1000:=Rat.mul_le_mul_of_nonneg_left v1 d0
 have m2:(t - l.m) * (-1000)≤(t - l.m) * (l.v:Rat):=Rat.mul_le_mul_of_nonneg_left v2 d0
 have b0:=h.b0
 have b1:=h.b1
 refine ⟨t0,ht,?_,?_,?_,hv⟩
 ·obtain ⟨a,ha⟩:=h.p
  obtain ⟨k,hk,_⟩:=h.m
  obtain ⟨j,hj,_⟩:=ht
  refine ⟨a + (j - k) * l.v,?_⟩
  unfold aS.at
  dsimp only
  rw [Rat.intCast_add,Rat.intCast_mul,Rat.intCast_sub,← ha,← hk,← hj]
  grind
 ·show -(1000000 + 1000 * t)≤l.p + (t - l.m) * (l.v:Rat)
  grind
 ·show l.p + (t - l.m) * (l.v:Rat)≤1000000 + 1000 * t
  grind
theorem nL.new {t:Rat} {p v:Int} (t0:0≤t) (ht:Sc fP MM t) (hp:p.natAbs≤1000000) (hv:v.natAbs≤1000):nL ⟨t,(p:Rat),v⟩:=by
 have p1:(p:Rat)≤1000000:=by
  have:((p:Int):Rat)≤((1000000:Int):Rat):=Rat.intCast_le_intCast.mpr (by omega)
  exact this
 have p2:-1000000≤(p:Rat):=by
  have:((-1000000:Int):Rat)≤((p:Int):Rat):=Rat.intCast_le_intCast.mpr (by omega)
  exact this
 refine ⟨t0,ht,⟨p * fP,by rw [Rat.intCast_mul];rfl⟩,?_,?_,hv⟩
 ·show -(1000000 + 1000 * t)≤(p:Rat)
  grind
 ·show (p:Rat)≤1000000 + 1000 * t
  grind
def xx (b:aA) (l:List aA):List aA:=if b∈l then l else gU b l
theorem oW {b x:aA} {l:List aA}:x∈gU b l↔x=b∨x∈l:=rW (lt:=aA.lt)
theorem yP {b x:aA} {l:List aA}:x∈xx b l↔x=b∨x∈l:=by
 unfold xx
 split
 ·rename_i h
  exact ⟨.inr,fun z=>by rcases z with rfl | z;exact h;exact z⟩
 ·exact oW
theorem yQ {b:aA} {l:List aA} (s:gj l):gj (xx b l):=by
 unfold xx
 split
 ·exact s
 ·rename_i h
  exact rV s fun x hx e=>h (e ▸ hx)
def oq (bs:List aA):List aA:=bs.foldl (fun acc b=>xx b acc) []
theorem o8 (bs:List aA) (b:aA):oq (bs ++ [b])=xx b (oq bs):=by unfold oq;rw [List.foldl_append];rfl
theorem sH (bs:List aA) (x:aA):x∈oq bs↔x∈bs:=by
 refine snoc_ind (p:=fun bs=>∀ x:aA,x∈oq bs↔x∈bs) (fun x=>by simp [oq]) (fun bs y ih x=>?_) bs x
 rw [o8,yP,ih,List.mem_append,List.mem_singleton]
 exact Or.comm
theorem sI (bs:List aA):gj (oq bs):=by
 refine snoc_ind (p:=fun bs=>gj (oq bs)) List.Pairwise.nil (fun bs y ih=>?_) bs
 rw [o8];exact yQ ih
theorem tY {l k:List aA} (h:gj l) (h':gj k) (e:∀ x,x∈l↔x∈k):l=k:=ki (lt:=aA.lt) aA.EJ aA.lt_trans h h' e
def dH (t:Rat) (a b:Ky):Rat:=t + (b.p - a.p) / ((a.v - b.v:Int):Rat)
def fv (t:Rat) (a b:Ky):aA:=⟨dH t a b,a.n,b.n⟩
def mS (t:Rat) (ks:List Ky) (m:Rat):List aA:=oq (((ks.flatMap fun a=>ks.map fun b=>(a,b)).filter fun p=>decide (p.2.v < p.1.v∧p.1.p < p.2.p∧dH t p.1 p.2≤m)).map fun p=>fv t p.1 p.2)
theorem yg {t m:Rat} {ks:List Ky} {x:aA}:x∈mS t ks m↔∃ a∈ks,∃ b∈ks,b.v < a.v∧a.p < b.p∧dH t a b≤m∧x=fv t a b:=by
 unfold mS
 rw [sH,List.mem_map]
 constructor
 ·rintro ⟨⟨a,b⟩,h,rfl⟩
  rw [List.mem_filter,List.mem_flatMap] at h
  obtain ⟨⟨c,hc,h1⟩,h2⟩:=h
  obtain ⟨d,hd,e⟩:=List.mem_map.mp h1
  cases e
  have h2:=of_decide_eq_true h2
  exact ⟨_,hc,_,hd,h2.1,h2.2.1,h2.2.2,rfl⟩
 ·rintro ⟨a,ha,b,hb,h1,h2,h3,rfl⟩
  exact ⟨(a,b),List.mem_filter.mpr ⟨List.mem_flatMap.mpr ⟨a,ha,List.mem_map.mpr ⟨b,hb,rfl⟩⟩,decide_eq_true ⟨h1,h2,h3⟩⟩,rfl⟩
theorem yh (t m:Rat) (ks:List Ky):gj (mS t ks m):=sI _
def eA (t:Rat) (ks:List Ky):List aA:=oq ((((bT ks).zip (bT ks).tail).filter fun p=>decide (p.2.v < p.1.v)).map fun p=>fv t p.1 p.2)
theorem cv {α:Type} {l:List α} {a b:α}:(a,b)∈l.zip l.tail↔∃ i:Nat,l[i]?=some a∧l[i + 1]?=some b:=by
 constructor
 ·intro h
  obtain ⟨i,hi⟩:=List.mem_iff_getElem?.mp h
  obtain ⟨h1,h2⟩:=List.getElem?_zip_eq_some.mp hi
  exact ⟨i,h1,by rw [List.getElem?_tail] at h2;exact h2⟩
 ·rintro ⟨i,h1,h2⟩
  exact List.mem_iff_getElem?.mpr ⟨i,List.getElem?_zip_eq_some.mpr ⟨h1,by rw [List.getElem?_tail];exact h2⟩⟩
theorem uj {t:Rat} {ks:List Ky} {x:aA}:x∈eA t ks↔∃ (i:Nat) (a b:Ky),(bT ks)[i]?=some a∧(bT ks)[i + 1]?=some b∧b.v < a.v∧x=fv t a b:=by
 unfold eA
 rw [sH,List.mem_map]
 constructor
 ·rintro ⟨⟨a,b⟩,h,rfl⟩
  rw [List.mem_filter] at h
  obtain ⟨i,h1,h2⟩:=cv.mp h.1
  exact ⟨i,a,b,h1,h2,of_decide_eq_true h.2,rfl⟩
 ·rintro ⟨i,a,b,h1,h2,h3,rfl⟩
  exact ⟨(a,b),List.mem_filter.mpr ⟨cv.mpr ⟨i,h1,h2⟩,decide_eq_true h3⟩,rfl⟩
theorem uk (t:Rat) (ks:List Ky):gj (eA t ks):=sI _
theorem uh {t:Rat} {ks js:List Ky} (h:(ks.map Ky.n).Nodup) (k:(js.map Ky.n).Nodup) (e:∀ x,x∈ks↔x∈js):eA t ks=eA t js:=by
 unfold eA;rw [sJ h k e]
def jU (l l':aS):Rat:=(l'.at 0 - l.at 0) / ((l.v - l'.v:Int):Rat)
theorem A2 {a b:Int} (h:a≠b):((a - b:Int):Rat)≠0:=by
 intro e
 have:(a - b:Int)=0:=by exact_mod_cast (show ((a - b:Int):Rat)=((0:Int):Rat) from e)
 omega
theorem lM {t:Rat} {n n':Str} {l l':aS} (h:l.v≠l'.v):jU l l'=dH t (key t (n,l)) (key t (n',l')):=by
 have k:=A2 h
 unfold jU dH key aS.at
 dsimp only
 rw [Rat.intCast_sub] at *
 grind
theorem AE {a b:Rat} (ha:0 < a) (hb:0 < b):0 < a / b:=by
 have e:a / b * b=a:=by grind
 rcases Rat.le_total (a:=a / b) (b:=0) with h | h
 ·have:=Rat.mul_le_mul_of_nonneg_right h (Rat.le_of_lt hb)
  rw [e,Rat.zero_mul] at this
  exact absurd ha (Rat.not_lt.mpr this)
 ·rcases (by grind:a / b=0∨0 < a / b) with h | h
  ·rw [h,Rat.zero_mul] at e;rw [← e] at ha;exact absurd ha Rat.lt_irrefl
  ·exact h
def BQ (t:Rat) (l l':aS):Option Rat:=if l.v≠l'.v∧t < jU l l' then some (jU l l') else none
theorem BR {t:Rat} {n n':Str} {l l':aS} (h:(key t (n,l)).lt (key t (n',l'))=true):(l.v≠l'.v∧t < jU l l')↔(l'.v < l.v∧l.at t < l'.at t):=by
 rw [Ky.lt_iff] at h
 unfold key at h
 dsimp only at h
 constructor
 ·rintro ⟨h1,h2⟩
  rw [lM (t:=t) (n:=n) (n':=n') h1] at h2
  unfold dH key at h2
  dsimp only at h2
  have k:=A2 h1
  have h3:0 < (l'.at t - l.at t) / ((l.v - l'.v:Int):Rat):=by grind
  have hp:l.at t≠l'.at t:=by
   intro e
   rw [e] at h3
   have:(l'.at t - l'.at t) / ((l.v - l'.v:Int):Rat)=0:=by grind
   rw [this] at h3
   exact absurd h3 Rat.lt_irrefl
  have hlt:l.at t < l'.at t:=by
   rcases h with h | ⟨h,_⟩
   ·exact h
   ·exact absurd h hp
  refine ⟨?_,hlt⟩
  rcases (by omega:l'.v < l.v∨l.v < l'.v) with q | q
  ·exact q
  ·exfalso
   have hn:((l.v - l'.v:Int):Rat) < 0:=by
    have:((l.v - l'.v:Int):Rat) < ((0:Int):Rat):=Rat.intCast_lt_intCast.mpr (by omega)
    exact this
   have hd:0 < l'.at t - l.at t:=by grind
   have e:(l'.at t - l.at t) / ((l.v - l'.v:Int):Rat) * ((l.v - l'.v:Int):Rat)=l'.at t - l.at t:=by grind
   generalize (l'.at t - l.at t) / ((l.v - l'.v:Int):Rat)=z at h3 e
   have:z * ((l.v - l'.v:Int):Rat) < 0:=by
    have:=Rat.mul_lt_mul_of_pos_left hn h3
    rwa [Rat.mul_zero] at this
   grind
 ·rintro ⟨h1,h2⟩
  have hne:l.v≠l'.v:=by omega
  refine ⟨hne,?_⟩
  rw [lM (t:=t) (n:=n) (n':=n') hne]
  unfold dH key
  dsimp only
  have hpos:0 < ((l.v - l'.v:Int):Rat):=by
   have:((0:Int):Rat) < ((l.v - l'.v:Int):Rat):=Rat.intCast_lt_intCast.mpr (by omega)
   exact this
  have hd:0 < l'.at t - l.at t:=by grind
  have:0 < (l'.at t - l.at t) / ((l.v - l'.v:Int):Rat):=AE hd hpos
  grind
end Ov
namespace Ov
def fS (t:Rat) (c:Ky × Ky→Bool) (rows:List aA) (p:Ky × Ky):List aA:=if c p=true then gU (fv t p.1 p.2) (cx p.1.n p.2.n rows) else rows
def bA (t:Rat) (c:Ky × Ky→Bool) (ps:List (Ky × Ky)):List aA:=ps.foldl (fS t c) []
theorem dy (t:Rat) (c:Ky × Ky→Bool) (ps:List (Ky × Ky)) (p:Ky × Ky):bA t c (ps ++ [p])=fS t c (bA t c ps) p:=by unfold bA;rw [List.foldl_append];rfl
theorem fZ (t:Rat) (c:Ky × Ky→Bool) (ps:List (Ky × Ky)):gj (bA t c ps):=by
 refine snoc_ind (p:=fun ps=>gj (bA t c ps)) List.Pairwise.nil (fun l x ih=>?_) ps
 rw [dy]
 unfold fS
 split
 ·exact rV (oR ih) By
 ·exact ih
theorem kC (t:Rat) (c:Ky × Ky→Bool) (ps:List (Ky × Ky)):(bA t c ps).length≤ps.length:=by
 refine snoc_ind (p:=fun ps=>(bA t c ps).length≤ps.length) (Nat.le_refl _) (fun l x ih=>?_) ps
 rw [dy,List.length_append]
 unfold fS
 split
 ·rw [rT]
  have:=kA x.1.n x.2.n (bA t c l)
  simp only [List.length_cons,List.length_nil];omega
 ·omega
theorem f6 {t:Rat} {c:Ky × Ky→Bool} {x:aA} (ps:List (Ky × Ky)):x∈bA t c ps→∃ p∈ps,c p=true∧x=fv t p.1 p.2:=by
 refine snoc_ind (p:=fun ps=>x∈bA t c ps→∃ p∈ps,c p=true∧x=fv t p.1 p.2) (fun h=>by cases h) (fun l y ih h=>?_) ps
 rw [dy] at h
 unfold fS at h
 split at h
 ·rename_i hc
  rcases zl h with e | h
  ·exact ⟨y,by simp,hc,e⟩
  ·obtain ⟨p,hp,k⟩:=ih (List.mem_filter.mp h).1
   exact ⟨p,List.mem_append.mpr (.inl hp),k⟩
 ·obtain ⟨p,hp,k⟩:=ih h
  exact ⟨p,List.mem_append.mpr (.inl hp),k⟩
def rj (ps:List (Ky × Ky)):Prop:=∀ p∈ps,∀ q∈ps,p.1.n=q.1.n→p.2.n=q.2.n→p=q
theorem oU {t:Rat} {c:Ky × Ky→Bool} {x:aA} (ps:List (Ky × Ky)):rj ps→(x∈bA t c ps↔∃ p∈ps,c p=true∧x=fv t p.1 p.2):=by
 refine snoc_ind (p:=fun ps=>rj ps→(x∈bA t c ps↔∃ p∈ps,c p=true∧x=fv t p.1 p.2)) (fun _=>Iff.intro (fun h=>nomatch h) (fun h=>by obtain ⟨_,h,_⟩:=h;cases h)) (fun l y ih inj=>?_) ps
 have ih:=ih fun p hp q hq=>inj p (List.mem_append.mpr (.inl hp)) q (List.mem_append.mpr (.inl hq))
 refine ⟨f6 _,?_⟩
 rintro ⟨p,hp,hc,rfl⟩
 rw [dy]
 unfold fS
 have hold:p∈l→fv t p.1 p.2∈bA t c l:=fun h=>ih.mpr ⟨p,h,hc,rfl⟩
 split
 ·rename_i hy
  rw [oW]
  by_cases e:p=y
  ·left;rw [e]
  ·right
   have hl:p∈l:=by
    rcases List.mem_append.mp hp with h | h
    ·exact h
    ·exact absurd (by simpa using h) e
   refine List.mem_filter.mpr ⟨hold hl,?_⟩
   unfold ph
   have:¬ ((fv t p.1 p.2).h=y.1.n∧(fv t p.1 p.2).f=y.2.n):=fun z=>e (inj p hp y (by simp) z.1 z.2)
   rw [decide_eq_false this];rfl
 ·rename_i hy
  rcases List.mem_append.mp hp with h | h
  ·exact hold h
  ·have:p=y:=by simpa using h
   subst this;exact absurd hc hy
theorem xG {t:Rat} {c:Ky × Ky→Bool} {ps:List (Ky × Ky)} {p:Ky × Ky} (inj:rj (ps ++ [p])) (h:p ∉ ps):cx p.1.n p.2.n (bA t c ps)=bA t c ps:=by
 unfold cx
 refine List.filter_eq_self.mpr fun x hx=>?_
 obtain ⟨q,hq,_,rfl⟩:=f6 _ hx
 unfold ph
 have:¬ ((fv t q.1 q.2).h=p.1.n∧(fv t q.1 q.2).f=p.2.n):=fun z=>by
  have:=inj q (List.mem_append.mpr (.inl hq)) p (by simp) z.1 z.2
  subst this;exact h hq
 rw [decide_eq_false this];rfl
theorem rj.of {ks:List Ky} (h:(ks.map Ky.n).Nodup) {ps:List (Ky × Ky)} (hp:∀ p∈ps,p.1∈ks∧p.2∈ks):rj ps:=fun p h1 q h2 e1 e2=>by
 have a:=f9 h p.1 (hp p h1).1 q.1 (hp q h2).1 e1
 have b:=f9 h p.2 (hp p h1).2 q.2 (hp q h2).2 e2
 cases p;cases q;simp only at a b;rw [a,b]
def t9 (ks:List Ky):Nat→List (Ky × Ky)
 | 0=>[]
 | i + 1=>t9 ks i ++ (match ks[i]? with | some a=>(ks.drop (i + 1)).map fun b=>(a,b) | none=>[])
theorem ko {ks:List Ky} {p:Ky × Ky}:∀ {i:Nat},p∈t9 ks i↔∃ i' j,i' < i∧i' < j∧ks[i']?=some p.1∧ks[j]?=some p.2
 | 0=>⟨fun h=>(by cases h),fun ⟨_,_,h,_⟩=>by omega⟩
 | i + 1=>by
  unfold t9
  rw [List.mem_append,ko (i:=i)]
  constructor
  ·rintro (⟨i',j,h1,h⟩ | h)
   ·exact ⟨i',j,by omega,h⟩
   ·cases e:ks[i]? with
    | none=>rw [e] at h;cases h
    | some a =>
     rw [e] at h
     obtain ⟨b,hb,rfl⟩:=List.mem_map.mp h
     obtain ⟨j,hj⟩:=List.mem_iff_getElem?.mp hb
     rw [List.getElem?_drop] at hj
     exact ⟨i,_,by omega,by omega,e,hj⟩
  ·rintro ⟨i',j,h1,h2,h3,h4⟩
   by_cases e:i' < i
   ·exact .inl ⟨i',j,e,h2,h3,h4⟩
   ·have:i'=i:=by omega
    subst this
    right
    rw [h3]
    refine List.mem_map.mpr ⟨p.2,List.mem_iff_getElem?.mpr ⟨j - (i' + 1),?_⟩,rfl⟩
    rw [List.getElem?_drop,show i' + 1 + (j - (i' + 1))=j by omega];exact h4
def fc (t m:Rat) (p:Ky × Ky):Bool:=decide (p.2.v < p.1.v∧p.1.p < p.2.p∧dH t p.1 p.2≤m)
def bZ (p:Ky × Ky):Bool:=decide (p.2.v < p.1.v)
theorem C8 {t m:Rat} {ks:List Ky} (h:(ks.map Ky.n).Nodup):bA t (fc t m) (t9 (bT ks) (bT ks).length)=mS t ks m:=by
 have hs:=cg h
 have hn:((bT ks).map Ky.n).Nodup:=iZ hs (fun x hx y hy e=>f9 h x ((a7 _ _).mp hx) y ((a7 _ _).mp hy) e)
 refine tY (fZ _ _ _) (yh _ _ _) fun x=>?_
 rw [oU _ (rj.of hn fun p hp=>by
  obtain ⟨i,j,_,_,h3,h4⟩:=ko.mp hp
  exact ⟨List.mem_of_getElem? h3,List.mem_of_getElem? h4⟩),yg]
 constructor
 ·rintro ⟨p,hp,hc,rfl⟩
  obtain ⟨i,j,_,_,h3,h4⟩:=ko.mp hp
  have hc:=of_decide_eq_true hc
  exact ⟨p.1,(a7 _ _).mp (List.mem_of_getElem? h3),p.2,(a7 _ _).mp (List.mem_of_getElem? h4),hc.1,hc.2.1,hc.2.2,rfl⟩
 ·rintro ⟨a,ha,b,hb,h1,h2,h3,rfl⟩
  obtain ⟨i,hi⟩:=List.mem_iff_getElem?.mp ((a7 _ _).mpr ha)
  obtain ⟨j,hj⟩:=List.mem_iff_getElem?.mp ((a7 _ _).mpr hb)
  have hab:a.lt b=true:=(Ky.lt_iff a b).mpr (.inl h2)
  have hij:i < j:=by
   obtain ⟨hil,ei⟩:=List.getElem?_eq_some_iff.mp hi
   obtain ⟨hjl,ej⟩:=List.getElem?_eq_some_iff.mp hj
   rcases Nat.lt_trichotomy i j with z | z | z
   ·exact z
   ·subst z;rw [ei] at ej;subst ej;rw [Ky.Bl] at hab;cases hab
   ·have:=List.pairwise_iff_getElem.mp hs j i hjl hil z
    rw [ei,ej] at this
    rw [Ky.F5 this] at hab;cases hab
  exact ⟨(a,b),ko.mpr ⟨i,j,(List.getElem?_eq_some_iff.mp hi).1,hij,hi,hj⟩,decide_eq_true ⟨h1,h2,h3⟩,rfl⟩
theorem nI {t:Rat} {ks:List Ky} (h:(ks.map Ky.n).Nodup):bA t bZ ((bT ks).zip (bT ks).tail)=eA t ks:=by
 have hs:=cg h
 have hn:((bT ks).map Ky.n).Nodup:=iZ hs (fun x hx y hy e=>f9 h x ((a7 _ _).mp hx) y ((a7 _ _).mp hy) e)
 refine tY (fZ _ _ _) (uk _ _) fun x=>?_
 rw [oU _ (rj.of hn fun p hp=>by
  obtain ⟨i,h3,h4⟩:=cv.mp (show (p.1,p.2)∈_ from hp)
  exact ⟨List.mem_of_getElem? h3,List.mem_of_getElem? h4⟩),uj]
 constructor
 ·rintro ⟨p,hp,hc,rfl⟩
  obtain ⟨i,h3,h4⟩:=cv.mp (show (p.1,p.2)∈_ from hp)
  exact ⟨i,p.1,p.2,h3,h4,of_decide_eq_true hc,rfl⟩
 ·rintro ⟨i,a,b,h1,h2,h3,rfl⟩
  exact ⟨(a,b),cv.mpr ⟨i,h1,h2⟩,decide_eq_true h3,rfl⟩
end Ov
set_option maxHeartbeats 4000000
namespace Ov
open PySem PySem.Spec PyProof.Rows L2
def top (i:Nat):Stmt:=PySem.Challenge.pw_overhaul_k20_leaving.main.body.getD i (.Pass ⟨0,0,0,0⟩)
set_option compiler.extract_closed false
set_option hygiene false
local macro_rules | `(tactic| dsimp! only [$ls,*])=>`(tactic| simp only [C4,xh,vw,mz,C3,xk,CZ,xm,A_,Ir,yw,tC,rI,Bn,rU,Kw,KC,CU,CT,CV,Int.reduceLT,C2,tZ,vB,D0,nF,C5,A7,C0,xi,xf,C1,A5,HL,tB,Io,xg,Im,wF,BC,vW,Bz,v7,v8,Di,Hj,Hl,DP,Hm,K4,c6,eI,i_,yU,HO.lst.injEq,HO.tup.injEq,List.set_cons_zero,List.set_cons_succ,List.getElem?_cons_zero,List.getElem?_cons_succ,Option.some.injEq,exists_eq_left',exists_eq_left,exists_and_left,exists_eq,exists_eq',V.int.injEq,V.bl.injEq,V.ref.injEq,V.str.injEq,V.ty.injEq,decide_eq_true_eq,true_and,and_true,List.cons.injEq,List.append_nil,List.cons_append,List.nil_append,reduceCtorEq,Bool.not_eq_true',decide_eq_false_iff_not,and_assoc,ite_not,if_true,if_false,Bool.false_eq_true,decide_true,decide_false,L2.start,List.map_cons,List.map_nil,List.length_cons,List.length_nil,Nat.reduceAdd,Nat.reduceSub,List.replicate,pH,Cx.EM,Cx.nH,false_and,and_false,exists_false,false_or,or_false,id,cP,Option.getD_some,Hk,Iq,xj,l8,Hx,FC,BB,DU,$ls,*])
local macro_rules | `(tactic| simp_arith [$t:term])=>`(tactic| refine Kr F $t (fun xs J Q E h=>?_) (fun cdv A outer s H E G xs J Q E2 hr h B=>?_))
local macro_rules | `(tactic| simp_arith! only [$ls,*])=>`(tactic| simp only [Cw,JH,IP,Hb,He,gA,rC,rg,KG,rB,Hy,Cv,JE,Hr,DN,Hs,DR,Kz,ou,ie,Hz,Ho,Kx,wH,DS,KD,Hg,Jz,Hf,sY,Hh,CA,Cz,mY,wG,Hv,DT,vd,BA,Ke,Kd,Kf,ot,Ht,DO,kQ,s_,Ki,KY,Kj,KW,JA,JB,Au,qI,qU,G',Kv,Av,DI,Hd,Hc,Jy,G6,Fb,G9,E9,As,Jx,qx,Ha,E8,wC,G7,Jd,I_,Gy,Jl,Jm,GD,GC,Dq,JT,HX,JS,JU,JV,JR,H0,HS,D1,HR,HV,HP,HU,I8,I9,Gs,IU,IW,IY,IZ,IV,IX,JN,JP,JO,DH,Eb,Ed,Gf,Ec,Gg,Cq,qr,E7,Cr,vc,eq_int,eq_str,Gj,vS,Et,Eu,HZ,EC,mH,Em,vt,List.map_cons,List.map_nil,List.length_cons,List.length_nil,Nat.reduceAdd,Nat.reduceSub,Nat.reduceLeDiff,List.replicate,List.cons_append,List.nil_append,List.append_nil,List.getElem?_cons_zero,List.getElem?_cons_succ,List.set_cons_zero,List.set_cons_succ,Option.some.injEq,exists_eq_left',exists_eq_left,exists_and_left,exists_eq,exists_eq',PV.int.injEq,PV.bl.injEq,PV.ref.injEq,PV.str.injEq,PV.ty.injEq,PV.tup.injEq,PV.fl.injEq,HQ.lst.injEq,HQ.ins.injEq,HQ.dct.injEq,decide_eq_true_eq,true_and,and_true,List.cons.injEq,reduceCtorEq,Bool.not_eq_true',decide_eq_false_iff_not,and_assoc,ite_not,if_true,if_false,Bool.false_eq_true,decide_true,decide_false,false_and,and_false,exists_false,false_or,or_false,id,c6,eI,i_,yU,F6,F7,F8,F9,F_,F',D_,D',K6,Bool.not_true,Bool.not_false,Option.map_some,au,Bool.and_true,Bool.true_and,Bool.and_false,Bool.false_and,Ds,GF,GG,GH,GI,GJ,GK,GL,GN,GO,ED,EE,EF,HY,ty_int,ty_bool,ty_str,FG,ty_list,String.reduceEq,List.isEmpty_cons,List.isEmpty_nil,lH,Option.getD_some,List.not_mem_nil,exists_const,G_,Cu,DJ,Aw,DL,DM,DQ,Kg,E_,wD,qy,Kh,$ls,*])
local macro_rules | `(tactic| simp_all! only [$ls,*])=>`(tactic| repeat (first | refine Fs ?_ | simp_arith! only [$ls,*]))
section
variable {P:Program} {w:World} {K:PySem.W.Frag} {mg:Str→Option Value} {base:Heap}
abbrev j6:Stmt:=(top 12)
theorem kW:L2.aw ["one","two"] ["one","two"] (L2.aj j6):=dk
def nv:Sp:=fun vs H Q _=>∃ a b:Int,vs=[.int a,.int b]∧Q (.int (Int.gcd a b:Nat)) H
theorem x6 {f:Addr} {fd:FuncData} (F:bQ K "shared" "shared" j6 f fd) (Z:yF mg):aH P w K mg base ma 1 f fd ["one","two"] nv:=by
 refine F.ok kW (fun vs H Q E h=>?_) (fun cdv A outer s H vs Q E hr h=>?_)
 ·obtain ⟨a,b,rfl,_⟩:=h
  rfl
 obtain ⟨a,b,rfl,q⟩:=h
 refine ⟨_,(QB.run (aQ (kO (i:=0) (j:=1) rfl kW.nd rfl rfl (by decide) rfl rfl (aO (de jK rfl Z.abs boot_abs (aO (pv 0) bt)) (aO (de jK rfl Z.abs boot_abs (aO (pv 1) bt)) bt)) rfl)
   (aQ (ib PassesOwn.never (cW DB (pv 1) aI (ax _)) (bx (kO (i:=0) (j:=1) rfl kW.nd rfl rfl (by decide) rfl rfl (aO (pv 1) (aO (a8 fj (pv 0) (pv 1)) bt)) rfl)))
   (bx (c7 (pv 0)))))),?_⟩
 refine ⟨_,rfl,a,rfl,_,rfl,b,rfl,_,_,rfl,?_⟩
 refine t6 (fun σ H'=>∃ x y:Int,σ=[some (.int x),some (.int y)]∧H=H'∧0≤x∧0≤y∧Int.gcd x y=Int.gcd a b) (fun σ _=>match σ with | [_,some (.int y)]=>y.toNat | _=>0)
  ⟨_,_,rfl,rfl,by split <;> omega,by split <;> omega,BD a b⟩ ?_ (fun σ H Q Q' m h=>?_)
 ·rintro σ H' ⟨x,y,rfl,rfl,hx,hy,hg⟩
  dsimp! only [rJoin]
  split
  ·rename_i hy0
   subst hy0
   rw [← hg,vX hx] at q
   exact q
  ·rename_i hy0
   have h1:=Int.emod_lt_of_pos x (show 0 < y by omega)
   have h2:=Int.emod_nonneg x hy0
   exact ⟨by omega,hy,h2,(rQ hy0).trans hg,by omega⟩
 ·obtain ⟨v,e,hs,k,ek,hq⟩:=h
  exact ⟨v,e,hs,k,ek,m _ _ hq⟩
def Dig:List Int→List Int→Prop
 | [],[]=>True
 | d :: ds,s :: ss=>(0≤d∧d < s)∧Dig ds ss
 | _,_=>False
theorem Dig.snoc:∀ {ds ss:List Int} {d s:Int},Dig ds ss→0≤d→d < s→Dig (ds ++ [d]) (ss ++ [s])
 | [],[],_,_,_,h0,h1=>⟨⟨h0,h1⟩,trivial⟩
 | _ :: _,_ :: _,_,_,h,h0,h1=>⟨h.1,Dig.snoc h.2 h0 h1⟩
 | [],_ :: _,_,_,h,_,_=>h.elim
 | _ :: _,[],_,_,h,_,_=>h.elim
theorem Dig.cons:∀ {ds ss:List Int} {s:Int},Dig ds (s :: ss)→∃ d r,ds=d :: r∧0≤d∧d < s∧Dig r ss
 | [],_,_,h=>h.elim
 | d :: r,_,_,h=>⟨d,r,rfl,h.1.1,h.1.2,h.2⟩
theorem Dig.nil:∀ {ds:List Int},Dig ds []→ds=[]
 | [],_=>rfl
 | _ :: _,h=>h.elim
theorem Dig.len:∀ {ds ss:List Int},Dig ds ss→ds.length=ss.length
 | [],[],_=>rfl
 | _ :: _,_ :: _,h=>congrArg Nat.succ (Dig.len h.2)
 | [],_ :: _,h=>h.elim
 | _ :: _,[],h=>h.elim
theorem take_snoc {xs:List Int} {i:Nat} {x:Int} (h:xs[i]?=some x):xs.take (i + 1)=xs.take i ++ [x]:=by
 rw [List.take_add_one,h]
 rfl
theorem mC {ns:List Int} {i:Nat} {y:V} (h:(ns.map V.int)[i]?=some y):∃ z,y=V.int z∧ns[i]?=some z:=by
 rw [List.getElem?_map] at h
 cases e:ns[i]? with
 | none=>rw [e] at h;cases h
 | some z=>rw [e] at h;exact ⟨z,(Option.some.inj h).symm,rfl⟩
abbrev qD:Stmt:=(top 44)
theorem CL:L2.aw ["_law_script","_law_k"] ["_law_script","_law_k"] (L2.aj qD):=dk
abbrev j3:Stmt:=(top 45)
theorem cZ:L2.aw ["_law_cell_here","_law_sizes","_law_out","_law_rest","_law_size","_law_one","_law_k","_law_two"] ["_law_cell_here","_law_sizes"] (L2.aj j3):=dk
def nj (K:PySem.W.Frag):Sp:=fun vs H Q _=>∃ (c:Int) (a:Addr) (ss:List Int),vs=[.int c,.ref a]∧cD K H a (ss.map V.int)∧(∀ s∈ss,0 < s∧Bd 9000 s)∧ss.length≤1000 ∧
 ∀ (r:Addr) (H':Hp) (ds:List Int),H r=none→ba H H'→H' r=some (.lst (ds.map V.int))→Dig ds ss→Q (.ref r) H'
theorem x5 {f:Addr} {fd:FuncData} (F:bQ K "_law_digits" "_law_digits" j3 f fd) (Z:yF mg):aH P w K mg base ma 1 f fd ["_law_cell_here","_law_sizes"] (nj K):=by
 refine F.ok cZ (fun vs H Q E h=>?_) (fun cdv A outer s H vs Q E hr h=>?_)
 ·obtain ⟨c,a,ss,rfl,_⟩:=h
  rfl
 obtain ⟨c,a,ss,rfl,hS,hs,hl,q⟩:=h
 refine ⟨_,(QB.run (aQ (cq (i:=2) cZ.nd rfl (Or.inl rfl) (h_ bt))
   (aQ (jY (cW Dy (pv 0) (a8 Aa aI aI) (ax _)) (aQ (cq (i:=3) cZ.nd rfl (Or.inl rfl) (a8 uQ (pv 0) (a8 Aa aI aI)))
   (aQ (kM PassesOwn.never rfl (jX (pv 1)) (iH (i:=4) cZ.nd rfl (Or.inl rfl)) (aQ (iJ (mT PySem.F.plainAttrs_list PySem.F.slot_list_append PySem.F.type_list_append e_ (pv 2) (aO (a8 fj (pv 3) (pv 4)) bt)))
   (bx (cq (i:=3) cZ.nd rfl (Or.inl rfl) (a8 fi (pv 3) (pv 4))))))
   (bx (c7 (pv 2))))) eK)
   (aQ (cq (i:=5) cZ.nd rfl (Or.inl rfl) (a8 fj (pv 0) aI))
   (aQ (kM PassesOwn.never rfl (fb rfl Z.range (aO (de gr rfl Z.len boot_len (aO (pv 1) bt)) bt)) (iH (i:=6) cZ.nd rfl (Or.inl rfl)) (aQ (cq (i:=5) cZ.nd rfl (Or.inl rfl) (a8 fj (a8 gy (a8 b_ (pv 5) aI) (a8 b_ aI (a8 gy (pv 6) aI))) aI))
   (aQ (cq (i:=7) cZ.nd rfl (Or.inl rfl) (a8 fj (a8 gy (a8 gy (a8 b_ (pv 5) (pv 5)) (a8 b_ aI (pv 5))) (pv 6)) aI))
   (bx (iJ (mT PySem.F.plainAttrs_list PySem.F.slot_list_append PySem.F.type_list_append e_ (pv 2) (aO (a8 fj (a8 fi (pv 7) aI) (bO pN (pv 1) (pv 6) (fun _ _=>rfl))) bt)))))))
   (bx (c7 (pv 2)))))))),?_⟩
 refine ⟨Nat.zero_le _,fun r hr'=>?_⟩
 have g0:=ba.new hr' (.lst [])
 refine ⟨_,rfl,_,_,rfl,rfl,⟨by decide,by decide,by decide⟩,_,_,rfl,rfl,_,rfl,?_⟩
 refine zw (fun _=>?_) (fun _=>?_)
 ·refine ⟨_,rfl,_,_,rfl,rfl,⟨by decide,by decide,by decide⟩,_,_,rfl,rfl,?_⟩
  refine ⟨_,rfl,a,rfl,⟨_,g0.seq hS⟩,za (K:=K) (a:=a) (xs:=ss.map V.int) (fun i σ H2=>∃ (ds:List Int) (rest:Int) (u:Option V),σ=[some (.int c),some (.ref a),some (.ref r),some (.int rest),u,none,none,none] ∧
   ba H H2∧H2 r=some (.lst (ds.map V.int))∧Dig ds (ss.take i)) ⟨[],_,none,rfl,g0,aB,trivial⟩ (fun i σ H2 _ ⟨_,_,_,_,s2,_⟩=>s2.seq hS) ?_ ?_⟩
  ·rintro i y σ H2 hi ⟨ds,rest,u,rfl,s2,hd,hD⟩
   obtain ⟨z,rfl,hz⟩:=mC hi
   obtain ⟨z0,zb⟩:=hs z (List.mem_of_getElem? hz)
   have hil:i < ss.length:=(List.getElem?_eq_some_iff.mp hz).1
   have dl:=hD.len
   rw [List.length_take] at dl
   refine ⟨_,rfl,.inl ⟨rfl,_,cD.of hd⟩,_,rfl,_,rfl,_,_,rfl,rfl,z0,r,_,_,rfl,rfl,hd,?_,?_⟩
   ·rw [List.length_map]
    exact aV (by omega)
   refine ⟨_,rfl,_,rfl,_,_,rfl,rfl,⟨by omega,zb⟩,?_⟩
   refine ⟨ds ++ [rest % z],_,_,rfl,s2.FU hr' _,?_,?_⟩
   ·rw [aB,List.map_append]
    rfl
   ·rw [take_snoc hz]
    exact hD.snoc (Int.emod_nonneg _ (by omega)) (Int.emod_lt_of_pos _ z0)
  ·rintro σ H2 ⟨ds,rest,u,rfl,s2,hd,hD⟩
   rw [List.length_map,List.take_length] at hD
   exact ⟨_,rfl,q r H2 ds hr' s2 hd hD⟩
 ·refine ⟨_,rfl,_,_,rfl,rfl,(show (0:Int) < 2147483647 by decide),?_⟩
  refine ⟨_,rfl,a,_,rfl,.inl (g0.seq hS),_,rfl,?_,?_,oV (lo:=0) (n:=(ss.map V.int).length) (fun i σ H2=>∃ (ds:List Int) (one:Int) (u v:Option V),σ=[some (.int c),some (.ref a),some (.ref r),none,none,some (.int one),u,v] ∧
   0≤one∧one < 2147483647∧ba H H2∧H2 r=some (.lst (ds.map V.int))∧Dig ds (ss.take i)) ⟨[],_,none,none,rfl,Int.emod_nonneg _ (by decide),Int.emod_lt_of_pos _ (by decide),g0,aB,trivial⟩ ?_ ?_⟩
  ·omega
  ·rw [List.length_map];omega
  ·rintro i σ H2 hi ⟨ds,one,u,v,rfl,o0,o1,s2,hd,hD⟩
   rw [List.length_map] at hi
   have hz:ss[i]?=some ss[i]:=List.getElem?_eq_getElem hi
   obtain ⟨z0,zb⟩:=hs ss[i] (List.getElem_mem hi)
   have dl:=hD.len
   rw [List.length_take] at dl
   have e1:c5 (ss.map V.int) (0 + (i:Int))=some (.int ss[i]):=by
    rw [Int.zero_add]
    exact bc (by rw [List.getElem?_map,hz];rfl)
   dsimp! only [rJoin]
   have A0:0≤(one * 48271 + 10007 * (0 + (i:Int) + 1)) % 2147483629:=Int.emod_nonneg _ (by decide)
   have A1:(one * 48271 + 10007 * (0 + (i:Int) + 1)) % 2147483629 < 2147483629:=Int.emod_lt_of_pos _ (by decide)
   generalize (one * 48271 + 10007 * (0 + (i:Int) + 1)) % 2147483629=A at A0 A1 ⊢
   generalize ((A * A + 69621 * A + (0 + (i:Int))) % 2147483563).fdiv 11=B
   have small:∀ x:Int,0≤x→x < 2147483648→Bd 64 x:=fun x h1 h2=>Bd.small (by omega) (by omega)
   refine ⟨.of (small _ o0 (by omega)) (small _ (by decide) (by decide)),.of (small _ (by decide) (by decide)) (small _ (by omega) (by omega)),.of (small _ A0 (by omega)) (small _ A0 (by omega)),
    .of (small _ (by decide) (by decide)) (small _ A0 (by omega)),.inl ⟨rfl,_,cD.of hd⟩,⟨by decide,(small _ (by decide) (by decide)).mono (by decide)⟩,_,s2.seq hS,_,e1,_,rfl,z0,_,hd,?_,A0,by omega,s2.FU hr' _,ds ++ [B % ss[i]],?_,?_⟩
   ·rw [List.length_map]
    exact aV (by omega)
   ·rw [aB,List.map_append]
    rfl
   ·rw [take_snoc hz]
    exact hD.snoc (Int.emod_nonneg _ (by omega)) (Int.emod_lt_of_pos _ z0)
  ·rintro σ H2 ⟨ds,one,u,v,rfl,o0,o1,s2,hd,hD⟩
   rw [List.length_map,List.take_length] at hD
   exact ⟨_,rfl,q r H2 ds hr' s2 hd hD⟩
def F0 (H:Hp) (q:Rat) (Q:VK):Prop:=∀ (r:Addr) (H':Hp),ba H H'→H' r=some (.tup [.int q.num,.int q.den])→Q (.ref r) H'
abbrev gH:Stmt:=(top 13)
theorem ik:L2.aw ["top","bottom","divisor"] ["top","bottom"] (L2.aj gH):=dk
def fo:Sp:=fun vs H Q _=>∃ t b:Int,vs=[.int t,.int b]∧b≠0∧Bd 9000 b∧F0 H (Rat.divInt t b) Q
theorem zg {n:Nat} {t b:Int} (h:b≠0) (hb:Bd n b):Bd n ((Int.gcd t b:Nat):Int):=hb.le (by have:=Ep (t:=t) h;omega)
theorem sC {f:Addr} {fd:FuncData} (F:bQ K "fraction" "fraction" gH f fd) (Z:yF mg) (C_shared:nJ P w K mg base 1 "shared" ["one","two"] nv):aH P w K mg base ma 2 f fd ["top","bottom"] fo:=by
 refine F.ok ik (fun vs H Q E h=>?_) (fun cdv A outer s H vs Q E hr h=>?_)
 ·obtain ⟨t,b,rfl,_⟩:=h
  rfl
 obtain ⟨t,b,rfl,hb,bb,q⟩:=h
 have hg:=vY (t:=t) hb
 have gb:=zg (t:=t) hb bb
 refine ⟨_,(QB.run (aQ (jY (cW z_ (pv 1) aI (ax _)) kP eK)
   (aQ (cq (i:=2) ik.nd rfl (Or.inl rfl) (sU C_shared hr (by decide) rfl (aO (pv 0) (aO (pv 1) bt))))
   (sW (jY (cW wt (pv 1) aI (ax _)) (bx (cq (i:=2) ik.nd rfl (Or.inl rfl) (wy Bf (pv 2)))) eK)
   (bx (c7 (mV (aO (a8 fi (pv 0) (pv 2)) (aO (a8 fi (pv 1) (pv 2)) bt))))))))),?_⟩
 refine ⟨_,rfl,rfl,_,rfl,?_⟩
 refine zw (fun c=>absurd (V.int.inj (of_decide_eq_true c)) hb) (fun _=>?_)
 refine ⟨_,rfl,_,rfl,t,b,rfl,?_⟩
 refine ⟨fun σ' H'=>∃ d:Int,σ'=[some (.int t),some (.int b),some (.int d)]∧H=H'∧d≠0∧Bd 9000 d∧t.fdiv d=(Rat.divInt t b).num∧b.fdiv d=(Rat.divInt t b).den,?_,?_⟩
 ·refine ⟨_,rfl,_,_,rfl,rfl,_,rfl,zw (fun c=>?_) (fun c=>?_)⟩
  ·have c':b < 0:=of_decide_eq_true c
   exact ⟨_,rfl,_,rfl,_,rfl,rfl,by omega,gb.neg,wq c',Bw c'⟩
  ·have c':0 < b:=by
    have:=of_decide_eq_false (Bool.eq_false_iff.mpr c)
    omega
   exact ⟨_,rfl,rfl,by omega,gb,pV c',den_pos c'⟩
 rintro _ _ ⟨d,rfl,rfl,hd,bd,e1,e2⟩
 refine ⟨_,rfl,_,rfl,_,_,rfl,rfl,⟨hd,bd⟩,_,rfl,_,rfl,_,_,rfl,rfl,⟨hd,bd⟩,(by show 2≤sizeLine;decide),fun p hp=>?_⟩
 exact q p _ (ba.new hp _) (by rw [aB];show some (HO.tup [V.int (t.fdiv d),V.int (b.fdiv d)])=_;rw [e1,e2])
abbrev wI:Stmt:=(top 47)
theorem qP:L2.aw ["_law_top","_law_bottom","_law_one","_law_two"] ["_law_top","_law_bottom"] (L2.aj wI):=dk
def DV:Sp:=fun vs H Q _=>∃ t b:Int,vs=[.int t,.int b]∧0 < b∧Bd 9000 b∧F0 H (Rat.divInt t b) Q
theorem EO {f:Addr} {fd:FuncData} (F:bQ K "_law_low" "_law_low" wI f fd) (Z:yF mg):aH P w K mg base ma 1 f fd ["_law_top","_law_bottom"] DV:=by
 refine F.ok qP (fun vs H Q E h=>?_) (fun cdv A outer s H vs Q E hr h=>?_)
 ·obtain ⟨t,b,rfl,_⟩:=h
  rfl
 obtain ⟨t,b,rfl,hb,bb,q⟩:=h
 have hg:=vY (t:=t) (show b≠0 by omega)
 have gb:=zg (t:=t) (show b≠0 by omega) bb
 refine ⟨_,(QB.run (aQ (cq (i:=2) qP.nd rfl (Or.inl rfl) (de jK rfl Z.abs boot_abs (aO (pv 0) bt)))
   (aQ (cq (i:=3) qP.nd rfl (Or.inl rfl) (pv 1))
   (aQ (ib PassesOwn.never (cW DB (pv 3) aI (ax _)) (bx (kO (i:=2) (j:=3) rfl qP.nd rfl rfl (by decide) rfl rfl (aO (pv 3) (aO (a8 fj (pv 2) (pv 3)) bt)) rfl)))
   (bx (c7 (mV (aO (a8 fi (pv 0) (pv 2)) (aO (a8 fi (pv 1) (pv 2)) bt))))))))),?_⟩
 refine ⟨_,rfl,t,rfl,_,rfl,?_⟩
 refine t6 (fun σ H'=>∃ x y:Int,σ=[some (.int t),some (.int b),some (.int x),some (.int y)]∧H=H'∧0≤x∧0≤y∧Int.gcd x y=Int.gcd t b) (fun σ _=>match σ with | [_,_,_,some (.int y)]=>y.toNat | _=>0)
  ⟨_,_,rfl,rfl,by split <;> omega,by omega,zf t b⟩ ?_ (fun σ H Q Q' m h=>?_)
 ·rintro σ H' ⟨x,y,rfl,rfl,hx,hy,hg'⟩
  dsimp! only [rJoin]
  split
  ·rename_i hy0
   subst hy0
   have ex:x=((Int.gcd t b:Nat):Int):=by rw [← hg',vX hx]
   subst ex
   refine ⟨⟨by omega,gb⟩,⟨by omega,gb⟩,(by show 2≤sizeLine;decide),fun p hp=>?_⟩
   exact q p _ (ba.new hp _) (by rw [aB,pV hb,den_pos hb])
  ·rename_i hy0
   have h1:=Int.emod_lt_of_pos x (show 0 < y by omega)
   have h2:=Int.emod_nonneg x hy0
   exact ⟨by omega,hy,h2,(rQ hy0).trans hg',by omega⟩
 ·obtain ⟨v,e,hs,k,ek,hq⟩:=h
  exact ⟨v,e,hs,k,ek,m _ _ hq⟩
theorem A3 {m n:Nat} {t b:Int} (hb:b≠0) (h1:Bd m t) (h2:Bd n b) (k:Nat) (hm:m≤k) (hn:n≤k):Sz k (Rat.divInt t b) :=
 ⟨(h1.le (wo t b)).mono hm,(h2.le (pI hb)).mono hn⟩
theorem pU (p q:Rat):(p.den:Int) * (q.den:Int)≠0:=Int.mul_ne_zero (dW p) (dW q)
theorem Sz.add {m n k:Nat} {p q:Rat} (h:Sz m p) (g:Sz n q) (hk:m + n + 1≤k:=by decide):Sz k (p + q):=by
 rw [← add_eq]
 exact A3 (pU p q) (.add (.mul h.num g.den (Nat.le_refl _)) (.mul g.num h.den (Nat.le_refl _)) (Nat.le_refl _)) (.mul h.den g.den (Nat.le_refl _)) k (by omega) (by omega)
theorem Sz.sub {m n k:Nat} {p q:Rat} (h:Sz m p) (g:Sz n q) (hk:m + n + 1≤k:=by decide):Sz k (p - q):=by
 rw [← sub_eq]
 exact A3 (pU p q) (.sub (.mul h.num g.den (Nat.le_refl _)) (.mul g.num h.den (Nat.le_refl _)) (Nat.le_refl _)) (.mul h.den g.den (Nat.le_refl _)) k (by omega) (by omega)
theorem Sz.mul {m n k:Nat} {p:Rat} {i:Int} (h:Sz m p) (g:Bd n i) (hk:m + n≤k:=by decide):Sz k (p * i):=by
 rw [← mul_eq]
 exact A3 (dW p) (.mul h.num g (Nat.le_refl _)) h.den k hk (by omega)
def HG (K:PySem.W.Frag) (g:Rat→Rat→Rat):Sp:=fun vs H Q _=>∃ (a b:Addr) (p q:Rat),vs=[.ref a,.ref b]∧FJ K H a p∧FJ K H b q∧Sz 4000 p∧Sz 4000 q∧F0 H (g p q) Q
abbrev qH:Stmt:=(top 14)
theorem CS:L2.aw ["one","two"] ["one","two"] (L2.aj qH):=dk
theorem B3 {f:Addr} {fd:FuncData} (F:bQ K "plus" "plus" qH f fd) (Z:yF mg) (C_fraction:nJ P w K mg base 2 "fraction" ["top","bottom"] fo):aH P w K mg base ma 3 f fd ["one","two"] (HG K fun p q=>p + q):=by
 refine F.ok CS (fun vs H Q E h=>?_) (fun cdv A outer s H vs Q E hr h=>?_)
 ·obtain ⟨a,b,p,q,rfl,_⟩:=h
  rfl
 obtain ⟨a,b,p,q,rfl,ha,hb,sp,sq,k⟩:=h
 refine ⟨_,(QB.run (bx (c7 (sU C_fraction hr (by decide) rfl (aO (a8 gy (a8 b_ (bO cn (pv 0) aI (fun _ _=>rfl)) (bO cn (pv 1) aI (fun _ _=>rfl))) (a8 b_ (bO cn (pv 1) aI (fun _ _=>rfl)) (bO cn (pv 0) aI (fun _ _=>rfl)))) (aO (a8 b_ (bO cn (pv 0) aI (fun _ _=>rfl)) (bO cn (pv 1) aI (fun _ _=>rfl))) bt)))))),?_⟩
 refine ⟨_,rfl,_,_,_,_,rfl,rfl,ha,rfl,_,rfl,_,_,_,_,rfl,rfl,hb,rfl,_,_,rfl,rfl,.of sp.num sq.den,_,rfl,_,_,_,_,rfl,rfl,hb,rfl,_,rfl,_,_,_,_,rfl,rfl,ha,rfl,_,_,rfl,rfl,.of sq.num sp.den,_,_,rfl,rfl,_,rfl,_,_,_,_,rfl,rfl,ha,rfl,_,rfl,_,_,_,_,rfl,rfl,hb,rfl,_,_,rfl,rfl,.of sp.den sq.den,_,_,rfl,pU p q,.mul sp.den sq.den,?_⟩
 rw [add_eq]
 exact k
abbrev lY:Stmt:=(top 15)
theorem AH:L2.aw ["one","two"] ["one","two"] (L2.aj lY):=dk
theorem zR {f:Addr} {fd:FuncData} (F:bQ K "minus" "minus" lY f fd) (Z:yF mg) (C_fraction:nJ P w K mg base 2 "fraction" ["top","bottom"] fo):aH P w K mg base ma 3 f fd ["one","two"] (HG K fun p q=>p - q):=by
 refine F.ok AH (fun vs H Q E h=>?_) (fun cdv A outer s H vs Q E hr h=>?_)
 ·obtain ⟨a,b,p,q,rfl,_⟩:=h
  rfl
 obtain ⟨a,b,p,q,rfl,ha,hb,sp,sq,k⟩:=h
 refine ⟨_,(QB.run (bx (c7 (sU C_fraction hr (by decide) rfl (aO (a8 uQ (a8 b_ (bO cn (pv 0) aI (fun _ _=>rfl)) (bO cn (pv 1) aI (fun _ _=>rfl))) (a8 b_ (bO cn (pv 1) aI (fun _ _=>rfl)) (bO cn (pv 0) aI (fun _ _=>rfl)))) (aO (a8 b_ (bO cn (pv 0) aI (fun _ _=>rfl)) (bO cn (pv 1) aI (fun _ _=>rfl))) bt)))))),?_⟩
 refine ⟨_,rfl,_,_,_,_,rfl,rfl,ha,rfl,_,rfl,_,_,_,_,rfl,rfl,hb,rfl,_,_,rfl,rfl,.of sp.num sq.den,_,rfl,_,_,_,_,rfl,rfl,hb,rfl,_,rfl,_,_,_,_,rfl,rfl,ha,rfl,_,_,rfl,rfl,.of sq.num sp.den,_,_,rfl,rfl,_,rfl,_,_,_,_,rfl,rfl,ha,rfl,_,rfl,_,_,_,_,rfl,rfl,hb,rfl,_,_,rfl,rfl,.of sp.den sq.den,_,_,rfl,pU p q,.mul sp.den sq.den,?_⟩
 rw [sub_eq]
 exact k
abbrev l3:Stmt:=(top 16)
theorem AJ:L2.aw ["one","many"] ["one","many"] (L2.aj l3):=dk
def w9 (K:PySem.W.Frag):Sp:=fun vs H Q _=>∃ (a:Addr) (p:Rat) (m:Int),vs=[.ref a,.int m]∧FJ K H a p∧Sz 9000 p∧Bd 9000 m∧F0 H (p * m) Q
theorem zT {f:Addr} {fd:FuncData} (F:bQ K "times" "times" l3 f fd) (Z:yF mg) (C_fraction:nJ P w K mg base 2 "fraction" ["top","bottom"] fo):aH P w K mg base ma 3 f fd ["one","many"] (w9 K):=by
 refine F.ok AJ (fun vs H Q E h=>?_) (fun cdv A outer s H vs Q E hr h=>?_)
 ·obtain ⟨a,p,m,rfl,_⟩:=h
  rfl
 obtain ⟨a,p,m,rfl,ha,sp,bm,k⟩:=h
 refine ⟨_,(QB.run (bx (c7 (sU C_fraction hr (by decide) rfl (aO (a8 b_ (bO cn (pv 0) aI (fun _ _=>rfl)) (pv 1)) (aO (bO cn (pv 0) aI (fun _ _=>rfl)) bt)))))),?_⟩
 refine ⟨_,rfl,_,_,_,_,rfl,rfl,ha,rfl,_,rfl,_,_,rfl,rfl,.of sp.num bm,_,rfl,_,_,_,_,rfl,rfl,ha,rfl,_,_,rfl,dW p,sp.den,?_⟩
 rw [mul_eq]
 exact k
abbrev qF:Stmt:=(top 17)
theorem CO:L2.aw ["one","two"] ["one","two"] (L2.aj qF):=dk
def AR (K:PySem.W.Frag):Sp:=fun vs H Q _=>∃ (a b:Addr) (p q:Rat),vs=[.ref a,.ref b]∧FJ K H a p∧FJ K H b q∧Sz 9000 p∧Sz 9000 q∧Q (.bl (decide (p < q))) H
theorem BM (p q:Rat):decide (p.num * q.den < q.num * p.den)=decide (p < q):=decide_eq_decide.mpr (Rat.lt_iff p q).symm
theorem B2 {f:Addr} {fd:FuncData} (F:bQ K "less" "less" qF f fd) (Z:yF mg):aH P w K mg base ma 1 f fd ["one","two"] (AR K):=by
 refine F.ok CO (fun vs H Q E h=>?_) (fun cdv A outer s H vs Q E hr h=>?_)
 ·obtain ⟨a,b,p,q,rfl,_⟩:=h
  rfl
 obtain ⟨a,b,p,q,rfl,ha,hb,sp,sq,k⟩:=h
 refine ⟨_,(QB.run (bx (c7 (lQ wt (a8 b_ (bO cn (pv 0) aI (fun _ _=>rfl)) (bO cn (pv 1) aI (fun _ _=>rfl))) (a8 b_ (bO cn (pv 1) aI (fun _ _=>rfl)) (bO cn (pv 0) aI (fun _ _=>rfl))) (ax _))))),?_⟩
 refine ⟨_,rfl,_,_,_,_,rfl,rfl,ha,rfl,_,rfl,_,_,_,_,rfl,rfl,hb,rfl,_,_,rfl,rfl,.of sp.num sq.den,_,rfl,_,_,_,_,rfl,rfl,hb,rfl,_,rfl,_,_,_,_,rfl,rfl,ha,rfl,_,_,rfl,rfl,.of sq.num sp.den,_,_,rfl,rfl,?_⟩
 show Q (.bl (decide (p.num * q.den < q.num * p.den))) H
 rw [BM]
 exact k
theorem wa {K:PySem.W.Frag} {J:Hq} {H:Hp}:∀ {ns:List Int} {vs:List V},aJ K J H (ns.map PV.int) vs→vs=ns.map V.int
 | [],_,h=>h
 | n :: ns,_,⟨v,us,e,h,k⟩=>by subst e;cases h;rw [wa k];rfl
theorem ES {K:PySem.W.Frag} {J:Hq} {H:Hp} {x:PV} {vs:List V} (h:aJ K J H [x] vs):∃ v,vs=[v]∧bR K J H x v:=by
 obtain ⟨v,us,rfl,h1,h2⟩:=h;cases h2;exact ⟨v,rfl,h1⟩
theorem gM {K:PySem.W.Frag} {J:Hq} {H:Hp} {x y:PV} {vs:List V} (h:aJ K J H [x,y] vs):∃ v u,vs=[v,u]∧bR K J H x v∧bR K J H y u:=by
 obtain ⟨v,us,rfl,h1,u,us',rfl,h2,h3⟩:=h;cases h3;exact ⟨v,u,rfl,h1,h2⟩
theorem mx {K:PySem.W.Frag} {J:Hq} {H:Hp} {q:Rat} {v:V} (h:bR K J H (fr q) v):∃ a,v=.ref a∧FJ K H a q:=by
 obtain ⟨a,vs,rfl,h1,h2⟩:=h
 obtain ⟨x,y,rfl,r1,r2⟩:=gM h2
 cases r1;cases r2
 exact ⟨a,rfl,h1⟩
theorem qB {K:PySem.W.Frag} {J:Hq} {H:Hp} {q:Rat} {Q2:PV→Hq→Prop} {Q:VK} (r:Rep K J H) (k:Kn K J H Q2 Q) (h:Q2 (fr q) J):F0 H q Q:=fun a H' s e =>
 k (fr q) J (.ref a) H' ⟨a,_,rfl,fQ.of e,⟨_,_,rfl,rfl,_,_,rfl,rfl,rfl⟩⟩ (r.same s) (.same s) h
def vn:b9:=fun xs J Q _=>∃ (c:Int) (ss:List Int),xs=[.int c,.fl (ss.map .int)]∧(∀ s∈ss,0 < s∧Bd 9000 s)∧ss.length≤1000∧∀ ds,Dig ds ss→Q (.fl (ds.map .int)) J
theorem sd (C:nJ P w K mg base 1 "_law_digits" ["_law_cell_here","_law_sizes"] (nj K)):aZ P w K mg base 1 "_law_digits" ["_law_cell_here","_law_sizes"] vn:=C.lift fun xs J vs H Q2 E2 Q E rs r ⟨c,ss,ex,h0,h1,q⟩ kn=>by
 subst ex
 obtain ⟨v,u,rfl,r1,⟨a,ws,rfl,h2,h3⟩⟩:=gM rs
 cases r1;cases wa h3
 refine ⟨c,a,ss,rfl,h2.sq,h0,h1,fun p H' ds hp s e D=>kn (.fl (ds.map .int)) J (.ref p) H' ⟨p,_,rfl,.inl ⟨r.free hp,.inl e⟩,kR ds⟩ (r.same s) (.same s) (q ds D)⟩
def jz:b9:=fun xs J Q _=>∃ t b:Int,xs=[.int t,.int b]∧0 < b∧Bd 9000 b∧Q (fr (Rat.divInt t b)) J
theorem zJ (C:nJ P w K mg base 1 "_law_low" ["_law_top","_law_bottom"] DV):aZ P w K mg base 1 "_law_low" ["_law_top","_law_bottom"] jz:=C.lift fun xs J vs H Q2 E2 Q E rs r ⟨t,b,ex,h0,h1,q⟩ kn=>by
 subst ex
 obtain ⟨v,u,rfl,r1,r2⟩:=gM rs
 cases r1;cases r2
 exact ⟨t,b,rfl,h0,h1,qB r kn q⟩
def c4:b9:=fun xs J Q _=>∃ p q:Rat,xs=[fr p,fr q]∧Sz 9000 p∧Sz 9000 q∧Q (.bl (decide (p < q))) J
theorem xQ (C:nJ P w K mg base 1 "less" ["one","two"] (AR K)):aZ P w K mg base 1 "less" ["one","two"] c4:=C.lift fun xs J vs H Q2 E2 Q E rs r ⟨p,q,ex,h0,h1,z⟩ kn=>by
 subst ex
 obtain ⟨v,u,rfl,r1,r2⟩:=gM rs
 obtain ⟨a,rfl,f1⟩:=mx r1
 obtain ⟨b,rfl,f2⟩:=mx r2
 exact ⟨a,b,p,q,rfl,f1,f2,h0,h1,kn (.bl _) J _ H rfl r .refl z⟩
def vj (g:Rat→Rat→Rat):b9:=fun xs J Q _=>∃ p q:Rat,xs=[fr p,fr q]∧Sz 4000 p∧Sz 4000 q∧Q (fr (g p q)) J
theorem Dr {x:Str} {ps:List Str} {k:Nat} {g:Rat→Rat→Rat} (C:nJ P w K mg base k x ps (HG K g)):aZ P w K mg base k x ps (vj g):=C.lift fun xs J vs H Q2 E2 Q E rs r ⟨p,q,ex,h0,h1,z⟩ kn=>by
 subst ex
 obtain ⟨v,u,rfl,r1,r2⟩:=gM rs
 obtain ⟨a,rfl,f1⟩:=mx r1
 obtain ⟨b,rfl,f2⟩:=mx r2
 exact ⟨a,b,p,q,rfl,f1,f2,h0,h1,qB r kn z⟩
theorem xR (C:nJ P w K mg base 3 "plus" ["one","two"] (HG K fun p q=>p + q)):aZ P w K mg base 3 "plus" ["one","two"] (vj fun p q=>p + q):=Dr C
theorem uC (C:nJ P w K mg base 3 "minus" ["one","two"] (HG K fun p q=>p - q)):aZ P w K mg base 3 "minus" ["one","two"] (vj fun p q=>p - q):=Dr C
def nA:b9:=fun xs J Q _=>∃ (p:Rat) (m:Int),xs=[fr p,.int m]∧Sz 9000 p∧Bd 9000 m∧Q (fr (p * m)) J
theorem uE (C:nJ P w K mg base 3 "times" ["one","many"] (w9 K)):aZ P w K mg base 3 "times" ["one","many"] nA:=C.lift fun xs J vs H Q2 E2 Q E rs r ⟨p,m,ex,h0,h1,z⟩ kn=>by
 subst ex
 obtain ⟨v,u,rfl,r1,r2⟩:=gM rs
 obtain ⟨a,rfl,f1⟩:=mx r1
 cases r2
 exact ⟨a,p,m,rfl,f1,h0,h1,qB r kn z⟩
def aS.V (l:aS):PV:=.tup [fr l.m,fr l.p,.int l.v]
theorem t4 (m p:Rat) (v:Int):PV.tup [fr m,fr p,.int v]=(aS.mk m p v).V:=rfl
theorem wd (J:Hq) (l:aS):eD J l.V (.int 0)=some (fr l.m):=c6 _ _
theorem Gx (J:Hq) (l:aS):eD J l.V (.int 1)=some (fr l.p):=eI _ _ _
theorem jO (J:Hq) (l:aS):eD J l.V (.int 2)=some (.int l.v):=i_ _ _ _ _
theorem IM (a b:aS):eqQ a.V b.V=decide (a=b):=by
 unfold aS.V
 rw [pJ,c_,c_,c_,lK,vS,vS,eq_int,Bool.and_true,← Bool.decide_and,← Bool.decide_and]
 apply decide_eq_decide.mpr
 cases a;cases b
 simp [aS.mk.injEq]
theorem F2 (a b:aS):(a.V=b.V)=(a=b):=by
 apply propext
 constructor
 ·intro e
  have:=IM a b
  rw [e,eq_self] at this
  exact of_decide_eq_true this.symm
 ·intro e;rw [e]
def jh:b9:=fun xs J Q _=>∃ (l:aS) (t:Rat),xs=[l.V,fr t]∧Sz 900 l.m∧Sz 900 l.p∧Sz 900 t∧Bd 64 l.v∧Q (fr (l.at t)) J
abbrev gK:Stmt:=(top 25)
theorem fL:L2.aw ["leg","moment","begun","place","pace"] ["leg","moment"] (L2.aj gK):=dk
theorem qa {f:Addr} {fd:FuncData} (F:bQ K "place_on" "place_on" gK f fd) (Z:bC mg) (C_plus:aZ P w K mg base 3 "plus" ["one","two"] (vj fun p q=>p + q)) (C_minus:aZ P w K mg base 3 "minus" ["one","two"] (vj fun p q=>p - q)) (C_times:aZ P w K mg base 3 "times" ["one","many"] nA) :
  aH P w K mg base (cF P w) 4 f fd ["leg","moment"] (c8 K jh):=by
 simp_arith [fL]
 ·obtain ⟨l,t,rfl,_⟩:=h;rfl
 obtain ⟨l,t,rfl,sb,sp,sm,bv,q⟩:=h
 have s1:Sz 1801 (t - l.m):=sm.sub sb
 have s2:Sz 1900 ((t - l.m) * (l.v:Rat)):=s1.mul bv
 refine ⟨_,(ai (qC (rv 0) (m4 rfl (cA (bj (i:=2) fL.nd rfl (Or.inl rfl)) (cA (bj (i:=3) fL.nd rfl (Or.inl rfl)) (cA (bj (i:=4) fL.nd rfl (Or.inl rfl)) j1)))))
   (ak (ay (aM C_plus B hr (by decide) rfl (af (rv 3) (af (aM C_times B hr (by decide) rfl (af (aM C_minus B hr (by decide) rfl (af (rv 1) (af (rv 2) ah))) (af (rv 4) ah))) ah)))))),?_⟩
 simp_arith! only [b7,aS.V,vj,nA]
 exact ⟨rfl,sm.mono (by decide),sb.mono (by decide),s1.mono (by decide),bv.mono (by decide),sp.mono (by decide),s2.mono (by decide),q⟩
theorem Eo (n:Int):PV.tup [.int n,.int 1]=fr (n:Rat):=rfl
theorem iB (p q:Rat):p.num * (q.den:Int)=q.num * (p.den:Int)↔p=q:=by
 have a:=cast_eq p
 have b:=cast_eq q
 have c:=c9 p
 have d:=c9 q
 constructor
 ·intro h
  have h':((p.num * (q.den:Int):Int):Rat)=((q.num * (p.den:Int):Int):Rat):=by rw [h]
  rw [Rat.intCast_mul,Rat.intCast_mul,a,b] at h'
  grind
 ·intro h;rw [h]
def gv:Option Rat→PV
 | none=>.non
 | some q=>fr q
structure Bj (cL:Addr) (J:Hq) (p r:Addr) (rows:List aS) (g:Option Rat):Prop where
 o:J p=some (.ins cL [("rows",.ref r),("gone",gv g)])
 l:J r=some (.lst (rows.map aS.V))
theorem Bj.ne {cL:Addr} {J:Hq} {p r:Addr} {rows:List aS} {g:Option Rat} (h:Bj cL J p r rows g):r≠p:=by
 intro e;subst e;have:=h.o;rw [h.l] at this;cases this
structure lz (n:Nat) (l:aS):Prop where
 m:Sz n l.m
 p:Sz n l.p
 v:Bd 64 l.v
theorem lz.mono {n k:Nat} {l:aS} (h:lz n l) (e:n≤k):lz k l:=⟨h.m.mono e,h.p.mono e,h.v⟩
theorem FP (a b:PV):([("rows",a),("gone",b)]:List (Str × PV)).lookup ("rows":Str)=some a:=rfl
theorem Km (a b:PV):([("rows",a),("gone",b)]:List (Str × PV)).lookup ("gone":Str)=some b:=rfl
theorem zK {m:Str} (a b:PV) (h:(m == ("rows":Str))=false) (k:(m == ("gone":Str))=false):([("rows",a),("gone",b)]:List (Str × PV)).lookup m=none:=by rw [List.lookup_cons,h];simp only;rw [List.lookup_cons,k];rfl
theorem GS (a b:PV):([("rows",a),("gone",b)]:List (Str × PV)).lookup ("turn":Str)=none:=zK a b (by decide +kernel) (by decide +kernel)
theorem Jh (a b:PV):([("rows",a),("gone",b)]:List (Str × PV)).lookup ("leave":Str)=none:=zK a b (by decide +kernel) (by decide +kernel)
theorem Ji (a b:PV):([("rows",a),("gone",b)]:List (Str × PV)).lookup ("left":Str)=none:=zK a b (by decide +kernel) (by decide +kernel)
theorem Jj (a b:PV):([("rows",a),("gone",b)]:List (Str × PV)).lookup ("there":Str)=none:=zK a b (by decide +kernel) (by decide +kernel)
theorem Jk (a b:PV):([("rows",a),("gone",b)]:List (Str × PV)).lookup ("leg_at":Str)=none:=zK a b (by decide +kernel) (by decide +kernel)
theorem Dx:(("rows":Str)=("gone":Str))=False:=eq_false (by decide +kernel)
theorem g9 {J:Hq} {l:Addr} {o:HQ} (h:J l=none):me J (put J l o):=fun a=>by
 by_cases e:a=l
 ·subst e;exact .inr h
 ·rw [ar e];exact .inl rfl
theorem Cm (x z:PV):kQ ("gone":Str) z (kQ ("rows":Str) x [])=([("rows",x),("gone",z)]:List (Str × PV)):=by simp only [kQ,Dx,if_false]
abbrev dP:Stmt:=(L2.inClass (top 29) 0)
theorem lG:L2.aw ["self","moment","place","pace"] ["self","moment","place","pace"] (L2.aj dP):=dk
def wR (cL:Addr):b9:=fun xs J Q _=>∃ (p:Addr) (l:aS),xs=[.ref p,fr l.m,fr l.p,.int l.v]∧J p=some (.ins cL [])∧∀ r,J r=none→Q .non (put (put J r (.lst [l.V])) p (.ins cL [("rows",.ref r),("gone",.non)]))
theorem sv {cL f:Addr} {fd:FuncData} (F:bQ K "__init__" "Log.__init__" dP f fd) (KD_Log:cR K mg "Log" cL) (NA_Log_rows:az K cL "rows") (NA_Log_gone:az K cL "gone"):aH P w K mg base (cF P w) 1 f fd ["self","moment","place","pace"] (c8 K (wR cL)):=by
 simp_arith [lG]
 ·obtain ⟨p,l,rfl,_⟩:=h;rfl
 obtain ⟨p,l,rfl,hp,q⟩:=h
 refine ⟨_,(ai (fT KD_Log.cl NA_Log_rows (rv 0) (jv (af (cu (af (rv 1) (af (rv 2) (af (rv 3) ah)))) ah)))
   (ak (fT KD_Log.cl NA_Log_gone (rv 0) gB))),?_⟩
 simp_arith! only [b7,t4]
 intro r hr'
 have ne:p≠r:=by intro e;subst e;rw [hp] at hr';cases hr'
 refine ⟨[],by rw [ar ne];exact hp,by decide,by show (1:Nat) < 1000;decide,?_⟩
 rw [d3,Cm]
 exact q r hr'
abbrev gG:Stmt:=(L2.inClass (top 29) 1)
theorem lp:L2.aw ["self","moment","pace","place"] ["self","moment","pace"] (L2.aj gG):=dk
def qY (cL:Addr):b9:=fun xs J Q _=>∃ p r rows g t v,xs=[.ref p,fr t,.int v]∧Bj cL J p r rows g∧rows≠[]∧rows.length≤900∧Sz 900 t∧(∀ l∈rows,lz 900 l)∧Q .non (put J r (.lst ((turned rows t v).map aS.V)))
theorem sy {cL f:Addr} {fd:FuncData} (F:bQ K "turn" "Log.turn" gG f fd) (Z:bC mg) (KD_Log:cR K mg "Log" cL) (NA_Log_rows:az K cL "rows") (C_place_on:aZ P w K mg base 4 "place_on" ["leg","moment"] jh):aH P w K mg base (cF P w) 5 f fd ["self","moment","pace"] (c8 K (qY cL)):=by
 simp_arith [lp]
 ·obtain ⟨p,r,rows,g,t,v,rfl,_⟩:=h;rfl
 obtain ⟨p,r,rows,g,t,v,rfl,b,hne,hl,st,sl,q⟩:=h
 obtain ⟨ls,l,rfl⟩:∃ ls l,rows=ls ++ [l]:=⟨rows.dropLast,rows.getLast hne,(List.dropLast_concat_getLast hne).symm⟩
 have bo:=b.o
 have bl:=b.l
 have npr:=b.ne
 have sl':=sl l (by simp)
 have hla:c5 ((ls ++ [l]).map aS.V) (-1)=some l.V:=by rw [List.map_append];exact vH _ _
 refine ⟨_,(ai (aF (i:=3) lp.nd rfl (Or.inl rfl) (aM C_place_on B hr (by decide) rfl (af (aq av (aP KD_Log.cl NA_Log_rows (rv 0)) (pd k7 ag) (fun _ _=>rfl)) (af (rv 1) ah))))
   (dn (aR (aD (cy hr.aT) (aq av (aq av (aP KD_Log.cl NA_Log_rows (rv 0)) (pd k7 ag) (fun _ _=>rfl)) ag (fun _ _=>rfl)) (rv 1) (L2.ax _)) (ak (aX (Fh PySem.F.plainAttrs_list PySem.F.slot_list_pop PySem.F.type_list_pop EK (aP KD_Log.cl NA_Log_rows (rv 0))))) aE)
   (ai (aR (dh (eG (Fp (aP KD_Log.cl NA_Log_rows (rv 0))) (dN (aD (cy hr.aT) (aq av (aq av (aP KD_Log.cl NA_Log_rows (rv 0)) (pd k7 ag) (fun _ _=>rfl)) ag (fun _ _=>rfl)) (rv 2) (L2.ax _))))) (ak CI) aE)
   (ak (aX (jc PySem.F.plainAttrs_list PySem.F.slot_list_append PySem.F.type_list_append kI (aP KD_Log.cl NA_Log_rows (rv 0)) (af (cu (af (rv 1) (af (rv 3) (af (rv 2) ah)))) ah))))))),?_⟩
 simp_arith! only [b7,bo,bl,FP]
 refine ⟨_,hla,l,t,rfl,sl'.m,sl'.p,st,sl'.v,?_⟩
 obtain ⟨M,hM⟩:∃ M:Sr→Hq→Prop,∀ τ' J',M τ' J'↔τ'=[some (.ref p),some (fr t),some (.int v),some (fr (l.at t))]∧J'=put J r (.lst ((if l.m=t then ls else ls ++ [l]).map aS.V)):=⟨_,fun _ _=>Iff.rfl⟩
 refine ⟨M,?_,?_⟩
 ·simp_arith! only [b7,bo,bl,FP,hla,wd]
  split
  ·rename_i e
   refine ⟨l.V,by simp,(hM _ _).mpr ⟨rfl,?_⟩⟩
   rw [if_pos e,List.map_append,List.map_cons,List.map_nil,List.dropLast_concat]
  ·rename_i e
   exact (hM _ _).mpr ⟨rfl,by rw [if_neg e,qs bl]⟩
 ·intro τ' J' hm
  obtain ⟨rfl,rfl⟩:=(hM _ _).mp hm
  clear hm hM M
  have et:turned (ls ++ [l]) t v=if (if l.m=t then ls else ls ++ [l]).getLast?.map aS.v=some v then (if l.m=t then ls else ls ++ [l]) else (if l.m=t then ls else ls ++ [l]) ++ [⟨t,l.at t,v⟩]:=by
   unfold turned
   simp only [List.getLast?_concat,List.dropLast_concat]
  have hrl:(if l.m=t then ls else ls ++ [l]).length≤900:=by
   split
   ·rw [List.length_append] at hl;omega
   ·exact hl
  rw [et] at q
  generalize (if l.m=t then ls else ls ++ [l])=rest at q hrl ⊢
  simp_arith! only [b7,ar (Ne.symm npr),bo,FP,d3,t4]
  rcases List.eq_nil_or_concat rest with rfl | ⟨ks,k,rfl⟩
  ·simp only [List.getLast?_nil,Option.map_none,reduceCtorEq,if_false,List.nil_append] at q
   simpa [Ds,sizeLine] using q
  ·rw [List.concat_eq_append] at *
   rw [List.getLast?_concat,Option.map_some] at q
   have hk:c5 ((ks ++ [k]).map aS.V) (-1)=some k.V:=by rw [List.map_append];exact vH _ _
   simp_arith! only [b7,hk,jO,List.length_map]
   rw [if_pos (by simp)]
   by_cases e:k.v=v
   ·rw [if_pos e];rw [if_pos (congrArg some e)] at q;exact q
   ·rw [if_neg e];rw [if_neg (fun z=>e (Option.some.inj z))] at q
    refine ⟨aV (by omega),?_⟩
    rw [List.map_append] at q
    exact q
abbrev gF:Stmt:=(L2.inClass (top 29) 4)
theorem tE:L2.aw ["self"] ["self"] (L2.aj gF):=dk
def wU (cL:Addr):b9:=fun xs J Q _=>∃ p r rows g,xs=[.ref p]∧Bj cL J p r rows g∧Q (gv g) J
theorem sx {cL f:Addr} {fd:FuncData} (F:bQ K "left" "Log.left" gF f fd) (Z:bC mg) (KD_Log:cR K mg "Log" cL) (NA_Log_gone:az K cL "gone"):aH P w K mg base (cF P w) 1 f fd ["self"] (c8 K (wU cL)):=by
 simp_arith [tE]
 ·obtain ⟨p,r,rows,g,rfl,_⟩:=h;rfl
 obtain ⟨p,r,rows,g,rfl,b,q⟩:=h
 have bo:=b.o
 refine ⟨_,(ak (ay (aP KD_Log.cl NA_Log_gone (rv 0)))),?_⟩
 simp_arith! only [b7,bo,Km]
 exact q
theorem KR {rows:List aS} {i:Nat} {b:aS} (h:rows[i]?=some b):c5 (rows.map aS.V) (i:Int)=some b.V:=bc (by rw [List.getElem?_map,h];rfl)
abbrev iQ:Stmt:=(top 19)
theorem jx:L2.aw ["rows","moment","at"] ["rows","moment"] (L2.aj iQ):=dk
def tL:b9:=fun xs J Q _=>∃ (x:PV) (t:Rat) (ys:List PV) (ms:List Rat),xs=[x,fr t]∧jF J x=some ys∧ys.length=ms.length∧ms.length≤900∧(∀ (i:Nat) y m,ys[i]?=some y→ms[i]?=some m→eD J y (.int 0)=some (fr m))∧Sz 9000 t∧(∀ m∈ms,Sz 9000 m)∧Q (.int ((lb ms t ms.length:Int) - 1)) J
theorem sD {f:Addr} {fd:FuncData} (F:bQ K "last_by" "last_by" iQ f fd) (Z:bC mg) (C_less:aZ P w K mg base 1 "less" ["one","two"] c4):aH P w K mg base (cF P w) 2 f fd ["rows","moment"] (c8 K tL):=by
 simp_arith [jx]
 ·obtain ⟨x,t,ys,ms,rfl,_⟩:=h;rfl
 obtain ⟨x,t,ys,ms,rfl,hx,hlen,hl,h0,st,sm,q⟩:=h
 refine ⟨_,(ai (aF (i:=2) jx.nd rfl (Or.inl rfl) (aL dJ (aG bF rfl Z.len boot_len (af (rv 0) ah)) ag))
   (ai (ij bI (dh (eG (aD Ab (rv 2) ag (L2.ax _)) (dN (bz (aM C_less B hr (by decide) rfl (af (rv 1) (af (aq av (aq av (rv 0) (rv 2) (fun _ _=>rfl)) ag (fun _ _=>rfl)) ah))))))) (ak (AG (i:=2) jx.nd rfl (Or.inl rfl) ag zp)))
   (ak (ay (rv 2))))),?_⟩
 simp_arith! only [b7,zM hx,hlen]
 refine ⟨fun k τ J'=>∃ j:Nat,τ=[some x,some (fr t),some (.int ((j:Int) - 1))]∧J'=J∧j≤ms.length∧k=j∧lb ms t ms.length=lb ms t j,⟨_,ms.length,rfl,rfl,Nat.le_refl _,rfl,rfl⟩,?_⟩
 rintro k τ J' ⟨j,rfl,rfl,hj,rfl,hb⟩
 simp_arith! only [b7,Du hx,c4]
 cases k with
 | zero =>
  rw [if_neg (by omega)]
  rw [hb] at q
  exact q
 | succ k =>
  rw [if_pos (by omega)]
  obtain ⟨y,hy⟩:∃ y,ys[k]?=some y:=⟨_,List.getElem?_eq_getElem (by omega)⟩
  obtain ⟨m,hm⟩:∃ m,ms[k]?=some m:=⟨_,List.getElem?_eq_getElem (by omega)⟩
  have ha:c5 ys (((k + 1:Nat):Int) - 1)=some y:=by
   have:((k + 1:Nat):Int) - 1=(k:Int):=by omega
   rw [this];exact bc hy
  have em:ms.getD k 0=m:=by simp [List.getD,hm]
  have hu:lb ms t (k + 1)=if m≤t then k + 1 else lb ms t k:=by
   show (if ms.getD k 0≤t then k + 1 else lb ms t k)=_
   rw [em]
  refine ⟨_,ha,_,h0 k y m hy hm,m,rfl,st,sm m (List.mem_of_getElem? hm),?_⟩
  by_cases c:t < m
  ·rw [if_pos c]
   have hn:¬ m≤t:=Rat.not_le.mpr c
   rw [if_neg hn] at hu
   refine ⟨fun τ J''=>τ=[some x,some (fr t),some (.int ((k:Int) - 1))]∧J''=J',fun τ' J'' ⟨e1,e2⟩=>⟨k,Nat.lt_succ_self _,k,e1,e2,by omega,rfl,by rw [hb,hu]⟩,?_⟩
   simp_arith! only [b7]
   have:((k + 1:Nat):Int) - 1 - 1=(k:Int) - 1:=by omega
   exact this
  ·rw [if_neg c]
   rw [if_pos (Rat.not_lt.mp c)] at hu
   rw [hb,hu] at q
   exact q
abbrev fJ:Stmt:=(L2.inClass (top 29) 5)
theorem j9:L2.aw ["self","moment","joined"] ["self","moment"] (L2.aj fJ):=dk
def tK (cL:Addr):b9:=fun xs J Q _=>∃ p r rows g t,xs=[.ref p,fr t]∧Bj cL J p r rows g∧rows≠[]∧Sz 900 t∧(∀ l∈rows,lz 900 l)∧(∀ q,g=some q→Sz 900 q)∧Q (.bl (there rows g t)) J
theorem p7 {cL f:Addr} {fd:FuncData} (F:bQ K "there" "Log.there" fJ f fd) (Z:bC mg) (KD_Log:cR K mg "Log" cL) (NA_Log_rows:az K cL "rows") (NA_Log_gone:az K cL "gone") (C_less:aZ P w K mg base 1 "less" ["one","two"] c4):aH P w K mg base (cF P w) 2 f fd ["self","moment"] (c8 K (tK cL)):=by
 simp_arith [j9]
 ·obtain ⟨p,r,rows,g,t,rfl,_⟩:=h;rfl
 obtain ⟨p,r,rows,g,t,rfl,b,hne,st,sl,sg,q⟩:=h
 have bo:=b.o
 have bl:=b.l
 obtain ⟨l,ls,rfl⟩:∃ l ls,rows=l :: ls:=List.exists_cons_of_ne_nil hne
 have sl':=(sl l (by simp)).m
 refine ⟨_,(ai (aF (i:=2) j9.nd rfl (Or.inl rfl) (aq av (aq av (aP KD_Log.cl NA_Log_rows (rv 0)) ag (fun _ _=>rfl)) ag (fun _ _=>rfl)))
   (ai (aR (bz (aM C_less B hr (by decide) rfl (af (rv 1) (af (rv 2) ah)))) (ak (ay dR)) aE)
   (ak (ay (HD (dZ GZ (aP KD_Log.cl NA_Log_gone (rv 0)) gB (L2.ax _)) (qA (aM C_less B hr (by decide) rfl (af (rv 1) (af (aP KD_Log.cl NA_Log_gone (rv 0)) ah))))))))),?_⟩
 simp_arith! only [b7,bo,bl,FP,Km,wd,c4]
 refine ⟨st.mono (by decide),sl'.mono (by decide),?_⟩
 unfold there at q
 simp only [List.head?_cons] at q
 by_cases c:t < l.m
 ·rw [if_pos c]
  rw [decide_eq_true c] at q
  exact q
 ·rw [if_neg c]
  rw [decide_eq_false c] at q
  cases g with
  | none=>simpa [gv,Gs,D1,Ig] using q
  | some u =>
   simp only [gv,mH,Bool.false_eq_true,if_false]
   simp only [Ig] at q
   refine ⟨u,rfl,st.mono (by decide),(sg u rfl).mono (by decide),?_⟩
   simpa using q
abbrev e9:Stmt:=(L2.inClass (top 29) 6)
theorem oC:L2.aw ["self","moment"] ["self","moment"] (L2.aj e9):=dk
def tJ (cL eN:Addr):b9:=fun xs J Q E=>∃ p r rows g t,xs=[.ref p,fr t]∧Bj cL J p r rows g∧rows≠[]∧rows.length≤900∧Sz 900 t∧(∀ l∈rows,lz 900 l)∧(∀ q,g=some q→Sz 900 q)∧(there rows g t=true→∀ l,r8 rows t=some l→Q l.V J)∧(there rows g t=false→E eN J)
theorem om {cL eN f:Addr} {fd:FuncData} (F:bQ K "leg_at" "Log.leg_at" e9 f fd) (Z:bC mg) (KD_Log:cR K mg "Log" cL) (NA_Log_rows:az K cL "rows") (O_NotThere:Own K mg "NotThere" eN) (m_Log_there:cf P w K mg base cL 2 "there" ["self","moment"] (tK cL))
  (C_last_by:aZ P w K mg base 2 "last_by" ["rows","moment"] tL):aH P w K mg base (cF P w) 3 f fd ["self","moment"] (c8 K (tJ cL eN)):=by
 simp_arith [oC]
 ·obtain ⟨p,r,rows,g,t,rfl,_⟩:=h;rfl
 obtain ⟨p,r,rows,g,t,rfl,b,hne,hl,st,sl,sg,q,qe⟩:=h
 have bo:=b.o
 have bl:=b.l
 refine ⟨_,(ai (aR (cj (bz (aY (pl:=_) m_Log_there B hr (by decide) (rv 0) (af (rv 1) ah)))) (ak (dg O_NotThere rfl bY B.kn rfl (af bD ah))) aE)
   (ak (ay (aq av (aP KD_Log.cl NA_Log_rows (rv 0)) (aM C_last_by B hr (by decide) rfl (af (aP KD_Log.cl NA_Log_rows (rv 0)) (af (rv 1) ah))) (fun _ _=>rfl))))),?_⟩
 simp_arith! only [b7,bo,bl,FP]
 refine ⟨Jj _ _,p,r,rows,g,t,rfl,b,hne,st,sl,sg,?_⟩
 simp_arith! only [b7,eE,bo,bl,FP]
 cases hc:there rows g t with
 | false=>rw [if_pos rfl];exact qe hc
 | true =>
  rw [if_neg (by decide)]
  obtain ⟨l,h1,h2,h3,h4,h5⟩:=Bb hc
  refine ⟨_,t,rows.map aS.V,rows.map aS.m,rfl,by simp_arith! only [b7,bl],by simp,by simpa using hl,?_,st.mono (by decide),?_,?_⟩
  ·intro i y m hy hm
   rw [List.getElem?_map] at hy hm
   cases e:rows[i]? with
   | none=>rw [e] at hy;cases hy
   | some z=>rw [e] at hy hm;cases hy;cases hm;exact wd _ _
  ·intro m hm
   obtain ⟨z,hz,rfl⟩:=List.mem_map.mp hm
   exact (sl z hz).m.mono (by decide)
  ·rw [List.length_map]
   simp_arith! only [b7,bl]
   refine ⟨l.V,?_,q hc l h1⟩
   have:((lb (rows.map aS.m) t rows.length:Nat):Int) - 1=((lb (rows.map aS.m) t rows.length - 1:Nat):Int):=by omega
   rw [this]
   exact KR h5
abbrev fI:Stmt:=(L2.inClass (top 29) 2)
theorem qN:L2.aw ["self","moment"] ["self","moment"] (L2.aj fI):=dk
def tI (cL:Addr):b9:=fun xs J Q _=>∃ p r rows g t,xs=[.ref p,fr t]∧Bj cL J p r rows g∧Q .non (put J p (.ins cL [("rows",.ref r),("gone",fr t)]))
theorem p6 {cL f:Addr} {fd:FuncData} (F:bQ K "leave" "Log.leave" fI f fd) (Z:bC mg) (KD_Log:cR K mg "Log" cL) (NA_Log_gone:az K cL "gone"):aH P w K mg base (cF P w) 1 f fd ["self","moment"] (c8 K (tI cL)):=by
 simp_arith [qN]
 ·obtain ⟨p,r,rows,g,t,rfl,_⟩:=h;rfl
 obtain ⟨p,r,rows,g,t,rfl,b,q⟩:=h
 have bo:=b.o
 refine ⟨_,(ak (fT KD_Log.cl NA_Log_gone (rv 0) (rv 1))),?_⟩
 simp_arith! only [b7,bo,Dx]
 exact ⟨by decide,q⟩
theorem gZ {l:aS} {t:Rat} (h:lz 900 l) (sm:Sz 900 t):Sz 3000 (l.at t):=by
 have s1:Sz 1801 (t - l.m):=sm.sub h.m
 have s2:Sz 1900 ((t - l.m) * (l.v:Rat)):=s1.mul h.v
 exact h.p.add s2
abbrev d7:Stmt:=(top 27)
theorem fm:L2.aw ["name","leg","other_name","other_leg","moment","place","other_place"] ["name","leg","other_name","other_leg","moment"] (L2.aj d7):=dk
def AS:b9:=fun xs J Q _=>∃ (n n':Str) (l l':aS) (t:Rat),xs=[.str n,l.V,.str n',l'.V,fr t]∧lz 900 l∧lz 900 l'∧Sz 900 t∧Q (.bl ((key t (n,l)).lt (key t (n',l')))) J
theorem lE {f:Addr} {fd:FuncData} (F:bQ K "lies_behind" "lies_behind" d7 f fd) (Z:bC mg) (C_place_on:aZ P w K mg base 4 "place_on" ["leg","moment"] jh) (C_less:aZ P w K mg base 1 "less" ["one","two"] c4):aH P w K mg base (cF P w) 5 f fd ["name","leg","other_name","other_leg","moment"] (c8 K AS):=by
 simp_arith [fm]
 ·obtain ⟨n,n',l,l',t,rfl,_⟩:=h;rfl
 obtain ⟨n,n',l,l',t,rfl,sl,sl',st,q⟩:=h
 refine ⟨_,(ai (aF (i:=5) fm.nd rfl (Or.inl rfl) (aM C_place_on B hr (by decide) rfl (af (rv 1) (af (rv 4) ah))))
   (ai (aF (i:=6) fm.nd rfl (Or.inl rfl) (aM C_place_on B hr (by decide) rfl (af (rv 3) (af (rv 4) ah))))
   (ai (aR (aD (jb hr.aT) (rv 5) (rv 6) (L2.ax _)) (ak (ay (aM C_less B hr (by decide) rfl (af (rv 5) (af (rv 6) ah))))) aE)
   (ai (aR (aD (jb hr.aT) (aq av (rv 1) ag (fun _ _=>rfl)) (aq av (rv 3) ag (fun _ _=>rfl)) (L2.ax _)) (ak (ay (dZ fB (aq av (rv 1) ag (fun _ _=>rfl)) (aq av (rv 3) ag (fun _ _=>rfl)) (L2.ax _)))) aE)
   (ak (ay (dZ uR (rv 0) (rv 2) (L2.ax _)))))))),?_⟩
 simp_all! only []
 refine ⟨l,t,rfl,sl.m,sl.p,st,sl.v,?_⟩
 simp_all! only []
 refine ⟨l',t,rfl,sl'.m,sl'.p,st,sl'.v,?_⟩
 have a1:=gZ sl st
 have a2:=gZ sl' st
 simp_all! only []
 unfold Ky.lt key at q
 dsimp only at q
 by_cases e:l.at t=l'.at t
 ·rw [if_pos e] at q
  rw [if_pos e]
  simp_all! only [jO]
  by_cases e2:l.v=l'.v
  ·rw [if_pos e2] at q
   rw [if_pos e2]
   simp_all! only []
   exact q
  ·rw [if_neg e2] at q
   rw [if_neg e2]
   simp_all! only [jO]
   exact q
 ·rw [if_neg e] at q
  rw [if_neg e]
  simp_all! only [c4]
  exact ⟨a1.mono (by decide),a2.mono (by decide),q⟩
abbrev gI:Stmt:=(top 41)
theorem ed:L2.aw ["legs","moment","names","name","at"] ["legs","moment"] (L2.aj gI):=dk
def bh (fs:List (Str × aS)):List (Str × PV):=fs.map fun x=>(x.1,x.2.V)
def pj:b9:=fun xs J Q _=>∃ (D:Addr) (fs:List (Str × aS)) (ep:Nat) (t:Rat),xs=[.ref D,fr t]∧J D=some (.dct (bh fs) ep)∧(fs.map (·.1)).Nodup∧fs.length≤100∧Sz 900 t∧(∀ x∈fs,lz 900 x.2)∧∀ p,J p=none→Q (.ref p) (put J p (.lst ((cm t fs).map .str)))
theorem p9 {f:Addr} {fd:FuncData} (F:bQ K "in_order" "in_order" gI f fd) (Z:bC mg) (C_lies_behind:aZ P w K mg base 5 "lies_behind" ["name","leg","other_name","other_leg","moment"] AS):aH P w K mg base (cF P w) 6 f fd ["legs","moment"] (c8 K pj):=by
 simp_arith [ed]
 ·obtain ⟨D,fs,ep,t,rfl,_⟩:=h;rfl
 obtain ⟨D,fs,ep,t,rfl,hD,hnd,hlen,st,sl,q⟩:=h
 refine ⟨_,(ai (aF (i:=2) ed.nd rfl (Or.inl rfl) (jv ah))
   (ai (dM bI rfl (lV (rv 0)) (bj (i:=3) ed.nd rfl (Or.inl rfl)) (ai (aF (i:=4) ed.nd rfl (Or.inl rfl) (aG bF rfl Z.len boot_len (af (rv 2) ah)))
   (ai (ij bI (dh (eG (aD jV (rv 4) ag (L2.ax _)) (dN (bz (aM C_lies_behind B hr (by decide) rfl (af (rv 3) (af (aq cG (rv 0) (rv 3) (fun _ _=>rfl)) (af (aq av (rv 2) (aL dJ (rv 4) ag) (fun _ _=>rfl)) (af (aq cG (rv 0) (aq av (rv 2) (aL dJ (rv 4) ag) (fun _ _=>rfl)) (fun _ _=>rfl)) (af (rv 1) ah)))))))))) (ak (AG (i:=4) ed.nd rfl (Or.inl rfl) ag zp)))
   (ak (aX (jc PySem.F.plainAttrs_list PySem.F.slot_list_insert PySem.F.type_list_insert iG (rv 2) (af (rv 4) (af (rv 3) ah))))))))
   (ak (ay (rv 2))))),?_⟩
 simp_all! only []
 intro r hr'
 have nDr:D≠r:=by intro e;subst e;rw [hD] at hr';cases hr'
 simp_all! only [ar nDr,hD]
 have hkv:(bh fs).map (fun kv=>PV.str kv.1)=fs.map fun x=>PV.str x.1:=by unfold bh;rw [List.map_map];rfl
 rw [hkv]
 obtain ⟨Inv,hInv⟩:∃ Inv:Nat→Sr→Hq→Prop,∀ i τ J',Inv i τ J'↔∃ (u3 u4:Option PV),τ=[some (.ref D),some (fr t),some (.ref r),u3,u4]∧J'=put J r (.lst ((cm t (fs.take i)).map .str)):=⟨_,fun _ _ _=>Iff.rfl⟩
 refine fe Inv ((hInv _ _ _).mpr ⟨_,_,rfl,rfl⟩) (fun i τ J' h=>?_) ?_ ?_
 ·obtain ⟨_,_,_,rfl⟩:=(hInv _ _ _).mp h
  rw [ar nDr];exact hD
 ·intro i x τ J' hx hv
  obtain ⟨u3,u4,rfl,rfl⟩:=(hInv _ _ _).mp hv
  clear hv
  have hi:i < fs.length:=by have:=(List.getElem?_eq_some_iff.mp hx).1;simpa using this
  rw [List.getElem?_map,List.getElem?_eq_getElem hi] at hx
  cases hx
  rcases hfi:fs[i] with ⟨n,l⟩
  have hmem:(n,l)∈fs:=by rw [← hfi];exact List.getElem_mem hi
  have et:fs.take (i + 1)=fs.take i ++ [(n,l)]:=by rw [List.take_add_one,List.getElem?_eq_getElem hi,hfi];rfl
  have hndt:((fs.take (i + 1)).map (·.1)).Nodup:=by rw [List.map_take];exact hnd.sublist (List.take_sublist _ _)
  rw [et,List.map_append,List.map_cons,List.map_nil] at hndt
  obtain ⟨hnd1,hnew⟩:=gx hndt
  obtain ⟨ys,hys⟩:∃ ys,bT ((fs.take i).map (key t))=ys:=⟨_,rfl⟩
  have srt:ku Ky.lt ys:=by rw [← hys];exact cg (by rw [cE];exact hnd1)
  have hyl:ys.length=i:=by rw [← hys,f_,List.length_map,List.length_take];omega
  have hym:∀ y∈ys,∃ l',(y.n,l')∈fs∧y=key t (y.n,l')∧y.n≠n:=fun y hy=>by
   rw [← hys,a7,List.mem_map] at hy
   obtain ⟨x',hx',rfl⟩:=hy
   exact ⟨x'.2,List.mem_of_mem_take hx',rfl,fun e=>hnew (List.mem_map.mpr ⟨x',hx',e⟩)⟩
  have eo:(cm t (fs.take i)).map PV.str=ys.map fun y=>PV.str y.n:=by unfold cm;rw [hys,List.map_map];rfl
  have en:(cm t (fs.take (i + 1))).map PV.str=(lA Ky.lt (key t (n,l)) ys).map fun y=>PV.str y.n:=by
   unfold cm;rw [et,List.map_append,List.map_cons,List.map_nil,f',hys,List.map_map];rfl
  rw [eo]
  have hvn:i9 (bh fs) n=some l.V:=fq (f:=aS.V) hnd hmem
  have sll:=sl _ hmem
  simp_all! only [au,List.length_map]
  refine ⟨fun m τ' J'=>m≤ys.length∧τ'=[some (.ref D),some (fr t),some (.ref r),some (.str n),some (.int (m:Nat))]∧J'=put J r (.lst (ys.map fun y=>PV.str y.n))∧∀ (j:Nat) y,m≤j→ys[j]?=some y→(key t (n,l)).lt y=true,⟨ys.length,Nat.le_refl _,rfl,rfl,fun j y hj e=>by rw [List.getElem?_eq_none hj] at e;cases e⟩,?_⟩
  rintro m τ' J' ⟨hm,rfl,rfl,hall⟩
  have fin:(∀ (j:Nat) y,j < m→ys[j]?=some y→y.lt (key t (n,l))=true)→Inv (i + 1) [some (.ref D),some (fr t),some (.ref r),some (.str n),some (.int (m:Nat))] (put J r (.lst ((ys.map fun y=>PV.str y.n).take m ++ .str n :: (ys.map fun y=>PV.str y.n).drop m))):=fun hlow=>by
   refine (hInv _ _ _).mpr ⟨_,_,rfl,?_⟩
   rw [en,← v_ hm hlow fun j y hj e=>Ky.F5 (hall j y hj e),List.map_append,List.map_cons,List.map_take,List.map_drop]
   rfl
  simp_all! only [au,ar nDr,hD,hvn]
  by_cases c0:0 < m
  ·rw [if_pos (by omega)]
   obtain ⟨m',rfl⟩:∃ m',m=m' + 1:=⟨m - 1,by omega⟩
   obtain ⟨y,hy⟩:∃ y,ys[m']?=some y:=⟨_,List.getElem?_eq_getElem (by omega)⟩
   obtain ⟨l',hl',ey,ny⟩:=hym y (List.mem_of_getElem? hy)
   have ha:c5 (ys.map fun y=>PV.str y.n) (((m' + 1:Nat):Int) - 1)=some (.str y.n):=by
    rw [show ((m' + 1:Nat):Int) - 1=((m':Nat):Int) by omega]
    exact bc (by rw [List.getElem?_map,hy];rfl)
   have hvy:i9 (bh fs) y.n=some l'.V:=fq (f:=aS.V) hnd hl'
   simp_all! only [ha,hvy]
   refine ⟨n,y.n,l,l',t,rfl,sll,sl _ hl',st,?_⟩
   rw [← ey]
   cases hc:(key t (n,l)).lt y with
   | true =>
    simp_all! only []
    refine ⟨_,fun τ'' J'' h=>⟨m',Nat.lt_succ_self _,h⟩,⟨by omega,?_,rfl,fun j z hj e=>?_⟩⟩
    ·rw [show ((m' + 1:Nat):Int) - 1=((m':Nat):Int) by omega]
    ·rcases Nat.lt_or_eq_of_le hj with h | h
     ·exact hall j z (by omega) e
     ·subst h;rw [hy] at e;cases e;exact hc
   | false =>
    simp_all! only [au]
    refine ⟨_,m' + 1,rfl,rfl,by rw [List.length_map];omega,aV (by rw [List.length_map];omega),by omega,?_⟩
    rw [d3]
    refine fin fun j z hj e=>?_
    have hyx:y.lt (key t (n,l))=true:=by
     rcases Ky.HN (a:=y) (b:=key t (n,l)) ny with h | h
     ·exact h
     ·rw [hc] at h;cases h
    exact tW (lt:=Ky.lt) Ky.tr srt hy e (by omega) hyx
  ·rw [if_neg (by omega)]
   simp_all! only [au]
   refine ⟨_,m,rfl,rfl,by rw [List.length_map];omega,aV (by rw [List.length_map];omega),by omega,?_⟩
   rw [d3]
   exact fin fun j z hj e=>by omega
 ·intro τ J' hv
  obtain ⟨u3,u4,rfl,rfl⟩:=(hInv _ _ _).mp hv
  rw [List.length_map,List.take_length]
  simp_all! only []
  exact q r hr'
def mh (K:PySem.W.Frag) (mg:Str→Option Value):Prop:=∃ a:Addr,mg "NOUGHT"=some (.ref a)∧∀ H:Hp,fQ K H a [.int 0,.int 1]
theorem xZ {K:PySem.W.Frag} {h:Heap} {mg:Str→Option Value} (X:K.In h) (G:h.Ns mainGlobals mg) {a:Addr} {od:Option Addr} {n:Nat} {sl:Array (Option Value)} {t u:Tok}
  (e:PySem.W.nsIn K mainGlobals "NOUGHT"=some (some (.ref a))) (l:K.lookup a=some ⟨.type "tuple",od,.seq #[.int 0 t,.int 1 u] n,sl⟩):mh K mg :=
 ⟨a,PySem.W.mg_of X G e,fun _=>.inr ⟨_,_,_,l,rfl,rfl,(by show 2≤sizeLine;decide),.cons ⟨t,rfl⟩ (.cons ⟨u,rfl⟩ .nil)⟩⟩
structure Cf where
 n:Str
 a:Addr
 r:Addr
 w:List aS
 g:Option Rat
structure Ln where
 t:Rat
 d:Addr
 e:Nat
 o:Addr
 cs:List Cf
 row:List Str
def Cf.cur (c:Cf):aS:=c.w.getLast?.getD ⟨0,0,0⟩
def Ln.yJ (L:Ln):List Cf:=L.cs.filter fun c=>c.g.isNone
def Ln.fs (L:Ln):List (Str × aS):=L.yJ.map fun c=>(c.n,c.cur)
structure aW (cN cL:Addr) (J:Hq) (p:Addr) (L:Ln):Prop where
 ob:J p=some (.ins cN [("now",fr L.t),("logs",.ref L.d),("row",.ref L.o)])
 dc:J L.d=some (.dct (L.cs.map fun c=>(c.n,PV.ref c.a)) L.e)
 rw:J L.o=some (.lst (L.row.map .str))
 lg:∀ c∈L.cs,Bj cL J c.a c.r c.w c.g
 ap:(L.cs.map Cf.r).Nodup
 ao:∀ c∈L.cs,c.r≠L.o
structure aU (L:Ln):Prop where
 nd:(L.cs.map Cf.n).Nodup
 ne:∀ c∈L.cs,c.w≠[]
 le:∀ c∈L.cs,∀ l∈c.w,l.m≤L.t
 ck:∀ c∈L.cs,∀ l∈c.w,nL l
 len:∀ c∈L.cs,c.w.length≤200
 gz:∀ c∈L.cs,∀ q,c.g=some q→Sc fP MM q∧q≤L.t
 t0:0≤L.t
 ts:Sc fP MM L.t
 many:L.cs.length≤100
 rm:∀ n,n∈L.row↔n∈L.fs.map (·.1)
 rn:L.row.Nodup
 rl:L.row.length≤12
structure bU (L:Ln):Prop extends aU L where
 row:L.row=cm L.t L.fs
def Ln.own (L:Ln) (p a:Addr):Prop:=a=p∨a=L.d∨a=L.o∨∃ c∈L.cs,a=c.a∨a=c.r
structure Mv (J J':Hq) (S S':Addr→Prop):Prop where
 keep:∀ a o,J a=some o→¬ S a→J' a=some o
 own:∀ a,S' a→S a∨J a=none
 mono:∀ a,J' a=none→J a=none
theorem Mv.refl (J:Hq) (S:Addr→Prop):Mv J J S S:=⟨fun _ _ h _=>h,fun _ h=>.inl h,fun _ h=>h⟩
theorem Mv.trans {J J' J'':Hq} {S S' S'':Addr→Prop} (h:Mv J J' S S') (k:Mv J' J'' S' S''):Mv J J'' S S'':=by
 refine ⟨fun a o e n=>k.keep a o (h.keep a o e n) fun z=>?_,fun a z=>?_,fun a z=>h.mono a (k.mono a z)⟩
 ·rcases h.own a z with q | q
  ·exact n q
  ·rw [q] at e;cases e
 ·rcases k.own a z with q | q
  ·exact h.own a q
  ·exact .inr (h.mono a q)
theorem Mv.new {J:Hq} {S:Addr→Prop} {x:Addr} {o:HQ} (h:J x=none):Mv J (put J x o) S S:=by
 refine ⟨fun a u e _=>?_,fun _ z=>.inl z,fun a z=>?_⟩
 ·rw [ar (fun q=>by subst q;rw [h] at e;cases e)];exact e
 ·by_cases q:a=x
  ·subst q;rw [au] at z;cases z
  ·rw [ar q] at z;exact z
theorem Mv.xX {J:Hq} {S:Addr→Prop} {x:Addr} {o:HQ} (h:J x=none):Mv J (put J x o) S (fun a=>S a∨a=x) :=
 ⟨(Mv.new (S:=S) h).keep,fun a z=>z.elim .inl fun e=>.inr (by rw [e];exact h),(Mv.new (S:=S) h).mono⟩
theorem aW.keep {cN cL:Addr} {J J':Hq} {p:Addr} {L:Ln} (h:aW cN cL J p L) (k:∀ a o,L.own p a→J a=some o→J' a=some o):aW cN cL J' p L :=
 ⟨k _ _ (.inl rfl) h.ob,k _ _ (.inr (.inl rfl)) h.dc,k _ _ (.inr (.inr (.inl rfl))) h.rw,fun c hc=>⟨k _ _ (.inr (.inr (.inr ⟨c,hc,.inl rfl⟩))) (h.lg c hc).o,k _ _ (.inr (.inr (.inr ⟨c,hc,.inr rfl⟩))) (h.lg c hc).l⟩,h.ap,h.ao⟩
theorem aW.some {cN cL:Addr} {J:Hq} {p:Addr} {L:Ln} (h:aW cN cL J p L) {a:Addr} (o:L.own p a):J a≠none:=by
 rcases o with rfl | rfl | rfl | ⟨c,hc,rfl | rfl⟩
 ·rw [h.ob];exact fun z=>nomatch z
 ·rw [h.dc];exact fun z=>nomatch z
 ·rw [h.rw];exact fun z=>nomatch z
 ·rw [(h.lg c hc).o];exact fun z=>nomatch z
 ·rw [(h.lg c hc).l];exact fun z=>nomatch z
theorem aW.fresh {cN cL:Addr} {J:Hq} {p x:Addr} {L:Ln} {o:HQ} (h:aW cN cL J p L) (hx:J x=none):aW cN cL (put J x o) p L :=
 h.keep fun a u ow e=>by rw [ar (fun q=>by subst q;rw [hx] at e;cases e)];exact e
theorem Er {J:Hq} {a b C C':Addr} {fs gs:List (Str × PV)} (h:J a=Option.some (.ins C fs)) (k:J b=Option.some (.ins C' gs)) (n:fs.map (·.1)≠gs.map (·.1)):a≠b:=by
 intro e;subst e;rw [h] at k
 have:=HQ.ins.inj (Option.some.inj k)
 exact n (by rw [this.2])
theorem aW.BW {cN cL:Addr} {J:Hq} {p:Addr} {L:Ln} (h:aW cN cL J p L):L.d≠p:=by intro e;have:=h.ob;rw [← e,h.dc] at this;cases this
theorem aW.BY {cN cL:Addr} {J:Hq} {p:Addr} {L:Ln} (h:aW cN cL J p L):L.o≠p:=by intro e;have:=h.ob;rw [← e,h.rw] at this;cases this
theorem aW.Jp {cN cL:Addr} {J:Hq} {p:Addr} {L:Ln} (h:aW cN cL J p L):L.d≠L.o:=by intro e;have:=h.rw;rw [← e,h.dc] at this;cases this
theorem zP:([("rows":Str),("gone":Str)]:List Str)≠[("now":Str),("logs":Str),("row":Str)]:=by decide +kernel
theorem aW.Ij {cN cL:Addr} {J:Hq} {p:Addr} {L:Ln} (h:aW cN cL J p L) {c:Cf} (hc:c∈L.cs):c.a≠p:=Er (h.lg c hc).o h.ob zP
theorem aW.FR {cN cL:Addr} {J:Hq} {p:Addr} {L:Ln} (h:aW cN cL J p L) {c:Cf} (hc:c∈L.cs):c.r≠p:=by intro e;have:=h.ob;rw [← e,(h.lg c hc).l] at this;cases this
theorem aW.Kp {cN cL:Addr} {J:Hq} {p:Addr} {L:Ln} (h:aW cN cL J p L) {c:Cf} (hc:c∈L.cs):c.a≠L.d:=by intro e;have:=h.dc;rw [← e,(h.lg c hc).o] at this;cases this
theorem aW.Kq {cN cL:Addr} {J:Hq} {p:Addr} {L:Ln} (h:aW cN cL J p L) {c:Cf} (hc:c∈L.cs):c.r≠L.d:=by intro e;have:=h.dc;rw [← e,(h.lg c hc).l] at this;cases this
theorem aW.Jo {cN cL:Addr} {J:Hq} {p:Addr} {L:Ln} (h:aW cN cL J p L) {c:Cf} (hc:c∈L.cs):c.a≠L.o:=by intro e;have:=h.rw;rw [← e,(h.lg c hc).o] at this;cases this
theorem aW.K1 {cN cL:Addr} {J:Hq} {p:Addr} {L:Ln} (h:aW cN cL J p L) {c c':Cf} (hc:c∈L.cs) (hc':c'∈L.cs):c.a≠c'.r:=by intro e;have:=(h.lg c' hc').l;rw [← e,(h.lg c hc).o] at this;cases this
theorem aW.Ft {cN cL:Addr} {J:Hq} {p o':Addr} {L:Ln} {row:List Str} (h:aW cN cL J p L) (ho:J o'=Option.some (.lst (row.map .str))) (nc:∀ c∈L.cs,c.r≠o'):aW cN cL (put J p (.ins cN [("now",fr L.t),("logs",.ref L.d),("row",.ref o')])) p { L with o:=o',row:=row } :=
 ⟨au,by show put J p _ L.d=_;rw [ar h.BW];exact h.dc,by show put J p _ o'=_;rw [ar (fun e=>by rw [e,h.ob] at ho;cases ho)];exact ho,
  fun c hc=>⟨by rw [ar (h.Ij hc)];exact (h.lg c hc).o,by rw [ar (h.FR hc)];exact (h.lg c hc).l⟩,h.ap,nc⟩
theorem fh {J:Hq} {S S':Addr→Prop} {x:Addr} {o:HQ} (hx:S x) (hS:∀ a,S' a→S a∨J a=none):Mv J (put J x o) S S':=by
 refine ⟨fun a u e n=>?_,hS,fun a z=>?_⟩
 ·rw [ar (fun q=>by subst q;exact n hx)];exact e
 ·by_cases q:a=x
  ·subst q;rw [au] at z;cases z
  ·rw [ar q] at z;exact z
theorem aU.D3 {L:Ln} (h:aU L):Sz 900 L.t:=(wj h.ts).mono (by decide)
theorem nL.FQ {l:aS} (h:nL l):lz 900 l:=⟨h.Ko.mono (by decide),h.Kt.mono (by decide),.small (by have:=h.v;omega) (by have:=h.v;omega)⟩
theorem Cf.fw {c:Cf} (h:c.w≠[]):c.w.getLast?=Option.some c.cur∧c.cur∈c.w:=by
 unfold Cf.cur
 rw [List.getLast?_eq_some_getLast h]
 exact ⟨rfl,List.getLast_mem h⟩
theorem aU.K0 {L:Ln} (h:aU L) {c:Cf} (hc:c∈L.cs):r8 c.w L.t=Option.some c.cur:=by
 unfold r8
 rw [List.filter_eq_self.mpr fun l hl=>decide_eq_true (h.le c hc l hl)]
 exact (Cf.fw (h.ne c hc)).1
theorem aU.there {L:Ln} (h:aU L) {c:Cf} (hc:c∈L.cs) (hg:c.g=none):there c.w c.g L.t=true:=by
 obtain ⟨l,ls,e⟩:=List.exists_cons_of_ne_nil (h.ne c hc)
 have:=h.le c hc l (by rw [e];simp)
 rw [hg,e]
 unfold Ov.there
 simp only [List.head?_cons,Ig,Bool.and_true]
 rw [decide_eq_false (Rat.not_lt.mpr this)];rfl
theorem Ln.cV {L:Ln} {c:Cf}:c∈L.yJ↔c∈L.cs∧c.g=none:=by
 unfold Ln.yJ
 rw [List.mem_filter]
 cases c.g <;> simp
theorem d_ (L:Ln):L.fs.map (·.1)=L.yJ.map Cf.n:=by unfold Ln.fs;rw [List.map_map];rfl
theorem aU.El {L:Ln} (h:aU L):(L.fs.map (·.1)).Nodup:=by
 rw [d_]
 unfold Ln.yJ
 exact h.nd.sublist (List.Sublist.map _ List.filter_sublist)
theorem aU.found {L:Ln} (h:aU L) {n:Str} (hn:n∈L.row):∃ c∈L.cs,c.n=n∧c.g=none:=by
 have:=(h.rm n).mp hn
 rw [d_,List.mem_map] at this
 obtain ⟨c,hc,e⟩:=this
 exact ⟨c,(Ln.cV.mp hc).1,e,(Ln.cV.mp hc).2⟩
theorem aU.va {L:Ln} (h:aU L) {c:Cf} (hc:c∈L.cs):i9 (L.cs.map fun c=>(c.n,PV.ref c.a)) c.n=Option.some (.ref c.a):=by
 have e:(L.cs.map fun c=>(c.n,PV.ref c.a))=((L.cs.map fun c=>(c.n,c.a)).map fun x=>(x.1,PV.ref x.2)):=by rw [List.map_map];rfl
 rw [e]
 exact fq (f:=PV.ref) (by rw [List.map_map];exact h.nd) (List.mem_map.mpr ⟨c,hc,rfl⟩)
theorem aU.KI {L:Ln} (h:aU L) {n:Str}:(i9 (L.cs.map fun c=>(c.n,PV.ref c.a)) n).isSome=decide (n∈L.cs.map Cf.n):=by
 have e:(L.cs.map fun c=>(c.n,PV.ref c.a))=((L.cs.map fun c=>(c.n,c.a)).map fun x=>(x.1,PV.ref x.2)):=by rw [List.map_map];rfl
 rw [e,yC (f:=PV.ref) (by rw [List.map_map];exact h.nd)]
 rw [List.map_map];rfl
theorem aU.uniq {L:Ln} (h:aU L) {c c':Cf} (hc:c∈L.cs) (hc':c'∈L.cs) (e:c.n=c'.n):c=c':=by
 obtain ⟨i,hi,rfl⟩:=List.getElem_of_mem hc
 obtain ⟨j,hj,rfl⟩:=List.getElem_of_mem hc'
 have:=(List.getElem_inj (xs:=L.cs.map Cf.n) (i:=i) (j:=j) (h₀:=by simpa using hi) (h₁:=by simpa using hj) h.nd).mp (by rw [List.getElem_map,List.getElem_map];exact e)
 subst this;rfl
theorem mK (a b c:PV):([("now",a),("logs",b),("row",c)]:List (Str × PV)).lookup ("now":Str)=Option.some a:=rfl
theorem sf (a b c:PV):([("now",a),("logs",b),("row",c)]:List (Str × PV)).lookup ("logs":Str)=Option.some b:=rfl
theorem nY (a b c:PV):([("now",a),("logs",b),("row",c)]:List (Str × PV)).lookup ("row":Str)=Option.some c:=rfl
theorem dF (m:Str) (a b c:PV) (h:(m == ("now":Str))=false:=by decide +kernel) (k:(m == ("logs":Str))=false:=by decide +kernel) (l:(m == ("row":Str))=false:=by decide +kernel):([("now",a),("logs",b),("row",c)]:List (Str × PV)).lookup m=none:=by
 rw [List.lookup_cons,h];simp only;rw [List.lookup_cons,k];simp only;rw [List.lookup_cons,l];rfl
theorem GX:(("now":Str)=("logs":Str))=False:=eq_false (by decide +kernel)
theorem Dw:(("now":Str)=("row":Str))=False:=eq_false (by decide +kernel)
theorem Dv:(("logs":Str)=("row":Str))=False:=eq_false (by decide +kernel)
theorem Ck (a b c z:PV):kQ ("row":Str) z ([("now",a),("logs",b),("row",c)]:List (Str × PV))=([("now",a),("logs",b),("row",z)]:List (Str × PV)):=by simp only [kQ,Dw,Dv,if_false,if_true]
theorem Fx {J:Hq} {a:Addr} {xs:List PV} (h:J a=Option.some (.lst xs)):FW J (.ref a)=Option.some xs:=by unfold FW;simp only [h]
abbrev dq:Stmt:=(L2.inClass (top 42) 0)
theorem kT:L2.aw ["self"] ["self"] (L2.aj dq):=dk
def wX (cN cL:Addr):b9:=fun xs J Q _=>∃ p,xs=[.ref p]∧J p=some (.ins cN [])∧∀ J' d e o,aW cN cL J' p ⟨0,d,e,o,[],[]⟩→Mv J J' (fun a=>a=p) (Ln.own ⟨0,d,e,o,[],[]⟩ p)→Q .non J'
theorem pX {cN cL f:Addr} {fd:FuncData} (F:bQ K "__init__" "Lane.__init__" dq f fd) (N:mh K mg) (KD_Lane:cR K mg "Lane" cN) (NA_Lane_now:az K cN "now") (NA_Lane_logs:az K cN "logs") (NA_Lane_row:az K cN "row"):aH P w K mg base (cF P w) 1 f fd ["self"] (c8 K (wX cN cL)):=by
 simp_arith [kT]
 ·obtain ⟨p,rfl,_⟩:=h;rfl
 obtain ⟨p,rfl,hp,q⟩:=h
 obtain ⟨aN,gN,sN⟩:=N
 have rN:∀ (J:Hq) (H:Hp),bR K J H (fr 0) (.ref aN):=fun J H=>⟨aN,_,rfl,sN H,⟨_,_,rfl,rfl,_,_,rfl,rfl,rfl⟩⟩
 refine ⟨_,(ai (fT KD_Lane.cl NA_Lane_now (rv 0) (eL (v:=.ref aN) (fr 0) rfl gN rfl rN))
   (ai (fT KD_Lane.cl NA_Lane_logs (rv 0) qz)
   (ak (fT KD_Lane.cl NA_Lane_row (rv 0) (jv ah))))),?_⟩
 simp_all! only [hp]
 refine ⟨by decide,?_⟩
 simp_all! only []
 intro d hd ep
 have BW:d≠p:=by intro e;subst e;rw [au] at hd;cases hd
 simp_all! only [ar (Ne.symm BW),au]
 simp only [GX,if_false]
 refine ⟨by decide,fun o ho=>?_⟩
 have jd:J d=none:=by rw [ar BW] at hd;exact hd
 have BY:o≠p:=by intro e;subst e;rw [au] at ho;cases ho
 have nod:o≠d:=by intro e;subst e;rw [ar BY,au] at ho;cases ho
 have jo:J o=none:=by rw [ar BY,ar nod,ar BY] at ho;exact ho
 refine ⟨_,by rw [ar (Ne.symm BY)];exact au,by show (2:Nat) < 1000;decide,?_⟩
 have pr:kQ ("row":Str) (PV.ref o) ([("now",fr 0),("logs",.ref d)]:List (Str × PV))=([("now",fr 0),("logs",.ref d),("row",.ref o)]:List (Str × PV)):=by simp only [kQ,Dw,Dv,if_false]
 rw [pr]
 refine q _ d ep o ⟨au,by rw [ar BW,ar (Ne.symm nod),ar BW];exact au,by rw [ar BY];exact au,(by simp),(by simp),(by simp)⟩ ⟨fun a u e na=>?_,fun a ow=>?_,fun a z=>?_⟩
 ·have na1:a≠d:=fun z=>by subst z;rw [jd] at e;cases e
  have na2:a≠o:=fun z=>by subst z;rw [jo] at e;cases e
  rw [ar na,ar na2,ar na,ar na1,ar na];exact e
 ·rcases ow with rfl | rfl | rfl | ⟨c,hc,_⟩
  ·exact .inl rfl
  ·exact .inr jd
  ·exact .inr jo
  ·cases hc
 ·by_cases z1:a=p
  ·subst z1;rw [au] at z;cases z
  by_cases z2:a=o
  ·subst z2;exact jo
  by_cases z3:a=d
  ·subst z3;exact jd
  rw [ar z1,ar z2,ar z1,ar z3,ar z1] at z;exact z
abbrev bW:Stmt:=(L2.inClass (top 42) 22)
theorem gX:L2.aw ["self","name"] ["self","name"] (L2.aj bW):=dk
def l7 (cN cL eC:Addr):b9:=fun xs J Q E=>∃ p L n,xs=[.ref p,.str n]∧aW cN cL J p L∧(n∈L.row→Q .non J)∧(n ∉ L.row→E eC J)
theorem gW {cN cL eC f:Addr} {fd:FuncData} (F:bQ K "must_be_there" "Lane.must_be_there" bW f fd) (Z:bC mg) (KD_Lane:cR K mg "Lane" cN) (NA_Lane_row:az K cN "row") (O_NoCraft:Own K mg "NoCraft" eC):aH P w K mg base (cF P w) 1 f fd ["self","name"] (c8 K (l7 cN cL eC)):=by
 simp_arith [gX]
 ·obtain ⟨p,L,n,rfl,_⟩:=h;rfl
 obtain ⟨p,L,n,rfl,b,q,qe⟩:=h
 have bo:=b.ob
 refine ⟨_,(ak (aR (aD wu (rv 1) (aP KD_Lane.cl NA_Lane_row (rv 0)) (by with_unfolding_all rfl)) (ak (dg O_NoCraft rfl bY B.kn rfl (af bD ah))) aE)),?_⟩
 simp_all! only [bo,nY,G8,Fx b.rw]
 refine ⟨L.row,rfl,?_⟩
 by_cases c:n∈L.row
 ·rw [if_pos (by simp [c])]
  exact q c
 ·rw [if_neg (by simp [c])]
  simp_all! only [eE]
  exact qe c
abbrev d4:Stmt:=(L2.inClass (top 42) 23)
theorem m7:L2.aw ["self","name"] ["self","name"] (L2.aj d4):=dk
def il (cN cL eC:Addr):b9:=fun xs J Q E=>∃ p L n,xs=[.ref p,.str n]∧aW cN cL J p L∧aU L∧(∀ c∈L.cs,c.n=n→c.g=none→Q c.cur.V J)∧(n ∉ L.row→E eC J)
theorem mM {cN cL eC eN f:Addr} {fd:FuncData} (F:bQ K "leg_of" "Lane.leg_of" d4 f fd) (Z:bC mg) (KD_Lane:cR K mg "Lane" cN) (NA_Lane_logs:az K cN "logs") (NA_Lane_now:az K cN "now") (m_Lane_must_be_there:cf P w K mg base cN 1 "must_be_there" ["self","name"] (l7 cN cL eC)) (m_Log_leg_at:cf P w K mg base cL 3 "leg_at" ["self","moment"] (tJ cL eN)) :
  aH P w K mg base (cF P w) 4 f fd ["self","name"] (c8 K (il cN cL eC)):=by
 simp_arith [m7]
 ·obtain ⟨p,L,n,rfl,_⟩:=h;rfl
 obtain ⟨p,L,n,rfl,b,ok,q,qe⟩:=h
 have bo:=b.ob
 have bd:=b.dc
 refine ⟨_,(ai (aX (aY (pl:=_) m_Lane_must_be_there B hr (by decide) (rv 0) (af (rv 1) ah)))
   (ak (ay (aY (pl:=_) m_Log_leg_at B hr (by decide) (aq cG (aP KD_Lane.cl NA_Lane_logs (rv 0)) (rv 1) (fun _ _=>rfl)) (af (aP KD_Lane.cl NA_Lane_now (rv 0)) ah))))),?_⟩
 simp_all! only [bo]
 refine ⟨dF _ _ _ _,p,L,n,rfl,b,fun hn=>?_,qe⟩
 obtain ⟨c,hc,rfl,hg⟩:=ok.found hn
 have lo:=(b.lg c hc).o
 simp_all! only [bo,sf,bd,ok.va hc,lo]
 refine ⟨Jk _ _,?_⟩
 simp_all! only [bo,mK]
 refine ⟨c.a,c.r,c.w,c.g,L.t,rfl,b.lg c hc,ok.ne c hc,Nat.le_trans (ok.len c hc) (by decide),ok.D3,fun l hl=>(ok.ck c hc l hl).FQ,fun q' hq=>(wj (ok.gz c hc q' hq).1).mono (by decide),fun _ l hl=>?_,fun z=>?_⟩
 ·rw [ok.K0 hc] at hl;cases hl
  exact q c hc rfl hg
 ·rw [ok.there hc hg] at z;cases z
abbrev di:Stmt:=(L2.inClass (top 42) 24)
theorem m9:L2.aw ["self"] ["self"] (L2.aj di):=dk
theorem Ac {L:Ln} (ok:aU L) {f:Str→aS} (hf:∀ c∈L.cs,c.g=none→f c.n=c.cur):cm L.t (L.row.map fun n=>(n,f n))=cm L.t L.fs:=by
 refine sM (by rw [List.map_map];show (L.row.map fun n=>n).Nodup;rw [List.map_id'];exact ok.rn) ok.El fun x=>?_
 rw [List.mem_map,List.mem_map]
 constructor
 ·rintro ⟨y,hy,rfl⟩
  obtain ⟨n,hn,rfl⟩:=List.mem_map.mp hy
  obtain ⟨c,hc,rfl,hg⟩:=ok.found hn
  exact ⟨(c.n,c.cur),List.mem_map.mpr ⟨c,Ln.cV.mpr ⟨hc,hg⟩,rfl⟩,by rw [hf c hc hg]⟩
 ·rintro ⟨y,hy,rfl⟩
  obtain ⟨c,hc,rfl⟩:=List.mem_map.mp hy
  obtain ⟨hc,hg⟩:=Ln.cV.mp hc
  refine ⟨(c.n,f c.n),List.mem_map.mpr ⟨c.n,(ok.rm c.n).mpr ?_,rfl⟩,by rw [hf c hc hg]⟩
  rw [d_];exact List.mem_map.mpr ⟨c,Ln.cV.mpr ⟨hc,hg⟩,rfl⟩
def Ln.pS (L:Ln) (n:Str):aS:=((L.cs.find? fun c=>decide (c.n=n)).map Cf.cur).getD ⟨0,0,0⟩
theorem aU.pS {L:Ln} (ok:aU L) {c:Cf} (hc:c∈L.cs):L.pS c.n=c.cur:=by
 unfold Ln.pS
 cases h:L.cs.find? fun d=>decide (d.n=c.n) with
 | none=>have:=List.find?_eq_none.mp h c hc;simp at this
 | some d =>
  have h1:=List.mem_of_find?_eq_some h
  have h2:d.n=c.n:=by simpa using List.find?_some h
  rw [ok.uniq h1 hc h2];rfl
def gh (cN cL:Addr):b9:=fun xs J Q E=>∃ p L,xs=[.ref p]∧aW cN cL J p L∧aU L∧∀ J' o',aW cN cL J' p { L with o:=o',row:=cm L.t L.fs }→Mv J J' (L.own p) (Ln.own { L with o:=o',row:=cm L.t L.fs } p)→Q .non J'
theorem mP {cN cL eC f:Addr} {fd:FuncData} (F:bQ K "settle" "Lane.settle" di f fd) (Z:bC mg) (KD_Lane:cR K mg "Lane" cN) (NA_Lane_row:az K cN "row") (NA_Lane_now:az K cN "now") (m_Lane_leg_of:cf P w K mg base cN 4 "leg_of" ["self","name"] (il cN cL eC)) (C_in_order:aZ P w K mg base 6 "in_order" ["legs","moment"] pj) :
  aH P w K mg base (cF P w) 7 f fd ["self"] (c8 K (gh cN cL)):=by
 simp_arith [m9]
 ·obtain ⟨p,L,rfl,_⟩:=h;rfl
 obtain ⟨p,L,rfl,b,ok,q⟩:=h
 have bo:=b.ob
 have br:=b.rw
 refine ⟨_,(ak (fT KD_Lane.cl NA_Lane_row (rv 0) (aM C_in_order B hr (by decide) rfl (af (HA (L2.aj di) ["self"] [("self",0)] rfl rfl rfl (eO (aP KD_Lane.cl NA_Lane_row (rv 0))) (fun _ _ _ _ _ _=>(rv 0)) (fun _ _ _ _ _ _=>(aY (pl:=_) m_Lane_leg_of Gh hr (by decide) (rv 1) (af (rv 0) ah)))) (af (aP KD_Lane.cl NA_Lane_now (rv 0)) ah))))),?_⟩
 simp_all! only [JC,bo,nY,br]
 intro D hD ep
 have bf:∀ e2 kvs,aW cN cL (put J D (.dct kvs e2)) p L:=fun e2 kvs=>b.fresh hD
 have hrl:=ok.rl
 refine ⟨fun i J2=>∃ e2,J2=put J D (.dct (bh ((L.row.take i).map fun n=>(n,L.pS n))) e2),⟨ep,rfl⟩,?_,?_,?_⟩
 ·rintro i J2 ⟨e2,rfl⟩;exact (bf e2 _).rw
 ·rintro i x J2 hx ⟨e2,rfl⟩
  have hi:i < L.row.length:=by have:=(List.getElem?_eq_some_iff.mp hx).1;simpa using this
  rw [List.getElem?_map,List.getElem?_eq_getElem hi] at hx
  cases hx
  have hn:L.row[i]∈L.row:=List.getElem_mem hi
  refine ⟨_,(bf e2 _).ob,dF _ _ _ _,p,L,L.row[i],rfl,bf e2 _,ok,fun c hc e hg=>?_,fun z=>absurd hn z⟩
  refine ⟨_,e2,L.row[i],rfl,au,aV (by simp only [bh,List.length_map,List.length_take];omega),fun ep'=>⟨ep',?_⟩⟩
  rw [d3]
  congr 2
  have et:L.row.take (i + 1)=L.row.take i ++ [L.row[i]]:=by rw [List.take_add_one,List.getElem?_eq_getElem hi];rfl
  rw [et,List.map_append,List.map_cons,List.map_nil,← e,ok.pS hc]
  refine qp (f:=aS.V) (l:=c.cur) fun z=>?_
  rw [List.map_map] at z
  obtain ⟨m,hm,e3⟩:=List.mem_map.mp z
  have hnd:(L.row.take (i + 1)).Nodup:=ok.rn.sublist (List.take_sublist _ _)
  rw [et] at hnd
  exact (gx hnd).2 (by rw [← e,← e3];exact hm)
 ·rintro J2 ⟨e2,rfl⟩
  rw [List.length_map,List.take_length]
  refine ⟨_,(bf e2 _).ob,_,mK _ _ _,D,_,e2,L.t,rfl,au,?_,by rw [List.length_map];omega,ok.D3,?_,fun o' ho'=>?_⟩
  ·rw [List.map_map];show (L.row.map fun n=>n).Nodup;rw [List.map_id'];exact ok.rn
  ·intro x hx
   obtain ⟨n,hn,rfl⟩:=List.mem_map.mp hx
   obtain ⟨c,hc,rfl,hg⟩:=ok.found hn
   show lz 900 (L.pS c.n)
   rw [ok.pS hc]
   exact (ok.ck c hc _ (Cf.fw (ok.ne c hc)).2).FQ
  ·rw [Ac ok fun c hc _=>ok.pS hc]
   have b2:aW cN cL (put (put J D (.dct (bh (L.row.map fun n=>(n,L.pS n))) e2)) o' (.lst ((cm L.t L.fs).map .str))) p L:=(bf e2 _).fresh ho'
   have jo:J o'=none:=by
    by_cases z:o'=D
    ·subst z;exact hD
    ·rw [ar z] at ho';exact ho'
   refine ⟨_,b2.ob,by show (3:Nat) < 1000;decide,?_⟩
   rw [Ck]
   refine q _ o' (b2.Ft au fun c hc e=>?_) ?_
   ·have:=(b.lg c hc).l;rw [e,jo] at this;cases this
   ·refine ((Mv.new hD).trans (Mv.xX ho')).trans (fh (.inl (.inl rfl)) fun a ow=>.inl ?_)
    rcases ow with h | h | h | h
    ·exact .inl (.inl h)
    ·exact .inl (.inr (.inl h))
    ·exact .inr h
    ·exact .inl (.inr (.inr (.inr h)))
abbrev fK:Stmt:=(top 33)
theorem qO:L2.aw ["text"] ["text"] (L2.aj fK):=dk
def bX:Str:="abcdefghijklmnopqrstuvwxyz0123456789"
def good (y:Str):Bool:=decide (1≤y.cps.size) && decide (y.cps.size≤8) && y.cps.toList.all (dB bX)
def AO (T:Addr):Sp:=fun vs H Q _=>∃ y:Str,vs=[.str y]∧y.length≤sizeLine∧H T=some (.ext (dC T))∧Q (.bl (good y)) H
theorem p8 {T f c:Addr} {fd:FuncData} (F:Bp K mg "good_name" fK T f fd c) (Z:yF mg) (Bm:BMain mg base) {t_LONGEST t_SIGNS:Tok} (g_LONGEST:mg "LONGEST"=some (.int 8 t_LONGEST)) (g_SIGNS:mg "SIGNS"=some (.str "abcdefghijklmnopqrstuvwxyz0123456789" t_SIGNS)) :
  aH P w K mg base ma 1 f fd ["text"] (AO T):=by
 refine K2 F qO (fun vs H Q E h=>?_) (fun A outer s H vs Q E hr h=>?_)
 ·obtain ⟨y,rfl,_⟩:=h
  rfl
 obtain ⟨y,rfl,hz,hT,q⟩:=h
 refine ⟨_,(aQ (jY (DG (wB (cW wt (de jL rfl Z.len boot_len (aO (pv 0) bt)) aI (ax _)) (qw (cW Dz (de jL rfl Z.len boot_len (aO (pv 0) bt)) (lR (v:=.int 8) rfl g_LONGEST ⟨_,rfl⟩) (ax _))))) (bx (c7 sT)) eK)
   (bx (c7 (Af rfl Bm rfl F.tab hr rfl Z.all g_SIGNS (pv 0))))),?_⟩
 have el:y.cps.size=y.length:=rfl
 refine ⟨_,rfl,y,rfl,hz,_,_,rfl,rfl,_,rfl,zw (fun e=>?_) (fun e=>⟨_,rfl,y,rfl,hz,_,_,rfl,rfl,_,rfl,zw (fun e2=>?_) (fun e2=>?_)⟩)⟩
 ·have e:(y.length:Int) < 1:=of_decide_eq_true e
  have z:good y=false:=by
   unfold good
   rw [decide_eq_false (show ¬ 1≤y.cps.size by omega)]
   rfl
  show Q (.bl false) H
  rw [← z]
  exact q
 ·have e2:(8:Int) < (y.length:Int):=of_decide_eq_true e2
  have z:good y=false:=by
   unfold good
   rw [decide_eq_false (show ¬ y.cps.size≤8 by omega),Bool.and_false]
   rfl
  show Q (.bl false) H
  rw [← z]
  exact q
 ·have e:¬ (y.length:Int) < 1:=of_decide_eq_false (Bool.eq_false_iff.mpr e)
  have e2:¬ (8:Int) < (y.length:Int):=of_decide_eq_false (Bool.eq_false_iff.mpr e2)
  have z:good y=y.cps.toList.all (dB bX):=by
   unfold good
   rw [decide_eq_true (show 1≤y.cps.size by omega),decide_eq_true (show y.cps.size≤8 by omega)]
   rfl
  refine ⟨_,rfl,y,rfl,hT,?_⟩
  show Q (.bl (y.cps.toList.all (dB bX))) H
  rw [← z]
  exact q
def wQ (T:Addr):b9:=fun xs J Q _=>∃ y:Str,xs=[.str y]∧y.length≤sizeLine∧J T=some .tab∧Q (.bl (good y)) J
theorem mJ {T:Addr} (C:nJ P w K mg base 1 "good_name" ["text"] (AO T)):aZ P w K mg base 1 "good_name" ["text"] (wQ T):=C.lift fun xs J vs H Q2 E2 Q E rs r ⟨y,ex,hl,hT,q⟩ kn=>by
 subst ex
 obtain ⟨v,rfl,r1⟩:=ES rs
 cases r1
 exact ⟨y,rfl,hl,r _ _ hT,kn (.bl _) J _ H rfl r .refl q⟩
theorem vV (L:Ln) {L':Ln} {c:Cf} (h:L'.cs=L.cs ++ [c]) (hg:c.g=none):L'.fs=L.fs ++ [(c.n,c.cur)]:=by
 unfold Ln.fs Ln.yJ
 rw [h,List.filter_append,List.map_append]
 simp [hg]
def Ln.joined (L:Ln) (n:Str) (x v:Int) (L':Ln):Prop:=∃ a r,L'.cs=L.cs ++ [⟨n,a,r,[⟨L.t,(x:Rat),v⟩],none⟩]∧L'.t=L.t
def FN (x v:Int):Prop:=x.natAbs≤1000000∧v.natAbs≤1000
def wY (cN cL T eB eF eT eU:Addr):b9:=fun xs J Q E=>∃ p L n x v,xs=[.ref p,.str n,.int x,.int v]∧aW cN cL J p L∧bU L∧J T=some .tab∧n.length≤sizeLine∧L.cs.length < 100∧(good n=false→E eB J)∧(good n=true→¬ FN x v→E eF J) ∧
 (good n=true→FN x v→n∈L.cs.map Cf.n→E eT J)∧(good n=true→FN x v→n ∉ L.cs.map Cf.n→12≤L.row.length→E eU J) ∧
 (good n=true→FN x v→n ∉ L.cs.map Cf.n→L.row.length < 12→∀ J' L',aW cN cL J' p L'→bU L'→L.joined n x v L'→Mv J J' (L.own p) (L'.own p)→Q .non J')
abbrev fF:Stmt:=(L2.inClass (top 42) 1)
theorem qK:L2.aw ["self","name","place","pace"] ["self","name","place","pace"] (L2.aj fF):=dk
theorem aW.add {cN cL:Addr} {J:Hq} {p:Addr} {L:Ln} {c:Cf} {ep:Nat} (h:aW cN cL J p L) (hc:Bj cL J c.a c.r c.w c.g) (h1:c.r ∉ L.cs.map Cf.r) (h2:c.r≠L.o) :
  aW cN cL (put (put J L.d (.dct ((L.cs ++ [c]).map fun c=>(c.n,PV.ref c.a)) ep)) L.o (.lst ((L.row ++ [c.n]).map .str))) p ⟨L.t,L.d,ep,L.o,L.cs ++ [c],L.row ++ [c.n]⟩:=by
 have n1:c.a≠L.d:=by intro e;have:=h.dc;rw [← e,hc.o] at this;cases this
 have n2:c.a≠L.o:=by intro e;have:=h.rw;rw [← e,hc.o] at this;cases this
 have n3:c.r≠L.d:=by intro e;have:=h.dc;rw [← e,hc.l] at this;cases this
 refine ⟨?_,?_,au,fun x hx=>?_,?_,fun x hx=>?_⟩
 ·rw [ar (Ne.symm h.BY),ar (Ne.symm h.BW)];exact h.ob
 ·show put (put J L.d _) L.o _ L.d=_
  rw [ar h.Jp];exact au
 ·rcases List.mem_append.mp hx with hx | hx
  ·exact ⟨by rw [ar (h.Jo hx),ar (h.Kp hx)];exact (h.lg x hx).o,by rw [ar (h.ao x hx),ar (h.Kq hx)];exact (h.lg x hx).l⟩
  ·rw [List.mem_singleton] at hx;subst hx
   exact ⟨by rw [ar n2,ar n1];exact hc.o,by rw [ar h2,ar n3];exact hc.l⟩
 ·show ((L.cs ++ [c]).map Cf.r).Nodup
  rw [List.map_append,List.map_cons,List.map_nil,List.nodup_append]
  exact ⟨h.ap,by simp,fun x hx y hy e=>by rw [List.mem_singleton] at hy;subst hy;subst e;exact h1 hx⟩
 ·show x.r≠L.o
  rcases List.mem_append.mp hx with hx | hx
  ·exact h.ao x hx
  ·rw [List.mem_singleton] at hx;subst hx;exact h2
theorem aU.add {L:Ln} (h:aU L) {c:Cf} {l:aS} {ep:Nat} (hw:c.w=[l]) (hg:c.g=none) (hl:nL l) (hm:l.m=L.t) (hn:c.n ∉ L.cs.map Cf.n) (hr:L.row.length < 12) (hs:L.cs.length < 100):aU ⟨L.t,L.d,ep,L.o,L.cs ++ [c],L.row ++ [c.n]⟩:=by
 have hf:Ln.fs ⟨L.t,L.d,ep,L.o,L.cs ++ [c],L.row ++ [c.n]⟩=L.fs ++ [(c.n,c.cur)]:=vV L rfl hg
 have all:∀ {P:Cf→Prop},(∀ x∈L.cs,P x)→P c→∀ x∈L.cs ++ [c],P x:=fun h1 h2 x hx=>by
  rcases List.mem_append.mp hx with hx | hx
  ·exact h1 x hx
  ·rw [List.mem_singleton] at hx;subst hx;exact h2
 refine ⟨?_,all h.ne (by rw [hw];simp),all h.le (by rw [hw];simp [hm]),all h.ck (by rw [hw];simpa using hl),all h.len (by rw [hw];show (1:Nat)≤200;decide),all h.gz (by rw [hg];intro q e;cases e),h.t0,h.ts,by show (L.cs ++ [c]).length≤100;rw [List.length_append];simp;omega,fun n=>?_,?_,by show (L.row ++ [c.n]).length≤12;rw [List.length_append];simp;omega⟩
 ·show ((L.cs ++ [c]).map Cf.n).Nodup
  rw [List.map_append,List.map_cons,List.map_nil,List.nodup_append]
  exact ⟨h.nd,by simp,fun x hx y hy e=>by rw [List.mem_singleton] at hy;subst hy;subst e;exact hn hx⟩
 ·rw [hf,List.map_append,List.mem_append,List.mem_append,h.rm n];simp
 ·show (L.row ++ [c.n]).Nodup
  rw [List.nodup_append]
  refine ⟨h.rn,by simp,fun x hx y hy e=>?_⟩
  rw [List.mem_singleton] at hy
  rw [e,hy] at hx
  have:=(h.rm _).mp hx
  rw [d_,List.mem_map] at this
  obtain ⟨d,hd,e⟩:=this
  exact hn (List.mem_map.mpr ⟨d,(Ln.cV.mp hd).1,e⟩)
theorem bU.settled {L:Ln} (h:aU L) (o':Addr):bU { L with o:=o',row:=cm L.t L.fs }:=by
 have hl:(cm L.t L.fs).length≤12:=by
  have h1:(cm L.t L.fs).Perm L.row:=(List.perm_ext_iff_of_nodup (mQ h.El) h.rn).mpr fun n=>by rw [sS];exact (h.rm n).symm
  rw [h1.length_eq];exact h.rl
 exact ⟨⟨h.nd,h.ne,h.le,h.ck,h.len,h.gz,h.t0,h.ts,h.many,fun n=>sS,mQ h.El,hl⟩,rfl⟩
theorem pY {cN cL T eB eF eT eU f:Addr} {fd:FuncData} (F:bQ K "join" "Lane.join" fF f fd) (Z:bC mg) (KD_Lane:cR K mg "Lane" cN) (NA_Lane_row:az K cN "row") (NA_Lane_now:az K cN "now") (NA_Lane_logs:az K cN "logs") {t_FARTHEST t_FASTEST t_MOST:Tok} (g_FARTHEST:mg "FARTHEST"=some (.int 1000000 t_FARTHEST)) (g_FASTEST:mg "FASTEST"=some (.int 1000 t_FASTEST)) (g_MOST:mg "MOST"=some (.int 12 t_MOST))
  (O_BadName:Own K mg "BadName" eB) (O_TooFar:Own K mg "TooFar" eF) (O_Taken:Own K mg "Taken" eT) (O_Full:Own K mg "Full" eU) (C_good_name:aZ P w K mg base 1 "good_name" ["text"] (wQ T)) (M_Log:uc P w K mg base cL 1 "Log" ["self","moment","place","pace"] (wR cL)) (m_Lane_settle:cf P w K mg base cN 7 "settle" ["self"] (gh cN cL)) :
  aH P w K mg base (cF P w) 8 f fd ["self","name","place","pace"] (c8 K (wY cN cL T eB eF eT eU)):=by
 simp_arith [qK]
 ·obtain ⟨p,L,n,x,v,rfl,_⟩:=h;rfl
 obtain ⟨p,L,n,x,v,rfl,b,ok,hT,hnl,hcs,qb,qf,qt,qu,q⟩:=h
 have bo:=b.ob
 have bd:=b.dc
 have br:=b.rw
 refine ⟨_,(ai (aR (cj (bz (aM C_good_name B hr (by decide) rfl (af (rv 1) ah)))) (ak (dg O_BadName rfl bY B.kn rfl (af bD ah))) aE)
   (ai (aR (dh (je (aD jV (aG uq rfl Z.abs boot_abs (af (rv 2) ah)) (eL (v:=.int 1000000) (.int 1000000) rfl g_FARTHEST ⟨_,rfl⟩ (fun _ _=>rfl)) (L2.ax _)) (fU (aD jV (aG uq rfl Z.abs boot_abs (af (rv 3) ah)) (eL (v:=.int 1000) (.int 1000) rfl g_FASTEST ⟨_,rfl⟩ (fun _ _=>rfl)) (L2.ax _))))) (ak (dg O_TooFar rfl bY B.kn rfl (af bD ah))) aE)
   (ai (aR (aD EX (rv 1) (aP KD_Lane.cl NA_Lane_logs (rv 0)) (by with_unfolding_all rfl)) (ak (dg O_Taken rfl bY B.kn rfl (af bD ah))) aE)
   (ai (aR (aD Ab (aG bF rfl Z.len boot_len (af (aP KD_Lane.cl NA_Lane_row (rv 0)) ah)) (eL (v:=.int 12) (.int 12) rfl g_MOST ⟨_,rfl⟩ (fun _ _=>rfl)) (L2.ax _)) (ak (dg O_Full rfl bY B.kn rfl (af bD ah))) aE)
   (ai (m5 kj (aP KD_Lane.cl NA_Lane_logs (rv 0)) (rv 1) (CD M_Log B hr (by decide) rfl (af (aP KD_Lane.cl NA_Lane_now (rv 0)) (af (cu (af (rv 2) (af ag ah))) (af (rv 3) ah)))))
   (ai (aX (jc PySem.F.plainAttrs_list PySem.F.slot_list_append PySem.F.type_list_append kI (aP KD_Lane.cl NA_Lane_row (rv 0)) (af (rv 1) ah)))
   (ak (aX (cT (pl:=_) m_Lane_settle B hr (by decide) (rv 0)))))))))),?_⟩
 simp_all! only []
 refine ⟨n,rfl,hnl,hT,?_⟩
 cases hg:good n with
 | false =>
  simp_all! only [eE]
  exact qb hg
 | true =>
 simp_all! only []
 by_cases hB:FN x v
 ·obtain ⟨hx,hv⟩:=id hB
  rw [if_neg (by split <;> omega),if_neg (by split <;> omega)]
  simp_all! only [bo,sf,bd,ok.KI]
  by_cases hm:n∈L.cs.map Cf.n
  ·rw [if_pos hm]
   simp_all! only [eE]
   exact qt hg hB hm
  rw [if_neg hm]
  simp_all! only [bo,nY,br,List.length_map]
  by_cases hr12:12≤L.row.length
  ·rw [if_pos (by omega)]
   simp_all! only [eE]
   exact qu hg hB hm hr12
  rw [if_neg (by omega)]
  simp_all! only [bo,mK]
  intro a ha
  refine ⟨a,⟨L.t,(x:Rat),v⟩,rfl,au,fun r hr'=>?_⟩
  have nra:r≠a:=by intro e;subst e;rw [au] at hr';cases hr'
  have jr:J r=none:=by rw [ar nra] at hr';exact hr'
  have b1:aW cN cL (put (put (put J a (.ins cL [])) r (.lst [(aS.mk L.t (x:Rat) v).V])) a (.ins cL [("rows",.ref r),("gone",.non)])) p L:=b.keep fun c u ow e=>by
   have n1:c≠a:=fun z=>by subst z;rw [ha] at e;cases e
   have n2:c≠r:=fun z=>by subst z;rw [jr] at e;cases e
   rw [ar n1,ar n2,ar n1];exact e
  have l1:Bj cL (put (put (put J a (.ins cL [])) r (.lst [(aS.mk L.t (x:Rat) v).V])) a (.ins cL [("rows",.ref r),("gone",.non)])) a r [⟨L.t,(x:Rat),v⟩] none:=⟨au,by rw [ar nra];exact au⟩
  have mv1:Mv J (put (put (put J a (.ins cL [])) r (.lst [(aS.mk L.t (x:Rat) v).V])) a (.ins cL [("rows",.ref r),("gone",.non)])) (L.own p) (fun c=>(L.own p c∨c=a)∨c=r) :=
   ((Mv.xX ha).trans (Mv.xX hr')).trans (fh (.inl (.inr rfl)) fun c h=>.inl h)
  generalize (put (put (put J a (.ins cL [])) r (.lst [(aS.mk L.t (x:Rat) v).V])) a (.ins cL [("rows",.ref r),("gone",.non)]))=J1 at b1 l1 mv1 ⊢
  have bo1:=b1.ob
  have bd1:=b1.dc
  simp_all! only [bo1,sf,bd1]
  refine ⟨aV (by rw [List.length_map];omega),fun ep'=>?_⟩
  have epu:qo (L.cs.map fun c=>(c.n,PV.ref c.a)) n (PV.ref a)=(L.cs ++ [Cf.mk n a r [⟨L.t,(x:Rat),v⟩] none]).map fun c=>(c.n,PV.ref c.a):=by
   have e:(L.cs.map fun c=>(c.n,PV.ref c.a))=((L.cs.map fun c=>(c.n,c.a)).map fun x=>(x.1,PV.ref x.2)):=by rw [List.map_map];rfl
   rw [e,qp (f:=PV.ref) (l:=a) (by rw [List.map_map];exact hm),List.map_append,List.map_append,List.map_map];rfl
  rw [epu]
  have hrs:r ∉ L.cs.map Cf.r:=fun h=>by
   obtain ⟨c,hc,e⟩:=List.mem_map.mp h
   have:=(b.lg c hc).l;rw [e,jr] at this;cases this
  have hro:r≠L.o:=fun e=>by have:=b.rw;rw [← e,jr] at this;cases this
  have b2:=b1.add (c:=Cf.mk n a r [⟨L.t,(x:Rat),v⟩] none) (ep:=ep') l1 hrs hro
  have ok2:aU ⟨L.t,L.d,ep',L.o,L.cs ++ [Cf.mk n a r [⟨L.t,(x:Rat),v⟩] none],L.row ++ [n]⟩:=ok.toaU.add (c:=Cf.mk n a r [⟨L.t,(x:Rat),v⟩] none) rfl rfl (nL.new ok.t0 ok.ts hx hv) rfl hm (by omega) hcs
  have bo2:(put J1 L.d (HQ.dct ((L.cs ++ [Cf.mk n a r [⟨L.t,(x:Rat),v⟩] none]).map fun c=>(c.n,PV.ref c.a)) ep')) p=some (.ins cN [("now",fr L.t),("logs",.ref L.d),("row",.ref L.o)]):=by rw [ar (Ne.symm b1.BW)];exact b1.ob
  have br2:(put J1 L.d (HQ.dct ((L.cs ++ [Cf.mk n a r [⟨L.t,(x:Rat),v⟩] none]).map fun c=>(c.n,PV.ref c.a)) ep')) L.o=some (.lst (L.row.map .str)):=by rw [ar (Ne.symm b1.Jp)];exact b1.rw
  have mv2:Mv J1 (put (put J1 L.d (HQ.dct ((L.cs ++ [Cf.mk n a r [⟨L.t,(x:Rat),v⟩] none]).map fun c=>(c.n,PV.ref c.a)) ep')) L.o (.lst ((L.row ++ [n]).map .str))) (fun c=>(L.own p c∨c=a)∨c=r) (Ln.own ⟨L.t,L.d,ep',L.o,L.cs ++ [Cf.mk n a r [⟨L.t,(x:Rat),v⟩] none],L.row ++ [n]⟩ p):=by
   refine (fh (S':=fun c=>(L.own p c∨c=a)∨c=r) (.inl (.inl (.inr (.inl rfl)))) fun c h=>.inl h).trans (fh (.inl (.inl (.inr (.inr (.inl rfl))))) fun c h=>.inl ?_)
   rcases h with h | h | h | ⟨d,hd,h⟩
   ·exact .inl (.inl (.inl h))
   ·exact .inl (.inl (.inr (.inl h)))
   ·exact .inl (.inl (.inr (.inr (.inl h))))
   ·rcases List.mem_append.mp hd with hd | hd
    ·exact .inl (.inl (.inr (.inr (.inr ⟨d,hd,h⟩))))
    ·rw [List.mem_singleton] at hd;subst hd
     rcases h with h | h
     ·exact .inl (.inr h)
     ·exact .inr h
  have mv3:=mv1.trans mv2
  simp_all! only [bo2,nY,br2]
  refine ⟨aV (by rw [List.length_map];omega),?_⟩
  rw [show L.row.map PV.str ++ [PV.str n]=(L.row ++ [n]).map .str by rw [List.map_append];rfl]
  have bo3:=b2.ob
  generalize (put (put J1 L.d (HQ.dct ((L.cs ++ [Cf.mk n a r [⟨L.t,(x:Rat),v⟩] none]).map fun c=>(c.n,PV.ref c.a)) ep')) L.o (.lst ((L.row ++ [n]).map .str)))=J2 at b2 mv3 bo3 ⊢
  simp_all! only [bo3]
  refine ⟨dF _ _ _ _,p,_,rfl,b2,ok2,fun J' o' b' mv'=>?_⟩
  exact q hg hB hm (by omega) J' _ b' (bU.settled ok2 o') ⟨a,r,rfl,rfl⟩ (mv3.trans mv')
 ·have hf:=qf hg hB
  by_cases h1:x.natAbs≤1000000
  ·have h2:¬ v.natAbs≤1000:=fun h=>hB ⟨h1,h⟩
   rw [if_neg (by split <;> omega),if_pos (by split <;> omega)]
   simp_all! only [eE]
   exact hf
  ·rw [if_pos (by split <;> omega)]
   simp_all! only [eE]
   exact hf
abbrev eV:Stmt:=(L2.inClass (top 42) 7)
theorem oy:L2.aw ["self"] ["self"] (L2.aj eV):=dk
def tP (cN cL:Addr):b9:=fun xs J Q _=>∃ p L,xs=[.ref p]∧aW cN cL J p L∧Q (fr L.t) J
theorem n_ {cN cL f:Addr} {fd:FuncData} (F:bQ K "clock" "Lane.clock" eV f fd) (Z:bC mg) (KD_Lane:cR K mg "Lane" cN) (NA_Lane_now:az K cN "now"):aH P w K mg base (cF P w) 1 f fd ["self"] (c8 K (tP cN cL)):=by
 simp_arith [oy]
 ·obtain ⟨p,L,rfl,_⟩:=h;rfl
 obtain ⟨p,L,rfl,b,q⟩:=h
 have bo:=b.ob
 refine ⟨_,(ak (ay (aP KD_Lane.cl NA_Lane_now (rv 0)))),?_⟩
 simp_all! only [bo,mK]
 exact q
abbrev eZ:Stmt:=(L2.inClass (top 42) 8)
theorem oA:L2.aw ["self"] ["self"] (L2.aj eZ):=dk
def tR (cN cL:Addr):b9:=fun xs J Q _=>∃ p L,xs=[.ref p]∧aW cN cL J p L∧(Q (.fl (L.row.map .str)) J∨∀ l,J l=none→Q (.ref l) (put J l (.lst (L.row.map .str))))
theorem oi {cN cL f:Addr} {fd:FuncData} (F:bQ K "order" "Lane.order" eZ f fd) (Z:bC mg) (KD_Lane:cR K mg "Lane" cN) (NA_Lane_row:az K cN "row"):aH P w K mg base (cF P w) 1 f fd ["self"] (c8 K (tR cN cL)):=by
 refine FT F oA (fun xs J Q E h=>?_) (fun cdv A outer s H E G xs J Q E2 hr h B=>?_)
 ·obtain ⟨p,L,rfl,_⟩:=h;rfl
 obtain ⟨p,L,rfl,b,q⟩:=h
 have bo:=b.ob
 have br:=b.rw
 refine ⟨_,(ak (ay (gd rJ rfl Z.list boot_list (af (aP KD_Lane.cl NA_Lane_row (rv 0)) ah)))),?_⟩
 simp_all! only [bo,br,nY]
 intro l hl
 rcases q with q | q
 ·exact Fg.my (g9 hl) au hl q
 ·exact Fg.same (q l hl)
abbrev e8:Stmt:=(L2.inClass (top 42) 12)
theorem oB:L2.aw ["self","name"] ["self","name"] (L2.aj e8):=dk
def tS (cN cL eC:Addr):b9:=fun xs J Q E=>∃ p L n,xs=[.ref p,.str n]∧aW cN cL J p L∧aU L∧(∀ c∈L.cs,c.n=n→c.g=none→Q (fr (c.cur.at L.t)) J)∧(n ∉ L.row→E eC J)
theorem oj {cN cL eC f:Addr} {fd:FuncData} (F:bQ K "place" "Lane.place" e8 f fd) (Z:bC mg) (KD_Lane:cR K mg "Lane" cN) (NA_Lane_now:az K cN "now") (m_Lane_leg_of:cf P w K mg base cN 4 "leg_of" ["self","name"] (il cN cL eC)) (C_place_on:aZ P w K mg base 4 "place_on" ["leg","moment"] jh):aH P w K mg base (cF P w) 5 f fd ["self","name"] (c8 K (tS cN cL eC)):=by
 simp_arith [oB]
 ·obtain ⟨p,L,n,rfl,_⟩:=h;rfl
 obtain ⟨p,L,n,rfl,b,ok,q,qe⟩:=h
 have bo:=b.ob
 refine ⟨_,(ak (ay (aM C_place_on B hr (by decide) rfl (af (aY (pl:=_) m_Lane_leg_of B hr (by decide) (rv 0) (af (rv 1) ah)) (af (aP KD_Lane.cl NA_Lane_now (rv 0)) ah))))),?_⟩
 simp_all! only [bo]
 refine ⟨dF _ _ _ _,p,L,n,rfl,b,ok,fun c hc e hg=>?_,qe⟩
 have sl:=(ok.ck c hc _ (Cf.fw (ok.ne c hc)).2).FQ
 simp_all! only [bo,mK]
 exact ⟨c.cur,L.t,rfl,sl.m,sl.p,ok.D3,sl.v,q c hc e hg⟩
def aA.v (b:aA):PV:=.tup [fr b.m,.str b.h,.str b.f]
theorem zx (J:Hq) (b:aA):eD J b.v (.int 0)=some (fr b.m):=c6 _ _
theorem zy (J:Hq) (b:aA):eD J b.v (.int 1)=some (.str b.h):=eI _ _ _
theorem zA (J:Hq) (b:aA):eD J b.v (.int 2)=some (.str b.f):=i_ _ _ _ _
theorem JQ (J:Hq) (b:aA):xo J b.v=some "tuple":=rfl
theorem GB (J:Hq) (b:aA):r_ J b.v=some 3:=rfl
theorem DF (b:aA):kr b.v=true:=by simp [aA.v,Cs,o_,Aq,vc,qr]
theorem IJ (b:aA):Df b.v=True:=eq_true ⟨DF b,by simp [aA.v,fr,fu,fC,dep,dw]⟩
theorem IL (a b:aA):eqQ a.v b.v=decide (a=b):=by
 unfold aA.v
 rw [pJ,c_,c_,c_,lK,vS,eq_str,eq_str,Bool.and_true,← Bool.decide_and,← Bool.decide_and]
 apply decide_eq_decide.mpr
 cases a;cases b
 simp [aA.mk.injEq]
theorem D4 (a:Rat) (h f:Str):PV.tup [fr a,.str h,.str f]=(aA.mk a h f).v:=rfl
theorem yY (J:Hq) (b:aA):∃ xs,b.v=.tup xs∧¬ (HT.dz xs.length 0 (some 1)=0∧HT.dz xs.length xs.length none=xs.length)∧jm xs (some 1) none=[b.h,b.f].map .str:=⟨_,rfl,fun h=>absurd h.1 (show HT.dz 3 0 (some 1)≠0 by decide),rfl⟩
abbrev d8:Stmt:=(top 21)
theorem m_:L2.aw ["one","other"] ["one","other"] (L2.aj d8):=dk
def qV:b9:=fun xs J Q _=>∃ a b:aA,xs=[a.v,b.v]∧Sz 9000 a.m∧Sz 9000 b.m∧Q (.bl (a.lt b)) J
theorem Jf (a b c d:Str):jt [a,b] [c,d]=if a=c then decide (slt b d) else decide (slt a c):=by
 rw [kG]
 by_cases h:a=c
 ·rw [if_pos h,if_pos h,kG]
  by_cases k:b=d
  ·rw [if_pos k,jR];subst k;exact (decide_eq_false (by unfold slt;exact List.lt_irrefl _)).symm
  ·rw [if_neg k];rfl
 ·rw [if_neg h,if_neg h];rfl
theorem lF {f:Addr} {fd:FuncData} (F:bQ K "rings_ahead" "rings_ahead" d8 f fd) (Z:bC mg) (C_less:aZ P w K mg base 1 "less" ["one","two"] c4):aH P w K mg base (cF P w) 2 f fd ["one","other"] (c8 K qV):=by
 simp_arith [m_]
 ·obtain ⟨a,b,rfl,_⟩:=h;rfl
 obtain ⟨a,b,rfl,sa,sb,q⟩:=h
 refine ⟨_,(ai (aR (aD (jb hr.aT) (aq av (rv 0) ag (fun _ _=>rfl)) (aq av (rv 1) ag (fun _ _=>rfl)) (L2.ax _)) (ak (ay (aM C_less B hr (by decide) rfl (af (aq av (rv 0) ag (fun _ _=>rfl)) (af (aq av (rv 1) ag (fun _ _=>rfl)) ah))))) aE)
   (ak (ay (dZ (B8 hr.FH) (gf vq (rv 0) (iN ag) iM) (gf vq (rv 1) (iN ag) iM) (L2.ax _))))),?_⟩
 simp_arith! only [b7,zx,zy,zA,c4,DK]
 unfold aA.lt at q
 by_cases e:a.m=b.m
 ·rw [if_pos e] at q ⊢
  obtain ⟨xs,h1,h2,h3⟩:=yY J a
  obtain ⟨ys,h4,h5,h6⟩:=yY J b
  exact ⟨xs,h1,h2,ys,h4,h5,[a.h,a.f],h3,[b.h,b.f],h6,by rw [Jf];exact q⟩
 ·rw [if_neg e] at q ⊢
  exact ⟨sa,sb,q⟩
theorem GP (v:PV):([("rows",v)]:List (Str × PV)).lookup ("rows":Str)=some v:=rfl
theorem EG {m:Str} (v:PV) (h:(m == ("rows":Str))=false):([("rows",v)]:List (Str × PV)).lookup m=none:=by rw [List.lookup_cons,h];rfl
theorem Jg (v:PV):([("rows",v)]:List (Str × PV)).lookup ("drop":Str)=none:=EG v (by decide +kernel)
theorem GQ (v:PV):([("rows",v)]:List (Str × PV)).lookup ("put":Str)=none:=EG v (by decide +kernel)
theorem GR (v:PV):([("rows",v)]:List (Str × PV)).lookup ("told":Str)=none:=EG v (by decide +kernel)
theorem Ct {J:Hq} {r p:Addr} {a b c:HQ} (h:r≠p):put (put (put J r a) p b) r c=put (put J r c) p b:=by
 rw [Ar (Ne.symm h),d3]
structure Bo (cB:Addr) (J:Hq) (p r:Addr) (rows:List aA):Prop where
 o:J p=some (.ins cB [("rows",.ref r)])
 l:J r=some (.lst (rows.map aA.v))
abbrev cX:Stmt:=(L2.inClass (top 22) 0)
theorem j8:L2.aw ["self"] ["self"] (L2.aj cX):=dk
def qW (cB:Addr):b9:=fun xs J Q _=>∃ p,xs=[.ref p]∧J p=some (.ins cB [])∧∀ r,J r=none→Q .non (put (put J r (.lst [])) p (.ins cB [("rows",.ref r)]))
theorem n4 {cB f:Addr} {fd:FuncData} (F:bQ K "__init__" "Bells.__init__" cX f fd) (KD_Bells:cR K mg "Bells" cB) (NA_Bells_rows:az K cB "rows"):aH P w K mg base (cF P w) 1 f fd ["self"] (c8 K (qW cB)):=by
 simp_arith [j8]
 ·obtain ⟨p,rfl,_⟩:=h;rfl
 obtain ⟨p,rfl,hp,q⟩:=h
 refine ⟨_,(ak (fT KD_Bells.cl NA_Bells_rows (rv 0) (jv ah))),?_⟩
 simp_arith! only [b7]
 intro r hr'
 have ne:p≠r:=by intro e;subst e;rw [hp] at hr';cases hr'
 exact ⟨[],by rw [ar ne];exact hp,by decide,q r hr'⟩
abbrev dO:Stmt:=(L2.inClass (top 22) 2)
theorem fV:L2.aw ["self","hind","fore","kept","found"] ["self","hind","fore"] (L2.aj dO):=dk
def wL (cB:Addr):b9:=fun xs J Q _=>∃ p r rows h f,xs=[.ref p,.str h,.str f]∧Bo cB J p r rows∧rows.length≤900∧∀ r',J r'=none→Q (.bl (decide ((cx h f rows).length < rows.length))) (put (put J r' (.lst ((cx h f rows).map aA.v))) p (.ins cB [("rows",.ref r')]))
def tail3:PV→PV
 | .tup xs=>.tup (jm xs (some 1) none)
 | _=>.non
def we (h f:Str) (x:PV):Bool:=!eqQ (tail3 x) (.tup [.str h,.str f])
theorem Ew (h f:Str) (b:aA):we h f b.v=!ph h f b:=by
 show (!eqQ (.tup [.str b.h,.str b.f]) (.tup [.str h,.str f]))=_
 rw [pJ,c_,c_,lK,eq_str,eq_str,Bool.and_true,← Bool.decide_and]
 rfl
theorem y9 (h f:Str):∀ rows:List aA,((rows.map aA.v).filter (we h f)).map (fun x=>x)=(cx h f rows).map aA.v
 | []=>rfl
 | b :: rows=>by
  have ih:=y9 h f rows
  unfold cx at ih ⊢
  rw [List.map_cons,List.filter_cons,List.filter_cons,Ew]
  cases ph h f b <;> simp at ih ⊢ <;> exact ih
theorem nZ {cB f:Addr} {fd:FuncData} (F:bQ K "drop" "Bells.drop" dO f fd) (Z:bC mg) (KD_Bells:cR K mg "Bells" cB) (NA_Bells_rows:az K cB "rows"):aH P w K mg base (cF P w) 1 f fd ["self","hind","fore"] (c8 K (wL cB)):=by
 simp_arith [fV]
 ·obtain ⟨p,r,rows,h,f,rfl,_⟩:=h;rfl
 obtain ⟨p,r,rows,h,f,rfl,b,hl,q⟩:=h
 have bo:=b.o
 have bl:=b.l
 refine ⟨_,(ai (CH (i:=3) (L2.aj dO) ["self","hind","fore","kept","found"] [("hind",1),("fore",2)] rfl rfl rfl fV.nd rfl (Or.inl rfl) (eO (aP KD_Bells.cl NA_Bells_rows (rv 0))) (fun _ _ _ _ _ _=>(rv 0)) (fun _ _ _ _ _ _=>(aD (jb hr.aT) (gf vq (rv 0) (iN ag) iM) (cu (af (rv 1) (af (rv 2) ah))) (L2.ax _))))
   (ai (aF (i:=4) fV.nd rfl (Or.inl rfl) (dZ fB (aG bF rfl Z.len boot_len (af (rv 3) ah)) (aG bF rfl Z.len boot_len (af (aP KD_Bells.cl NA_Bells_rows (rv 0)) ah)) (L2.ax _)))
   (ai (fT KD_Bells.cl NA_Bells_rows (rv 0) (rv 3))
   (ak (ay (rv 4)))))),?_⟩
 simp_arith! only [b7,Fe,bo,bl,GP]
 refine ⟨we h f,fun x=>x,⟨by rw [List.length_map];exact aV (by omega),fun J' sub=>⟨sub _ _ bl,fun x hx=>?_⟩⟩,fun r' hr'=>?_⟩
 ·obtain ⟨b,_,rfl⟩:=List.mem_map.mp hx
  obtain ⟨xs,h1,h2,h3⟩:=yY J' b
  have hk:we h f b.v=!eqQ (.tup (jm xs (some 1) none)) (.tup [.str h,.str f]):=by rw [h1];rfl
  simp_arith! only [b7]
  refine ⟨⟨xs,h1,h2,?_⟩,fun _=>trivial⟩
  rw [hk,h3]
  refine ⟨⟨by simp [kr,i8],by simp [fu,fC,dep,dw]⟩,by simp [kr,i8],rfl⟩
 ·have ne:p≠r':=by intro e;subst e;rw [bo] at hr';cases hr'
  have nr:r≠r':=by intro e;subst e;rw [bl] at hr';cases hr'
  simp_arith! only [b7,ar ne,ar nr,bo,bl,GP,y9,List.length_map,Int.ofNat_lt]
  exact ⟨by decide,q r' hr'⟩
abbrev fE:Stmt:=(L2.inClass (top 22) 1)
theorem cY:L2.aw ["self","moment","hind","fore","bell","low","high","middle"] ["self","moment","hind","fore"] (L2.aj fE):=dk
def vm (cB:Addr):b9:=fun xs J Q _=>∃ p r rows m h f,xs=[.ref p,fr m,.str h,.str f]∧Bo cB J p r rows∧gj rows∧rows.length≤800∧Sz 9000 m∧(∀ x∈rows,Sz 9000 x.m) ∧
 ∀ r',J r'=none→Q .non (put (put J r' (.lst ((gU ⟨m,h,f⟩ (cx h f rows)).map aA.v))) p (.ins cB [("rows",.ref r')]))
theorem Gk (a b:Nat):((a:Int) + (b:Int)).fdiv 2=(((a + b) / 2:Nat):Int):=by rw [Int.fdiv_eq_ediv_of_nonneg _ (by decide)];omega
theorem KS (a:Int):CQ a 2=True:=eq_true ⟨by decide,Bd.mono (Bd.small (by decide) (by decide)) (by decide)⟩
theorem yV {rows:List aA} {i:Nat} {b:aA} (h:rows[i]?=some b):c5 (rows.map aA.v) (i:Int)=some b.v:=bc (by rw [List.getElem?_map,h];rfl)
theorem pW {cB f:Addr} {fd:FuncData} (F:bQ K "put" "Bells.put" fE f fd) (Z:bC mg) (KD_Bells:cR K mg "Bells" cB) (NA_Bells_rows:az K cB "rows") (m_Bells_drop:cf P w K mg base cB 1 "drop" ["self","hind","fore"] (wL cB))
  (C_rings_ahead:aZ P w K mg base 2 "rings_ahead" ["one","other"] qV):aH P w K mg base (cF P w) 3 f fd ["self","moment","hind","fore"] (c8 K (vm cB)):=by
 simp_arith [cY]
 ·obtain ⟨p,r,rows,m,h,f,rfl,_⟩:=h;rfl
 obtain ⟨p,r,rows,m,h,f,rfl,b,srt,hl,sm,sr,q⟩:=h
 have bo:=b.o
 refine ⟨_,(ai (aX (aY (pl:=_) m_Bells_drop B hr (by decide) (rv 0) (af (rv 2) (af (rv 3) ah))))
   (ai (aF (i:=4) cY.nd rfl (Or.inl rfl) (cu (af (rv 1) (af (rv 2) (af (rv 3) ah)))))
   (ai (Fn (i:=5) (j:=6) rfl cY.nd rfl rfl (by decide) rfl rfl (af ag (af (aG bF rfl Z.len boot_len (af (aP KD_Bells.cl NA_Bells_rows (rv 0)) ah)) ah)) rfl)
   (ai (ij bI (aD fB (rv 5) (rv 6) (L2.ax _)) (ai (aF (i:=7) cY.nd rfl (Or.inl rfl) (aL lP (aL cH (rv 5) (rv 6)) ag))
   (ak (aR (bz (aM C_rings_ahead B hr (by decide) rfl (af (aq av (aP KD_Bells.cl NA_Bells_rows (rv 0)) (rv 7) (fun _ _=>rfl)) (af (rv 4) ah)))) (ak (aF (i:=5) cY.nd rfl (Or.inl rfl) (aL cH (rv 7) ag))) (ak (aF (i:=6) cY.nd rfl (Or.inl rfl) (rv 7)))))))
   (ak (aX (jc PySem.F.plainAttrs_list PySem.F.slot_list_insert PySem.F.type_list_insert iG (aP KD_Bells.cl NA_Bells_rows (rv 0)) (af (rv 5) (af (rv 4) ah))))))))),?_⟩
 simp_arith! only [b7,bo,Jg]
 refine ⟨p,r,rows,h,f,rfl,b,by omega,fun r' hr'=>?_⟩
 have FR:r'≠p:=by intro e;subst e;rw [bo] at hr';cases hr'
 have b1:Bo cB (put (put J r' (.lst ((cx h f rows).map aA.v))) p (.ins cB [("rows",.ref r')])) p r' (cx h f rows):=⟨au,by rw [ar FR];exact au⟩
 have kl:(cx h f rows).length≤800:=Nat.le_trans (kA _ _ _) hl
 have ks:gj (cx h f rows):=oR srt
 have kz:∀ x∈cx h f rows,Sz 9000 x.m:=fun x hx=>sr x (List.mem_filter.mp hx).1
 have q:=q r' hr'
 generalize hJ:put (put J r' (.lst ((cx h f rows).map aA.v))) p (.ins cB [("rows",.ref r')])=J1 at b1 ⊢
 have hq:put J1 r' (.lst ((gU ⟨m,h,f⟩ (cx h f rows)).map aA.v))=put (put J r' (.lst ((gU ⟨m,h,f⟩ (cx h f rows)).map aA.v))) p (.ins cB [("rows",.ref r')]):=by rw [← hJ,Ct FR]
 rw [← hq] at q
 clear hq hJ hr'
 have bo:=b1.o
 have bl:=b1.l
 generalize cx h f rows=ks' at *
 simp_arith! only [b7,bo,bl,GP,D4,List.length_map]
 refine ⟨fun k τ J'=>∃ (lo hi:Nat) (u:Option PV),τ=[some (.ref p),some (fr m),some (.str h),some (.str f),some (aA.mk m h f).v,some (.int lo),some (.int hi),u]∧J'=J1∧k=hi - lo∧lo≤hi∧hi≤ks'.length ∧
  (∀ (j:Nat) x,j < lo→ks'[j]?=some x→x.lt ⟨m,h,f⟩=true)∧(∀ (j:Nat) x,hi≤j→ks'[j]?=some x→x.lt ⟨m,h,f⟩=false),⟨_,0,ks'.length,none,rfl,rfl,rfl,Nat.zero_le _,Nat.le_refl _,fun j x hj=>absurd hj (Nat.not_lt_zero _),fun j x hj e=>by rw [List.getElem?_eq_none hj] at e;cases e⟩,?_⟩
 rintro k τ J' ⟨lo,hi,u,rfl,rfl,rfl,h1,h2,hlo,hhi⟩
 simp_arith! only [b7,bo,bl,GP,KS,Gk,Int.ofNat_lt,qV]
 by_cases hlt:lo < hi
 ·rw [if_pos hlt]
  have hm:(lo + hi) / 2 < ks'.length:=by omega
  obtain ⟨x,hx⟩:∃ x,ks'[(lo + hi) / 2]?=some x:=⟨_,List.getElem?_eq_getElem hm⟩
  refine ⟨fun τ' J''=>∃ (lo' hi':Nat) (u:Option PV),τ'=[some (.ref p),some (fr m),some (.str h),some (.str f),some (aA.mk m h f).v,some (.int lo'),some (.int hi'),u]∧J''=J'∧lo'≤hi'∧hi'≤ks'.length∧hi' - lo' < hi - lo ∧
   (∀ (j:Nat) x,j < lo'→ks'[j]?=some x→x.lt ⟨m,h,f⟩=true)∧(∀ (j:Nat) x,hi'≤j→ks'[j]?=some x→x.lt ⟨m,h,f⟩=false),fun τ' J'' ⟨lo',hi',u,e1,e2,e3,e4,e5,e6,e7⟩=>⟨_,e5,lo',hi',u,e1,e2,rfl,e3,e4,e6,e7⟩,x.v,yV hx,x,rfl,⟨m,h,f⟩,rfl,kz x (List.mem_of_getElem? hx),sm,?_⟩
  cases hc:x.lt ⟨m,h,f⟩ with
  | true =>
   rw [if_pos rfl]
   exact ⟨(lo + hi) / 2 + 1,hi,_,rfl,rfl,by omega,h2,by omega,fun j y hj e=>xa ks hx e (by omega) hc,hhi⟩
  | false =>
   rw [if_neg Bool.false_ne_true]
   exact ⟨lo,(lo + hi) / 2,_,rfl,rfl,by omega,by omega,by omega,hlo,fun j y hj e=>tX ks hx e hj hc⟩
 ·rw [if_neg hlt]
  have e:lo=hi:=by omega
  subst e
  refine ⟨_,lo,rfl,rfl,by rw [List.length_map];exact h2,by rw [List.length_map];exact aV (by omega),Nat.lt_of_le_of_lt h2 (Nat.lt_of_le_of_lt kl (by decide)),?_⟩
  rw [← v9 h2 hlo hhi,List.map_append,List.map_cons,List.map_take,List.map_drop] at q
  exact q
abbrev eQ:Stmt:=(L2.inClass (top 22) 5)
theorem ox:L2.aw ["self"] ["self"] (L2.aj eQ):=dk
def qX (cB:Addr):b9:=fun xs J Q _=>∃ p r rows,xs=[.ref p]∧Bo cB J p r rows∧(Q (.fl (rows.map aA.v)) J∨∀ l,J l=none→Q (.ref l) (put J l (.lst (rows.map aA.v))))
theorem n6 {cB f:Addr} {fd:FuncData} (F:bQ K "told" "Bells.told" eQ f fd) (Z:bC mg) (KD_Bells:cR K mg "Bells" cB) (NA_Bells_rows:az K cB "rows"):aH P w K mg base (cF P w) 1 f fd ["self"] (c8 K (qX cB)):=by
 refine FT F ox (fun xs J Q E h=>?_) (fun cdv A outer s H E G xs J Q E2 hr h B=>?_)
 ·obtain ⟨p,r,rows,rfl,_⟩:=h;rfl
 obtain ⟨p,r,rows,rfl,b,q⟩:=h
 have bo:=b.o
 have bl:=b.l
 refine ⟨_,(ak (ay (gd rJ rfl Z.list boot_list (af (aP KD_Bells.cl NA_Bells_rows (rv 0)) ah)))),?_⟩
 simp_arith! only [b7,bo,bl,GP]
 intro l hl
 rcases q with q | q
 ·exact Fg.my (g9 hl) au hl q
 ·exact Fg.same (q l hl)
def wN:b9:=fun xs J Q _=>∃ t b:Int,xs=[.int t,.int b]∧b≠0∧Bd 9000 b∧Q (fr (Rat.divInt t b)) J
theorem nX (C:nJ P w K mg base 2 "fraction" ["top","bottom"] fo):aZ P w K mg base 2 "fraction" ["top","bottom"] wN:=C.lift fun xs J vs H Q2 E2 Q E rs r ⟨t,b,ex,h0,h1,q⟩ kn=>by
 subst ex
 obtain ⟨v,u,rfl,r1,r2⟩:=gM rs
 cases r1;cases r2
 exact ⟨t,b,rfl,h0,h1,qB r kn q⟩
theorem si (l l':aS) (h:l.v≠l'.v):Rat.divInt ((l'.at 0 - l.at 0).num) (((l'.at 0 - l.at 0).den:Int) * (l.v - l'.v))=jU l l':=by
 rw [Fc _ _ (by omega)];rfl
abbrev iS:Stmt:=(top 26)
theorem jy:L2.aw ["one","other","gain","gap"] ["one","other"] (L2.aj iS):=dk
def wV:b9:=fun xs J Q _=>∃ l l':aS,xs=[l.V,l'.V]∧lz 900 l∧lz 900 l'∧(l.v=l'.v→Q .non J)∧(l.v≠l'.v→Q (fr (jU l l')) J)
theorem sE {f:Addr} {fd:FuncData} (F:bQ K "meeting" "meeting" iS f fd) (Z:bC mg) (N:mh K mg) (C_place_on:aZ P w K mg base 4 "place_on" ["leg","moment"] jh) (C_minus:aZ P w K mg base 3 "minus" ["one","two"] (vj fun p q=>p - q)) (C_fraction:aZ P w K mg base 2 "fraction" ["top","bottom"] wN) :
  aH P w K mg base (cF P w) 5 f fd ["one","other"] (c8 K wV):=by
 simp_arith [jy]
 ·obtain ⟨l,l',rfl,_⟩:=h;rfl
 obtain ⟨l,l',rfl,sl,sl',q0,q1⟩:=h
 obtain ⟨aN,gN,sN⟩:=N
 have rN:∀ (J:Hq) (H:Hp),bR K J H (fr 0) (.ref aN):=fun J H=>⟨aN,_,rfl,sN H,⟨_,_,rfl,rfl,_,_,rfl,rfl,rfl⟩⟩
 refine ⟨_,(ai (aF (i:=2) jy.nd rfl (Or.inl rfl) (aL dJ (aq av (rv 0) ag (fun _ _=>rfl)) (aq av (rv 1) ag (fun _ _=>rfl))))
   (ai (aR (aD (cy hr.aT) (rv 2) ag (L2.ax _)) (ak (ay gB)) aE)
   (ai (aF (i:=3) jy.nd rfl (Or.inl rfl) (aM C_minus B hr (by decide) rfl (af (aM C_place_on B hr (by decide) rfl (af (rv 1) (af (eL (v:=.ref aN) (fr 0) rfl gN rfl rN) ah))) (af (aM C_place_on B hr (by decide) rfl (af (rv 0) (af (eL (v:=.ref aN) (fr 0) rfl gN rfl rN) ah))) ah))))
   (ak (ay (aM C_fraction B hr (by decide) rfl (af (aq av (rv 3) ag (fun _ _=>rfl)) (af (aL bS (aq av (rv 3) ag (fun _ _=>rfl)) (rv 2)) ah)))))))),?_⟩
 have z1:Sz 900 (0:Rat):=⟨⟨by decide⟩,⟨by decide⟩⟩
 have s3:=gZ sl z1
 have s3':=gZ sl' z1
 have s4:Sz 6001 (l'.at 0 - l.at 0):=s3'.sub s3
 have bg:Bd 65 (l.v - l'.v):=sl.v.sub sl'.v
 simp_all! only [jO]
 split
 ·rename_i e;simp_all! only [];exact q0 (by omega)
 rename_i e
 have hv:l.v≠l'.v:=by omega
 simp_all! only []
 refine ⟨l',0,rfl,sl'.m,sl'.p,z1,sl'.v,l,0,rfl,sl.m,sl.p,z1,sl.v,l'.at 0,l.at 0,rfl,s3'.mono (by decide),s3.mono (by decide),?_⟩
 simp_all! only []
 refine ⟨.of s4.den bg,_,_,rfl,Int.mul_ne_zero (dW _) e,(Bd.mul s4.den bg (k:=6100)).mono (by decide),?_⟩
 rw [si l l' hv]
 exact q1 hv
theorem sj {l l':aS} (sl:lz 900 l) (sl':lz 900 l') (h:l.v≠l'.v):Sz 8000 (jU l l'):=by
 rw [← si l l' h]
 have z1:Sz 900 (0:Rat):=⟨⟨by decide⟩,⟨by decide⟩⟩
 have s4:Sz 6001 (l'.at 0 - l.at 0):=(gZ sl' z1).sub (gZ sl z1)
 have bg:Bd 65 (l.v - l'.v):=sl.v.sub sl'.v
 exact Sz.div (s4.num.mono (by decide)) ((Bd.mul s4.den bg (k:=6100)).mono (by decide)) (Int.mul_ne_zero (dW _) (by omega))
theorem aU.Ih {L:Ln} (h:aU L) {c:Cf} (hc:c∈L.cs):lz 900 c.cur:=(h.ck c hc _ (Cf.fw (h.ne c hc)).2).FQ
abbrev eY:Stmt:=(L2.inClass (top 42) 13)
theorem jg:L2.aw ["self","name","other","met"] ["self","name","other"] (L2.aj eY):=dk
def nq (cN cL eC:Addr):b9:=fun xs J Q E=>∃ p L n n',xs=[.ref p,.str n,.str n']∧aW cN cL J p L∧aU L∧(∀ c∈L.cs,∀ c'∈L.cs,c.n=n→c'.n=n'→c.g=none→c'.g=none→Q (gv (BQ L.t c.cur c'.cur)) J)∧(n ∉ L.row∨n' ∉ L.row→E eC J)
theorem oh {cN cL eC f:Addr} {fd:FuncData} (F:bQ K "meets" "Lane.meets" eY f fd) (Z:bC mg) (KD_Lane:cR K mg "Lane" cN) (NA_Lane_now:az K cN "now") (m_Lane_leg_of:cf P w K mg base cN 4 "leg_of" ["self","name"] (il cN cL eC)) (C_meeting:aZ P w K mg base 5 "meeting" ["one","other"] wV) (C_less:aZ P w K mg base 1 "less" ["one","two"] c4):aH P w K mg base (cF P w) 6 f fd ["self","name","other"] (c8 K (nq cN cL eC)):=by
 simp_arith [jg]
 ·obtain ⟨p,L,n,n',rfl,_⟩:=h;rfl
 obtain ⟨p,L,n,n',rfl,b,ok,q,qe⟩:=h
 have bo:=b.ob
 refine ⟨_,(ai (aF (i:=3) jg.nd rfl (Or.inl rfl) (aM C_meeting B hr (by decide) rfl (af (aY (pl:=_) m_Lane_leg_of B hr (by decide) (rv 0) (af (rv 1) ah)) (af (aY (pl:=_) m_Lane_leg_of B hr (by decide) (rv 0) (af (rv 2) ah)) ah))))
   (ak (ay (HB (dh (eG (aD hX (rv 3) gB (L2.ax _)) (dN (bz (aM C_less B hr (by decide) rfl (af (aP KD_Lane.cl NA_Lane_now (rv 0)) (af (rv 3) ah))))))) (rv 3) gB)))),?_⟩
 simp_all! only [bo]
 refine ⟨dF _ _ _ _,p,L,n,rfl,b,ok,fun c hc e hg=>?_,fun z=>qe (.inl z)⟩
 simp_all! only [bo]
 refine ⟨dF _ _ _ _,p,L,n',rfl,b,ok,fun c' hc' e' hg'=>?_,fun z=>qe (.inr z)⟩
 have q:=q c hc c' hc' e e' hg hg'
 have sl:=ok.Ih hc
 have sl':=ok.Ih hc'
 unfold BQ at q
 refine ⟨c.cur,c'.cur,rfl,sl,sl',fun hv=>?_,fun hv=>?_⟩
 ·rw [if_neg (fun z=>z.1 hv)] at q
  simp_all! only []
  exact q
 ·simp_all! only [mH,bo,mK,c4]
  refine ⟨ok.D3.mono (by decide),(sj sl sl' hv).mono (by decide),?_⟩
  split
  ·rename_i c1
   rw [if_pos ⟨hv,c1⟩] at q
   simp_all! only []
   exact q
  ·rename_i c1
   rw [if_neg (fun z=>c1 z.2)] at q
   exact q
theorem K5 (A:Nat):Sc fP A 0:=⟨0,by rw [Rat.zero_mul];rfl,Nat.zero_le _⟩
theorem aW.BZ {cN cL:Addr} {J:Hq} {p T:Addr} {L:Ln} (h:aW cN cL J p L) (hT:J T=Option.some .tab):¬ L.own p T:=by
 rintro (rfl | rfl | rfl | ⟨c,hc,rfl | rfl⟩)
 ·rw [h.ob] at hT;cases hT
 ·rw [h.dc] at hT;cases hT
 ·rw [h.rw] at hT;cases hT
 ·rw [(h.lg c hc).o] at hT;cases hT
 ·rw [(h.lg c hc).l] at hT;cases hT
theorem Gm {L:Ln} {n:Str} {l:aS} (h:(n,l)∈L.fs):∃ c∈L.cs,c.n=n∧c.g=none∧c.cur=l:=by
 obtain ⟨c,hc,e⟩:=List.mem_map.mp h
 have:=Ln.cV.mp hc
 cases e
 exact ⟨c,this.1,rfl,this.2,rfl⟩
def k4:b9:=fun xs J Q _=>∃ a b:Int,xs=[.int a,.int b]∧Q (.int (Int.gcd a b:Nat)) J
theorem se (C:nJ P w K mg base 1 "shared" ["one","two"] nv):aZ P w K mg base 1 "shared" ["one","two"] k4:=C.lift fun xs J vs H Q2 E2 Q E rs r ⟨a,b,ex,q⟩ kn=>by
 subst ex
 obtain ⟨v,u,rfl,r1,r2⟩:=gM rs
 cases r1;cases r2
 exact ⟨a,b,rfl,kn (.int _) J _ H rfl r .refl q⟩
abbrev cK:Stmt:=(top 18)
theorem jw:L2.aw ["pair"] ["pair"] (L2.aj cK):=dk
def tM:b9:=fun xs J Q _=>∃ a b:Int,xs=[.tup [.int a,.int b]]∧Q (.bl (decide (1≤b∧Int.gcd a b=1))) J
theorem i6 {f:Addr} {fd:FuncData} (F:bQ K "in_lowest_terms" "in_lowest_terms" cK f fd) (Z:bC mg) (C_shared:aZ P w K mg base 1 "shared" ["one","two"] k4):aH P w K mg base (cF P w) 2 f fd ["pair"] (c8 K tM):=by
 simp_arith [jw]
 ·obtain ⟨a,b,rfl,_⟩:=h;rfl
 obtain ⟨a,b,rfl,q⟩:=h
 refine ⟨_,(ak (ay (vf (dZ Ab (aq av (rv 0) ag (fun _ _=>rfl)) ag (L2.ax _)) (qA (dZ (cy hr.aT) (aM C_shared B hr (by decide) rfl (af (aq av (rv 0) ag (fun _ _=>rfl)) (af (aq av (rv 0) ag (fun _ _=>rfl)) ah))) ag (L2.ax _)))))),?_⟩
 simp_all! only []
 by_cases c:1≤b
 ·simp only [c,decide_true,true_and,if_true] at q ⊢
  simp_all! only [k4]
  have:decide (((Int.gcd a b:Nat):Int)=1)=decide (Int.gcd a b=1):=decide_eq_decide.mpr (by omega)
  rw [this];exact q
 ·simp only [c,decide_false,false_and] at q ⊢
  rw [if_neg (fun z=>z)]
  exact q
abbrev d6:Stmt:=(top 40)
theorem fk:L2.aw ["moment","top","bottom"] ["moment"] (L2.aj d6):=dk
def fz (a b:Int):Bool:=decide (b≤60∧1≤b∧Int.gcd a b=1∧0≤a∧a≤1000000 * b)
def wO:b9:=fun xs J Q _=>∃ a b:Int,xs=[.tup [.int a,.int b]]∧Q (.bl (fz a b)) J
theorem lD {f:Addr} {fd:FuncData} (F:bQ K "good_moment" "good_moment" d6 f fd) (Z:bC mg) {t_FINEST t_LATEST:Tok} (g_FINEST:mg "FINEST"=some (.int 60 t_FINEST)) (g_LATEST:mg "LATEST"=some (.int 1000000 t_LATEST)) (C_in_lowest_terms:aZ P w K mg base 2 "in_lowest_terms" ["pair"] tM):aH P w K mg base (cF P w) 3 f fd ["moment"] (c8 K wO):=by
 simp_arith [fk]
 ·obtain ⟨a,b,rfl,_⟩:=h;rfl
 obtain ⟨a,b,rfl,q⟩:=h
 refine ⟨_,(ai (qC (rv 0) (m4 rfl (cA (bj (i:=1) fk.nd rfl (Or.inl rfl)) (cA (bj (i:=2) fk.nd rfl (Or.inl rfl)) j1))))
   (ai (aR (dh (je (aD jV (rv 2) (eL (v:=.int 60) (.int 60) rfl g_FINEST ⟨_,rfl⟩ (fun _ _=>rfl)) (L2.ax _)) (fU (cj (bz (aM C_in_lowest_terms B hr (by decide) rfl (af (rv 0) ah))))))) (ak (ay dR)) aE)
   (ak (ay (AF DC DC ag (rv 1) (aL bS (eL (v:=.int 1000000) (.int 1000000) rfl g_LATEST ⟨_,rfl⟩ (fun _ _=>rfl)) (rv 2))))))),?_⟩
 unfold fz at q
 simp_all! only []
 refine ⟨rfl,?_⟩
 simp_all! only []
 by_cases c1:60 < b
 ·rw [if_pos c1]
  rw [decide_eq_false (fun z=>by omega)] at q
  exact q
 rw [if_neg c1]
 simp_all! only []
 refine ⟨a,b,rfl,?_⟩
 by_cases c2:1≤b∧Int.gcd a b=1
 ·rw [decide_eq_true c2]
  simp_all! only [qy]
  by_cases c3:0≤a
  ·simp only [c3,decide_true,if_true]
   refine ⟨.of (.small (x:=1000000) (by decide) (by decide)) (.small (x:=b) (by omega) (by omega)),?_⟩
   have:decide (a≤1000000 * b)=decide (b≤60∧1≤b∧Int.gcd a b=1∧0≤a∧a≤1000000 * b):=decide_eq_decide.mpr ⟨fun z=>⟨by omega,c2.1,c2.2,c3,z⟩,fun z=>z.2.2.2.2⟩
   rw [this];exact q
  ·rw [decide_eq_false (fun z=>c3 z.2.2.2.1)] at q
   simp only [c3,decide_false]
   rw [if_neg (fun z=>z)]
   exact q
 ·rw [decide_eq_false c2]
  rw [decide_eq_false (fun z=>c2 ⟨z.2.1,z.2.2.1⟩)] at q
  simp_all! only []
  exact q
theorem aW.less {cN cL:Addr} {J J':Hq} {p:Addr} {L:Ln} (h:aW cN cL J p L) (l:me J J'):aW cN cL J' p L:=h.keep fun a o _ e=>by
 rcases l a with z | z
 ·rw [← z];exact e
 ·rw [z] at e;cases e
theorem kF {J J':Hq} {p r:Addr} {x y:HQ} (l:me J J') (hp:J p=none) (hr:J' r=none):me J (put (put J' r x) p y):=fun a=>by
 by_cases e:a=p
 ·exact .inr (by rw [e];exact hp)
 by_cases e2:a=r
 ·rcases l a with z | z
  ·right;rw [z,e2];exact hr
  ·exact .inr z
 ·rw [ar e,ar e2];exact l a
theorem o4 {J:Hq} {p r:Addr} {x y z:HQ} (hp:J p=none) (hr:put J p x r=none):me J (put (put (put J p x) r y) p z):=kF (g9 hp) hp hr
theorem rL (xs:List PV) (k:Nat) (h:k≤xs.length):jm xs (some (k:Int)) none=xs.drop k:=by
 unfold jm HT.dz
 simp only [Int.toNat_natCast]
 rw [if_neg (by omega),Nat.min_eq_left h]
 rw [List.take_of_length_le (by rw [List.length_drop];exact Nat.le_refl _)]
theorem bU.keys {L:Ln} (ok:bU L):L.row.map PV.str=(bT (L.fs.map (key L.t))).map fun k=>PV.str k.n:=by rw [ok.row];unfold cm;rw [List.map_map];rfl
theorem pP {L:Ln} (ok:aU L) {a:Ky} (ha:a∈bT (L.fs.map (key L.t))) {c:Cf} (hc:c∈L.cs) (hg:c.g=none) (e:c.n=a.n):a=key L.t (c.n,c.cur):=by
 obtain ⟨x,hx,rfl⟩:=List.mem_map.mp ((a7 _ _).mp ha)
 obtain ⟨c0,hc0,h1,h2,h3⟩:=Gm (n:=x.1) (l:=x.2) hx
 have:c0=c:=ok.uniq hc0 hc (h1.trans e.symm)
 subst this
 show key L.t (x.1,x.2)=_
 rw [← h3,← h1]
theorem iP {L:Ln} (ok:bU L) {a:Ky} (ha:a∈bT (L.fs.map (key L.t))):a.n∈L.row:=by
 rw [ok.row];unfold cm;exact List.mem_map.mpr ⟨a,ha,rfl⟩
theorem jT {L:Ln} (ok:bU L) {a b:Ky} (ha:a∈bT (L.fs.map (key L.t))) (hb:b∈bT (L.fs.map (key L.t))) (h:b.v < a.v):Sz 9000 (dH L.t a b):=by
 obtain ⟨c,hc,hcn,hcg⟩:=ok.found (iP ok ha)
 obtain ⟨c',hc',hcn',hcg'⟩:=ok.found (iP ok hb)
 have ea:=pP ok.toaU ha hc hcg hcn
 have eb:=pP ok.toaU hb hc' hcg' hcn'
 have hv:c.cur.v≠c'.cur.v:=by rw [ea,eb] at h;exact fun z=>by have:c'.cur.v < c.cur.v:=h;omega
 rw [ea,eb,← lM hv]
 exact (sj (ok.Ih hc) (ok.Ih hc') hv).mono (by decide)
theorem bU.knd {L:Ln} (ok:bU L):((L.fs.map (key L.t)).map Ky.n).Nodup:=by rw [cE];exact ok.El
theorem bU.Gz {L:Ln} (ok:bU L):(bT (L.fs.map (key L.t))).length≤12:=by
 have h1:=ok.rl
 have h2:=congrArg List.length ok.keys
 rw [List.length_map,List.length_map] at h2
 omega
theorem sk {L:Ln} (ok:bU L) {i j:Nat} {a b:Ky} (ha:(bT (L.fs.map (key L.t)))[i]?=some a) (hb:(bT (L.fs.map (key L.t)))[j]?=some b) (hij:i < j) {c c':Cf} (hc:c∈L.cs) (hc':c'∈L.cs) (hg:c.g=none) (hg':c'.g=none) (e:c.n=a.n) (e':c'.n=b.n) :
  BQ L.t c.cur c'.cur=if b.v < a.v∧a.p < b.p then some (dH L.t a b) else none:=by
 have ea:=pP ok.toaU (List.mem_of_getElem? ha) hc hg e
 have eb:=pP ok.toaU (List.mem_of_getElem? hb) hc' hg' e'
 have hlt:a.lt b=true:=by
  obtain ⟨hil,ei⟩:=List.getElem?_eq_some_iff.mp ha
  obtain ⟨hjl,ej⟩:=List.getElem?_eq_some_iff.mp hb
  have:=List.pairwise_iff_getElem.mp (cg ok.knd) i j hil hjl hij
  rw [ei,ej] at this;exact this
 rw [ea,eb] at hlt ⊢
 have key:=BR hlt
 unfold BQ
 by_cases z:c.cur.v≠c'.cur.v∧L.t < jU c.cur c'.cur
 ·rw [if_pos z,if_pos (show (Ov.key L.t (c'.n,c'.cur)).v < (Ov.key L.t (c.n,c.cur)).v∧(Ov.key L.t (c.n,c.cur)).p < (Ov.key L.t (c'.n,c'.cur)).p from key.mp z),lM z.1]
 ·rw [if_neg z,if_neg (show ¬ ((Ov.key L.t (c'.n,c'.cur)).v < (Ov.key L.t (c.n,c.cur)).v∧(Ov.key L.t (c.n,c.cur)).p < (Ov.key L.t (c'.n,c'.cur)).p) from fun y=>z (key.mpr y))]
theorem CG {L:Ln} (ok:bU L) {i j:Nat} {a b:Ky} (ha:(bT (L.fs.map (key L.t)))[i]?=some a) (hb:(bT (L.fs.map (key L.t)))[j]?=some b) (hij:i < j) (h:b.v < a.v):a.p < b.p:=by
 obtain ⟨hil,ei⟩:=List.getElem?_eq_some_iff.mp ha
 obtain ⟨hjl,ej⟩:=List.getElem?_eq_some_iff.mp hb
 have:=List.pairwise_iff_getElem.mp (cg ok.knd) i j hil hjl hij
 rw [ei,ej,Ky.lt_iff] at this
 rcases this with z | ⟨_,z | ⟨z,_⟩⟩
 ·exact z
 ·omega
 ·omega
abbrev dt:Stmt:=(L2.inClass (top 42) 6)
theorem bL:L2.aw ["self","moment","passings","at","hind","fore","met"] ["self","moment"] (L2.aj dt):=dk
def wW (cN cL eM eP:Addr):b9:=fun xs J Q E=>∃ p L a b,xs=[.ref p,.tup [.int a,.int b]]∧aW cN cL J p L∧bU L∧(fz a b=false→E eM J)∧(∀ m:Rat,m.num=a→(m.den:Int)=b→fz a b=true→(m < L.t→E eP J)∧(L.t≤m→Q (.fl ((mS L.t (L.fs.map (key L.t)) m).map aA.v)) J))
theorem kJ {cN cL cB eM eP eC f:Addr} {fd:FuncData} (F:bQ K "foretold" "Lane.foretold" dt f fd) (Z:bC mg) (KD_Lane:cR K mg "Lane" cN) (NA_Lane_now:az K cN "now") (NA_Lane_row:az K cN "row") (O_BadMoment:Own K mg "BadMoment" eM) (O_Past:Own K mg "Past" eP) (C_good_moment:aZ P w K mg base 3 "good_moment" ["moment"] wO) (C_less:aZ P w K mg base 1 "less" ["one","two"] c4) (M_Bells:uc P w K mg base cB 1 "Bells" ["self"] (qW cB)) (m_Lane_meets:cf P w K mg base cN 6 "meets" ["self","name","other"] (nq cN cL eC)) (m_Bells_put:cf P w K mg base cB 3 "put" ["self","moment","hind","fore"] (vm cB)) (m_Bells_told:cf P w K mg base cB 1 "told" ["self"] (qX cB)):aH P w K mg base (cF P w) 7 f fd ["self","moment"] (c8 K (wW cN cL eM eP)):=by
 refine FT F bL (fun xs J Q E h=>?_) (fun cdv A outer s H E G xs J Q E2 hr h B=>?_)
 ·obtain ⟨p,L,a,b,rfl,_⟩:=h;rfl
 obtain ⟨p,L,a,bb,rfl,b,ok,qe,q⟩:=h
 have bo:=b.ob
 refine ⟨_,(ai (aR (cj (bz (aM C_good_moment B hr (by decide) rfl (af (rv 1) ah)))) (ak (dg O_BadMoment rfl bY B.kn rfl (af bD ah))) aE)
   (ai (aR (bz (aM C_less B hr (by decide) rfl (af (rv 1) (af (aP KD_Lane.cl NA_Lane_now (rv 0)) ah)))) (ak (dg O_Past rfl bY B.kn rfl (af bD ah))) aE)
   (ai (aF (i:=2) bL.nd rfl (Or.inl rfl) (mZ M_Bells B hr (by decide) rfl))
   (ai (dM bI rfl (CF rfl Z.enumerate (af (aP KD_Lane.cl NA_Lane_row (rv 0)) ah)) (m4 (n:=2) rfl (cA (bj (i:=3) bL.nd rfl (Or.inl rfl)) (cA (bj (i:=4) bL.nd rfl (Or.inl rfl)) j1))) (ak (dM bI rfl (eO (gf AX (aP KD_Lane.cl NA_Lane_row (rv 0)) (iN (aL cH (rv 3) ag)) iM)) (bj (i:=5) bL.nd rfl (Or.inl rfl)) (ai (aF (i:=6) bL.nd rfl (Or.inl rfl) (aY (pl:=_) m_Lane_meets B hr (by decide) (rv 0) (af (rv 4) (af (rv 5) ah))))
   (ak (aR (dh (eG (aD hX (rv 6) gB (L2.ax _)) (dN (cj (bz (aM C_less B hr (by decide) rfl (af (rv 1) (af (rv 6) ah)))))))) (ak (aX (aY (pl:=_) m_Bells_put B hr (by decide) (rv 2) (af (rv 6) (af (rv 4) (af (rv 5) ah)))))) aE))))))
   (ak (ay (cT (pl:=_) m_Bells_told B hr (by decide) (rv 2)))))))),?_⟩
 simp_all! only []
 refine ⟨a,bb,rfl,?_⟩
 cases hg:fz a bb with
 | false =>
  simp_all! only [eE]
  exact qe hg
 | true =>
  have hgm:=of_decide_eq_true hg
  obtain ⟨m,hm1,hm2⟩:∃ m:Rat,m.num=a∧(m.den:Int)=bb:=⟨⟨a,bb.toNat,by omega,by
   have:=hgm.2.2.1
   unfold Int.gcd at this
   show Nat.gcd a.natAbs bb.toNat=1
   rw [show bb.toNat=bb.natAbs by omega];exact this⟩,rfl,by show ((bb.toNat:Nat):Int)=bb;omega⟩
  obtain ⟨q1,q2⟩:=q m hm1 hm2 hg
  have ef:PV.tup [.int a,.int bb]=fr m:=by rw [← hm1,← hm2];rfl
  have sm:Sz 900 m:=⟨(Bd.small (x:=m.num) (by omega) (by omega)).mono (by decide),(Bd.small (x:=(m.den:Int)) (by omega) (by omega)).mono (by decide)⟩
  simp_all! only [bo,mK,ef]
  refine ⟨_,_,rfl,sm.mono (by decide),ok.D3.mono (by decide),?_⟩
  by_cases c1:m < L.t
  ·rw [decide_eq_true c1]
   simp_all! only [eE]
   exact q1 c1
  rw [decide_eq_false c1]
  have q:=q2 (by grind)
  simp_all! only []
  intro pb hpb
  refine ⟨pb,rfl,au,fun r0 hr0=>⟨rfl,?_⟩⟩
  have l0:=o4 (y:=.lst []) (z:=.ins cB [("rows",.ref r0)]) hpb hr0
  have nr0:r0≠pb:=by intro e;subst e;rw [au] at hr0;cases hr0
  have b0:Bo cB (put (put (put J pb (.ins cB [])) r0 (.lst [])) pb (.ins cB [("rows",.ref r0)])) pb r0 []:=⟨au,by rw [ar nr0];exact au⟩
  generalize put (put (put J pb (.ins cB [])) r0 (.lst [])) pb (.ins cB [("rows",.ref r0)])=J0 at l0 b0 ⊢
  simp_all! only [(b.less l0).ob,(b.less l0).rw,nY]
  obtain ⟨ks,hks⟩:∃ ks,bT (L.fs.map (key L.t))=ks:=⟨_,rfl⟩
  have hrow:L.row.map PV.str=ks.map fun k=>PV.str k.n:=by rw [← hks];exact ok.keys
  have hkl:ks.length≤12:=by rw [← hks];exact ok.Gz
  have hup:∀ {ps:List (Ky × Ky)},(∀ p∈ps,p.1∈ks∧p.2∈ks)→∀ x∈bA L.t (fc L.t m) ps,Sz 9000 x.m:=fun hp x hx=>by
   obtain ⟨p,hp',hc,rfl⟩:=f6 _ hx
   have:=of_decide_eq_true hc
   exact jT ok (by rw [hks];exact (hp p hp').1) (by rw [hks];exact (hp p hp').2) this.1
  rw [hrow]
  obtain ⟨Inv,hInv⟩:∃ Inv:Nat→Sr→Hq→Prop,∀ i τ J',Inv i τ J'↔∃ (r:Addr) (u3 u4 u5 u6:Option PV),τ=[some (.ref p),some (fr m),some (.ref pb),u3,u4,u5,u6]∧me J J'∧Bo cB J' pb r (bA L.t (fc L.t m) (t9 ks i))∧(bA L.t (fc L.t m) (t9 ks i)).length≤12 * i:=⟨_,fun _ _ _=>Iff.rfl⟩
  refine fe Inv ((hInv _ _ _).mpr ⟨r0,_,_,_,_,rfl,l0,b0,Nat.le_refl _⟩) (fun i τ J' h=>?_) ?_ ?_
  ·obtain ⟨r,_,_,_,_,_,l',_⟩:=(hInv _ _ _).mp h
   rw [(b.less l').rw,hrow]
  ·intro i x τ J' hx hv
   obtain ⟨r,u3,u4,u5,u6,rfl,l',bb,hle⟩:=(hInv _ _ _).mp hv
   clear hv
   have hi:i < ks.length:=by have:=(List.getElem?_eq_some_iff.mp hx).1;rw [iE,List.length_map] at this;exact this
   have ha:ks[i]?=some ks[i]:=List.getElem?_eq_getElem hi
   rw [oS _ i (.str (ks[i]).n) (by rw [List.getElem?_map,ha];rfl)] at hx
   cases hx
   generalize ks[i]=a at ha ⊢
   simp_all! only [(b.less l').ob,(b.less l').rw,nY]
   rw [hrow,show (i:Int) + 1=((i + 1:Nat):Int) by omega,rL _ _ (by rw [List.length_map];omega),← List.map_drop]
   have eup:t9 ks (i + 1)=t9 ks i ++ (ks.drop (i + 1)).map fun b=>(a,b):=by show t9 ks i ++ _=_;rw [ha]
   have mup:∀ j,∀ p∈t9 ks i ++ ((ks.drop (i + 1)).take j).map (fun b=>(a,b)),p.1∈ks∧p.2∈ks:=fun j p hp=>by
    rcases List.mem_append.mp hp with hp | hp
    ·obtain ⟨_,_,_,_,h3,h4⟩:=ko.mp hp
     exact ⟨List.mem_of_getElem? h3,List.mem_of_getElem? h4⟩
    ·obtain ⟨y,hy,rfl⟩:=List.mem_map.mp hp
     exact ⟨List.mem_of_getElem? ha,List.mem_of_mem_drop (List.mem_of_mem_take hy)⟩
   obtain ⟨In2,hIn2⟩:∃ In2:Nat→Sr→Hq→Prop,∀ j τ J',In2 j τ J'↔∃ (r:Addr) (u5 u6:Option PV),τ=[some (.ref p),some (fr m),some (.ref pb),some (.int (i:Int)),some (.str a.n),u5,u6]∧me J J'∧Bo cB J' pb r (bA L.t (fc L.t m) (t9 ks i ++ ((ks.drop (i + 1)).take j).map fun b=>(a,b)))∧(bA L.t (fc L.t m) (t9 ks i ++ ((ks.drop (i + 1)).take j).map fun b=>(a,b))).length≤12 * i + j:=⟨_,fun _ _ _=>Iff.rfl⟩
   refine fe In2 ((hIn2 _ _ _).mpr ⟨r,_,_,rfl,l',by simpa using bb,by simpa using hle⟩) (fun _ _ _ _=>trivial) ?_ ?_
   ·intro j x τ J2 hx hv
    obtain ⟨r2,u5,u6,rfl,l2,bb2,hle2⟩:=(hIn2 _ _ _).mp hv
    clear hv
    have hj:j < (ks.drop (i + 1)).length:=by have:=(List.getElem?_eq_some_iff.mp hx).1;rw [List.length_map] at this;exact this
    have hb:(ks.drop (i + 1))[j]?=some (ks.drop (i + 1))[j]:=List.getElem?_eq_getElem hj
    rw [List.getElem?_map,hb] at hx
    cases hx
    generalize (ks.drop (i + 1))[j]=y at hb ⊢
    have hb':ks[i + 1 + j]?=some y:=by rw [List.getElem?_drop] at hb;exact hb
    have hjl:j < 12:=by rw [List.length_drop] at hj;omega
    have ej:(ks.drop (i + 1)).take (j + 1)=(ks.drop (i + 1)).take j ++ [y]:=by rw [List.take_add_one,hb];rfl
    have ef2:bA L.t (fc L.t m) (t9 ks i ++ ((ks.drop (i + 1)).take (j + 1)).map fun b=>(a,b))=fS L.t (fc L.t m) (bA L.t (fc L.t m) (t9 ks i ++ ((ks.drop (i + 1)).take j).map fun b=>(a,b))) (a,y):=by
     rw [ej,List.map_append,← List.append_assoc];exact dy _ _ _ _
    have srt:=fZ L.t (fc L.t m) (t9 ks i ++ ((ks.drop (i + 1)).take j).map fun b=>(a,b))
    have szs:=hup (mup j)
    generalize bA L.t (fc L.t m) (t9 ks i ++ ((ks.drop (i + 1)).take j).map fun b=>(a,b))=rows at bb2 hle2 ef2 srt szs
    have nC:fc L.t m (a,y)=false→∀ {v5 v6},In2 (j + 1) [some (.ref p),some (fr m),some (.ref pb),some (.int (i:Int)),some (.str a.n),v5,v6] J2:=fun hc v5 v6=>by
     have e:fS L.t (fc L.t m) rows (a,y)=rows:=by unfold fS;rw [if_neg (by rw [hc];decide)]
     exact (hIn2 _ _ _).mpr ⟨r2,_,_,rfl,l2,by rw [ef2,e];exact bb2,by rw [ef2,e];omega⟩
    have b2:=b.less l2
    simp_all! only [b2.ob]
    refine ⟨dF _ _ _ _,p,L,a.n,y.n,rfl,b2,ok.toaU,fun c hc c' hc' e e' hg hg'=>?_,fun z=>?_⟩
    ·have hmet:=sk ok (by rw [hks];exact ha) (by rw [hks];exact hb') (by omega) hc hc' hg hg' e e'
     rw [hmet]
     by_cases c2:y.v < a.v∧a.p < y.p
     ·rw [if_pos c2]
      have smk:=jT ok (by rw [hks];exact List.mem_of_getElem? ha) (by rw [hks];exact List.mem_of_getElem? hb') c2.1
      simp_all! only [gv,mH,c4]
      refine ⟨sm.mono (by decide),smk,?_⟩
      by_cases c3:m < dH L.t a y
      ·rw [if_pos c3]
       exact nC (decide_eq_false (fun z=>by have:=z.2.2;grind))
      ·rw [if_neg c3]
       have hcp:fc L.t m (a,y)=true:=decide_eq_true ⟨c2.1,c2.2,by grind⟩
       have e:fS L.t (fc L.t m) rows (a,y)=gU ⟨dH L.t a y,a.n,y.n⟩ (cx a.n y.n rows):=by unfold fS;rw [if_pos hcp];rfl
       simp_all! only [bb2.o]
       refine ⟨GQ _,pb,r2,rows,dH L.t a y,a.n,y.n,rfl,bb2,srt,by omega,smk,szs,fun r' hr'=>?_⟩
       have nr:r'≠pb:=by intro z;subst z;rw [bb2.o] at hr';cases hr'
       refine (hIn2 _ _ _).mpr ⟨r',_,_,rfl,kF l2 hpb hr',⟨au,by rw [ar nr,au,ef2,e]⟩,?_⟩
       rw [ef2,e,rT]
       have:=kA a.n y.n rows
       omega
     ·rw [if_neg c2]
      simp_all! only [gv]
      exact nC (decide_eq_false (fun z=>c2 ⟨z.1,z.2.1⟩))
    ·rcases z with z | z
     ·exact absurd (iP ok (by rw [hks];exact List.mem_of_getElem? ha)) z
     ·exact absurd (iP ok (by rw [hks];exact List.mem_of_getElem? hb')) z
   ·intro τ J2 hv
    obtain ⟨r2,u5,u6,rfl,l2,bb2,hle2⟩:=(hIn2 _ _ _).mp hv
    rw [List.length_map,List.take_length,← eup] at bb2 hle2
    rw [List.length_drop] at hle2
    exact (hInv _ _ _).mpr ⟨r2,_,_,_,_,rfl,l2,bb2,by omega⟩
  ·intro τ J' hv
   obtain ⟨r,u3,u4,u5,u6,rfl,l',bb,hle⟩:=(hInv _ _ _).mp hv
   rw [iE,List.length_map,← hks,C8 ok.knd] at bb
   simp_all! only [bb.o]
   exact ⟨GR _,pb,r,_,rfl,bb,.inl (Fg.less l' q)⟩
theorem rS {m:Rat} (h:fz m.num m.den=true):Sc fP MM m∧0≤m:=by
 have h:=of_decide_eq_true h
 have hd:m.den≤60:=by omega
 constructor
 ·have h1:Sc m.den m.num.natAbs m:=⟨m.num,by have:=cast_eq m;rw [this];rfl,Nat.le_refl _⟩
  obtain ⟨k,hk⟩:=Kl m.den m.den_pos hd
  have h2:=h1.scale (E:=k)
  rw [show k * m.den=fP by rw [hk,Nat.mul_comm]] at h2
  refine h2.mono ?_
  have h3:m.num.natAbs≤1000000 * m.den:=by omega
  have h4:k * m.num.natAbs≤k * (1000000 * m.den):=Nat.mul_le_mul_left _ h3
  have h5:k * (1000000 * m.den)=1000000 * fP:=by rw [hk];rw [Nat.mul_left_comm,Nat.mul_comm k]
  unfold MM
  omega
 ·exact Rat.num_nonneg.mp h.2.2.2.1
theorem aU.Gp {L:Ln} (h:aU L) {m:Rat} (hm:L.t≤m) (hg:fz m.num m.den=true):aU { L with t:=m } :=
 ⟨h.nd,h.ne,fun c hc l hl=>Rat.le_trans (h.le c hc l hl) hm,h.ck,h.len,fun c hc q e=>⟨(h.gz c hc q e).1,Rat.le_trans (h.gz c hc q e).2 hm⟩,(rS hg).2,(rS hg).1,h.many,h.rm,h.rn,h.rl⟩
abbrev eW:Stmt:=(L2.inClass (top 42) 5)
theorem jf:L2.aw ["self","moment","passings"] ["self","moment"] (L2.aj eW):=dk
def AU (cN cL eM eP:Addr):b9:=fun xs J Q E=>∃ p L a b,xs=[.ref p,.tup [.int a,.int b]]∧aW cN cL J p L∧bU L∧(fz a b=false→E eM J)∧(∀ m:Rat,m.num=a→(m.den:Int)=b→fz a b=true→(m < L.t→E eP J)∧(L.t≤m→∀ J' o',aW cN cL J' p { L with t:=m,o:=o',row:=cm m L.fs }→bU { L with t:=m,o:=o',row:=cm m L.fs }→Mv J J' (L.own p) (Ln.own { L with t:=m,o:=o',row:=cm m L.fs } p)→Q (.fl ((mS L.t (L.fs.map (key L.t)) m).map aA.v)) J'))
theorem oa {cN cL eM eP f:Addr} {fd:FuncData} (F:bQ K "go_to" "Lane.go_to" eW f fd) (Z:bC mg) (KD_Lane:cR K mg "Lane" cN) (NA_Lane_now:az K cN "now") (m_Lane_foretold:cf P w K mg base cN 7 "foretold" ["self","moment"] (wW cN cL eM eP)) (m_Lane_settle:cf P w K mg base cN 7 "settle" ["self"] (gh cN cL)):aH P w K mg base (cF P w) 8 f fd ["self","moment"] (c8 K (AU cN cL eM eP)):=by
 simp_arith [jf]
 ·obtain ⟨p,L,a,b,rfl,_⟩:=h;rfl
 obtain ⟨p,L,a,bb,rfl,b,ok,qe,q⟩:=h
 have bo:=b.ob
 refine ⟨_,(ai (aF (i:=2) jf.nd rfl (Or.inl rfl) (aY (pl:=_) m_Lane_foretold B hr (by decide) (rv 0) (af (rv 1) ah)))
   (ai (fT KD_Lane.cl NA_Lane_now (rv 0) (rv 1))
   (ai (aX (cT (pl:=_) m_Lane_settle B hr (by decide) (rv 0)))
   (ak (ay (rv 2)))))),?_⟩
 simp_all! only [bo]
 refine ⟨dF _ _ _ _,p,L,a,bb,rfl,b,ok,qe,fun m h1 h2 hg=>⟨(q m h1 h2 hg).1,fun hm=>?_⟩⟩
 have q:=(q m h1 h2 hg).2 hm
 have ef:PV.tup [.int a,.int bb]=fr m:=by rw [← h1,← h2];rfl
 have hgm:fz m.num m.den=true:=by rw [h1,h2];exact hg
 have ok1:=ok.toaU.Gp hm hgm
 simp_all! only [bo,ef]
 refine ⟨by show (3:Nat) < 1000;decide,?_⟩
 have b1:aW cN cL (put J p (.ins cN [("now",fr m),("logs",.ref L.d),("row",.ref L.o)])) p { L with t:=m } :=
  ⟨au,by show put J p _ L.d=_;rw [ar b.BW];exact b.dc,by show put J p _ L.o=_;rw [ar b.BY];exact b.rw,fun c hc=>⟨by rw [ar (b.Ij hc)];exact (b.lg c hc).o,by rw [ar (b.FR hc)];exact (b.lg c hc).l⟩,b.ap,b.ao⟩
 have mv1:Mv J (put J p (.ins cN [("now",fr m),("logs",.ref L.d),("row",.ref L.o)])) (L.own p) (L.own p):=fh (.inl rfl) fun a h=>.inl h
 generalize put J p (.ins cN [("now",fr m),("logs",.ref L.d),("row",.ref L.o)])=J1 at b1 mv1 ⊢
 simp_all! only [b1.ob]
 refine ⟨dF _ _ _ _,p,{ L with t:=m },rfl,b1,ok1,fun J2 o' b2 mv2=>?_⟩
 simp_all! only []
 exact q J2 o' b2 (bU.settled ok1 o') (mv1.trans mv2)
abbrev eS:Stmt:=(L2.inClass (top 42) 9)
theorem dj:L2.aw ["self","ringing","hind","fore","met"] ["self"] (L2.aj eS):=dk
def tO (cN cL:Addr):b9:=fun xs J Q E=>∃ p L,xs=[.ref p]∧aW cN cL J p L∧bU L∧Q (.fl ((eA L.t (L.fs.map (key L.t))).map aA.v)) J
theorem n9 {cN cL cB eC f:Addr} {fd:FuncData} (F:bQ K "bells" "Lane.bells" eS f fd) (Z:bC mg) (KD_Lane:cR K mg "Lane" cN) (NA_Lane_row:az K cN "row") (M_Bells:uc P w K mg base cB 1 "Bells" ["self"] (qW cB)) (m_Lane_meets:cf P w K mg base cN 6 "meets" ["self","name","other"] (nq cN cL eC)) (m_Bells_put:cf P w K mg base cB 3 "put" ["self","moment","hind","fore"] (vm cB)) (m_Bells_told:cf P w K mg base cB 1 "told" ["self"] (qX cB)):aH P w K mg base (cF P w) 7 f fd ["self"] (c8 K (tO cN cL)):=by
 refine FT F dj (fun xs J Q E h=>?_) (fun cdv A outer s H E G xs J Q E2 hr h B=>?_)
 ·obtain ⟨p,L,rfl,_⟩:=h;rfl
 obtain ⟨p,L,rfl,b,ok,q⟩:=h
 refine ⟨_,(ai (aF (i:=1) dj.nd rfl (Or.inl rfl) (mZ M_Bells B hr (by decide) rfl))
   (ai (dM bI rfl (Fl rfl Z.zip (af (aP KD_Lane.cl NA_Lane_row (rv 0)) (af (gf AX (aP KD_Lane.cl NA_Lane_row (rv 0)) (iN ag) iM) ah))) (m4 (n:=2) rfl (cA (bj (i:=2) dj.nd rfl (Or.inl rfl)) (cA (bj (i:=3) dj.nd rfl (Or.inl rfl)) j1))) (ai (aF (i:=4) dj.nd rfl (Or.inl rfl) (aY (pl:=_) m_Lane_meets B hr (by decide) (rv 0) (af (rv 2) (af (rv 3) ah))))
   (ak (aR (aD hX (rv 4) gB (L2.ax _)) (ak (aX (aY (pl:=_) m_Bells_put B hr (by decide) (rv 1) (af (rv 4) (af (rv 2) (af (rv 3) ah)))))) aE))))
   (ak (ay (cT (pl:=_) m_Bells_told B hr (by decide) (rv 1)))))),?_⟩
 simp_all! only []
 intro pb hpb
 refine ⟨pb,rfl,au,fun r0 hr0=>⟨rfl,?_⟩⟩
 have l0:=o4 (y:=.lst []) (z:=.ins cB [("rows",.ref r0)]) hpb hr0
 have nr0:r0≠pb:=by intro e;subst e;rw [au] at hr0;cases hr0
 have b0:Bo cB (put (put (put J pb (.ins cB [])) r0 (.lst [])) pb (.ins cB [("rows",.ref r0)])) pb r0 []:=⟨au,by rw [ar nr0];exact au⟩
 generalize put (put (put J pb (.ins cB [])) r0 (.lst [])) pb (.ins cB [("rows",.ref r0)])=J0 at l0 b0 ⊢
 obtain ⟨ks,hks⟩:∃ ks,bT (L.fs.map (key L.t))=ks:=⟨_,rfl⟩
 have hrow:L.row.map PV.str=ks.map fun k=>PV.str k.n:=by rw [← hks];exact ok.keys
 have hkl:ks.length≤12:=by rw [← hks];exact ok.Gz
 have hct:jm (ks.map fun k=>PV.str k.n) (some 1) none=ks.tail.map fun k=>PV.str k.n:=by
  cases ks with
  | nil=>rfl
  | cons x ks=>exact rL (((x :: ks).map fun k=>PV.str k.n)) 1 (by simp)
 have hup:∀ {ps:List (Ky × Ky)},(∀ p∈ps,p.1∈ks∧p.2∈ks)→∀ x∈bA L.t bZ ps,Sz 9000 x.m:=fun hp x hx=>by
  obtain ⟨p,hp',hc,rfl⟩:=f6 _ hx
  exact jT ok (by rw [hks];exact (hp p hp').1) (by rw [hks];exact (hp p hp').2) (of_decide_eq_true hc)
 simp_all! only [Kk,(b.less l0).ob,(b.less l0).rw,nY,hrow,hct]
 have ez:((ks.map fun k=>PV.str k.n).zip (ks.tail.map fun k=>PV.str k.n)).map (fun p=>PV.tup [p.1,p.2])=(ks.zip ks.tail).map fun p=>PV.tup [.str p.1.n,.str p.2.n]:=by rw [List.zip_map,List.map_map];rfl
 rw [ez]
 generalize hps:ks.zip ks.tail=ps
 have hpl:ps.length≤12:=by rw [← hps,List.length_zip];omega
 have hpm:∀ x∈ps,x.1∈ks∧x.2∈ks:=fun x hx=>by
  rw [← hps] at hx
  obtain ⟨i,h3,h4⟩:=cv.mp (show (x.1,x.2)∈_ from hx)
  exact ⟨List.mem_of_getElem? h3,List.mem_of_getElem? h4⟩
 obtain ⟨Inv,hInv⟩:∃ Inv:Nat→Sr→Hq→Prop,∀ i τ J',Inv i τ J'↔∃ (r:Addr) (u2 u3 u4:Option PV),τ=[some (.ref p),some (.ref pb),u2,u3,u4]∧me J J'∧Bo cB J' pb r (bA L.t bZ (ps.take i)):=⟨_,fun _ _ _=>Iff.rfl⟩
 refine fe Inv ((hInv _ _ _).mpr ⟨r0,_,_,_,rfl,l0,b0⟩) (fun i τ J' h=>?_) ?_ ?_
 ·obtain ⟨r,_,_,_,_,l',_⟩:=(hInv _ _ _).mp h
  rw [(b.less l').rw,hrow]
 ·intro i x τ J' hx hv
  obtain ⟨r,u2,u3,u4,rfl,l',bb⟩:=(hInv _ _ _).mp hv
  clear hv
  have hi:i < ps.length:=by have:=(List.getElem?_eq_some_iff.mp hx).1;rw [List.length_map] at this;exact this
  have hpi:ps[i]?=some ps[i]:=List.getElem?_eq_getElem hi
  rw [List.getElem?_map,hpi] at hx
  cases hx
  have et:ps.take (i + 1)=ps.take i ++ [ps[i]]:=by rw [List.take_add_one,hpi];rfl
  have szs:=hup (ps:=ps.take i) (fun p hp=>hpm p (List.mem_of_mem_take hp))
  have srt:=fZ L.t bZ (ps.take i)
  have hle:=kC L.t bZ (ps.take i)
  rw [List.length_take] at hle
  rcases hab:ps[i] with ⟨a,y⟩
  rw [hab] at hpi et
  have ef2:bA L.t bZ (ps.take (i + 1))=fS L.t bZ (bA L.t bZ (ps.take i)) (a,y):=by rw [et];exact dy _ _ _ _
  generalize bA L.t bZ (ps.take i)=rows at bb szs srt hle ef2
  rw [← hps] at hpi
  obtain ⟨ha,hb⟩:=List.getElem?_zip_eq_some.mp hpi
  rw [List.getElem?_tail] at hb
  simp only at ha hb
  have b2:=b.less l'
  simp_all! only [b2.ob]
  refine ⟨dF _ _ _ _,p,L,a.n,y.n,rfl,b2,ok.toaU,fun c hc c' hc' e e' hg hg'=>?_,fun z=>?_⟩
  ·have hmet:=sk ok (by rw [hks];exact ha) (by rw [hks];exact hb) (by omega) hc hc' hg hg' e e'
   rw [hmet]
   by_cases c2:y.v < a.v
   ·have c3:=CG ok (by rw [hks];exact ha) (by rw [hks];exact hb) (by omega) c2
    rw [if_pos ⟨c2,c3⟩]
    have smk:=jT ok (by rw [hks];exact List.mem_of_getElem? ha) (by rw [hks];exact List.mem_of_getElem? hb) c2
    have hcp:bZ (a,y)=true:=decide_eq_true c2
    have e:fS L.t bZ rows (a,y)=gU ⟨dH L.t a y,a.n,y.n⟩ (cx a.n y.n rows):=by unfold fS;rw [if_pos hcp];rfl
    simp_all! only [gv,mH,bb.o]
    refine ⟨GQ _,pb,r,rows,dH L.t a y,a.n,y.n,rfl,bb,srt,by omega,smk,szs,fun r' hr'=>?_⟩
    have nr:r'≠pb:=by intro z;subst z;rw [bb.o] at hr';cases hr'
    exact (hInv _ _ _).mpr ⟨r',_,_,_,rfl,kF l' hpb hr',⟨au,by rw [ar nr,au,ef2,e]⟩⟩
   ·rw [if_neg (fun z=>c2 z.1)]
    have e:fS L.t bZ rows (a,y)=rows:=by
     have hcf:bZ (a,y)=false:=decide_eq_false c2
     unfold fS;rw [if_neg (by rw [hcf];decide)]
    simp_all! only [gv]
    exact (hInv _ _ _).mpr ⟨r,_,_,_,rfl,l',by rw [ef2,e];exact bb⟩
  ·rcases z with z | z
   ·exact absurd (iP ok (by rw [hks];exact List.mem_of_getElem? ha)) z
   ·exact absurd (iP ok (by rw [hks];exact List.mem_of_getElem? hb)) z
 ·intro τ J' hv
  obtain ⟨r,u2,u3,u4,rfl,l',bb⟩:=(hInv _ _ _).mp hv
  rw [List.length_map,List.take_length,← hps,← hks,nI ok.knd] at bb
  simp_all! only [bb.o]
  exact ⟨GR _,pb,r,_,rfl,bb,.inl (Fg.less l' q)⟩
def Cf.turn (c:Cf) (t:Rat) (v:Int):Cf:={ c with w:=turned c.w t v }
def cM (n:Str) (t:Rat) (v:Int) (c:Cf):Cf:=if c.n=n then c.turn t v else c
theorem km (n:Str) (t:Rat) (v:Int) (c:Cf):(cM n t v c).n=c.n∧(cM n t v c).a=c.a∧(cM n t v c).r=c.r∧(cM n t v c).g=c.g:=by unfold cM;split <;> exact ⟨rfl,rfl,rfl,rfl⟩
theorem dG {α β:Type} {f:α→β} {g:α→α} (h:∀ x,f (g x)=f x) (l:List α):(l.map g).map f=l.map f:=by rw [List.map_map];exact List.map_congr_left fun x _=>h x
theorem aU.map {L:Ln} (h:aU L) {f:Cf→Cf} (hn:∀ c,(f c).n=c.n∧(f c).a=c.a∧(f c).r=c.r∧(f c).g=c.g) (hw:∀ c∈L.cs,(f c).w≠[]∧(∀ l∈(f c).w,l.m≤L.t∧nL l)∧(f c).w.length≤200):aU { L with cs:=L.cs.map f }:=by
 have mem:∀ c∈L.cs.map f,∃ c0∈L.cs,f c0=c:=fun c hc=>by obtain ⟨c0,h0,e⟩:=List.mem_map.mp hc;exact ⟨c0,h0,e⟩
 have hfs:(Ln.fs { L with cs:=L.cs.map f }).map (·.1)=L.fs.map (·.1):=by
  rw [d_,d_]
  unfold Ln.yJ
  show ((L.cs.map f).filter _).map Cf.n=_
  rw [List.filter_map,List.map_map]
  have e1:(fun c:Cf=>c.g.isNone) ∘ f=fun c=>c.g.isNone:=by funext c;show (f c).g.isNone=_;rw [(hn c).2.2.2]
  rw [e1]
  exact List.map_congr_left fun c _=>(hn c).1
 refine ⟨?_,?_,?_,?_,?_,?_,h.t0,h.ts,by show (L.cs.map f).length≤100;rw [List.length_map];exact h.many,fun n=>by rw [hfs];exact h.rm n,h.rn,h.rl⟩
 ·show ((L.cs.map f).map Cf.n).Nodup
  rw [dG (fun c=>(hn c).1)];exact h.nd
 ·intro c hc;obtain ⟨c0,h0,rfl⟩:=mem c hc;exact (hw c0 h0).1
 ·intro c hc l hl;obtain ⟨c0,h0,rfl⟩:=mem c hc;exact ((hw c0 h0).2.1 l hl).1
 ·intro c hc l hl;obtain ⟨c0,h0,rfl⟩:=mem c hc;exact ((hw c0 h0).2.1 l hl).2
 ·intro c hc;obtain ⟨c0,h0,rfl⟩:=mem c hc;exact (hw c0 h0).2.2
 ·intro c hc q e;obtain ⟨c0,h0,rfl⟩:=mem c hc;exact h.gz c0 h0 q (by rw [← (hn c0).2.2.2];exact e)
theorem aU.Dk {L:Ln} (h:aU L) {c:Cf} (hc:c∈L.cs):c.w≠[]∧(∀ l∈c.w,l.m≤L.t∧nL l)∧c.w.length≤200:=⟨h.ne c hc,fun l hl=>⟨h.le c hc l hl,h.ck c hc l hl⟩,h.len c hc⟩
theorem aU.D5 {L:Ln} (h:aU L) {c:Cf} (hc:c∈L.cs) (hl:c.w.length < 200) {v:Int} (hv:v.natAbs≤1000):(c.turn L.t v).w≠[]∧(∀ l∈(c.turn L.t v).w,l.m≤L.t∧nL l)∧(c.turn L.t v).w.length≤200:=by
 refine ⟨pz (h.ne c hc),fun l hl'=>?_,?_⟩
 ·rcases vD hl' with k | ⟨l0,k,rfl⟩
  ·exact ⟨h.le c hc l k,h.ck c hc l k⟩
  ·exact ⟨Rat.le_refl,(h.ck c hc l0 k).at (h.le c hc l0 k) h.ts hv⟩
 ·have:=jC c.w L.t v
  show (turned c.w L.t v).length≤200
  omega
theorem aW.turn {cN cL:Addr} {J:Hq} {p:Addr} {L:Ln} (h:aW cN cL J p L) (ok:aU L) {c:Cf} (hc:c∈L.cs) {t:Rat} {v:Int}:aW cN cL (put J c.r (.lst ((turned c.w t v).map aS.V))) p { L with cs:=L.cs.map (cM c.n t v) }:=by
 have hcs:=km c.n t v
 refine ⟨by rw [ar (Ne.symm (h.FR hc))];exact h.ob,?_,?_,fun x hx=>?_,?_,fun x hx=>?_⟩
 ·show put J c.r _ L.d=_
  rw [ar (Ne.symm (h.Kq hc)),h.dc]
  show _=Option.some (HQ.dct ((L.cs.map (cM c.n t v)).map fun c=>(c.n,PV.ref c.a)) L.e)
  rw [dG (f:=fun c:Cf=>(c.n,PV.ref c.a)) (fun x=>by rw [(hcs x).1,(hcs x).2.1])]
 ·show put J c.r _ L.o=_
  rw [ar (Ne.symm (h.ao c hc))];exact h.rw
 ·obtain ⟨x0,h0,rfl⟩:=List.mem_map.mp hx
  have hl:=h.lg x0 h0
  refine ⟨?_,?_⟩
  ·rw [(hcs x0).2.1,(hcs x0).2.2.1,(hcs x0).2.2.2,ar (h.K1 h0 hc)];exact hl.o
  ·rw [(hcs x0).2.2.1]
   by_cases e:x0.n=c.n
   ·have:x0=c:=ok.uniq h0 hc e
    subst this
    rw [au]
    unfold cM;rw [if_pos rfl];rfl
   ·have hr:x0.r≠c.r:=fun z=>e (by
     obtain ⟨i,hi,rfl⟩:=List.getElem_of_mem h0
     obtain ⟨j,hj,rfl⟩:=List.getElem_of_mem hc
     have:=(List.getElem_inj (xs:=L.cs.map Cf.r) (i:=i) (j:=j) (h₀:=by simpa using hi) (h₁:=by simpa using hj) h.ap).mp (by rw [List.getElem_map,List.getElem_map];exact z)
     subst this;rfl)
    rw [ar hr]
    unfold cM;rw [if_neg e];exact hl.l
 ·show ((L.cs.map (cM c.n t v)).map Cf.r).Nodup
  rw [dG (fun x=>(hcs x).2.2.1)];exact h.ap
 ·obtain ⟨x0,h0,rfl⟩:=List.mem_map.mp hx
  rw [(hcs x0).2.2.1];exact h.ao x0 h0
theorem qg {L:Ln} {p:Addr} {f:Cf→Cf} (hn:∀ c,(f c).n=c.n∧(f c).a=c.a∧(f c).r=c.r∧(f c).g=c.g) (a:Addr):Ln.own { L with cs:=L.cs.map f } p a↔L.own p a:=by
 unfold Ln.own
 constructor
 ·rintro (h | h | h | ⟨c,hc,h⟩)
  ·exact .inl h
  ·exact .inr (.inl h)
  ·exact .inr (.inr (.inl h))
  ·obtain ⟨c0,h0,rfl⟩:=List.mem_map.mp hc
   rw [(hn c0).2.1,(hn c0).2.2.1] at h
   exact .inr (.inr (.inr ⟨c0,h0,h⟩))
 ·rintro (h | h | h | ⟨c,hc,h⟩)
  ·exact .inl h
  ·exact .inr (.inl h)
  ·exact .inr (.inr (.inl h))
  ·exact .inr (.inr (.inr ⟨f c,List.mem_map.mpr ⟨c,hc,rfl⟩,by rw [(hn c).2.1,(hn c).2.2.1];exact h⟩))
abbrev fH:Stmt:=(L2.inClass (top 42) 3)
theorem qM:L2.aw ["self","name","pace"] ["self","name","pace"] (L2.aj fH):=dk
def w6 (cN cL eC eF:Addr):b9:=fun xs J Q E=>∃ p L n v,xs=[.ref p,.str n,.int v]∧aW cN cL J p L∧bU L∧(∀ c∈L.cs,c.w.length < 200)∧(n ∉ L.row→E eC J)∧(n∈L.row→¬ v.natAbs≤1000→E eF J)∧(n∈L.row→v.natAbs≤1000→∀ J' L',aW cN cL J' p L'→bU L'→L'.cs=L.cs.map (cM n L.t v)→L'.t=L.t→Mv J J' (L.own p) (L'.own p)→Q .non J')
theorem p5 {cN cL eC eF f:Addr} {fd:FuncData} (F:bQ K "turn" "Lane.turn" fH f fd) (Z:bC mg) (KD_Lane:cR K mg "Lane" cN) (NA_Lane_logs:az K cN "logs") (NA_Lane_now:az K cN "now") {t_FASTEST:Tok} (g_FASTEST:mg "FASTEST"=some (.int 1000 t_FASTEST)) (O_TooFar:Own K mg "TooFar" eF) (m_Lane_must_be_there:cf P w K mg base cN 1 "must_be_there" ["self","name"] (l7 cN cL eC)) (m_Log_turn:cf P w K mg base cL 5 "turn" ["self","moment","pace"] (qY cL)) (m_Lane_settle:cf P w K mg base cN 7 "settle" ["self"] (gh cN cL)):aH P w K mg base (cF P w) 8 f fd ["self","name","pace"] (c8 K (w6 cN cL eC eF)):=by
 simp_arith [qM]
 ·obtain ⟨p,L,n,v,rfl,_⟩:=h;rfl
 obtain ⟨p,L,n,v,rfl,b,ok,hlen,qc,qf,q⟩:=h
 have bo:=b.ob
 have bd:=b.dc
 refine ⟨_,(ai (aX (aY (pl:=_) m_Lane_must_be_there B hr (by decide) (rv 0) (af (rv 1) ah)))
   (ai (aR (aD jV (aG uq rfl Z.abs boot_abs (af (rv 2) ah)) (eL (v:=.int 1000) (.int 1000) rfl g_FASTEST ⟨_,rfl⟩ (fun _ _=>rfl)) (L2.ax _)) (ak (dg O_TooFar rfl bY B.kn rfl (af bD ah))) aE)
   (ai (aX (aY (pl:=_) m_Log_turn B hr (by decide) (aq cG (aP KD_Lane.cl NA_Lane_logs (rv 0)) (rv 1) (fun _ _=>rfl)) (af (aP KD_Lane.cl NA_Lane_now (rv 0)) (af (rv 2) ah))))
   (ak (aX (cT (pl:=_) m_Lane_settle B hr (by decide) (rv 0))))))),?_⟩
 simp_all! only [bo]
 refine ⟨dF _ _ _ _,p,L,n,rfl,b,fun hn=>?_,qc⟩
 simp_all! only []
 have habs:(1000 < if v < 0 then -v else v)↔¬ v.natAbs≤1000:=by split <;> omega
 by_cases hv:v.natAbs≤1000
 ·rw [if_neg (fun z=>habs.mp z hv)]
  obtain ⟨c,hc,rfl,hg⟩:=ok.found hn
  have lo:=(b.lg c hc).o
  have ok1:aU { L with cs:=L.cs.map (cM c.n L.t v) }:=ok.toaU.map (km c.n L.t v) fun x hx=>by
   unfold cM
   split
   ·exact ok.toaU.D5 hx (hlen x hx) hv
   ·exact ok.toaU.Dk hx
  have b1:=b.turn ok.toaU hc (t:=L.t) (v:=v)
  have mv1:Mv J (put J c.r (.lst ((turned c.w L.t v).map aS.V))) (L.own p) (Ln.own { L with cs:=L.cs.map (cM c.n L.t v) } p):=fh (.inr (.inr (.inr ⟨c,hc,.inr rfl⟩))) fun a h=>.inl ((qg (km c.n L.t v) a).mp h)
  simp_all! only [bo,mK,sf,bd,ok.va hc,lo]
  refine ⟨GS _ _,c.a,c.r,c.w,c.g,L.t,v,rfl,b.lg c hc,ok.ne c hc,Nat.le_trans (ok.len c hc) (by decide),ok.D3,fun l hl=>(ok.ck c hc l hl).FQ,?_⟩
  generalize put J c.r (.lst ((turned c.w L.t v).map aS.V))=J1 at b1 mv1 ⊢
  simp_all! only [b1.ob]
  refine ⟨dF _ _ _ _,p,_,rfl,b1,ok1,fun J2 o' b2 mv2=>?_⟩
  exact q hn hv J2 _ b2 (bU.settled ok1 o') rfl rfl (mv1.trans mv2)
 ·rw [if_pos (habs.mpr hv)]
  simp_all! only [eE]
  exact qf hn hv
def du (t:Rat) (c:Cf):Cf:=if c.g.isNone=true then c.turn t (-c.cur.v) else c
def bH (t:Rat) (row:List Str) (c:Cf):Cf:=if c.n∈row then c.turn t (-c.cur.v) else c
theorem jI (t:Rat) (row:List Str) (c:Cf):(bH t row c).n=c.n∧(bH t row c).a=c.a∧(bH t row c).r=c.r∧(bH t row c).g=c.g:=by unfold bH;split <;> exact ⟨rfl,rfl,rfl,rfl⟩
theorem iw {L:Ln} (ok:aU L):L.cs.map (bH L.t L.row)=L.cs.map (du L.t):=by
 refine List.map_congr_left fun c hc=>?_
 have h:c.n∈L.row↔c.g.isNone=true:=by
  rw [ok.rm,d_,List.mem_map]
  constructor
  ·rintro ⟨c',hc',e⟩
   have h':=Ln.cV.mp hc'
   rw [ok.uniq h'.1 hc e] at h'
   rw [h'.2];rfl
  ·intro e
   exact ⟨c,Ln.cV.mpr ⟨hc,by cases hg:c.g with | none=>rfl | some q=>rw [hg] at e;cases e⟩,rfl⟩
 unfold bH du
 by_cases e:c.n∈L.row
 ·rw [if_pos e,if_pos (h.mp e)]
 ·rw [if_neg e,if_neg (fun z=>e (h.mpr z))]
theorem aU.bH {L:Ln} (ok:aU L) (hlen:∀ c∈L.cs,c.w.length < 200) (row:List Str):aU { L with cs:=L.cs.map (bH L.t row) }:=ok.map (jI L.t row) fun x hx=>by
 unfold Ov.bH
 split
 ·exact ok.D5 hx (hlen x hx) (by have:=(ok.ck x hx _ (Cf.fw (ok.ne x hx)).2).v;omega)
 ·exact ok.Dk hx
abbrev eR:Stmt:=(L2.inClass (top 42) 4)
theorem fW:L2.aw ["self","name","pace"] ["self"] (L2.aj eR):=dk
def tN (cN cL:Addr):b9:=fun xs J Q E=>∃ p L,xs=[.ref p]∧aW cN cL J p L∧bU L∧(∀ c∈L.cs,c.w.length < 200)∧(∀ J' L',aW cN cL J' p L'→bU L'→L'.cs=L.cs.map (du L.t)→L'.t=L.t→Mv J J' (L.own p) (L'.own p)→Q .non J')
theorem n8 {cN cL eC f:Addr} {fd:FuncData} (F:bQ K "about" "Lane.about" eR f fd) (Z:bC mg) (KD_Lane:cR K mg "Lane" cN) (NA_Lane_row:az K cN "row") (NA_Lane_logs:az K cN "logs") (NA_Lane_now:az K cN "now") (m_Lane_leg_of:cf P w K mg base cN 4 "leg_of" ["self","name"] (il cN cL eC)) (m_Log_turn:cf P w K mg base cL 5 "turn" ["self","moment","pace"] (qY cL)) (m_Lane_settle:cf P w K mg base cN 7 "settle" ["self"] (gh cN cL)):aH P w K mg base (cF P w) 8 f fd ["self"] (c8 K (tN cN cL)):=by
 simp_arith [fW]
 ·obtain ⟨p,L,rfl,_⟩:=h;rfl
 obtain ⟨p,L,rfl,b,ok,hlen,q⟩:=h
 refine ⟨_,(ai (dM bI rfl (eO (aP KD_Lane.cl NA_Lane_row (rv 0))) (bj (i:=1) fW.nd rfl (Or.inl rfl)) (ai (aF (i:=2) fW.nd rfl (Or.inl rfl) (aq av (aY (pl:=_) m_Lane_leg_of B hr (by decide) (rv 0) (af (rv 1) ah)) ag (fun _ _=>rfl)))
   (ak (aX (aY (pl:=_) m_Log_turn B hr (by decide) (aq cG (aP KD_Lane.cl NA_Lane_logs (rv 0)) (rv 1) (fun _ _=>rfl)) (af (aP KD_Lane.cl NA_Lane_now (rv 0)) (af (pd k7 (rv 2)) ah)))))))
   (ak (aX (cT (pl:=_) m_Lane_settle B hr (by decide) (rv 0))))),?_⟩
 simp_all! only [b.ob,b.rw,nY]
 have hid:L.cs.map (bH L.t (L.row.take 0))=L.cs:=by
  have:∀ c∈L.cs,bH L.t (L.row.take 0) c=c:=fun c _=>by unfold bH;rw [if_neg (by simp)]
  rw [List.map_congr_left this,List.map_id']
 obtain ⟨Inv,hInv⟩:∃ Inv:Nat→Sr→Hq→Prop,∀ i τ J',Inv i τ J'↔∃ (u1 u2:Option PV),τ=[some (.ref p),u1,u2]∧aW cN cL J' p { L with cs:=L.cs.map (bH L.t (L.row.take i)) }∧Mv J J' (L.own p) (L.own p):=⟨_,fun _ _ _=>Iff.rfl⟩
 refine fe Inv ((hInv _ _ _).mpr ⟨_,_,rfl,by rw [hid];exact b,Mv.refl _ _⟩) (fun i τ J' h=>?_) ?_ ?_
 ·obtain ⟨_,_,_,b',_⟩:=(hInv _ _ _).mp h
  have:=b'.rw
  simp only at this
  rw [this]
 ·intro i x τ J' hx hv
  obtain ⟨u1,u2,rfl,b',mv'⟩:=(hInv _ _ _).mp hv
  clear hv
  have hi:i < L.row.length:=by have:=(List.getElem?_eq_some_iff.mp hx).1;simpa using this
  have hget:L.row[i]?=some L.row[i]:=List.getElem?_eq_getElem hi
  rw [List.getElem?_map,hget] at hx
  cases hx
  have hn:L.row[i]∈L.row:=List.getElem_mem hi
  have et:L.row.take (i + 1)=L.row.take i ++ [L.row[i]]:=by rw [List.take_add_one,hget];rfl
  have hnd:(L.row.take (i + 1)).Nodup:=ok.rn.sublist (List.take_sublist _ _)
  rw [et] at hnd
  have hnew:=(gx hnd).2
  generalize L.row[i]=n at hn et hnew ⊢
  obtain ⟨c,hc,rfl,hg⟩:=ok.found hn
  have oki:=ok.toaU.bH hlen (L.row.take i)
  have ecc:bH L.t (L.row.take i) c=c:=by unfold bH;rw [if_neg hnew]
  have hci:c∈L.cs.map (bH L.t (L.row.take i)):=List.mem_map.mpr ⟨c,hc,ecc⟩
  simp_all! only [b'.ob]
  refine ⟨dF _ _ _ _,p,_,c.n,rfl,b',oki,fun c' hc' e' hg'=>?_,fun z=>absurd hn z⟩
  have ec':c'=c:=oki.uniq hc' hci e'
  subst ec'
  have hcv:=(ok.ck c' hc _ (Cf.fw (ok.ne c' hc)).2).v
  have lo:=(b'.lg c' hci).o
  have bo':=b'.ob
  have bd':=b'.dc
  simp only at bo' bd'
  simp_all! only [jO,bo',mK,sf,bd',lo]
  have hva:=oki.va hci
  simp only at hva
  simp_all! only [hva,lo,bo',mK]
  refine ⟨GS _ _,c'.a,c'.r,c'.w,c'.g,L.t,-c'.cur.v,rfl,b'.lg c' hci,ok.ne c' hc,Nat.le_trans (ok.len c' hc) (by decide),ok.D3,fun l hl=>(ok.ck c' hc l hl).FQ,?_⟩
  have b1:=b'.turn oki hci (t:=L.t) (v:=-c'.cur.v)
  have em:(L.cs.map (bH L.t (L.row.take i))).map (cM c'.n L.t (-c'.cur.v))=L.cs.map (bH L.t (L.row.take (i + 1))):=by
   rw [List.map_map]
   refine List.map_congr_left fun x hx=>?_
   show cM c'.n L.t (-c'.cur.v) (bH L.t (L.row.take i) x)=_
   by_cases e:x.n=c'.n
   ·have:x=c':=ok.uniq hx hc e
    subst this
    rw [ecc]
    unfold cM Ov.bH
    rw [if_pos rfl,if_pos (by rw [et];simp)]
   ·unfold cM
    rw [if_neg (by rw [(jI L.t (L.row.take i) x).1];exact e)]
    unfold Ov.bH
    rw [et]
    by_cases e2:x.n∈L.row.take i
    ·rw [if_pos e2,if_pos (List.mem_append.mpr (.inl e2))]
    ·rw [if_neg e2,if_neg (fun z=>by
      rcases List.mem_append.mp z with z | z
      ·exact e2 z
      ·exact e (by simpa using z))]
  simp only [em] at b1
  refine (hInv _ _ _).mpr ⟨_,_,rfl,b1,mv'.trans (fh (.inr (.inr (.inr ⟨c',hc,.inr rfl⟩))) fun a h=>.inl h)⟩
 ·intro τ J' hv
  obtain ⟨u1,u2,rfl,b',mv'⟩:=(hInv _ _ _).mp hv
  rw [List.length_map,List.take_length,iw ok.toaU] at b'
  have oki:aU { L with cs:=L.cs.map (du L.t) }:=by rw [← iw ok.toaU];exact ok.toaU.bH hlen L.row
  simp_all! only [b'.ob]
  refine ⟨dF _ _ _ _,p,_,rfl,b',oki,fun J2 o' b2 mv2=>?_⟩
  refine q J2 _ b2 (bU.settled oki o') rfl rfl (mv'.trans ⟨fun a o e n=>mv2.keep a o e fun z=>n ?_,fun a h=>?_,mv2.mono⟩)
  ·rw [← iw ok.toaU] at z;exact (qg (jI L.t L.row) a).mp z
  ·rcases mv2.own a h with h' | h'
   ·rw [← iw ok.toaU] at h';exact .inl ((qg (jI L.t L.row) a).mp h')
   ·exact .inr h'
def bp (n:Str) (t:Rat) (c:Cf):Cf:=if c.n=n then { c with g:=some t } else c
theorem dD (n:Str) (t:Rat) (c:Cf):(bp n t c).n=c.n∧(bp n t c).a=c.a∧(bp n t c).r=c.r∧(bp n t c).w=c.w:=by unfold bp;split <;> exact ⟨rfl,rfl,rfl,rfl⟩
theorem rZ {L L':Ln} {n:Str} {t:Rat} (e:L'.cs=L.cs.map (bp n t)):L'.fs=L.fs.filter fun x=>decide (x.1≠n):=by
 unfold Ln.fs Ln.yJ
 rw [e,List.filter_map,List.map_map,List.filter_map,List.filter_filter]
 have e1:(fun c:Cf=>c.g.isNone) ∘ bp n t=fun c=>((fun x:Str × aS=>decide (x.1≠n)) ∘ fun c:Cf=>(c.n,c.cur)) c && c.g.isNone:=by
  funext c
  show (bp n t c).g.isNone=(decide (c.n≠n) && c.g.isNone)
  unfold bp
  by_cases z:c.n=n
  ·rw [if_pos z];simp [z]
  ·rw [if_neg z];simp [z]
 rw [e1]
 refine List.map_congr_left fun c hc=>?_
 show ((bp n t c).n,(bp n t c).cur)=_
 unfold Cf.cur
 rw [(dD n t c).1,(dD n t c).2.2.2]
theorem sL {ks:List Ky} (h:(ks.map Ky.n).Nodup) (f:Ky→Bool):bT (ks.filter f)=(bT ks).filter f:=by
 have hs:((ks.filter f).map Ky.n).Nodup:=h.sublist (List.Sublist.map _ List.filter_sublist)
 refine ki (lt:=Ky.lt) Ky.Bl Ky.tr (cg hs) ((cg h).filter _) fun x=>?_
 rw [a7,List.mem_filter,List.mem_filter,a7]
theorem sP {t:Rat} {fs:List (Str × aS)} (h:(fs.map (·.1)).Nodup) (n:Str):cm t (fs.filter fun x=>decide (x.1≠n))=(cm t fs).filter fun x=>decide (x≠n):=by
 unfold cm
 have e:(fs.filter fun x=>decide (x.1≠n)).map (key t)=(fs.map (key t)).filter fun k=>decide (k.n≠n):=by rw [List.filter_map];rfl
 rw [e,sL (by rw [cE];exact h),List.filter_map]
 rfl
theorem erase_filter {l:List Str} (h:l.Nodup) {j:Nat} {n:Str} (hj:l[j]?=some n):l.eraseIdx j=l.filter fun x=>decide (x≠n):=by
 obtain ⟨hl,e⟩:=List.getElem?_eq_some_iff.mp hj
 rw [List.eraseIdx_eq_take_drop_succ]
 have hd:l=l.take j ++ n :: l.drop (j + 1):=by rw [← e,← List.drop_eq_getElem_cons hl,List.take_append_drop]
 have hn:=h
 rw [hd,List.nodup_append] at hn
 have k1:∀ x∈l.take j,x≠n:=fun x hx=>hn.2.2 x hx n (by simp)
 have k2:∀ x∈l.drop (j + 1),x≠n:=fun x hx z=>(List.nodup_cons.mp hn.2.1).1 (by rw [← z];exact hx)
 conv=>rhs;rw [hd]
 rw [List.filter_append,List.filter_cons,if_neg (by simp),List.filter_eq_self.mpr fun x hx=>decide_eq_true (k1 x hx),List.filter_eq_self.mpr fun x hx=>decide_eq_true (k2 x hx)]
theorem bU.leave {L:Ln} (ok:bU L) (n:Str):bU { L with cs:=L.cs.map (bp n L.t),row:=L.row.filter fun x=>decide (x≠n) }:=by
 have hfs:Ln.fs { L with cs:=L.cs.map (bp n L.t),row:=L.row.filter fun x=>decide (x≠n) }=L.fs.filter fun x=>decide (x.1≠n):=rZ (L:=L) (t:=L.t) rfl
 have mem:∀ c∈L.cs.map (bp n L.t),∃ c0∈L.cs,bp n L.t c0=c:=fun c hc=>by obtain ⟨c0,h0,e⟩:=List.mem_map.mp hc;exact ⟨c0,h0,e⟩
 have hw:∀ c,(bp n L.t c).w=c.w:=fun c=>(dD n L.t c).2.2.2
 refine ⟨⟨?_,?_,?_,?_,?_,?_,ok.t0,ok.ts,?_,?_,?_,?_⟩,?_⟩
 ·show ((L.cs.map (bp n L.t)).map Cf.n).Nodup
  rw [dG (fun c=>(dD n L.t c).1)];exact ok.nd
 ·intro c hc;obtain ⟨c0,h0,rfl⟩:=mem c hc;rw [hw];exact ok.ne c0 h0
 ·intro c hc l hl;obtain ⟨c0,h0,rfl⟩:=mem c hc;rw [hw] at hl;exact ok.le c0 h0 l hl
 ·intro c hc l hl;obtain ⟨c0,h0,rfl⟩:=mem c hc;rw [hw] at hl;exact ok.ck c0 h0 l hl
 ·intro c hc;obtain ⟨c0,h0,rfl⟩:=mem c hc;rw [hw];exact ok.len c0 h0
 ·intro c hc q e
  obtain ⟨c0,h0,rfl⟩:=mem c hc
  unfold bp at e
  split at e
  ·cases e;exact ⟨ok.ts,Rat.le_refl⟩
  ·exact ok.gz c0 h0 q e
 ·show (L.cs.map (bp n L.t)).length≤100
  rw [List.length_map];exact ok.many
 ·intro m
  rw [hfs]
  show m∈L.row.filter _↔_
  rw [List.mem_filter,ok.rm,List.mem_map,List.mem_map]
  constructor
  ·rintro ⟨⟨x,hx,rfl⟩,k⟩;exact ⟨x,List.mem_filter.mpr ⟨hx,k⟩,rfl⟩
  ·rintro ⟨x,hx,rfl⟩;exact ⟨⟨x,(List.mem_filter.mp hx).1,rfl⟩,(List.mem_filter.mp hx).2⟩
 ·exact ok.rn.sublist List.filter_sublist
 ·exact Nat.le_trans (List.length_filter_le _ _) ok.rl
 ·rw [hfs]
  show L.row.filter _=_
  rw [sP ok.El,← ok.row]
theorem vT {α:Type} [DecidableEq α]:∀ {l:List α} {x:α},x∈l→∃ j:Nat,l[j]?=some x∧∀ m:Nat,m < j→l[m]?≠some x
 | y :: l,x,h=>by
  by_cases e:y=x
  ·exact ⟨0,by rw [e];rfl,fun m hm=>by omega⟩
  ·rcases List.mem_cons.mp h with h | h
   ·exact absurd h.symm e
   ·obtain ⟨j,h1,h2⟩:=vT h
    refine ⟨j + 1,h1,fun m hm=>?_⟩
    cases m with
    | zero=>intro z;exact e (Option.some.inj z)
    | succ m=>exact h2 m (by omega)
abbrev eX:Stmt:=(L2.inClass (top 42) 2)
theorem oz:L2.aw ["self","name"] ["self","name"] (L2.aj eX):=dk
def nk (cN cL eC:Addr):b9:=fun xs J Q E=>∃ p L n,xs=[.ref p,.str n]∧aW cN cL J p L∧bU L∧(n ∉ L.row→E eC J)∧(n∈L.row→∀ J' L',aW cN cL J' p L'→bU L'→L'.cs=L.cs.map (bp n L.t)→L'.t=L.t→Mv J J' (L.own p) (L'.own p)→Q .non J')
theorem og {cN cL eC f:Addr} {fd:FuncData} (F:bQ K "leave" "Lane.leave" eX f fd) (Z:bC mg) (KD_Lane:cR K mg "Lane" cN) (NA_Lane_logs:az K cN "logs") (NA_Lane_now:az K cN "now") (NA_Lane_row:az K cN "row") (m_Lane_must_be_there:cf P w K mg base cN 1 "must_be_there" ["self","name"] (l7 cN cL eC)) (m_Log_leave:cf P w K mg base cL 1 "leave" ["self","moment"] (tI cL)):aH P w K mg base (cF P w) 2 f fd ["self","name"] (c8 K (nk cN cL eC)):=by
 simp_arith [oz]
 ·obtain ⟨p,L,n,rfl,_⟩:=h;rfl
 obtain ⟨p,L,n,rfl,b,ok,qc,q⟩:=h
 have bo:=b.ob
 have bd:=b.dc
 refine ⟨_,(ai (aX (aY (pl:=_) m_Lane_must_be_there B hr (by decide) (rv 0) (af (rv 1) ah)))
   (ai (aX (aY (pl:=_) m_Log_leave B hr (by decide) (aq cG (aP KD_Lane.cl NA_Lane_logs (rv 0)) (rv 1) (fun _ _=>rfl)) (af (aP KD_Lane.cl NA_Lane_now (rv 0)) ah)))
   (ak (aX (jc PySem.F.plainAttrs_list PySem.F.slot_list_remove PySem.F.type_list_remove xV (aP KD_Lane.cl NA_Lane_row (rv 0)) (af (rv 1) ah)))))),?_⟩
 simp_all! only [bo]
 refine ⟨dF _ _ _ _,p,L,n,rfl,b,fun hn=>?_,qc⟩
 obtain ⟨c,hc,rfl,hg⟩:=ok.found hn
 have lo:=(b.lg c hc).o
 simp_all! only [bo,mK,sf,bd,ok.va hc,lo]
 refine ⟨Jh _ _,c.a,c.r,c.w,c.g,L.t,rfl,b.lg c hc,?_⟩
 simp_all! only [ar (Ne.symm (b.Ij hc)),bo,nY,ar (Ne.symm (b.Jo hc)),b.rw]
 obtain ⟨j,h1,h2⟩:=vT hn
 refine ⟨L.row,rfl,j,h1,h2,?_⟩
 rw [erase_filter ok.rn h1]
 have hn':=dD c.n L.t
 have ok1:=ok.leave c.n
 refine q hn _ { L with cs:=L.cs.map (bp c.n L.t),row:=L.row.filter fun x=>decide (x≠c.n) } ⟨?_,?_,au,fun x hx=>?_,?_,fun x hx=>?_⟩ ok1 rfl rfl ?_
 ·rw [ar (Ne.symm b.BY),ar (Ne.symm (b.Ij hc))];exact bo
 ·show put (put J c.a _) L.o _ L.d=_
  rw [ar b.Jp,ar (Ne.symm (b.Kp hc)),bd]
  show _=some (HQ.dct ((L.cs.map (bp c.n L.t)).map fun c=>(c.n,PV.ref c.a)) L.e)
  rw [dG (f:=fun c:Cf=>(c.n,PV.ref c.a)) (fun x=>by rw [(hn' x).1,(hn' x).2.1])]
 ·obtain ⟨x0,h0,rfl⟩:=List.mem_map.mp hx
  have hl:=b.lg x0 h0
  refine ⟨?_,?_⟩
  ·rw [(hn' x0).2.1,(hn' x0).2.2.1,ar (b.Jo h0)]
   by_cases e:x0.n=c.n
   ·have:x0=c:=ok.uniq h0 hc e
    subst this
    rw [au]
    unfold bp;rw [if_pos rfl];rfl
   ·have ha:x0.a≠c.a:=fun z=>by
     have hh:=hl.o
     have hh2:=(b.lg c hc).o
     rw [z,hh2] at hh
     have hrr:c.r=x0.r:=by
      have h3:=(HQ.ins.inj (Option.some.inj hh)).2
      have h4:=(List.cons.inj h3).1
      have h5:=(Prod.mk.inj h4).2
      exact PV.ref.inj h5
     obtain ⟨i,hi,rfl⟩:=List.getElem_of_mem h0
     obtain ⟨j',hj',rfl⟩:=List.getElem_of_mem hc
     have:=(List.getElem_inj (xs:=L.cs.map Cf.r) (i:=i) (j:=j') (h₀:=by simpa using hi) (h₁:=by simpa using hj') b.ap).mp (by rw [List.getElem_map,List.getElem_map];exact hrr.symm)
     subst this;exact e rfl
    rw [ar ha]
    unfold bp;rw [if_neg e];exact hl.o
  ·rw [(hn' x0).2.2.1,(hn' x0).2.2.2,ar (b.ao x0 h0),ar (fun z=>by have h3:=hl.l;rw [z,lo] at h3;cases h3)];exact hl.l
 ·show ((L.cs.map (bp c.n L.t)).map Cf.r).Nodup
  rw [dG (fun x=>(hn' x).2.2.1)];exact b.ap
 ·obtain ⟨x0,h0,rfl⟩:=List.mem_map.mp hx
  rw [(hn' x0).2.2.1];exact b.ao x0 h0
 ·have own':∀ a,Ln.own { L with cs:=L.cs.map (bp c.n L.t),row:=L.row.filter fun x=>decide (x≠c.n) } p a→L.own p a:=fun a h=>by
   rcases h with h | h | h | ⟨x,hx,h⟩
   ·exact .inl h
   ·exact .inr (.inl h)
   ·exact .inr (.inr (.inl h))
   ·obtain ⟨c0,h0,rfl⟩:=List.mem_map.mp hx
    rw [(hn' c0).2.1,(hn' c0).2.2.1] at h
    exact .inr (.inr (.inr ⟨c0,h0,h⟩))
  refine (fh (S':=L.own p) (.inr (.inr (.inr ⟨c,hc,.inl rfl⟩))) fun a h=>.inl h).trans (fh (.inr (.inr (.inl rfl))) fun a h=>.inl (own' a h))
abbrev iT:Stmt:=(top 53)
theorem dQ:L2.aw ["_law_cell_here","_law_many","_law_signs","_law_row","_law_some","_law_body","_law_at_here","_law_out","_law_k"] ["_law_cell_here","_law_many"] (L2.aj iT):=dk
def w8:Sp:=fun vs H Q _=>∃ c m:Int,vs=[.int c,.int m]∧0≤m∧m≤36∧∀ (r:Addr) (H':Hp) (xs:List Str),H r=none→ba H H'→H' r=some (.lst (xs.map V.str))→(xs.length:Int)=m→xs.Nodup→(∀ x∈xs,good x=true)→Q (.ref r) H'
def menu:List Str:=["m","ab","a","zebra9","b0","0","abc","9zz","q7q7q7q7","aa","z","a1b2c3d4"]
def cS:Str:="abcdefghijklmnopqrstuvwxyz0123456789"
theorem BP:menu.Nodup:=by decide +kernel
theorem yS:cS.cps.toList.Nodup:=by decide +kernel
theorem iy:cS.cps.toList.length=36:=by decide +kernel
theorem ug {α:Type} {xs:List α} {j:Int} (h0:0≤j) (h1:j < xs.length):c5 xs j=some (xs[j.toNat]'(by omega)):=by
 have h:=bc (xs:=xs) (j:=j.toNat) (List.getElem?_eq_getElem (by omega))
 rw [show ((j.toNat:Nat):Int)=j by omega] at h
 exact h
def pick (d:Int) (k:Nat):Str:=menu.getD ((d + 5 * (k:Int)) % 12).toNat ""
theorem Cj (d:Int) (k:Nat):c5 (menu.map V.str) ((d + 5 * (k:Int)) % 12)=some (.str (pick d k)):=by
 have h0:=Int.emod_nonneg (d + 5 * (k:Int)) (show (12:Int)≠0 by decide)
 have h1:=Int.emod_lt_of_pos (d + 5 * (k:Int)) (show (0:Int) < 12 by decide)
 have hl:(menu.map V.str).length=12:=by decide +kernel
 have hm:menu.length=12:=by decide +kernel
 rw [ug h0 (by rw [hl];exact h1),List.getElem_map]
 unfold pick
 rw [List.getD_eq_getElem?_getD,List.getElem?_eq_getElem (by omega)]
 rfl
theorem o6 {α:Type} {xs:List α} (h:xs.Nodup) {i j:Nat} (hi:i < xs.length) (hj:j < xs.length) (e:xs[i]=xs[j]):i=j:=(List.getElem_inj h).mp e
theorem Al (d:Int) {m:Nat} (hm:m≤12):((List.range m).map (pick d)).Nodup:=by
 have hl:menu.length=12:=by decide +kernel
 refine List.Pairwise.map (R:=fun i j=>i < 12∧j < 12∧i≠j) _ (fun i j ⟨a,b,c⟩ e=>?_) ?_
 ·unfold pick at e
  have h0:=Int.emod_nonneg (d + 5 * (i:Int)) (show (12:Int)≠0 by decide)
  have h1:=Int.emod_lt_of_pos (d + 5 * (i:Int)) (show (0:Int) < 12 by decide)
  have h2:=Int.emod_nonneg (d + 5 * (j:Int)) (show (12:Int)≠0 by decide)
  have h3:=Int.emod_lt_of_pos (d + 5 * (j:Int)) (show (0:Int) < 12 by decide)
  rw [List.getD_eq_getElem?_getD,List.getElem?_eq_getElem (by omega),List.getD_eq_getElem?_getD,List.getElem?_eq_getElem (by omega)] at e
  have:=o6 BP (by omega) (by omega) e
  omega
 ·refine List.Pairwise.imp_of_mem (R:=fun i j=>i≠j) (fun {i j} hi hj ne=>?_) (List.nodup_range)
  rw [List.mem_range] at hi hj
  exact ⟨by omega,by omega,ne⟩
theorem xU:∀ x∈menu,good x=true:=by decide +kernel
theorem mj:∀ c∈cS.cps.toList,dB bX c=true:=by decide +kernel
theorem yj (d:Int) (k:Nat):good (pick d k)=true:=by
 have h0:=Int.emod_nonneg (d + 5 * (k:Int)) (show (12:Int)≠0 by decide)
 have h1:=Int.emod_lt_of_pos (d + 5 * (k:Int)) (show (0:Int) < 12 by decide)
 have hm:menu.length=12:=by decide +kernel
 unfold pick
 rw [List.getD_eq_getElem?_getD,List.getElem?_eq_getElem (by omega)]
 exact xU _ (List.getElem_mem _)
theorem BE {cs:List Nat} (h0:0 < cs.length) (h1:cs.length≤8) (h:∀ c∈cs,dB bX c=true):good ⟨cs.toArray⟩=true:=by
 unfold good
 rw [Bool.and_eq_true,Bool.and_eq_true]
 refine ⟨⟨decide_eq_true ?_,decide_eq_true ?_⟩,List.all_eq_true.mpr fun c hc=>h c (by simpa using hc)⟩
 ·show 1≤cs.toArray.size;rw [List.size_toArray];omega
 ·show cs.toArray.size≤8;rw [List.size_toArray];omega
def sign (d:Int) (k:Nat):Nat:=cS.cps.toList.getD ((d + 5 * (k:Int)) % 36).toNat 0
theorem CY (d:Int) (k:Nat):c5 cS.cps.toList ((d + 5 * (k:Int)) % 36)=some (sign d k):=by
 have h0:=Int.emod_nonneg (d + 5 * (k:Int)) (show (36:Int)≠0 by decide)
 have h1:=Int.emod_lt_of_pos (d + 5 * (k:Int)) (show (0:Int) < 36 by decide)
 have hl:=iy
 rw [ug h0 (by rw [hl];exact h1)]
 unfold sign
 rw [List.getD_eq_getElem?_getD,List.getElem?_eq_getElem (by omega)]
 rfl
theorem yu (d:Int) (k:Nat):dB bX (sign d k)=true:=by
 have h0:=Int.emod_nonneg (d + 5 * (k:Int)) (show (36:Int)≠0 by decide)
 have h1:=Int.emod_lt_of_pos (d + 5 * (k:Int)) (show (0:Int) < 36 by decide)
 have hl:=iy
 unfold sign
 rw [List.getD_eq_getElem?_getD,List.getElem?_eq_getElem (by omega)]
 exact mj _ (List.getElem_mem _)
theorem AM (d:Int) {i j:Nat} (hi:i < 36) (hj:j < 36) (e:sign d i=sign d j):i=j:=by
 have h0:=Int.emod_nonneg (d + 5 * (i:Int)) (show (36:Int)≠0 by decide)
 have h1:=Int.emod_lt_of_pos (d + 5 * (i:Int)) (show (0:Int) < 36 by decide)
 have h2:=Int.emod_nonneg (d + 5 * (j:Int)) (show (36:Int)≠0 by decide)
 have h3:=Int.emod_lt_of_pos (d + 5 * (j:Int)) (show (0:Int) < 36 by decide)
 have hl:=iy
 unfold sign at e
 rw [List.getD_eq_getElem?_getD,List.getElem?_eq_getElem (by omega),List.getD_eq_getElem?_getD,List.getElem?_eq_getElem (by omega)] at e
 have:=o6 yS (by omega) (by omega) e
 omega
theorem Ba {d:Int} {n:Nat} {xs:List Str} (hl:xs.length≤36) (h:∀ k x,xs[k]?=some x→x.cps.toList[n]?=some (sign d k)):xs.Nodup:=by
 refine List.pairwise_iff_getElem.mpr fun i j hi hj hij e=>?_
 have a:=h i _ (List.getElem?_eq_getElem hi)
 have b:=h j _ (List.getElem?_eq_getElem hj)
 rw [e] at a
 rw [a] at b
 have:=AM d (by omega) (by omega) (Option.some.inj b)
 omega
theorem y0 {xs:List V} {k:Int} (h:0≤k):mq xs none (some k)=xs.take k.toNat:=by
 obtain ⟨j,rfl⟩:∃ j:Nat,k=(j:Int):=⟨k.toNat,by omega⟩
 unfold mq
 rw [HT.tw,HT.CJ,List.drop_zero,Int.toNat_natCast]
 rcases Nat.le_total j xs.length with e | e
 ·rw [Nat.min_eq_left e]
  rfl
 ·rw [Nat.min_eq_right e,Nat.sub_zero,List.take_of_length_le (Nat.le_refl _),List.take_of_length_le e]
theorem zZ (cs:List Nat):((cs.map one).map (·.length)).sum=cs.length:=by
 induction cs with
 | nil=>rfl
 | cons c cs ih =>
  rw [List.map_cons,List.map_cons,List.sum_cons,ih,List.length_cons]
  show 1 + cs.length=cs.length + 1
  omega
theorem BJ {p q a b:Prop} [Decidable p] [Decidable q]:(if p then if q then a else b else b)=if p∧q then a else b:=by by_cases hp:p <;> by_cases hq:q <;> simp [hp,hq]
theorem zS {f:Addr} {fd:FuncData} (F:bQ K "_law_names" "_law_names" iT f fd) (Z:yF mg) (C_digits:nJ P w K mg base 1 "_law_digits" ["_law_cell_here","_law_sizes"] (nj K)):aH P w K mg base ma 2 f fd ["_law_cell_here","_law_many"] w8:=by
 refine F.ok dQ (fun vs H Q E h=>?_) (fun cdv A outer s H vs Q E hr h=>?_)
 ·obtain ⟨c,m,rfl,_⟩:=h
  rfl
 obtain ⟨c,m,rfl,m0,m1,q⟩:=h
 refine ⟨_,(QB.run (aQ (cq (i:=2) dQ.nd rfl (Or.inr rfl) kL)
   (aQ (cq (i:=3) dQ.nd rfl (Or.inr rfl) (sU C_digits hr (by decide) rfl (aO (pv 0) (aO (h_ (Ad [.int 3,.int 36,.int 8,.int 36,.int 36,.int 36,.int 36,.int 36,.int 36,.int 36,.int 36,.int 840] rfl)) bt))))
   (aQ (jY (DG (qv (cW z_ (bO ff (pv 3) aI (fun _ _=>rfl)) aI (ax _)) (lU (cW DA (pv 1) aI (ax _))))) (aQ (cq (i:=4) dQ.nd rfl (Or.inr rfl) (h_ (Ad [.str "m",.str "ab",.str "a",.str "zebra9",.str "b0",.str "0",.str "abc",.str "9zz",.str "q7q7q7q7",.str "aa",.str "z",.str "a1b2c3d4"] rfl)))
   (bx (c7 (Cb (aj iT) ["_law_cell_here","_law_many","_law_signs","_law_row","_law_some","_law_body","_law_at_here","_law_out","_law_k"] [("_law_row",3),("_law_some",4)] rfl rfl rfl (fb rfl Z.range (aO (pv 1) bt)) (fun _ _ _ _ _ _=>(bO ff (pv 2) (a8 fj (a8 gy (bO ff (pv 1) aI (fun _ _=>rfl)) (a8 b_ aI (pv 0))) aI) (fun _ _=>rfl))))))) eK)
   (aQ (Cn (i:=5) (aj iT) ["_law_cell_here","_law_many","_law_signs","_law_row","_law_some","_law_body","_law_at_here","_law_out","_law_k"] [("_law_signs",2)] rfl rfl rfl dQ.nd rfl (Or.inl rfl) (jX (ia qQ (pv 3) (iI aI) (iI aI))) (fun _ _ _ _ _ _=>(bO zB (pv 1) (pv 0) (fun _ _=>rfl))))
   (sW (jY (cW z_ (bO ff (pv 3) aI (fun _ _=>rfl)) aI (ax _)) (bx (cq (i:=5) dQ.nd rfl (Or.inl rfl) (ia qQ (pv 5) lT (iI (a8 gy (bO ff (pv 3) aI (fun _ _=>rfl)) aI))))) eK)
   (aQ (cq (i:=6) dQ.nd rfl (Or.inl rfl) (a8 fj (bO ff (pv 3) aI (fun _ _=>rfl)) (de gr rfl Z.len boot_len (aO (pv 5) bt))))
   (aQ (cq (i:=7) dQ.nd rfl (Or.inl rfl) (h_ bt))
   (aQ (kM PassesOwn.never rfl (fb rfl Z.range (aO (pv 1) bt)) (iH (i:=8) dQ.nd rfl (Or.inl rfl)) (aQ (ql (bO zB (pv 2) (a8 fj (a8 gy (bO ff (pv 3) aI (fun _ _=>rfl)) (a8 b_ aI (pv 8))) aI) (fun _ _=>rfl)) (qi (pv 5) (pv 6) set_list))
   (bx (iJ (mT PySem.F.plainAttrs_list PySem.F.slot_list_append PySem.F.type_list_append e_ (pv 7) (aO (mT PySem.F.plainAttrs_str PySem.F.slot_str_join PySem.F.type_str_join BU kL (aO (pv 5) bt)) bt))))))
   (bx (c7 (pv 7)))))))))))),?_⟩
 refine ⟨_,rfl,(by show 12≤sizeLine;decide),fun p hp=>?_⟩
 have ss:=ka (ss:=[3,36,8,36,36,36,36,36,36,36,36,840]) (by decide)
 refine ⟨c,p,[3,36,8,36,36,36,36,36,36,36,36,840],rfl,cD.of aB,ss,by decide,fun r H1 ds _ g1 hr1 hD=>?_⟩
 obtain ⟨d0,ds,rfl,d00,d01,hD⟩:=hD.cons
 obtain ⟨d1,ds,rfl,d10,d11,hD⟩:=hD.cons
 obtain ⟨d2,ds,rfl,d20,d21,hD⟩:=hD.cons
 obtain ⟨e0,ds,rfl,e00,e01,hD⟩:=hD.cons
 obtain ⟨e1,ds,rfl,e10,e11,hD⟩:=hD.cons
 obtain ⟨e2,ds,rfl,e20,e21,hD⟩:=hD.cons
 obtain ⟨e3,ds,rfl,e30,e31,hD⟩:=hD.cons
 obtain ⟨e4,ds,rfl,e40,e41,hD⟩:=hD.cons
 obtain ⟨e5,ds,rfl,e50,e51,hD⟩:=hD.cons
 obtain ⟨e6,ds,rfl,e60,e61,hD⟩:=hD.cons
 obtain ⟨e7,ds,rfl,e70,e71,hD⟩:=hD.cons
 obtain ⟨d11,ds,rfl,d110,d111,hD⟩:=hD.cons
 cases hD.nil
 have g1:=(ba.new hp _).trans g1
 dsimp! only [rJoin,hr1]
 rw [BJ]
 split
 ·refine ⟨(by show 12≤sizeLine;decide),fun p2 hp2=>?_⟩
  have g2:=ba.new hp2 (.lst (menu.map V.str))
  have h2:(upd H1 p2 (.lst (menu.map V.str))) p2=some (.lst (menu.map V.str)):=aB
  have hr2:=g2 _ _ hr1
  refine ⟨_,rfl,m,rfl,by omega,by omega,fun D hD=>?_⟩
  refine zG (lo:=0) (n:=m.toNat) (fun i H'=>ba (upd H1 p2 (.lst (menu.map V.str))) H'∧H' D=some (.lst (((List.range i).map (pick d1)).map V.str))) ⟨ba.new hD _,aB⟩ ?_ ?_
  ·rintro i H' R hi ⟨g,hd⟩ k
   have hr3:=g _ _ hr2
   have h3:=g _ _ h2
   dsimp! only [rJoin,hr3,h3,Int.zero_add]
   refine ⟨.of (Bd.small (by decide) (by decide)) (Bd.small (x:=(i:Int)) (by omega) (by omega)),_,Cj d1 i,?_⟩
   refine k _ _ _ hd (by rw [List.length_map,List.length_map,List.length_range];exact aV (by omega)) ⟨g.FU hD _,?_⟩
   rw [aB]
   simp [List.range_succ]
  ·rintro H' ⟨g,hd⟩
   exact q D H' _ (g1.free (g2.free hD)) (g1.trans (g2.trans g)) hd (by rw [List.length_map,List.length_range];omega) (Al d1 (by omega)) (fun x hx=>by obtain ⟨k,_,rfl⟩:=List.mem_map.mp hx;exact yj d1 k)
 refine ⟨_,rfl,3,rfl,11,rfl,r,_,rfl,cD.of hr1,fun p2 hp2=>⟨p2,rfl,⟨_,cD.of aB⟩,fun D hD=>?_⟩⟩
 have g2:=ba.new hp2 (.lst [.int e0,.int e1,.int e2,.int e3,.int e4,.int e5,.int e6,.int e7])
 have hr2:=g2 _ _ hr1
 have h2:(upd H1 p2 (.lst [.int e0,.int e1,.int e2,.int e3,.int e4,.int e5,.int e6,.int e7])) p2=some (.lst ([e0,e1,e2,e3,e4,e5,e6,e7].map V.int)):=aB
 have be:∀ e∈[e0,e1,e2,e3,e4,e5,e6,e7],0≤e∧e < 36:=fun e he=>by
  simp only [List.mem_cons,List.not_mem_nil,or_false] at he
  rcases he with rfl | rfl | rfl | rfl | rfl | rfl | rfl | rfl <;> constructor <;> assumption
 have al:=iy
 have al2:cS.length≤sizeLine:=by decide +kernel
 refine BL (K:=K) (a:=p2) (xs:=[e0,e1,e2,e3,e4,e5,e6,e7].map V.int) (fun i H'=>ba (upd H1 p2 (.lst [.int e0,.int e1,.int e2,.int e3,.int e4,.int e5,.int e6,.int e7])) H'∧∃ cs:List Nat,cs.length=i∧(∀ c∈cs,dB bX c=true)∧H' D=some (.lst ((cs.map one).map V.str)))
  ⟨ba.new hD _,[],rfl,(fun c hc=>by cases hc),aB⟩ (fun i H' _ ⟨g,_⟩=>cD.of (g _ _ h2)) ?_ ?_
 ·rintro i y H' R hi ⟨g,cs,hcs,hca,hd⟩ k
  have hil:=(List.getElem?_eq_some_iff.mp hi).1
  obtain ⟨z,rfl,hz⟩:=mC hi
  obtain ⟨z0,z1⟩:=be z (List.mem_of_getElem? hz)
  have at1:=ug (xs:=cS.cps.toList) z0 (by rw [al];exact z1)
  dsimp! only [rJoin]
  refine ⟨al2,_,at1,?_⟩
  refine k _ _ _ hd (by rw [List.length_map,List.length_map,hcs];simp only [List.length_map,List.length_cons,List.length_nil] at hil;exact aV (by omega)) ⟨g.FU hD _,cs ++ [cS.cps.toList[z.toNat]'(by rw [al];omega)],by rw [List.length_append,hcs];rfl,?_,?_⟩
  ·intro c hc
   rcases List.mem_append.mp hc with hc | hc
   ·exact hca c hc
   ·rw [List.mem_singleton] at hc;subst hc;exact mj _ (List.getElem_mem _)
  rw [aB,List.map_append,List.map_append]
  rfl
 rintro H2 ⟨g,cs,hcs,hca,hd⟩
 have hr3:=g _ _ hr2
 have g:=g1.trans (g2.trans g)
 have hcs:cs.length=8:=hcs
 obtain ⟨M,hM⟩:∃ M:L2.St→Hp→Prop,∀ σ' H',M σ' H'↔∃ (D:Addr) (cs:List Nat),σ'=[some (.int c),some (.int m),some (.str cS),some (.ref r),none,some (.ref D),none,none,none]∧ba H H'∧H D=none∧H' r=some (.lst ([d0,d1,d2,e0,e1,e2,e3,e4,e5,e6,e7,d11].map V.int))∧D≠r∧0 < cs.length∧cs.length≤8∧(∀ c∈cs,dB bX c=true)∧H' D=some (.lst ((cs.map one).map V.str)):=⟨_,fun _ _=>Iff.rfl⟩
 have fD:H D=none:=g1.free (g2.free hD)
 have nDr:D≠r:=(bN hr2 hD).symm
 refine ⟨M,?_,?_⟩
 ·dsimp! only [rJoin,hr3]
  split
  ·refine ⟨_,cD.of hd,fun p4 hp4=>(hM _ _).mpr ⟨p4,cs.take (d2 + 1).toNat,rfl,g.trans (ba.new hp4 _),g.free hp4,?_,?_,?_,?_,(fun c hc=>hca c (List.mem_of_mem_take hc)),?_⟩⟩
   ·exact (ba.new hp4 _) _ _ hr3
   ·exact (bN hr3 hp4).symm
   ·rw [List.length_take];omega
   ·rw [List.length_take];omega
   ·rw [aB,y0 (by omega),List.map_take,List.map_take]
  ·exact (hM _ _).mpr ⟨D,cs,rfl,g,fD,hr3,nDr,by omega,by omega,hca,hd⟩
 clear hca hd hr3 g fD nDr hcs
 intro σ5 H5 hm
 obtain ⟨D,cs,rfl,g,fD,hr3,nDr,l0,l1,hca,hd⟩:=(hM _ _).mp hm
 clear hm hM M
 have e0s:(Str.ofString "").length=0:=by decide +kernel
 have hl:((cs.map one).map V.str).length=cs.length:=by rw [List.length_map,List.length_map]
 have hlp:(0:Int) < (((cs.map one).map V.str).length:Nat):=by rw [hl];omega
 have a0:=Int.emod_nonneg d11 (show (((cs.map one).map V.str).length:Int)≠0 by omega)
 have a1:=Int.emod_lt_of_pos d11 hlp
 have at11:c5 ([d0,d1,d2,e0,e1,e2,e3,e4,e5,e6,e7,d11].map V.int) 11=some (.int d11):=bc (j:=11) rfl
 refine ⟨_,rfl,r,_,11,_,rfl,rfl,hr3,at11,_,rfl,D,rfl,_,.inl (cD.of hd),_,_,rfl,rfl,hlp,?_⟩
 generalize hat:d11 % (((cs.map one).map V.str).length:Int)=at' at a0 a1
 rw [hl] at a1
 refine ⟨Nat.zero_le _,fun O hO=>?_⟩
 have gO:=ba.new hO (.lst [])
 have nOD:O≠D:=(bN hd hO).symm
 have nOr:O≠r:=(bN hr3 hO).symm
 have fO:H O=none:=g.free hO
 refine ⟨_,rfl,m,rfl,by omega,by omega,oV (lo:=0) (n:=m.toNat) (fun i σ H'=>∃ (v:Option V) (cs':List Nat) (xs:List Str),σ=[some (.int c),some (.int m),some (.str cS),some (.ref r),none,some (.ref D),some (.int at'),some (.ref O),v] ∧
  ba H H'∧H' r=some (.lst ([d0,d1,d2,e0,e1,e2,e3,e4,e5,e6,e7,d11].map V.int))∧cs'.length=cs.length∧(∀ c∈cs',dB bX c=true)∧H' D=some (.lst ((cs'.map one).map V.str))∧H' O=some (.lst (xs.map V.str))∧xs.length=i∧(∀ x∈xs,good x=true)∧∀ k x,xs[k]?=some x→x.cps.toList[at'.toNat]?=some (sign d1 k)) ?_ ?_ ?_⟩
 ·exact ⟨none,cs,[],by rw [← hat];rfl,g.trans gO,gO _ _ hr3,rfl,hca,gO _ _ hd,aB,rfl,(fun x hx=>by cases hx),fun k x e=>by cases e⟩
 ·rintro i σ H' hi ⟨v,cs',xs,rfl,g',hr',hl',hca',hd',ho',hx,hxl,hs⟩
  have at1:c5 ([d0,d1,d2,e0,e1,e2,e3,e4,e5,e6,e7,d11].map V.int) 1=some (.int d1):=bc (j:=1) rfl
  have al2:cS.length≤sizeLine:=by decide +kernel
  have sg:=CY d1 i
  refine ⟨_,rfl,_,rfl,r,_,1,_,rfl,rfl,hr',at1,_,rfl,_,_,rfl,rfl,.of (Bd.small (by decide) (by decide)) (Bd.small (x:=0 + (i:Int)) (by omega) (by omega)),_,_,rfl,rfl,_,_,rfl,rfl,(show (0:Int) < 36 by decide),_,_,_,rfl,rfl,al2,(by rw [Int.zero_add];exact sg),?_⟩
  have ix:yI ((cs'.map one).map V.str).length at'=some at'.toNat:=by
   unfold yI
   rw [if_pos a0,if_pos (by rw [List.length_map,List.length_map,hl'];exact a1)]
  refine ⟨_,rfl,_,rfl,D,_,at',_,rfl,rfl,hd',ix,?_⟩
  have es:((cs'.map one).map V.str).set at'.toNat (.str ⟨#[sign d1 i]⟩)=((cs'.set at'.toNat (sign d1 i)).map one).map V.str:=by
   rw [List.map_set,List.map_set]
   rfl
  have gD:=ba.FU fD g' (.lst (((cs'.map one).map V.str).set at'.toNat (.str ⟨#[sign d1 i]⟩)))
  have hD2:(upd H' D (.lst (((cs'.map one).map V.str).set at'.toNat (.str ⟨#[sign d1 i]⟩)))) D=some (.lst (((cs'.set at'.toNat (sign d1 i)).map one).map V.str)):=by rw [aB,es]
  have hr2:(upd H' D (.lst (((cs'.map one).map V.str).set at'.toNat (.str ⟨#[sign d1 i]⟩)))) r=_:=(aK nDr.symm).trans hr'
  have ho2:(upd H' D (.lst (((cs'.map one).map V.str).set at'.toNat (.str ⟨#[sign d1 i]⟩)))) O=_:=(aK nOD).trans ho'
  have lc:(cs'.set at'.toNat (sign d1 i)).length=cs.length:=by rw [List.length_set,hl']
  have hcn:∀ c∈cs'.set at'.toNat (sign d1 i),dB bX c=true:=fun c hc=>by
   rcases List.mem_or_eq_of_mem_set hc with h | h
   ·exact hca' c h
   ·rw [h];exact yu d1 i
  refine ⟨_,rfl,.inl ⟨rfl,_,cD.of ho2⟩,rfl,_,rfl,_,D,(cs'.set at'.toNat (sign d1 i)).map one,rfl,rfl,cD.of hD2,?_,O,_,_,rfl,rfl,ho2,?_,?_⟩
  ·rw [zZ,List.length_map,lc,e0s]
   omega
  ·rw [List.length_map,hx]
   exact aV (by omega)
  ·rw [join_ones]
   refine ⟨_,cs'.set at'.toNat (sign d1 i),xs ++ [⟨(cs'.set at'.toNat (sign d1 i)).toArray⟩],rfl,gD.FU fO _,(aK nOr.symm).trans hr2,lc,hcn,(aK nOD.symm).trans hD2,?_,by rw [List.length_append,hx];rfl,?_,?_⟩
   ·rw [aB,List.map_append]
    rfl
   ·intro x hx2
    rcases List.mem_append.mp hx2 with h | h
    ·exact hxl x h
    ·simp only [List.mem_cons,List.not_mem_nil,or_false] at h
     subst h
     exact BE (by rw [lc];exact l0) (by rw [lc];exact l1) hcn
   ·intro k x e
    rcases Nat.lt_or_ge k xs.length with hk | hk
    ·rw [List.getElem?_append_left hk] at e
     exact hs k x e
    ·rw [List.getElem?_append_right hk] at e
     have ek:k=i:=by
      cases hz:k - xs.length with
      | zero=>omega
      | succ z=>rw [hz] at e;cases e
     rw [show k - xs.length=0 by omega] at e
     have ex:=Option.some.inj e
     subst ex
     rw [ek]
     show (cs'.set at'.toNat (sign d1 i))[at'.toNat]?=some (sign d1 i)
     rw [List.getElem?_set_self (by omega)]
 ·rintro σ H' ⟨v,cs',xs,rfl,g',hr',hl',hca',hd',ho',hx,hxl,hs⟩
  exact ⟨_,rfl,q O H' xs fO g' ho' (by omega) (Ba (by omega) hs) hxl⟩
def tT:b9:=fun xs J Q _=>∃ c m:Int,xs=[.int c,.int m]∧0≤m∧m≤36∧∀ ns:List Str,(ns.length:Int)=m→ns.Nodup→(∀ x∈ns,good x=true)→Q (.fl (ns.map .str)) J
theorem pe {K:PySem.W.Frag} {J:Hq} {H:Hp}:∀ ns:List Str,aJ K J H (ns.map PV.str) (ns.map V.str)
 | []=>rfl
 | n :: ns=>⟨_,_,rfl,rfl,pe ns⟩
theorem uD (C:nJ P w K mg base 2 "_law_names" ["_law_cell_here","_law_many"] w8):aZ P w K mg base 2 "_law_names" ["_law_cell_here","_law_many"] tT:=C.lift fun xs J vs H Q2 E2 Q E rs r ⟨c,m,ex,h0,h1,q⟩ kn=>by
 subst ex
 obtain ⟨v,u,rfl,r1,r2⟩:=gM rs
 cases r1;cases r2
 exact ⟨c,m,rfl,h0,h1,fun p H' ns hp s e hl nd lx=>kn (.fl (ns.map .str)) J (.ref p) H' ⟨p,_,rfl,.inl ⟨r.free hp,.inl e⟩,pe ns⟩ (r.same s) (.same s) (q ns hl nd lx)⟩
abbrev l4:Stmt:=(top 46)
theorem AK:L2.aw ["_law_found"] ["_law_found"] (L2.aj l4):=dk
def nB:b9:=fun xs J Q _=>∃ i:Int,xs=[.int i]∧Q (.bl true) J
theorem yb {f:Addr} {fd:FuncData} (F:bQ K "_law_whole" "_law_whole" l4 f fd) (Z:bC mg):aH P w K mg base (cF P w) 1 f fd ["_law_found"] (c8 K nB):=by
 simp_arith [AK]
 ·obtain ⟨i,rfl,_⟩:=h;rfl
 obtain ⟨i,rfl,q⟩:=h
 refine ⟨_,(ak (ay (vf (aG gw rfl Z.isinstance boot_isinstance (af (rv 0) (af (jZ rfl Z.int boot_int) ah))) (qA (Fi (aG gw rfl Z.isinstance boot_isinstance (af (rv 0) (af (jZ rfl Z.bool boot_bool) ah)))))))),?_⟩
 simp_arith! only [b7]
 exact q
abbrev qG:Stmt:=(top 48)
theorem CP:L2.aw ["_law_found","_law_due"] ["_law_found","_law_due"] (L2.aj qG):=dk
def kg:b9:=fun xs J Q _=>∃ a:Rat,xs=[fr a,fr a]∧Q (.bl true) J
theorem zX {f:Addr} {fd:FuncData} (F:bQ K "_law_part" "_law_part" qG f fd) (Z:bC mg) (C_whole:aZ P w K mg base 1 "_law_whole" ["_law_found"] nB):aH P w K mg base (cF P w) 2 f fd ["_law_found","_law_due"] (c8 K kg):=by
 simp_arith [CP]
 ·obtain ⟨a,rfl,_⟩:=h;rfl
 obtain ⟨a,rfl,q⟩:=h
 refine ⟨_,(ai (aR (dh (je (cj (bz (aG gw rfl Z.isinstance boot_isinstance (af (rv 0) (af (jZ rfl Z.tuple boot_tuple) ah))))) (fU (aD (jb hr.aT) (aG bF rfl Z.len boot_len (af (rv 0) ah)) ag (L2.ax _))))) (ak (ay dR)) aE)
   (ai (aR (dh (je (cj (bz (aM C_whole B hr (by decide) rfl (af (aq av (rv 0) ag (fun _ _=>rfl)) ah)))) (fU (cj (bz (aM C_whole B hr (by decide) rfl (af (aq av (rv 0) ag (fun _ _=>rfl)) ah))))))) (ak (ay dR)) aE)
   (ak (ay (dZ (cy hr.aT) (rv 0) (rv 1) (L2.ax _)))))),?_⟩
 simp_arith! only [b7,nB]
 exact q
abbrev j5:Stmt:=(top 54)
theorem yq:L2.aw ["_law_number","_law_mode"] ["_law_number","_law_mode"] (L2.aj j5):=dk
def pq:b9:=fun xs J Q _=>∃ n m:Int,xs=[.int n,.int m]∧0≤n∧∀ v:Int,v.natAbs≤1000000→Q (.int v) J
theorem uO {f:Addr} {fd:FuncData} (F:bQ K "_law_placed" "_law_placed" j5 f fd) (Z:bC mg):aH P w K mg base (cF P w) 1 f fd ["_law_number","_law_mode"] (c8 K pq):=by
 simp_arith [yq]
 ·obtain ⟨n,m,rfl,_⟩:=h;rfl
 obtain ⟨n,m,rfl,n0,q⟩:=h
 refine ⟨_,(ai (aR (aD fB (rv 1) ag (L2.ax _)) (ak (ay (aL dJ (aL dI (rv 0) ag) ag))) aE)
   (ai (aR (aD (cy hr.aT) (rv 1) ag (L2.ax _)) (ak (ay (aL dJ (aL dI (rv 0) ag) ag))) aE)
   (ak (ay (aL dJ (aL dI (rv 0) ag) ag))))),?_⟩
 simp_all! only []
 split
 ·simp_all! only [];exact ⟨by decide,q _ (by omega)⟩
 simp_all! only []
 split
 ·simp_all! only [];exact ⟨by decide,q _ (by omega)⟩
 ·simp_all! only [];exact ⟨by decide,q _ (by omega)⟩
abbrev lZ:Stmt:=(top 55)
theorem AI:L2.aw ["_law_number","_law_mode"] ["_law_number","_law_mode"] (L2.aj lZ):=dk
def tU:b9:=fun xs J Q _=>∃ n m:Int,xs=[.int n,.int m]∧0≤n∧n < 2001∧∀ v:Int,v.natAbs≤1000→Q (.int v) J
theorem ya {f:Addr} {fd:FuncData} (F:bQ K "_law_paced" "_law_paced" lZ f fd) (Z:bC mg):aH P w K mg base (cF P w) 1 f fd ["_law_number","_law_mode"] (c8 K tU):=by
 simp_arith [AI]
 ·obtain ⟨n,m,rfl,_⟩:=h;rfl
 obtain ⟨n,m,rfl,n0,n1,q⟩:=h
 refine ⟨_,(ai (aR (aD fB (rv 1) ag (L2.ax _)) (ak (ay (aL dJ (aL dI (rv 0) ag) ag))) aE)
   (ai (aR (aD (cy hr.aT) (rv 1) ag (L2.ax _)) (ak (ay (aL dJ (aL dI (rv 0) ag) ag))) aE)
   (ak (ay (aL dJ (aL dI (rv 0) ag) ag))))),?_⟩
 simp_all! only []
 split
 ·simp_all! only [];exact ⟨by decide,q _ (by omega)⟩
 simp_all! only []
 split
 ·simp_all! only [];exact ⟨by decide,q _ (by omega)⟩
 ·simp_all! only [];exact ⟨by decide,q _ (by omega)⟩
abbrev CK:Stmt:=(top 58)
theorem tG:L2.aw ["_law_leg","_law_moment","_law_begun","_law_place","_law_way","_law_under"] ["_law_leg","_law_moment"] (L2.aj CK):=dk
theorem ER {f:Addr} {fd:FuncData} (F:bQ K "_law_at" "_law_at" CK f fd) (Z:bC mg) (C_low:aZ P w K mg base 1 "_law_low" ["_law_top","_law_bottom"] jz):aH P w K mg base (cF P w) 2 f fd ["_law_leg","_law_moment"] (c8 K jh):=by
 simp_arith [tG]
 ·obtain ⟨l,t,rfl,_⟩:=h;rfl
 obtain ⟨l,m,rfl,sb,sp,sm,bv,q⟩:=h
 refine ⟨_,(ai (aF (i:=2) tG.nd rfl (Or.inl rfl) (aq av (rv 0) ag (fun _ _=>rfl)))
   (ai (aF (i:=3) tG.nd rfl (Or.inl rfl) (aq av (rv 0) ag (fun _ _=>rfl)))
   (ai (aF (i:=4) tG.nd rfl (Or.inl rfl) (aL bS (aq av (rv 0) ag (fun _ _=>rfl)) (aL dJ (aL bS (aq av (rv 1) ag (fun _ _=>rfl)) (aq av (rv 2) ag (fun _ _=>rfl))) (aL bS (aq av (rv 2) ag (fun _ _=>rfl)) (aq av (rv 1) ag (fun _ _=>rfl))))))
   (ai (aF (i:=5) tG.nd rfl (Or.inl rfl) (aL bS (aq av (rv 1) ag (fun _ _=>rfl)) (aq av (rv 2) ag (fun _ _=>rfl))))
   (ak (ay (aM C_low B hr (by decide) rfl (af (aL cH (aL bS (aq av (rv 3) ag (fun _ _=>rfl)) (rv 5)) (aL bS (rv 4) (aq av (rv 3) ag (fun _ _=>rfl)))) (af (aL bS (aq av (rv 3) ag (fun _ _=>rfl)) (rv 5)) ah))))))))),?_⟩
 simp_arith! only [b7,wd,Gx,jO,jz]
 have bn:Bd 1801 (m.num * l.m.den - l.m.num * m.den):=.sub (.mul sm.num sb.den (Nat.le_refl _)) (.mul sb.num sm.den (Nat.le_refl _))
 have bu:Bd 1800 ((m.den:Int) * l.m.den):=.mul sm.den sb.den
 have bw:Bd 1900 (l.v * (m.num * l.m.den - l.m.num * m.den)):=.mul bv bn
 refine ⟨.of sm.num sb.den,.of sb.num sm.den,.of bv bn,.of sm.den sb.den,.of sp.num bu,.of bw sp.den,.of sp.den bu,Int.mul_pos (dU _) (Int.mul_pos (dU _) (dU _)),.mul sp.den bu,?_⟩
 rw [Ga]
 exact q
abbrev lX:Stmt:=(top 56)
theorem j_:L2.aw ["_law_clock","_law_number","_law_bottom","_law_mode","_law_under","_law_steps"] ["_law_clock","_law_number","_law_bottom","_law_mode"] (L2.aj lX):=dk
def qZ:b9:=fun xs J Q _=>∃ (c:Rat) (n b m:Int),xs=[fr c,.int n,.int b,.int m]∧0≤n∧0≤b∧0≤m∧m < 4∧n < 2 ^ 60∧Sz 900 c∧∀ q,Later c q→Q (fr q) J
theorem x9 {f:Addr} {fd:FuncData} (F:bQ K "_law_later" "_law_later" lX f fd) (Z:bC mg) (C_low:aZ P w K mg base 1 "_law_low" ["_law_top","_law_bottom"] jz):aH P w K mg base (cF P w) 2 f fd ["_law_clock","_law_number","_law_bottom","_law_mode"] (c8 K qZ):=by
 simp_arith [j_]
 ·obtain ⟨c,n,b,m,rfl,_⟩:=h;rfl
 obtain ⟨c,n,b,m,rfl,n0,b0,m0,m1,n2,sc,q⟩:=h
 refine ⟨_,(ai (aR (aD (cy hr.aT) (aL dI (rv 1) ag) ag (L2.ax _)) (ak (ay (rv 0))) aE)
   (ai (aF (i:=4) j_.nd rfl (Or.inl rfl) (aL cH ag (aL dI (rv 2) (aq av (tj (ve [.int 4,.int 6,.int 60,.int 60] rfl [.int 4,.int 6,.int 60,.int 60] rfl)) (rv 3) (fun _ _=>rfl)))))
   (ai (aF (i:=5) j_.nd rfl (Or.inl rfl) (aL cH ag (aL dI (aL lP (rv 1) ag) (aL bS ag (rv 4)))))
   (dn (aR (aD (cy hr.aT) (rv 3) ag (L2.ax _)) (ak (aF (i:=5) j_.nd rfl (Or.inl rfl) (aL cH ag (aL dI (aL lP (rv 1) ag) (aL bS ag (rv 4)))))) aE)
   (ak (ay (aM C_low B hr (by decide) rfl (af (aL cH (aL lP (aL bS (aq av (rv 0) ag (fun _ _=>rfl)) (rv 4)) (aq av (rv 0) ag (fun _ _=>rfl))) (rv 5)) (af (rv 4) ah))))))))),?_⟩
 simp_arith! only [b7]
 refine ⟨by decide,?_⟩
 split
 ·exact q c (.inl rfl)
 obtain ⟨x,hx,x0,x1⟩:∃ x:Int,c5 [PV.int 4,PV.int 6,PV.int 60,PV.int 60] m=some (.int x)∧1≤x∧x≤60:=by
  rcases (by omega:m=0∨m=1∨m=2∨m=3) with e | e | e | e <;> subst e
  ·exact ⟨4,c6 _ _,by decide,by decide⟩
  ·exact ⟨6,eI _ _ _,by decide,by decide⟩
  ·exact ⟨60,i_ _ _ _ _,by decide,by decide⟩
  ·exact ⟨60,yU _ _ _ _ _,by decide,by decide⟩
 have u0:0≤b % x:=Int.emod_nonneg _ (by omega)
 have u1:b % x < x:=Int.emod_lt_of_pos _ (by omega)
 have bu:Bd 64 (1 + b % x):=.small (by omega) (by omega)
 have b8:Bd 9000 8:=(Bd.small (x:=8) (by decide) (by decide)).mono (by decide)
 refine ⟨_,hx,x,rfl,by omega,⟨by decide,b8⟩,.of (.small (x:=2) (by decide) (by decide)) bu,by omega,?_⟩
 generalize hu:1 + b % x=u at *
 have k0:0≤n.fdiv 8:=by rw [Int.fdiv_eq_ediv_of_nonneg _ (by decide)];exact Int.ediv_nonneg n0 (by decide)
 obtain ⟨M,hM⟩:∃ M:Sr→Hq→Prop,∀ τ' J',M τ' J'↔∃ s:Int,τ'=[some (fr c),some (.int n),some (.int b),some (.int m),some (.int u),some (.int s)]∧J'=J∧1≤s∧s≤500 * u:=⟨_,fun _ _=>Iff.rfl⟩
 refine ⟨M,?_,?_⟩
 ·simp_arith! only [b7]
  have h2:0≤n.fdiv 8 % (2 * u):=Int.emod_nonneg _ (by omega)
  have h3:n.fdiv 8 % (2 * u) < 2 * u:=Int.emod_lt_of_pos _ (by omega)
  have h4:0≤n.fdiv 8 % (500 * u):=Int.emod_nonneg _ (by omega)
  have h5:n.fdiv 8 % (500 * u) < 500 * u:=Int.emod_lt_of_pos _ (by omega)
  split
  ·refine ⟨⟨by decide,b8⟩,.of (.small (x:=500) (by decide) (by decide)) bu,by omega,(hM _ _).mpr ⟨_,rfl,rfl,by omega,by omega⟩⟩
  ·exact (hM _ _).mpr ⟨_,rfl,rfl,by omega,by omega⟩
 ·intro τ' J' hm
  obtain ⟨s,rfl,rfl,s0,s1⟩:=(hM _ _).mp hm
  clear hm hM M
  simp_arith! only [b7,jz]
  refine ⟨.of sc.num bu,⟨dW c,sc.den.mono (by decide)⟩,by omega,bu.mono (by decide),?_⟩
  obtain ⟨u',rfl⟩:=Int.eq_ofNat_of_zero_le (show 0≤u by omega)
  obtain ⟨s',rfl⟩:=Int.eq_ofNat_of_zero_le (show 0≤s by omega)
  exact q _ (.inr ⟨u',s',by omega,by omega,by omega,by omega,rfl⟩)
theorem oX {α:Type} {V:α→PV} {lt:α→α→Bool} {ys:List α} {b:α} {r:Addr} {sp:b9} {E2:Addr→Hq→Prop} {D:En} {τ:Sr} {J:Hq} {iO iA iR:Nat}
  (hO:τ[iO]?=some (some (.ref r))) (hR:τ[iR]?=some (some (V b))) (hA:τ[iA]?=some (some (.int 0))) (nO:iA≠iO) (nR:iA≠iR) (hJ:J r=some (.lst (ys.map V)))
  (hb:∀ y∈ys,∀ R:PV→Hq→Prop,R (.bl (lt y b)) J→sp [V y,V b] J R E2)
  (high:∀ {i j:Nat} {x y:α},ys[i]?=some x→ys[j]?=some y→i≤j→lt x b=false→lt y b=false)
  (fin:∀ j:Nat,j≤ys.length→(∀ (k:Nat) y,k < j→ys[k]?=some y→lt y b=true)→(∀ (k:Nat) y,j≤k→ys[k]?=some y→lt y b=false)→D.nx (τ.set iA (some (.int j))) J) :
  AA (Cv (rB (rg (Au fun i j=>.bl (decide (i < j))) (gA iA) (Hg Fb (ie (gA iO) ou)))) (rB (sY sp E2 (ie (rg DI (gA iO) (gA iA)) (ie (gA iR) ou))))) (ot (rg (Au fun i j=>.int (i + j)) (gA iA) (rC (.int 1))) (BA iA)) D τ J:=by
 have hl:iA < τ.length:=(List.getElem?_eq_some_iff.mp hA).1
 have sO:∀ x,(τ.set iA x)[iO]?=some (some (.ref r)):=fun x=>by rw [List.getElem?_set_ne nO];exact hO
 have sR:∀ x,(τ.set iA x)[iR]?=some (some (V b)):=fun x=>by rw [List.getElem?_set_ne nR];exact hR
 have sA:∀ x,(τ.set iA x)[iA]?=some x:=fun x=>List.getElem?_set_self hl
 refine ⟨fun m τ' J'=>∃ j:Nat,j≤ys.length∧m=ys.length - j∧τ'=τ.set iA (some (.int j))∧J'=J∧∀ (k:Nat) y,k < j→ys[k]?=some y→lt y b=true,⟨ys.length,0,Nat.zero_le _,rfl,?_,rfl,fun k y hk=>by omega⟩,?_⟩
 ·have h2:=List.set_getElem_self hl
  rw [(List.getElem?_eq_some_iff.mp hA).2] at h2
  exact h2.symm
 rintro m τ' J' ⟨j,hj,rfl,rfl,rfl,hlow⟩
 simp_all! only [sO,sA,hJ,List.length_map]
 by_cases c0:j < ys.length
 ·rw [if_pos (by omega)]
  obtain ⟨y,hy⟩:∃ y,ys[j]?=some y:=⟨_,List.getElem?_eq_getElem c0⟩
  have ha:c5 (ys.map V) (j:Int)=some (V y):=bc (by rw [List.getElem?_map,hy];rfl)
  simp_all! only [sO,sA,sR,hJ,ha]
  refine hb y (List.mem_of_getElem? hy) _ ?_
  refine ⟨lt y b,rfl,?_⟩
  cases hc:lt y b with
  | true =>
   rw [if_pos rfl]
   refine ⟨fun τ' J''=>∃ i:Nat,i≤ys.length∧ys.length - (j + 1)=ys.length - i∧τ'=τ.set iA (some (.int i))∧J''=J'∧∀ (k:Nat) y,k < i→ys[k]?=some y→lt y b=true,fun τ'' J'' h=>⟨ys.length - (j + 1),by omega,h⟩,j + 1,by omega,rfl,by rw [List.set_set,Int.natCast_succ],rfl,fun k z hk e=>?_⟩
   rcases Nat.lt_or_eq_of_le (Nat.lt_succ_iff.mp hk) with h | h
   ·exact hlow k z h e
   ·subst h;rw [hy] at e;cases e;exact hc
  | false =>
   rw [if_neg (by decide)]
   exact fin j hj hlow fun k z hk e=>high hy e hk hc
 ·rw [if_neg (by omega)]
  exact fin j hj hlow fun k z hk e=>by rw [List.getElem?_eq_none (by omega)] at e;cases e
section
variable {X:Cx}
theorem jG.or {f:Value→Value→Sem Value} {q q':jH} (h:jG X f q) (h':jG X f q'):jG X f (fun x y J Q=>q x y J Q∨q' x y J Q):=by
 obtain ⟨r,a,lr⟩:=h
 obtain ⟨r',a',lr'⟩:=h'
 refine ⟨fun x y H Q=>r x y H Q∨r' x y H Q,fun pins s σ H x y v u Q I rx ry h=>?_,fun J H x y v w Q2 Q rx ry rr h k=>?_⟩
 ·rcases h with h | h
  ·exact a pins s σ H x y v u Q I rx ry h
  ·exact a' pins s σ H x y v u Q I rx ry h
 ·rcases h with h | h
  ·exact .inl (lr J H x y v w Q2 Q rx ry rr h k)
  ·exact .inr (lr' J H x y v w Q2 Q rx ry rr h k)
end
def Ky.V (k:Ky):PV:=.tup [fr k.p,.int k.v,.str k.n]
theorem Gv (J:Hq) (k:Ky):eD J k.V (.int 0)=some (fr k.p):=c6 _ _
theorem Gw (J:Hq) (k:Ky):eD J k.V (.int 1)=some (.int k.v):=eI _ _ _
theorem Dj (J:Hq) (k:Ky):eD J k.V (.int 2)=some (.str k.n):=i_ _ _ _ _
theorem HW (p:Rat) (v:Int) (n:Str):PV.tup [fr p,.int v,.str n]=(Ky.mk p v n).V:=rfl
theorem oQ (p q:Rat):(p.num * (q.den:Int) < q.num * (p.den:Int))=(p < q):=propext (Rat.lt_iff p q).symm
abbrev j2:Stmt:=(top 61)
theorem kU:L2.aw ["_law_one","_law_two","_law_here","_law_there"] ["_law_one","_law_two"] (L2.aj j2):=dk
def ni:b9:=fun xs J Q _=>(∃ a b:Ky,xs=[a.V,b.V]∧Sz 9000 a.p∧Sz 9000 b.p∧Q (.bl (a.lt b)) J)∨(∃ a b:aA,xs=[a.v,b.v]∧Sz 9000 a.m∧Sz 9000 b.m∧Q (.bl (a.lt b)) J)
theorem uN {f:Addr} {fd:FuncData} (F:bQ K "_law_before" "_law_before" j2 f fd) (Z:bC mg):aH P w K mg base (cF P w) 1 f fd ["_law_one","_law_two"] (c8 K ni):=by
 simp_arith [kU]
 ·rcases h with ⟨a,b,rfl,_⟩ | ⟨a,b,rfl,_⟩ <;> rfl
 refine ⟨_,(ai (aF (i:=2) kU.nd rfl (Or.inl rfl) (aL bS (aq av (aq av (rv 0) ag (fun _ _=>rfl)) ag (fun _ _=>rfl)) (aq av (aq av (rv 1) ag (fun _ _=>rfl)) ag (fun _ _=>rfl))))
   (ai (aF (i:=3) kU.nd rfl (Or.inl rfl) (aL bS (aq av (aq av (rv 1) ag (fun _ _=>rfl)) ag (fun _ _=>rfl)) (aq av (aq av (rv 0) ag (fun _ _=>rfl)) ag (fun _ _=>rfl))))
   (ai (aR (aD (jb hr.aT) (rv 2) (rv 3) (L2.ax _)) (ak (ay (dZ fB (rv 2) (rv 3) (L2.ax _)))) aE)
   (ai (aR (aD (jb hr.aT) (aq av (rv 0) ag (fun _ _=>rfl)) (aq av (rv 1) ag (fun _ _=>rfl)) (L2.ax _)) (ak (ay (dZ (jG.or fB uR) (aq av (rv 0) ag (fun _ _=>rfl)) (aq av (rv 1) ag (fun _ _=>rfl)) (L2.ax _)))) aE)
   (ak (ay (dZ uR (aq av (rv 0) ag (fun _ _=>rfl)) (aq av (rv 1) ag (fun _ _=>rfl)) (L2.ax _)))))))),?_⟩
 rcases h with ⟨a,b,rfl,sa,sb,q⟩ | ⟨a,b,rfl,sa,sb,q⟩
 ·simp_arith! only [b7,Gv,Gw,Dj]
  refine ⟨.of sa.num sb.den,.of sb.num sa.den,?_⟩
  unfold Ky.lt at q
  by_cases e:a.p=b.p
  ·rw [if_pos e] at q
   rw [if_pos ((iB _ _).mpr e)]
   by_cases k:a.v=b.v
   ·rw [if_pos k] at q ⊢;exact q
   ·rw [if_neg k] at q ⊢;exact q
  ·rw [if_neg e] at q
   rw [if_neg (fun z=>e ((iB _ _).mp z))]
   simp only [oQ]
   exact q
 ·simp_arith! only [b7,zx,zy,zA]
  refine ⟨.of sa.num sb.den,.of sb.num sa.den,?_⟩
  unfold aA.lt at q
  by_cases e:a.m=b.m
  ·rw [if_pos e] at q
   rw [if_pos ((iB _ _).mpr e)]
   by_cases k:a.h=b.h
   ·rw [if_pos k] at q ⊢;exact q
   ·rw [if_neg k] at q ⊢;exact q
  ·rw [if_neg e] at q
   rw [if_neg (fun z=>e ((iB _ _).mp z))]
   simp only [oQ]
   exact q
abbrev j4:Stmt:=(top 62)
theorem gg:L2.aw ["_law_legs","_law_moment","_law_out","_law_name","_law_row","_law_at_here"] ["_law_legs","_law_moment"] (L2.aj j4):=dk
def nt:b9:=fun xs J Q _=>∃ (D:Addr) (fs:List (Str × aS)) (ep:Nat) (t:Rat),xs=[.ref D,fr t]∧J D=some (.dct (bh fs) ep)∧(fs.map (·.1)).Nodup∧fs.length≤100∧Sz 900 t∧(∀ x∈fs,lz 900 x.2)∧Q (.fl ((cm t fs).map .str)) J
theorem x_ {f:Addr} {fd:FuncData} (F:bQ K "_law_order" "_law_order" j4 f fd) (Z:bC mg) (C_at:aZ P w K mg base 2 "_law_at" ["_law_leg","_law_moment"] jh) (C_before:aZ P w K mg base 1 "_law_before" ["_law_one","_law_two"] ni):aH P w K mg base (cF P w) 3 f fd ["_law_legs","_law_moment"] (c8 K nt):=by
 refine FT F gg (fun xs J Q E h=>?_) (fun cdv A outer s H E G xs J Q E2 hr h B=>?_)
 ·obtain ⟨D,fs,ep,t,rfl,_⟩:=h;rfl
 obtain ⟨D,fs,ep,t,rfl,hD,hnd,hlen,st,sl,q⟩:=h
 refine ⟨_,(ai (aF (i:=2) gg.nd rfl (Or.inl rfl) (jv ah))
   (ai (dM bI rfl (lV (rv 0)) (bj (i:=3) gg.nd rfl (Or.inl rfl)) (ai (aF (i:=4) gg.nd rfl (Or.inl rfl) (cu (af (aM C_at B hr (by decide) rfl (af (aq cG (rv 0) (rv 3) (fun _ _=>rfl)) (af (rv 1) ah))) (af (aq av (aq cG (rv 0) (rv 3) (fun _ _=>rfl)) ag (fun _ _=>rfl)) (af (rv 3) ah)))))
   (ai (aF (i:=5) gg.nd rfl (Or.inl rfl) ag)
   (ai (ij bI (dh (eG (aD fB (rv 5) (aG bF rfl Z.len boot_len (af (rv 2) ah)) (L2.ax _)) (dN (bz (aM C_before B hr (by decide) rfl (af (aq av (rv 2) (rv 5) (fun _ _=>rfl)) (af (rv 4) ah))))))) (ak (aF (i:=5) gg.nd rfl (Or.inl rfl) (aL cH (rv 5) ag))))
   (ak (aX (jc PySem.F.plainAttrs_list PySem.F.slot_list_insert PySem.F.type_list_insert iG (rv 2) (af (rv 5) (af (rv 4) ah)))))))))
   (ak (ay (HC (L2.aj j4) ["_law_legs","_law_moment","_law_out","_law_name","_law_row","_law_at_here"] [] rfl rfl rfl (eO (rv 2)) (fun _ _ _ _ _ _=>(aq av (rv 0) ag (fun _ _=>rfl)))))))),?_⟩
 simp_all! only []
 intro r hr'
 have nDr:D≠r:=by intro e;subst e;rw [hD] at hr';cases hr'
 simp_all! only [ar nDr,hD]
 have hkv:(bh fs).map (fun kv=>PV.str kv.1)=fs.map fun x=>PV.str x.1:=by unfold bh;rw [List.map_map];rfl
 rw [hkv]
 obtain ⟨Inv,hInv⟩:∃ Inv:Nat→Sr→Hq→Prop,∀ i τ J',Inv i τ J'↔∃ (u3 u4 u5:Option PV),τ=[some (.ref D),some (fr t),some (.ref r),u3,u4,u5]∧J'=put J r (.lst ((bT ((fs.take i).map (key t))).map Ky.V)):=⟨_,fun _ _ _=>Iff.rfl⟩
 refine fe Inv ((hInv _ _ _).mpr ⟨_,_,_,rfl,rfl⟩) (fun i τ J' h=>?_) ?_ ?_
 ·obtain ⟨_,_,_,_,rfl⟩:=(hInv _ _ _).mp h
  rw [ar nDr];exact hD
 ·intro i x τ J' hx hv
  obtain ⟨u3,u4,u5,rfl,rfl⟩:=(hInv _ _ _).mp hv
  clear hv
  have hi:i < fs.length:=by have:=(List.getElem?_eq_some_iff.mp hx).1;simpa using this
  rw [List.getElem?_map,List.getElem?_eq_getElem hi] at hx
  cases hx
  rcases hfi:fs[i] with ⟨n,l⟩
  have hmem:(n,l)∈fs:=by rw [← hfi];exact List.getElem_mem hi
  have et:fs.take (i + 1)=fs.take i ++ [(n,l)]:=by rw [List.take_add_one,List.getElem?_eq_getElem hi,hfi];rfl
  have hndt:((fs.take i).map (·.1)).Nodup:=by rw [List.map_take];exact hnd.sublist (List.take_sublist _ _)
  obtain ⟨ys,hys⟩:∃ ys,bT ((fs.take i).map (key t))=ys:=⟨_,rfl⟩
  have srt:ku Ky.lt ys:=by rw [← hys];exact cg (by rw [cE];exact hndt)
  have hyl:ys.length=i:=by rw [← hys,f_,List.length_map,List.length_take];omega
  have hym:∀ y∈ys,Sz 9000 y.p:=fun y hy=>by
   rw [← hys,a7,List.mem_map] at hy
   obtain ⟨x',hx',rfl⟩:=hy
   exact (gZ (sl x' (List.mem_of_mem_take hx')) st).mono (by decide)
  have en:bT ((fs.take (i + 1)).map (key t))=lA Ky.lt (key t (n,l)) ys:=by rw [et,List.map_append,List.map_cons,List.map_nil,f',hys]
  rw [hys]
  have hvn:i9 (bh fs) n=some l.V:=fq (f:=aS.V) hnd hmem
  have sll:=sl _ hmem
  simp_all! only [ar nDr,hD,hvn]
  refine ⟨l,t,rfl,sll.m,sll.p,st,sll.v,?_⟩
  simp_all! only [ar nDr,hD,hvn,jO,HW]
  have ek:(Ky.mk (l.at t) l.v n)=key t (n,l):=rfl
  rw [ek]
  have skn:Sz 9000 (key t (n,l)).p:=(gZ sll st).mono (by decide)
  generalize key t (n,l)=kn at en skn ⊢
  refine oX (V:=Ky.V) (lt:=Ky.lt) (ys:=ys) (b:=kn) (iO:=2) (iA:=5) (iR:=4) rfl rfl rfl (by decide) (by decide) au (fun y hy R hR=>.inl ⟨y,kn,rfl,hym y hy,skn,hR⟩) (fun hx hy h k=>yv (lt:=Ky.lt) Ky.tr srt hx hy h k) fun j hj hlow hhigh=>?_
  simp_all! only [au]
  refine ⟨_,j,rfl,rfl,by rw [List.length_map];exact hj,aV (by rw [List.length_map];omega),by omega,?_⟩
  rw [d3]
  refine (hInv _ _ _).mpr ⟨_,_,_,rfl,?_⟩
  rw [en,← v_ hj hlow hhigh,List.map_append,List.map_cons,List.map_take,List.map_drop]
 ·intro τ J' hv
  obtain ⟨u3,u4,u5,rfl,rfl⟩:=(hInv _ _ _).mp hv
  rw [List.length_map,List.take_length]
  simp_all! only [sZ,au]
  refine ⟨fun _=>true,(fun x=>match x with | .tup [_,_,n]=>n | _=>.non),⟨aV (by rw [List.length_map,f_,List.length_map];omega),fun J2 hs=>⟨hs _ _ au,fun x hx=>⟨⟨rfl,rfl⟩,fun _=>?_⟩⟩⟩,?_⟩
  ·obtain ⟨y,hy,rfl⟩:=List.mem_map.mp hx
   simp_arith! only [b7,Dj]
   rfl
  ·rw [List.filter_eq_self.mpr fun _ _=>rfl,List.map_map]
   have e:(cm t fs).map PV.str=(bT (fs.map (key t))).map ((fun x=>match x with | .tup [_,_,n]=>n | _=>.non) ∘ Ky.V):=by unfold cm;rw [List.map_map];rfl
   rw [e] at q
   exact Fg.less (g9 hr') q
abbrev l5:Stmt:=(top 50)
theorem tH:L2.aw ["_law_found","_law_due","_law_one"] ["_law_found","_law_due"] (L2.aj l5):=dk
def w_:b9:=fun xs J Q _=>∃ ss:List Str,xs=[.fl (ss.map .str),.fl (ss.map .str)]∧ss.length≤900∧Q (.bl true) J
theorem Ap (ss:List Str):i8 (ss.map PV.str)=true:=by
 induction ss with
 | nil=>rfl
 | cons x ss ih=>rw [List.map_cons,o_,qr,ih];rfl
theorem y4 (ss:List Str):dw (fC (ss.map PV.str))≤1:=by
 induction ss with
 | nil=>simp [fC,dw]
 | cons x ss ih=>simp only [List.map_cons,fC,fu,dw,dep];omega
theorem vL (ss:List Str):Df (.fl (ss.map .str)):=⟨by unfold kr;exact Ap ss,by
 have:=y4 ss
 simp only [fu,dep];omega⟩
theorem yc {f:Addr} {fd:FuncData} (F:bQ K "_law_words" "_law_words" l5 f fd) (Z:bC mg):aH P w K mg base (cF P w) 1 f fd ["_law_found","_law_due"] (c8 K w_):=by
 simp_arith [tH]
 ·obtain ⟨ss,rfl,_⟩:=h;rfl
 obtain ⟨ss,rfl,hl,q⟩:=h
 refine ⟨_,(ai (aR (dh (je (cj (bz (aG gw rfl Z.isinstance boot_isinstance (af (rv 0) (af (jZ rfl Z.list boot_list) ah))))) (fU (aD (jb hr.aT) (aG bF rfl Z.len boot_len (af (rv 0) ah)) (aG bF rfl Z.len boot_len (af (rv 1) ah)) (L2.ax _))))) (ak (ay dR)) aE)
   (ai (dM bI rfl (eO (rv 0)) (bj (i:=2) tH.nd rfl (Or.inl rfl)) (ak (aR (cj (bz (aG gw rfl Z.isinstance boot_isinstance (af (rv 2) (af (jZ rfl Z.str boot_str) ah))))) (ak (ay dR)) aE)))
   (ak (ay (dZ (cy hr.aT) (rv 0) (rv 1) (L2.ax _)))))),?_⟩
 simp_all! only [List.length_map]
 obtain ⟨Inv,hInv⟩:∃ Inv:Nat→Sr→Hq→Prop,∀ i τ J',Inv i τ J'↔∃ u:Option PV,τ=[some (.fl (ss.map .str)),some (.fl (ss.map .str)),u]∧J'=J:=⟨_,fun _ _ _=>Iff.rfl⟩
 refine fe Inv ((hInv _ _ _).mpr ⟨_,rfl,rfl⟩) (fun _ _ _ _=>trivial) ?_ ?_
 ·intro i x τ J' hx hv
  obtain ⟨u,rfl,rfl⟩:=(hInv _ _ _).mp hv
  obtain ⟨y,_,rfl⟩:=List.mem_map.mp (List.mem_of_getElem? hx)
  simp_all! only []
  exact (hInv _ _ _).mpr ⟨_,rfl,rfl⟩
 ·intro τ J' hv
  obtain ⟨u,rfl,rfl⟩:=(hInv _ _ _).mp hv
  simp_all! only []
  refine ⟨vL ss,(vL ss).1,?_⟩
  rw [eq_self];exact q
abbrev iW:Stmt:=(top 51)
theorem vh:L2.aw ["_law_found","_law_due"] ["_law_found","_law_due"] (L2.aj iW):=dk
def kZ:b9:=fun xs J Q _=>∃ a:aA,xs=[a.v,a.v]∧Q (.bl true) J
theorem sF {f:Addr} {fd:FuncData} (F:bQ K "_law_passrow" "_law_passrow" iW f fd) (Z:bC mg) (C_part:aZ P w K mg base 2 "_law_part" ["_law_found","_law_due"] kg):aH P w K mg base (cF P w) 3 f fd ["_law_found","_law_due"] (c8 K kZ):=by
 simp_arith [vh]
 ·obtain ⟨a,rfl,_⟩:=h;rfl
 obtain ⟨a,rfl,q⟩:=h
 refine ⟨_,(ai (aR (dh (je (cj (bz (aG gw rfl Z.isinstance boot_isinstance (af (rv 0) (af (jZ rfl Z.tuple boot_tuple) ah))))) (fU (aD (jb hr.aT) (aG bF rfl Z.len boot_len (af (rv 0) ah)) ag (L2.ax _))))) (ak (ay dR)) aE)
   (ai (aR (dh (je (cj (bz (aG gw rfl Z.isinstance boot_isinstance (af (aq av (rv 0) ag (fun _ _=>rfl)) (af (jZ rfl Z.str boot_str) ah))))) (fU (cj (bz (aG gw rfl Z.isinstance boot_isinstance (af (aq av (rv 0) ag (fun _ _=>rfl)) (af (jZ rfl Z.str boot_str) ah)))))))) (ak (ay dR)) aE)
   (ak (ay (vf (aM C_part B hr (by decide) rfl (af (aq av (rv 0) ag (fun _ _=>rfl)) (af (aq av (rv 1) ag (fun _ _=>rfl)) ah))) (qA (dZ (cy hr.aT) (rv 0) (rv 1) (L2.ax _)))))))),?_⟩
 simp_arith! only [b7,kg,zx,zy,zA,JQ,GB,IJ,DF,IL]
 exact q
abbrev gJ:Stmt:=(top 52)
theorem lq:L2.aw ["_law_found","_law_due","_law_k"] ["_law_found","_law_due"] (L2.aj gJ):=dk
def nu:b9:=fun xs J Q _=>∃ (rows:List aA) (x:PV),xs=[x,.fl (rows.map aA.v)]∧jF J x=some (rows.map aA.v)∧rows.length≤900∧Q (.bl true) J
theorem p_ {f:Addr} {fd:FuncData} (F:bQ K "_law_passrows" "_law_passrows" gJ f fd) (Z:bC mg) (C_passrow:aZ P w K mg base 3 "_law_passrow" ["_law_found","_law_due"] kZ):aH P w K mg base (cF P w) 4 f fd ["_law_found","_law_due"] (c8 K nu):=by
 simp_arith [lq]
 ·obtain ⟨rows,x,rfl,_⟩:=h;rfl
 obtain ⟨rows,x,rfl,hx,hl,q⟩:=h
 refine ⟨_,(ai (aR (dh (je (cj (bz (aG gw rfl Z.isinstance boot_isinstance (af (rv 0) (af (jZ rfl Z.list boot_list) ah))))) (fU (aD (jb hr.aT) (aG bF rfl Z.len boot_len (af (rv 0) ah)) (aG bF rfl Z.len boot_len (af (rv 1) ah)) (L2.ax _))))) (ak (ay dR)) aE)
   (ai (dM bI rfl (iK rfl Z.range (af (aG bF rfl Z.len boot_len (af (rv 1) ah)) ah)) (bj (i:=2) lq.nd rfl (Or.inl rfl)) (ak (aR (cj (bz (aM C_passrow B hr (by decide) rfl (af (aq av (rv 0) (rv 2) (fun _ _=>rfl)) (af (aq av (rv 1) (rv 2) (fun _ _=>rfl)) ah))))) (ak (ay dR)) aE)))
   (ak (ay dR)))),?_⟩
 simp_arith! only [b7,List.length_map,GU hx,zM hx]
 refine ⟨by omega,by omega,pK (fun i τ J'=>∃ u:Option PV,τ=[some x,some (.fl (rows.map aA.v)),u]∧J'=J) ⟨none,rfl,rfl⟩ ?_ ?_⟩
 ·rintro i τ J' hi ⟨u,rfl,rfl⟩
  have hi:i < rows.length:=by omega
  have ha:c5 (rows.map aA.v) (0 + (i:Int))=some (rows[i].v):=by rw [Int.zero_add];exact yV (List.getElem?_eq_getElem hi)
  simp_arith! only [b7,Du hx,ha,kZ]
  exact ⟨_,rfl,rfl⟩
 ·rintro τ J' ⟨u,rfl,rfl⟩
  exact q
theorem xq {t p q:Rat} {v:Int} (hv:0 < v):Rat.divInt (t.num * ((p.den:Int) * (q.den:Int) * v) + (q.num * (p.den:Int) - p.num * (q.den:Int)) * (t.den:Int)) ((t.den:Int) * ((p.den:Int) * (q.den:Int) * v))=t + (q - p) / (v:Rat):=by
 have a:=cast_eq t
 have b:=cast_eq p
 have c:=cast_eq q
 have d:=c9 t
 have e:=c9 p
 have f:=c9 q
 have k:(v:Rat)≠0:=k_ (by omega)
 rw [Rat.divInt_eq_div]
 simp only [Rat.intCast_mul,Rat.intCast_add,Rat.intCast_sub,a,b,c]
 generalize (((t.den:Int)):Rat)=x at d ⊢
 generalize (((p.den:Int)):Rat)=y at e ⊢
 generalize (((q.den:Int)):Rat)=z at f ⊢
 generalize (v:Rat)=w at k ⊢
 have h1:y * z≠0:=fun h=>by rcases Rat.mul_eq_zero.mp h with h | h <;> contradiction
 have h2:y * z * w≠0:=fun h=>by rcases Rat.mul_eq_zero.mp h with h | h <;> contradiction
 have h3:x * (y * z * w)≠0:=fun h=>by rcases Rat.mul_eq_zero.mp h with h | h <;> contradiction
 grind
theorem lz.vG {l:aS} (h:lz 240 l) {t:Rat} (st:Sz 240 t):Sz 790 (l.at t):=by
 have s1:Sz 481 (t - l.m):=st.sub h.m
 have s2:Sz 545 ((t - l.m) * (l.v:Rat)):=s1.mul h.v
 exact h.p.add s2
theorem xr {t p q:Rat} {v:Int} (st:Sz 240 t) (sp:Sz 790 p) (sq:Sz 790 q) (bv:Bd 70 v) (hv:0 < v):Bd 1650 ((p.den:Int) * (q.den:Int) * v)∧Bd 1590 (q.num * (p.den:Int) - p.num * (q.den:Int))∧Bd 1900 ((t.den:Int) * ((p.den:Int) * (q.den:Int) * v))∧Sz 9000 (t + (q - p) / (v:Rat)):=by
 have h1:Bd 1650 ((p.den:Int) * (q.den:Int) * v):=.mul (.mul (k:=1580) sp.den sq.den) bv
 have h2:Bd 1590 (q.num * (p.den:Int) - p.num * (q.den:Int)):=.sub (Bd.mul (k:=1580) sq.num sp.den) (Bd.mul (k:=1580) sp.num sq.den)
 have h3:Bd 1900 ((t.den:Int) * ((p.den:Int) * (q.den:Int) * v)):=.mul st.den h1
 refine ⟨h1,h2,h3,?_⟩
 rw [← xq hv]
 have hd:0 < (t.den:Int) * ((p.den:Int) * (q.den:Int) * v):=Int.mul_pos (dU _) (Int.mul_pos (Int.mul_pos (dU _) (dU _)) hv)
 exact (Sz.div (n:=1901) (.add (Bd.mul (k:=1900) st.num h1) (Bd.mul (k:=1900) h2 st.den)) (h3.mono (by decide)) (by omega)).mono (by decide)
theorem bU.Ek {L:Ln} (ok:bU L):L.fs.length≤12:=by
 have:=ok.rl
 rw [ok.row,sQ] at this;exact this
theorem ui (t:Rat) (ks:List Ky) (h:(ks.map Ky.n).Nodup):(eA t ks).length≤ks.length:=by
 rw [← nI h]
 have h1:=kC t bZ ((bT ks).zip (bT ks).tail)
 rw [List.length_zip,f_] at h1
 omega
def De (t:Rat) (fs gs:List (Str × aS)):Prop:=∀ x,x∈fs.map (key t)↔x∈gs.map (key t)
abbrev iX:Stmt:=(top 64)
theorem bB:L2.aw ["_law_legs","_law_clock","_law_row","_law_out","_law_k","_law_here","_law_there","_law_pace","_law_top","_law_under","_law_when","_law_bell","_law_at_here"] ["_law_legs","_law_clock"] (L2.aj iX):=dk
def AV:b9:=fun xs J Q _=>∃ (D:Addr) (fs:List (Str × aS)) (ep:Nat) (t:Rat),xs=[.ref D,fr t]∧J D=some (.dct (bh fs) ep)∧(fs.map (·.1)).Nodup∧fs.length≤20∧Sz 240 t∧(∀ x∈fs,lz 240 x.2)∧Q (.fl ((eA t (fs.map (key t))).map aA.v)) J
theorem sG {f:Addr} {fd:FuncData} (F:bQ K "_law_ringdue" "_law_ringdue" iX f fd) (Z:bC mg) (C_order:aZ P w K mg base 3 "_law_order" ["_law_legs","_law_moment"] nt) (C_at:aZ P w K mg base 2 "_law_at" ["_law_leg","_law_moment"] jh) (C_low:aZ P w K mg base 1 "_law_low" ["_law_top","_law_bottom"] jz) (C_before:aZ P w K mg base 1 "_law_before" ["_law_one","_law_two"] ni):aH P w K mg base (cF P w) 4 f fd ["_law_legs","_law_clock"] (c8 K AV):=by
 refine FT F bB (fun xs J Q E h=>?_) (fun cdv A outer s H E G xs J Q E2 hr h B=>?_)
 ·obtain ⟨D,fs,ep,t,rfl,_⟩:=h;rfl
 obtain ⟨D,fs,ep,t,rfl,hD,hnd,hlen,st,sl,q⟩:=h
 refine ⟨_,(ai (aF (i:=2) bB.nd rfl (Or.inl rfl) (aM C_order B hr (by decide) rfl (af (rv 0) (af (rv 1) ah))))
   (ai (aF (i:=3) bB.nd rfl (Or.inl rfl) (jv ah))
   (ai (dM bI rfl (iK rfl Z.range (af (aL dJ (aG bF rfl Z.len boot_len (af (rv 2) ah)) ag) ah)) (bj (i:=4) bB.nd rfl (Or.inl rfl)) (ai (aF (i:=5) bB.nd rfl (Or.inl rfl) (aM C_at B hr (by decide) rfl (af (aq cG (rv 0) (aq av (rv 2) (rv 4) (fun _ _=>rfl)) (fun _ _=>rfl)) (af (rv 1) ah))))
   (ai (aF (i:=6) bB.nd rfl (Or.inl rfl) (aM C_at B hr (by decide) rfl (af (aq cG (rv 0) (aq av (rv 2) (aL cH (rv 4) ag) (fun _ _=>rfl)) (fun _ _=>rfl)) (af (rv 1) ah))))
   (ai (aF (i:=7) bB.nd rfl (Or.inl rfl) (aL dJ (aq av (aq cG (rv 0) (aq av (rv 2) (rv 4) (fun _ _=>rfl)) (fun _ _=>rfl)) ag (fun _ _=>rfl)) (aq av (aq cG (rv 0) (aq av (rv 2) (aL cH (rv 4) ag) (fun _ _=>rfl)) (fun _ _=>rfl)) ag (fun _ _=>rfl))))
   (ak (aR (aD jV (rv 7) ag (L2.ax _)) (ai (aF (i:=8) bB.nd rfl (Or.inl rfl) (aL dJ (aL bS (aq av (rv 6) ag (fun _ _=>rfl)) (aq av (rv 5) ag (fun _ _=>rfl))) (aL bS (aq av (rv 5) ag (fun _ _=>rfl)) (aq av (rv 6) ag (fun _ _=>rfl)))))
   (ai (aF (i:=9) bB.nd rfl (Or.inl rfl) (aL bS (aL bS (aq av (rv 5) ag (fun _ _=>rfl)) (aq av (rv 6) ag (fun _ _=>rfl))) (rv 7)))
   (ai (aF (i:=10) bB.nd rfl (Or.inl rfl) (aM C_low B hr (by decide) rfl (af (aL cH (aL bS (aq av (rv 1) ag (fun _ _=>rfl)) (rv 9)) (aL bS (rv 8) (aq av (rv 1) ag (fun _ _=>rfl)))) (af (aL bS (aq av (rv 1) ag (fun _ _=>rfl)) (rv 9)) ah))))
   (ai (aF (i:=11) bB.nd rfl (Or.inl rfl) (cu (af (rv 10) (af (aq av (rv 2) (rv 4) (fun _ _=>rfl)) (af (aq av (rv 2) (aL cH (rv 4) ag) (fun _ _=>rfl)) ah)))))
   (ai (aF (i:=12) bB.nd rfl (Or.inl rfl) ag)
   (ai (ij bI (dh (eG (aD fB (rv 12) (aG bF rfl Z.len boot_len (af (rv 3) ah)) (L2.ax _)) (dN (bz (aM C_before B hr (by decide) rfl (af (aq av (rv 3) (rv 12) (fun _ _=>rfl)) (af (rv 11) ah))))))) (ak (aF (i:=12) bB.nd rfl (Or.inl rfl) (aL cH (rv 12) ag))))
   (ak (aX (jc PySem.F.plainAttrs_list PySem.F.slot_list_insert PySem.F.type_list_insert iG (rv 3) (af (rv 12) (af (rv 11) ah))))))))))) aE))))))
   (ak (ay (rv 3)))))),?_⟩
 simp_all! only []
 refine ⟨D,fs,ep,t,rfl,hD,hnd,by omega,st.mono (by decide),fun x hx=>(sl x hx).mono (by decide),?_⟩
 simp_all! only []
 intro r hr'
 have nDr:D≠r:=by intro e;subst e;rw [hD] at hr';cases hr'
 obtain ⟨ks,hks⟩:∃ ks,bT (fs.map (key t))=ks:=⟨_,rfl⟩
 have hrow:(cm t fs).map PV.str=ks.map fun k=>PV.str k.n:=by unfold cm;rw [hks,List.map_map];rfl
 have hkn0:((fs.map (key t)).map Ky.n).Nodup:=by rw [cE];exact hnd
 have hks':ku Ky.lt ks:=by rw [← hks];exact cg hkn0
 have hkn:(ks.map Ky.n).Nodup:=by rw [← hks];exact iZ (cg hkn0) (fun x hx y hy e=>f9 hkn0 x ((a7 _ _).mp hx) y ((a7 _ _).mp hy) e)
 have hkd:ks.Nodup:=List.Pairwise.of_map Ky.n (fun a b h e=>h (by rw [e])) hkn
 have hkl:ks.length=fs.length:=by rw [← hks,f_,List.length_map]
 have hkf:∀ a∈ks,∃ l,(a.n,l)∈fs∧a=key t (a.n,l):=fun a ha=>by
  rw [← hks,a7] at ha
  obtain ⟨x,hx,rfl⟩:=List.mem_map.mp ha
  exact ⟨x.2,hx,rfl⟩
 have hmz:∀ a∈ks,∀ b∈ks,b.v < a.v→Sz 9000 (dH t a b):=fun a ha b hb h=>by
  obtain ⟨l,hl,ea⟩:=hkf a ha
  obtain ⟨l',hl',eb⟩:=hkf b hb
  have hv:l'.v < l.v:=by rw [ea,eb] at h;exact h
  rw [ea,eb]
  exact (xr (v:=l.v - l'.v) st ((sl _ hl).vG st) ((sl _ hl').vG st) (((sl _ hl).v.sub (k:=66) (sl _ hl').v).mono (by decide)) (by omega)).2.2.2
 rw [hrow]
 simp_all! only [ar nDr,hD,List.length_map]
 generalize hps:ks.zip ks.tail=ps
 have hpl:ps.length=ks.length - 1:=by rw [← hps,List.length_zip,List.length_tail];omega
 have hpm:∀ x∈ps,x.1∈ks∧x.2∈ks:=fun x hx=>by
  rw [← hps] at hx
  obtain ⟨i,h3,h4⟩:=cv.mp (show (x.1,x.2)∈_ from hx)
  exact ⟨List.mem_of_getElem? h3,List.mem_of_getElem? h4⟩
 have hup:∀ i,∀ x∈bA t bZ (ps.take i),Sz 9000 x.m:=fun i x hx=>by
  obtain ⟨p,hp',hc,rfl⟩:=f6 _ hx
  have:=hpm p (List.mem_of_mem_take hp')
  exact hmz _ this.1 _ this.2 (of_decide_eq_true hc)
 refine ⟨by omega,by omega,?_⟩
 have hrn:((ks.length:Int) - 1).toNat=ps.length:=by omega
 rw [hrn]
 obtain ⟨Inv,hInv⟩:∃ Inv:Nat→Sr→Hq→Prop,∀ i τ J',Inv i τ J'↔∃ (u4 u5 u6 u7 u8 u9 u10 u11 u12:Option PV),τ=[some (.ref D),some (fr t),some (.fl (ks.map fun k=>PV.str k.n)),some (.ref r),u4,u5,u6,u7,u8,u9,u10,u11,u12]∧J'=put J r (.lst ((bA t bZ (ps.take i)).map aA.v)):=⟨_,fun _ _ _=>Iff.rfl⟩
 refine pK Inv ((hInv _ _ _).mpr ⟨_,_,_,_,_,_,_,_,_,rfl,rfl⟩) ?_ ?_
 ·intro i τ J' hi hv
  obtain ⟨u4,u5,u6,u7,u8,u9,u10,u11,u12,rfl,rfl⟩:=(hInv _ _ _).mp hv
  clear hv
  have hpi:ps[i]?=some ps[i]:=List.getElem?_eq_getElem hi
  have et:ps.take (i + 1)=ps.take i ++ [ps[i]]:=by rw [List.take_add_one,hpi];rfl
  rcases hab:ps[i] with ⟨a,y⟩
  rw [hab] at hpi et
  have hpi0:=hpi
  rw [← hps] at hpi
  obtain ⟨ha,hb⟩:=List.getElem?_zip_eq_some.mp hpi
  rw [List.getElem?_tail] at hb
  simp only at ha hb
  have hak:=List.mem_of_getElem? ha
  have hbk:=List.mem_of_getElem? hb
  have srt:=fZ t bZ (ps.take i)
  have szs:=hup i
  have hle:=kC t bZ (ps.take i)
  rw [List.length_take] at hle
  have ef2:bA t bZ (ps.take (i + 1))=fS t bZ (bA t bZ (ps.take i)) (a,y):=by rw [et];exact dy _ _ _ _
  have hdr:cx a.n y.n (bA t bZ (ps.take i))=bA t bZ (ps.take i):=by
   refine xG (p:=(a,y)) (rj.of hkn fun p hp=>?_) fun hm=>?_
   ·rcases List.mem_append.mp hp with hp | hp
    ·exact hpm p (List.mem_of_mem_take hp)
    ·rw [List.mem_singleton] at hp;subst hp;exact ⟨hak,hbk⟩
   ·obtain ⟨j,hj⟩:=List.mem_iff_getElem?.mp hm
    rw [List.getElem?_take] at hj
    split at hj
    ·rename_i hji
     rw [← hps] at hj
     obtain ⟨h1,_⟩:=List.getElem?_zip_eq_some.mp hj
     simp only at h1
     obtain ⟨k1,e1⟩:=List.getElem?_eq_some_iff.mp h1
     obtain ⟨k2,e2⟩:=List.getElem?_eq_some_iff.mp ha
     have:=(List.getElem_inj hkd).mp (e1.trans e2.symm)
     omega
    ·cases hj
  generalize bA t bZ (ps.take i)=rows at hle ef2 srt szs hdr ⊢
  obtain ⟨l,hmem,ea⟩:=hkf a hak
  obtain ⟨l',hmem',eb⟩:=hkf y hbk
  have hvn:i9 (bh fs) a.n=some l.V:=fq (f:=aS.V) hnd hmem
  have hvn':i9 (bh fs) y.n=some l'.V:=fq (f:=aS.V) hnd hmem'
  have sll:=sl _ hmem
  have sla:=sll.vG st
  have sll':=sl _ hmem'
  have sla':=sll'.vG st
  have h1:c5 (ks.map fun k=>PV.str k.n) (0 + (i:Int))=some (.str a.n):=by rw [Int.zero_add];exact bc (by rw [List.getElem?_map,ha];rfl)
  have h2:c5 (ks.map fun k=>PV.str k.n) (0 + (i:Int) + 1)=some (.str y.n):=by rw [Int.zero_add,show (i:Int) + 1=((i + 1:Nat):Int) by omega];exact bc (by rw [List.getElem?_map,hb];rfl)
  have eav:a.v=l.v:=by rw [ea];rfl
  have ebv:y.v=l'.v:=by rw [eb];rfl
  simp_all! only [h1,ar nDr,hD,hvn]
  refine ⟨l,t,rfl,sll.m.mono (by decide),sll.p.mono (by decide),st.mono (by decide),sll.v,?_⟩
  simp_all! only [h2,ar nDr,hD,hvn']
  refine ⟨l',t,rfl,sll'.m.mono (by decide),sll'.p.mono (by decide),st.mono (by decide),sll'.v,?_⟩
  simp_all! only [h1,h2,ar nDr,hD,hvn,hvn',jO]
  by_cases c1n:¬ 0 < l.v - l'.v
  ·rw [if_neg c1n]
   have hc:bZ (a,y)=false:=decide_eq_false (fun z=>by have:y.v < a.v:=z;omega)
   have e:fS t bZ rows (a,y)=rows:=by unfold fS;rw [if_neg (by rw [hc];decide)]
   exact (hInv _ _ _).mpr ⟨_,_,_,_,_,_,_,_,_,rfl,by rw [ef2,e]⟩
  have c1:=Decidable.not_not.mp c1n
  rw [if_pos c1]
  have bv:Bd 70 (l.v - l'.v):=(sll.v.sub (k:=66) sll'.v).mono (by decide)
  obtain ⟨z1,z2,z3,z4⟩:=xr st sla sla' bv c1
  have ew:t + (l'.at t - l.at t) / ((l.v - l'.v:Int):Rat)=dH t a y:=by rw [ea,eb];rfl
  have hd:0 < (t.den:Int) * (((l.at t).den:Int) * ((l'.at t).den:Int) * (l.v - l'.v)):=Int.mul_pos (dU _) (Int.mul_pos (Int.mul_pos (dU _) (dU _)) c1)
  simp_all! only []
  refine ⟨.of sla'.num sla.den,.of sla.num sla'.den,?_⟩
  simp_all! only []
  refine ⟨.of sla.den sla'.den,.of (Bd.mul (k:=1580) sla.den sla'.den) bv,?_⟩
  simp_all! only [jz]
  refine ⟨.of st.num z1,.of z2 st.den,.of st.den z1,hd,z3.mono (by decide),?_⟩
  rw [xq c1,ew]
  rw [ew] at z4
  have hcp:bZ (a,y)=true:=decide_eq_true (by show y.v < a.v;omega)
  have eput:fS t bZ rows (a,y)=gU ⟨dH t a y,a.n,y.n⟩ rows:=by
   unfold fS
   rw [if_pos hcp]
   show gU _ (cx a.n y.n rows)=_;rw [hdr];rfl
  generalize dH t a y=wh at z4 eput ⊢
  simp_all! only [h1,h2,D4]
  obtain ⟨row,hrow'⟩:∃ row:aA,aA.mk wh a.n y.n=row:=⟨_,rfl⟩
  have erm:row.m=wh:=by rw [← hrow']
  rw [hrow'] at eput ⊢
  refine oX (V:=aA.v) (lt:=aA.lt) (ys:=rows) (b:=row) (iO:=3) (iA:=12) (iR:=11) rfl rfl rfl (by decide) (by decide) au (fun x hx R hR=>.inr ⟨x,row,rfl,szs x hx,by rw [erm];exact z4,hR⟩) (fun hx hy h k=>tX srt hx hy h k) fun j hj hlow hhigh=>?_
  simp_all! only [au]
  refine ⟨_,j,rfl,rfl,by rw [List.length_map];exact hj,aV (by rw [List.length_map];omega),by omega,?_⟩
  rw [d3]
  refine (hInv _ _ _).mpr ⟨_,_,_,_,_,_,_,_,_,rfl,?_⟩
  rw [ef2,eput,← v9 hj hlow hhigh,List.map_append,List.map_cons,List.map_take,List.map_drop]
 ·intro τ J' hv
  obtain ⟨u4,u5,u6,u7,u8,u9,u10,u11,u12,rfl,rfl⟩:=(hInv _ _ _).mp hv
  rw [List.take_length,← hps,← hks,nI hkn0]
  simp_all! only []
  exact Fg.my (g9 hr') au hr' q
abbrev j7:Stmt:=(top 65)
theorem yr:L2.aw ["_law_lane","_law_legs","_law_clock"] ["_law_lane","_law_legs","_law_clock"] (L2.aj j7):=dk
def tV (cN cL:Addr):b9:=fun xs J Q _=>∃ p L D ep gs,xs=[.ref p,.ref D,fr L.t]∧aW cN cL J p L∧bU L∧J D=some (.dct (bh gs) ep)∧(gs.map (·.1)).Nodup∧gs.length≤20∧(∀ x∈gs,lz 240 x.2)∧De L.t L.fs gs∧Q (.bl true) J
theorem uP {cN cL f:Addr} {fd:FuncData} (F:bQ K "_law_stands" "_law_stands" j7 f fd) (Z:bC mg) (C_part:aZ P w K mg base 2 "_law_part" ["_law_found","_law_due"] kg) (C_words:aZ P w K mg base 1 "_law_words" ["_law_found","_law_due"] w_) (C_order:aZ P w K mg base 3 "_law_order" ["_law_legs","_law_moment"] nt) (C_passrows:aZ P w K mg base 4 "_law_passrows" ["_law_found","_law_due"] nu) (C_ringdue:aZ P w K mg base 4 "_law_ringdue" ["_law_legs","_law_clock"] AV)
  (m_Lane_clock:cf P w K mg base cN 1 "clock" ["self"] (tP cN cL)) (m_Lane_order:cf P w K mg base cN 1 "order" ["self"] (tR cN cL)) (m_Lane_bells:cf P w K mg base cN 7 "bells" ["self"] (tO cN cL)):aH P w K mg base (cF P w) 8 f fd ["_law_lane","_law_legs","_law_clock"] (c8 K (tV cN cL)):=by
 simp_arith [yr]
 ·obtain ⟨p,L,D,ep,gs,rfl,_⟩:=h;rfl
 obtain ⟨p,L,D,ep,gs,rfl,b,ok,hD,hnd,hgl,sg,same,q⟩:=h
 have bo:=b.ob
 have st:Sz 240 L.t:=(wj ok.ts).mono (by decide)
 have e1:cm L.t gs=L.row:=by rw [ok.row];exact sM hnd ok.El fun x=>(same x).symm
 have e2:eA L.t (gs.map (key L.t))=eA L.t (L.fs.map (key L.t)):=uh (by rw [cE];exact hnd) ok.knd fun x=>(same x).symm
 have hrl:=ok.rl
 have hbl:=ui L.t (L.fs.map (key L.t)) ok.knd
 rw [List.length_map] at hbl
 have hfl:=ok.Ek
 refine ⟨_,(ai (aR (cj (bz (aM C_part B hr (by decide) rfl (af (cT (pl:=_) m_Lane_clock B hr (by decide) (rv 0)) (af (rv 2) ah))))) (ak (ay dR)) aE)
   (ai (aR (cj (bz (aM C_words B hr (by decide) rfl (af (cT (pl:=_) m_Lane_order B hr (by decide) (rv 0)) (af (aM C_order B hr (by decide) rfl (af (rv 1) (af (rv 2) ah))) ah))))) (ak (ay dR)) aE)
   (ak (ay (aM C_passrows B hr (by decide) rfl (af (cT (pl:=_) m_Lane_bells B hr (by decide) (rv 0)) (af (aM C_ringdue B hr (by decide) rfl (af (rv 1) (af (rv 2) ah))) ah))))))),?_⟩
 simp_all! only [bo]
 refine ⟨dF _ _ _ _,p,L,rfl,b,L.t,rfl,?_⟩
 simp_all! only [bo]
 refine ⟨dF _ _ _ _,p,L,rfl,b,.inl ?_⟩
 refine ⟨D,gs,ep,L.t,rfl,hD,hnd,by omega,st.mono (by decide),fun x hx=>(sg x hx).mono (by decide),?_⟩
 rw [e1]
 refine ⟨L.row,rfl,by omega,?_⟩
 simp_all! only [bo]
 refine ⟨dF _ _ _ _,p,L,rfl,b,ok,?_⟩
 refine ⟨D,gs,ep,L.t,rfl,hD,hnd,hgl,st,sg,?_⟩
 rw [e2]
 exact ⟨_,_,rfl,rfl,by omega,q⟩
def rh:List aS→Prop
 | a :: b :: r=>b.p=a.at b.m∧rh (b :: r)
 | _=>True
theorem iz:∀ (ls:List aS) (l:aS),rh (ls ++ [l])↔rh ls∧∀ k,ls.getLast?=some k→l.p=k.at l.m
 | [],l=>⟨fun _=>⟨trivial,fun k h=>nomatch h⟩,fun _=>trivial⟩
 | [a],l=>⟨fun h=>⟨trivial,fun k e=>by cases e;exact h.1⟩,fun h=>⟨h.2 a rfl,trivial⟩⟩
 | a :: b :: r,l=>by
  have ih:=iz (b :: r) l
  show (b.p=a.at b.m∧rh ((b :: r) ++ [l]))↔_
  rw [ih,List.getLast?_cons_cons]
  constructor
  ·rintro ⟨h1,h2,h3⟩;exact ⟨⟨h1,h2⟩,h3⟩
  ·rintro ⟨⟨h1,h2⟩,h3⟩;exact ⟨h1,h2,h3⟩
def fY (l l':aS):Prop:=l.v=l'.v∧∀ t,l.at t=l'.at t
theorem fY.key {l l':aS} (h:fY l l') (n:Str) (t:Rat):key t (n,l)=key t (n,l'):=by unfold Ov.key;simp only;rw [h.1,h.2 t]
theorem Bs (l:aS):l.at l.m=l.p:=by unfold aS.at;grind
theorem wJ {l l':aS} {t:Rat} (hv:l.v=l'.v) (h:l.at t=l'.at t):fY l l':=⟨hv,fun s=>by
 unfold aS.at at h ⊢
 rw [hv] at h ⊢
 generalize (l'.v:Rat)=x at h ⊢
 grind⟩
theorem ip {rows:List aS} {t:Rat} {v:Int} (h:rh rows) (ne:rows≠[]):rh (turned rows t v)∧∀ l,rows.getLast?=some l→∀ l',(turned rows t v).getLast?=some l'→fY ⟨t,l.at t,v⟩ l':=by
 obtain ⟨ls,l,rfl⟩:∃ ls l,rows=ls ++ [l]:=⟨rows.dropLast,rows.getLast ne,(List.dropLast_concat_getLast ne).symm⟩
 obtain ⟨h1,h2⟩:=(iz ls l).mp h
 have new:∀ {q:List aS},(q ++ [aS.mk t (l.at t) v]).getLast?=some (aS.mk t (l.at t) v):=fun {q}=>List.getLast?_concat ..
 rw [fN]
 simp only [List.getLast?_concat,Option.some.injEq]
 split
 ·rename_i e
  have el:l.at t=l.p:=by rw [← e];exact Bs l
  split
  ·rename_i ev
   refine ⟨h1,fun l0 h0 l' h'=>?_⟩
   subst h0
   rw [h'] at ev
   have hv:l'.v=v:=Option.some.inj ev
   have hp:=h2 l' h'
   rw [e] at hp
   refine wJ (t:=t) hv.symm ?_
   show l.at t + (t - t) * (v:Rat)=_
   rw [← hp,el];grind
  ·refine ⟨(iz _ _).mpr ⟨h1,fun k hk=>?_⟩,fun l0 h0 l' h'=>?_⟩
   ·show l.at t=k.at t
    rw [el,h2 k hk,e]
   ·subst h0
    rw [new] at h';cases h';exact ⟨rfl,fun _=>rfl⟩
 ·split
  ·rename_i ev
   refine ⟨h,fun l0 h0 l' h'=>?_⟩
   subst h0
   rw [List.getLast?_concat] at h';cases h'
   refine wJ (t:=t) ev.symm ?_
   show l.at t + (t - t) * (v:Rat)=_
   grind
  ·refine ⟨(iz _ _).mpr ⟨h,fun k hk=>?_⟩,fun l0 h0 l' h'=>?_⟩
   ·rw [List.getLast?_concat] at hk;cases hk;rfl
   ·subst h0
    rw [new] at h';cases h';exact ⟨rfl,fun _=>rfl⟩
structure Rl (L:Ln) (gs:List (Str × aS)):Prop where
 nm:gs.map (·.1)=L.fs.map (·.1)
 ln:∀ n l l',(n,l)∈gs→(n,l')∈L.fs→fY l l'
 ck:∀ x∈gs,nL x.2
 le:∀ x∈gs,x.2.m≤L.t
 ct:∀ c∈L.cs,rh c.w
theorem Rl.same {L:Ln} {gs:List (Str × aS)} (h:Rl L gs) (t:Rat):De t L.fs gs:=fun x=>by
 have other:∀ {as bs:List (Str × aS)},as.map (·.1)=bs.map (·.1)→∀ {n l},(n,l)∈as→∃ l',(n,l')∈bs:=fun {as bs} e {n l} hm=>by
  have:n∈bs.map (·.1):=by rw [← e];exact List.mem_map.mpr ⟨_,hm,rfl⟩
  obtain ⟨y,hy,e'⟩:=List.mem_map.mp this
  exact ⟨y.2,by rw [← e'];exact hy⟩
 rw [List.mem_map,List.mem_map]
 constructor
 ·rintro ⟨⟨n,l⟩,hm,rfl⟩
  obtain ⟨l',hl'⟩:=other h.nm.symm hm
  exact ⟨(n,l'),hl',(h.ln n l' l hl' hm).key n t⟩
 ·rintro ⟨⟨n,l⟩,hm,rfl⟩
  obtain ⟨l',hl'⟩:=other h.nm hm
  exact ⟨(n,l'),hl',((h.ln n l l' hm hl').key n t).symm⟩
theorem Rl.sz {L:Ln} {gs:List (Str × aS)} (h:Rl L gs):∀ x∈gs,lz 240 x.2:=fun x hx=>by
 have hk:=h.ck x hx
 exact ⟨hk.Ko.mono (by decide),hk.Kt.mono (by decide),.small (by have:=hk.v;omega) (by have:=hk.v;omega)⟩
theorem Rl.nd {L:Ln} {gs:List (Str × aS)} (h:Rl L gs) (ok:aU L):(gs.map (·.1)).Nodup:=by rw [h.nm];exact ok.El
theorem Rl.len {L:Ln} {gs:List (Str × aS)} (h:Rl L gs):gs.length=L.fs.length:=by have:=congrArg List.length h.nm;rw [List.length_map,List.length_map] at this;exact this
theorem Ao {fs:List (Str × aS)} {n:Str} {l:aS} (hm:n∈fs.map (·.1)):qo (bh fs) n l.V=bh (fs.map fun x=>if x.1=n then (x.1,l) else x):=by
 unfold qo bh
 rw [if_pos,List.map_map,List.map_map]
 ·refine List.map_congr_left fun x _=>?_
  show (if x.1=n then (x.1,l.V) else (x.1,x.2.V))=_
  show _=((if x.1=n then (x.1,l) else x).1,(if x.1=n then (x.1,l) else x).2.V)
  split <;> rfl
 ·obtain ⟨x,hx,e⟩:=List.mem_map.mp hm
  rw [List.any_eq_true]
  exact ⟨(x.1,x.2.V),List.mem_map.mpr ⟨x,hx,rfl⟩,decide_eq_true e⟩
def pw (n:Str) (t:Rat) (v:Int) (gs:List (Str × aS)):List (Str × aS):=gs.map fun x=>if x.1=n then (x.1,⟨t,x.2.at t,v⟩) else x
def gY (t:Rat) (gs:List (Str × aS)):List (Str × aS):=gs.map fun x=>(x.1,⟨t,x.2.at t,-x.2.v⟩)
theorem ze {L:Ln} {f:Cf→Cf} (hn:∀ c,(f c).n=c.n∧(f c).a=c.a∧(f c).r=c.r∧(f c).g=c.g) {L':Ln} (e:L'.cs=L.cs.map f):L'.fs=L.yJ.map fun c=>(c.n,(f c).cur):=by
 unfold Ln.fs Ln.yJ
 rw [e,List.filter_map,List.map_map]
 have e1:(fun c:Cf=>c.g.isNone) ∘ f=fun c=>c.g.isNone:=by funext c;show (f c).g.isNone=_;rw [(hn c).2.2.2]
 rw [e1]
 exact List.map_congr_left fun c _=>by show ((f c).n,(f c).cur)=_;rw [(hn c).1]
theorem rK {c:Cf} {t:Rat} {v:Int} (h:rh c.w) (ne:c.w≠[]):fY ⟨t,c.cur.at t,v⟩ (c.turn t v).cur:=by
 have h1:=(Cf.fw ne).1
 have h2:=(Cf.fw (c:=c.turn t v) (pz ne)).1
 exact (ip h ne).2 _ h1 _ h2
theorem fY.turn {l l':aS} (h:fY l l') (t:Rat) (v:Int):fY ⟨t,l.at t,v⟩ ⟨t,l'.at t,v⟩:=by rw [h.2 t];exact ⟨rfl,fun _=>rfl⟩
theorem fY.trans {l l' l'':aS} (h:fY l l') (k:fY l' l''):fY l l'':=⟨h.1.trans k.1,fun t=>(h.2 t).trans (k.2 t)⟩
theorem Rl.turn {L L':Ln} {gs:List (Str × aS)} (h:Rl L gs) (ok:aU L) {n:Str} {v:Int} (hv:v.natAbs≤1000) (e:L'.cs=L.cs.map (cM n L.t v)) (et:L'.t=L.t):Rl L' (pw n L.t v gs):=by
 have hn:=km n L.t v
 have hfs:=ze hn e
 have nm:(pw n L.t v gs).map (·.1)=gs.map (·.1):=by
  unfold pw;rw [List.map_map];exact List.map_congr_left fun x _=>by show (if x.1=n then (x.1,_) else x).1=x.1;split <;> rfl
 refine ⟨?_,?_,?_,?_,?_⟩
 ·rw [nm,h.nm,hfs];unfold Ln.fs;rw [List.map_map,List.map_map];rfl
 ·intro m l l' hl hl'
  obtain ⟨x,hx,ex⟩:=List.mem_map.mp hl
  rw [hfs] at hl'
  obtain ⟨c,hc,ec⟩:=List.mem_map.mp hl'
  have hcs:=(Ln.cV.mp hc).1
  have hold:(c.n,c.cur)∈L.fs:=List.mem_map.mpr ⟨c,hc,rfl⟩
  cases ec
  by_cases z:x.1=n
  ·rw [if_pos z] at ex
   have ex1:x.1=c.n:=(Prod.mk.inj ex).1
   have ex2:aS.mk L.t (x.2.at L.t) v=l:=(Prod.mk.inj ex).2
   subst ex2
   have hs:=h.ln x.1 x.2 c.cur hx (by rw [ex1];exact hold)
   have zc:c.n=n:=by rw [← z];exact ex1.symm
   unfold cM
   rw [if_pos zc]
   exact (hs.turn L.t v).trans (rK (h.ct c hcs) (ok.ne c hcs))
  ·rw [if_neg z] at ex
   subst ex
   have zc:¬ c.n=n:=z
   unfold cM
   rw [if_neg zc]
   exact h.ln c.n l c.cur hx hold
 ·intro x hx
  obtain ⟨y,hy,rfl⟩:=List.mem_map.mp hx
  split
  ·exact (h.ck y hy).at (h.le y hy) ok.ts hv
  ·exact h.ck y hy
 ·intro x hx
  rw [et]
  obtain ⟨y,hy,rfl⟩:=List.mem_map.mp hx
  split
  ·exact Rat.le_refl
  ·exact h.le y hy
 ·intro c hc
  rw [e] at hc
  obtain ⟨c0,h0,rfl⟩:=List.mem_map.mp hc
  unfold cM
  split
  ·exact (ip (h.ct c0 h0) (ok.ne c0 h0)).1
  ·exact h.ct c0 h0
theorem rA (t:Rat) (c:Cf):(du t c).n=c.n∧(du t c).a=c.a∧(du t c).r=c.r∧(du t c).g=c.g:=by unfold du;split <;> exact ⟨rfl,rfl,rfl,rfl⟩
theorem Rl.about {L L':Ln} {gs:List (Str × aS)} (h:Rl L gs) (ok:aU L) (e:L'.cs=L.cs.map (du L.t)) (et:L'.t=L.t):Rl L' (gY L.t gs):=by
 have hn:=rA L.t
 have hfs:=ze hn e
 have nm:(gY L.t gs).map (·.1)=gs.map (·.1):=by
  unfold gY;rw [List.map_map];rfl
 refine ⟨?_,?_,?_,?_,?_⟩
 ·rw [nm,h.nm,hfs];unfold Ln.fs;rw [List.map_map,List.map_map];rfl
 ·intro m l l' hl hl'
  obtain ⟨x,hx,ex⟩:=List.mem_map.mp hl
  rw [hfs] at hl'
  obtain ⟨c,hc,ec⟩:=List.mem_map.mp hl'
  have hcs:=Ln.cV.mp hc
  have hold:(c.n,c.cur)∈L.fs:=List.mem_map.mpr ⟨c,hc,rfl⟩
  cases ec
  obtain ⟨xn,xl⟩:=x
  cases ex
  have hs:=h.ln c.n xl c.cur hx hold
  have ea:du L.t c=c.turn L.t (-c.cur.v):=by unfold du;rw [if_pos (by rw [hcs.2];rfl)]
  rw [ea,hs.1]
  exact (hs.turn L.t _).trans (rK (h.ct c hcs.1) (ok.ne c hcs.1))
 ·intro x hx
  obtain ⟨y,hy,rfl⟩:=List.mem_map.mp hx
  exact (h.ck y hy).at (h.le y hy) ok.ts (by have:=(h.ck y hy).v;omega)
 ·intro x hx
  rw [et]
  obtain ⟨y,hy,rfl⟩:=List.mem_map.mp hx
  exact Rat.le_refl
 ·intro c hc
  rw [e] at hc
  obtain ⟨c0,h0,rfl⟩:=List.mem_map.mp hc
  unfold du
  split
  ·exact (ip (h.ct c0 h0) (ok.ne c0 h0)).1
  ·exact h.ct c0 h0
theorem Rl.join {L L':Ln} {gs:List (Str × aS)} (h:Rl L gs) (ok':aU L') {n:Str} {x v:Int} (hv:v.natAbs≤1000) (hx:x.natAbs≤1000000) (j:L.joined n x v L') (t0:0≤L.t) (ts:Sc fP MM L.t) (hnew:n ∉ L.fs.map (·.1)):Rl L' (gs ++ [(n,⟨L.t,(x:Rat),v⟩)]):=by
 obtain ⟨a,r,ecs,et⟩:=j
 have efs:L'.fs=L.fs ++ [(n,⟨L.t,(x:Rat),v⟩)]:=vV L ecs rfl
 refine ⟨?_,?_,?_,?_,?_⟩
 ·rw [efs,List.map_append,List.map_append,h.nm]
 ·intro m l l' hl hl'
  rw [efs] at hl'
  have h1:∀ {k},(n,k)∈gs→False:=fun hk=>hnew (by rw [← h.nm];exact List.mem_map.mpr ⟨_,hk,rfl⟩)
  have h2:∀ {k},(n,k)∈L.fs→False:=fun hk=>hnew (List.mem_map.mpr ⟨_,hk,rfl⟩)
  rcases List.mem_append.mp hl with hl | hl <;> rcases List.mem_append.mp hl' with hl' | hl'
  ·exact h.ln m l l' hl hl'
  ·rw [List.mem_singleton] at hl';cases hl';exact (h1 hl).elim
  ·rw [List.mem_singleton] at hl;cases hl;exact (h2 hl').elim
  ·rw [List.mem_singleton] at hl hl';cases hl;cases hl';exact ⟨rfl,fun _=>rfl⟩
 ·intro y hy
  rcases List.mem_append.mp hy with hy | hy
  ·exact h.ck y hy
  ·rw [List.mem_singleton] at hy;subst hy;exact nL.new t0 ts hx hv
 ·intro y hy
  rw [et]
  rcases List.mem_append.mp hy with hy | hy
  ·exact h.le y hy
  ·rw [List.mem_singleton] at hy;subst hy;exact Rat.le_refl
 ·intro c hc
  rw [ecs] at hc
  rcases List.mem_append.mp hc with hc | hc
  ·exact h.ct c hc
  ·rw [List.mem_singleton] at hc;subst hc;exact trivial
def dX (n:Str) (gs:List (Str × aS)):List (Str × aS):=gs.filter fun x=>decide (x.1≠n)
theorem Rl.leave {L L':Ln} {gs:List (Str × aS)} (h:Rl L gs) {n:Str} (e:L'.cs=L.cs.map (bp n L.t)) (et:L'.t=L.t):Rl L' (dX n gs):=by
 have hfs:L'.fs=L.fs.filter fun x=>decide (x.1≠n):=rZ e
 have hf:∀ l:List (Str × aS),(l.filter fun x=>decide (x.1≠n)).map (·.1)=(l.map (·.1)).filter fun y=>decide (y≠n):=fun l=>by rw [List.filter_map];rfl
 refine ⟨?_,?_,?_,?_,?_⟩
 ·unfold dX;rw [hf,hfs,hf,h.nm]
 ·intro m l l' hl hl'
  rw [hfs] at hl'
  exact h.ln m l l' (List.mem_filter.mp hl).1 (List.mem_filter.mp hl').1
 ·intro x hx;exact h.ck x (List.mem_filter.mp hx).1
 ·intro x hx;rw [et];exact h.le x (List.mem_filter.mp hx).1
 ·intro c hc
  rw [e] at hc
  obtain ⟨c0,h0,rfl⟩:=List.mem_map.mp hc
  rw [(dD n L.t c0).2.2.2];exact h.ct c0 h0
abbrev lW:Stmt:=(top 59)
theorem tF:L2.aw ["_law_legs","_law_clock","_law_deed_here","_law_name"] ["_law_legs","_law_clock","_law_deed_here"] (L2.aj lW):=dk
def fg (n:Str) (x v:Int):PV:=.tup [.str "join",.str n,.int x,.int v]
def gR (n:Str) (v:Int):PV:=.tup [.str "turn",.str n,.int v]
def gm:PV:=.tup [.str "about"]
def fR (n:Str):PV:=.tup [.str "leave",.str n]
def Dh (m:Rat):PV:=.tup [.str "go",fr m]
def qT:b9:=fun xs J Q _=>∃ (D:Addr) (gs:List (Str × aS)) (ep:Nat) (t:Rat) (dv:PV),xs=[.ref D,fr t,dv]∧J D=some (.dct (bh gs) ep)∧(gs.map (·.1)).Nodup∧gs.length≤100∧Sz 900 t∧(∀ x∈gs,lz 900 x.2) ∧
 ((∃ n x v,dv=fg n x v∧n ∉ gs.map (·.1)∧∀ ep',Q (fr t) (put J D (.dct (bh (gs ++ [(n,⟨t,(x:Rat),v⟩)])) ep'))) ∨
  (∃ n v,dv=gR n v∧n∈gs.map (·.1)∧∀ ep',Q (fr t) (put J D (.dct (bh (pw n t v gs)) ep'))) ∨
  (dv=gm∧∀ ep',Q (fr t) (put J D (.dct (bh (gY t gs)) ep'))) ∨
  (∃ n,dv=fR n∧n∈gs.map (·.1)∧∀ ep',Q (fr t) (put J D (.dct (bh (dX n gs)) ep'))) ∨
  (∃ m,dv=Dh m∧Q (fr m) J))
theorem DX:(("join":Str)="go")=False:=eq_false (by decide +kernel)
theorem DZ:(("turn":Str)="go")=False:=eq_false (by decide +kernel)
theorem DW:(("about":Str)="go")=False:=eq_false (by decide +kernel)
theorem Ef {c:jk} {a u:gP} {D:En} {τ:Sr} {J:Hq} (hc:∀ R:Bool→Hq→Prop,R false J→c τ J R) (hu:u D τ J):Ay (vd c a mY) u D τ J :=
 ⟨fun τ' J'=>τ'=τ∧J'=J,hc _ (by rw [if_neg (by decide)];exact ⟨rfl,rfl⟩),fun τ' J' h=>by obtain ⟨rfl,rfl⟩:=h;exact hu⟩
theorem eJ {c:jk} {a u:gP} {D:En} {τ:Sr} {J:Hq} (M:Sr→Hq→Prop) (hc:∀ R:Bool→Hq→Prop,R true J→c τ J R) (ha:a { D with nx:=M } τ J) (hu:∀ τ' J',M τ' J'→u D τ' J'):Ay (vd c a mY) u D τ J :=
 ⟨M,hc _ (by rw [if_pos rfl];exact ha),hu⟩
theorem xt {x y:Str} {i:Nat} {dv:PV} {τ:Sr} {J:Hq} (h:τ[i]?=some (some dv)) (h0:eD J dv (.int 0)=some (.str x)) (R:Bool→Hq→Prop) (hr:R (decide (x=y)) J):rB (rg (DH id) (rg DI (gA i) (rC (.int 0))) (rC (.str y))) τ J R :=
 ⟨dv,h,.str x,h0,⟨rfl,by simp [fu,dep]⟩,rfl,_,rfl,by rw [eq_str];exact hr⟩
theorem cO {x y:Str} {i:Nat} {dv:PV} {τ:Sr} {J:Hq} {a u:gP} {D:En} (h:τ[i]?=some (some dv)) (h0:eD J dv (.int 0)=some (.str x)) (n:decide (x=y)=false) (hu:u D τ J):Ay (vd (rB (rg (DH id) (rg DI (gA i) (rC (.int 0))) (rC (.str y)))) a mY) u D τ J:=Ef (fun R hr'=>xt h h0 R (by rw [n];exact hr')) hu
theorem pM {x:Str} {i:Nat} {dv:PV} {τ:Sr} {J:Hq} (h:τ[i]?=some (some dv)) (h0:eD J dv (.int 0)=some (.str x)) (R:Bool→Hq→Prop) (hr:R true J):rB (rg (DH id) (rg DI (gA i) (rC (.int 0))) (rC (.str x))) τ J R:=xt h h0 R (by rw [decide_eq_true rfl];exact hr)
def dS (t:Rat) (gs:List (Str × aS)) (i:Nat):List (Str × aS):=gY t (gs.take i) ++ gs.drop i
theorem oK (t:Rat) (gs:List (Str × aS)) (i:Nat):(dS t gs i).map (·.1)=gs.map (·.1):=by
 unfold dS gY
 rw [List.map_append,List.map_map]
 have:((gs.take i).map ((fun x:Str × aS=>x.1) ∘ fun x=>(x.1,(⟨t,x.2.at t,-x.2.v⟩:aS))))=(gs.take i).map (·.1):=List.map_congr_left fun _ _=>rfl
 rw [this,← List.map_append,List.take_append_drop]
theorem rD (t:Rat) (gs:List (Str × aS)) (hnd:(gs.map (·.1)).Nodup) (i:Nat) (h:i < gs.length):(dS t gs i).map (fun x=>if x.1=gs[i].1 then (x.1,(⟨t,gs[i].2.at t,-gs[i].2.v⟩:aS)) else x)=dS t gs (i + 1):=by
 have hd:gs.drop i=gs[i] :: gs.drop (i + 1):=List.drop_eq_getElem_cons h
 have ht:gs.take (i + 1)=gs.take i ++ [gs[i]]:=by rw [List.take_add_one,List.getElem?_eq_getElem h];rfl
 have hn2:(gs.map (·.1))=(gs.take i).map (·.1) ++ (gs[i].1 :: (gs.drop (i + 1)).map (·.1)):=by
  rw [← List.map_cons (f:=fun x:Str × aS=>x.1),← hd,← List.map_append,List.take_append_drop]
 rw [hn2,List.nodup_append] at hnd
 unfold dS gY
 rw [hd,ht,List.map_append,List.map_append,List.map_cons,if_pos rfl,List.append_assoc]
 congr 1
 ·rw [List.map_map]
  refine List.map_congr_left fun x hx=>?_
  show (if x.1=gs[i].1 then _ else _)=_
  rw [if_neg (hnd.2.2 x.1 (List.mem_map.mpr ⟨x,hx,rfl⟩) gs[i].1 (by simp))]
 ·show _ :: _=_ :: _
  congr 1
  have hno:=(List.nodup_cons.mp hnd.2.1).1
  have:∀ x∈gs.drop (i + 1),(if x.1=gs[i].1 then (x.1,(⟨t,gs[i].2.at t,-gs[i].2.v⟩:aS)) else x)=x:=fun x hx=>if_neg fun z=>hno (by rw [← z];exact List.mem_map.mpr ⟨x,hx,rfl⟩)
  rw [List.map_congr_left this,List.map_id']
  rfl
theorem DY:(("leave":Str)="go")=False:=eq_false (by decide +kernel)
theorem x8 {f:Addr} {fd:FuncData} (F:bQ K "_law_acted" "_law_acted" lW f fd) (Z:bC mg) (C_at:aZ P w K mg base 2 "_law_at" ["_law_leg","_law_moment"] jh):aH P w K mg base (cF P w) 3 f fd ["_law_legs","_law_clock","_law_deed_here"] (c8 K qT):=by
 simp_arith [tF]
 ·obtain ⟨D,gs,ep,t,dv,rfl,_⟩:=h;rfl
 obtain ⟨D,gs,ep,t,dv,rfl,hD,hnd,hlen,st,sl,h⟩:=h
 refine ⟨_,(dn (aR (aD (cy hr.aT) (aq av (rv 2) ag (fun _ _=>rfl)) bD (L2.ax _)) (ak (m5 kj (rv 0) (aq av (rv 2) ag (fun _ _=>rfl)) (cu (af (rv 1) (af (cu (af (aq av (rv 2) ag (fun _ _=>rfl)) (af ag ah))) (af (aq av (rv 2) ag (fun _ _=>rfl)) ah)))))) aE)
   (dn (aR (aD (cy hr.aT) (aq av (rv 2) ag (fun _ _=>rfl)) bD (L2.ax _)) (ak (aX (jc PySem.F.plainAttrs_dict PySem.F.slot_dict_pop PySem.F.type_dict_pop wm (rv 0) (af (aq av (rv 2) ag (fun _ _=>rfl)) ah)))) aE)
   (dn (aR (aD (cy hr.aT) (aq av (rv 2) ag (fun _ _=>rfl)) bD (L2.ax _)) (ak (m5 kj (rv 0) (aq av (rv 2) ag (fun _ _=>rfl)) (cu (af (rv 1) (af (aM C_at B hr (by decide) rfl (af (aq cG (rv 0) (aq av (rv 2) ag (fun _ _=>rfl)) (fun _ _=>rfl)) (af (rv 1) ah))) (af (aq av (rv 2) ag (fun _ _=>rfl)) ah)))))) aE)
   (dn (aR (aD (cy hr.aT) (aq av (rv 2) ag (fun _ _=>rfl)) bD (L2.ax _)) (ak (dM bI rfl (eO (gd (mn rfl) rfl Z.list boot_list (af (rv 0) ah))) (bj (i:=3) tF.nd rfl (Or.inl rfl)) (ak (m5 kj (rv 0) (rv 3) (cu (af (rv 1) (af (aM C_at B hr (by decide) rfl (af (aq cG (rv 0) (rv 3) (fun _ _=>rfl)) (af (rv 1) ah))) (af (pd k7 (aq av (aq cG (rv 0) (rv 3) (fun _ _=>rfl)) ag (fun _ _=>rfl))) ah)))))))) aE)
   (ai (aR (aD (cy hr.aT) (aq av (rv 2) ag (fun _ _=>rfl)) bD (L2.ax _)) (ak (ay (aq av (rv 2) ag (fun _ _=>rfl)))) aE)
   (ak (ay (rv 1)))))))),?_⟩
 rcases h with ⟨n,x,v,rfl,hn,q⟩ | ⟨n,v,rfl,hn,q⟩ | ⟨rfl,q⟩ | ⟨n,rfl,hn,q⟩ | ⟨m,rfl,q⟩
 ·have i0:∀ J,eD J (fg n x v) (.int 0)=some (.str "join"):=fun J=>c6 _ _
  have i1:∀ J,eD J (fg n x v) (.int 1)=some (.str n):=fun J=>eI _ _ _
  have i2:∀ J,eD J (fg n x v) (.int 2)=some (.int x):=fun J=>i_ _ _ _ _
  have i3:∀ J,eD J (fg n x v) (.int 3)=some (.int v):=fun J=>rfl
  refine eJ (fun τ' J'=>∃ ep',τ'=[some (.ref D),some (fr t),some (fg n x v),none]∧J'=put J D (.dct (bh (gs ++ [(n,⟨t,(x:Rat),v⟩)])) ep')) (pM rfl (i0 _)) ?_ ?_
  ·simp_all! only [i1,i2,i3,hD,Eo,t4]
   refine ⟨aV (by unfold bh;rw [List.length_map];omega),fun ep'=>⟨ep',?_⟩⟩
   have epu:qo (bh gs) n (aS.mk t (x:Rat) v).V=bh (gs ++ [(n,⟨t,(x:Rat),v⟩)]):=qp (f:=aS.V) (l:=⟨t,(x:Rat),v⟩) hn
   rw [epu]
  rintro τ' J' ⟨ep',rfl,rfl⟩
  refine cO rfl (i0 _) (by decide +kernel) ?_
  refine cO rfl (i0 _) (by decide +kernel) ?_
  refine cO rfl (i0 _) (by decide +kernel) ?_
  simp_all! only [i0,DX,if_false]
  exact q ep'
 ·have i0:∀ J,eD J (gR n v) (.int 0)=some (.str "turn"):=fun J=>c6 _ _
  have i1:∀ J,eD J (gR n v) (.int 1)=some (.str n):=fun J=>eI _ _ _
  have i2:∀ J,eD J (gR n v) (.int 2)=some (.int v):=fun J=>i_ _ _ _ _
  refine cO rfl (i0 _) (by decide +kernel) ?_
  refine cO rfl (i0 _) (by decide +kernel) ?_
  refine eJ (fun τ' J'=>∃ ep',τ'=[some (.ref D),some (fr t),some (gR n v),none]∧J'=put J D (.dct (bh (pw n t v gs)) ep')) (pM rfl (i0 _)) ?_ ?_
  ·obtain ⟨l,hl,hvl⟩:=l_ (f:=aS.V) hnd hn
   have hvl:i9 (bh gs) n=some l.V:=hvl
   have sll:=sl _ hl
   simp_all! only [i1,i2,hD,hvl]
   refine ⟨l,t,rfl,sll.m,sll.p,st,sll.v,?_⟩
   simp_all! only [i1,i2,hD,t4]
   refine ⟨aV (by unfold bh;rw [List.length_map];omega),fun ep'=>⟨ep',?_⟩⟩
   rw [Ao hn]
   have:(gs.map fun x=>if x.1=n then (x.1,(⟨t,l.at t,v⟩:aS)) else x)=pw n t v gs:=List.map_congr_left fun x hx=>by
    by_cases z:x.1=n
    ·have hx':i9 (bh gs) n=some x.2.V:=fq (f:=aS.V) hnd (by rw [← z];exact hx)
     rw [hvl] at hx'
     have ex:l=x.2:=by have:=Option.some.inj hx';rw [F2] at this;exact this
     rw [if_pos z,if_pos z,ex]
    ·rw [if_neg z,if_neg z]
   rw [this]
  rintro τ' J' ⟨ep',rfl,rfl⟩
  refine cO rfl (i0 _) (by decide +kernel) ?_
  simp_all! only [i0,DZ,if_false]
  exact q ep'
 ·have i0:∀ J,eD J gm (.int 0)=some (.str "about"):=fun J=>c6 _ _
  refine cO rfl (i0 _) (by decide +kernel) ?_
  refine cO rfl (i0 _) (by decide +kernel) ?_
  refine cO rfl (i0 _) (by decide +kernel) ?_
  refine eJ (fun τ' J'=>∃ u ep',τ'=[some (.ref D),some (fr t),some gm,u]∧J'=put J D (.dct (bh (gY t gs)) ep')) (pM rfl (i0 _)) ?_ ?_
  ·simp_all! only [hD]
   have hkv:(bh gs).map (fun kv=>PV.str kv.1)=gs.map fun x=>PV.str x.1:=by unfold bh;rw [List.map_map];rfl
   rw [hkv]
   obtain ⟨Inv,hInv⟩:∃ Inv:Nat→Sr→Hq→Prop,∀ i τ J',Inv i τ J'↔∃ (u:Option PV) (ep':Nat),τ=[some (.ref D),some (fr t),some gm,u]∧J'=put J D (.dct (bh (dS t gs i)) ep'):=⟨_,fun _ _ _=>Iff.rfl⟩
   refine fe Inv ((hInv _ _ _).mpr ⟨_,ep,rfl,by show J=put J D (.dct (bh gs) ep);rw [qs hD]⟩) (fun _ _ _ _=>trivial) ?_ ?_
   ·intro i x τ J' hx hv
    obtain ⟨u,ep',rfl,rfl⟩:=(hInv _ _ _).mp hv
    clear hv
    have hi:i < gs.length:=by have:=(List.getElem?_eq_some_iff.mp hx).1;simpa using this
    rw [List.getElem?_map,List.getElem?_eq_getElem hi] at hx
    cases hx
    have hnd':((dS t gs i).map (·.1)).Nodup:=by rw [oK];exact hnd
    have hmem:gs[i]∈dS t gs i:=by unfold dS;rw [List.drop_eq_getElem_cons hi];exact List.mem_append.mpr (.inr List.mem_cons_self)
    have hva:i9 (bh (dS t gs i)) gs[i].1=some gs[i].2.V:=fq (f:=aS.V) hnd' hmem
    have hstep:=rD t gs hnd i hi
    have hin:gs[i].1∈(dS t gs i).map (·.1):=List.mem_map.mpr ⟨_,hmem,rfl⟩
    have hlen':(dS t gs i).length=gs.length:=by have:=congrArg List.length (oK t gs i);rw [List.length_map,List.length_map] at this;exact this
    have sll:=sl _ (List.getElem_mem hi)
    generalize gs[i]=y at hva hstep hin sll ⊢
    simp_all! only [au,hva]
    refine ⟨y.2,t,rfl,sll.m,sll.p,st,sll.v,?_⟩
    simp_all! only [au,hva,jO,t4]
    refine ⟨aV (by unfold bh;rw [List.length_map];omega),fun ep2=>(hInv _ _ _).mpr ⟨_,ep2,rfl,?_⟩⟩
    rw [d3,Ao hin,hstep]
   ·intro τ J' hv
    obtain ⟨u,ep',rfl,rfl⟩:=(hInv _ _ _).mp hv
    refine ⟨u,rfl,ep',?_⟩
    rw [List.length_map]
    unfold dS
    rw [List.take_length,List.drop_length,List.append_nil]
  rintro τ' J' ⟨u,ep',rfl,rfl⟩
  simp_all! only [i0,DW,if_false]
  exact q ep'
 ·have i0:∀ J,eD J (fR n) (.int 0)=some (.str "leave"):=fun J=>c6 _ _
  have i1:∀ J,eD J (fR n) (.int 1)=some (.str n):=fun J=>eI _ _ _
  refine cO rfl (i0 _) (by decide +kernel) ?_
  refine eJ (fun τ' J'=>∃ ep',τ'=[some (.ref D),some (fr t),some (fR n),none]∧J'=put J D (.dct (bh (dX n gs)) ep')) (pM rfl (i0 _)) ?_ ?_
  ·obtain ⟨l,hl,hvl⟩:=l_ (f:=aS.V) hnd hn
   have hvl:i9 (bh gs) n=some l.V:=hvl
   simp_all! only [i1,hD,hvl]
   have edr:xC (bh gs) n=bh (dX n gs):=by unfold xC bh dX;rw [List.filter_map];rfl
   intro ep'
   exact ⟨ep',by rw [edr]⟩
  rintro τ' J' ⟨ep',rfl,rfl⟩
  refine cO rfl (i0 _) (by decide +kernel) ?_
  refine cO rfl (i0 _) (by decide +kernel) ?_
  simp_all! only [i0,DY,if_false]
  exact q ep'
 ·have i0:∀ J,eD J (Dh m) (.int 0)=some (.str "go"):=fun J=>c6 _ _
  have i1:∀ J,eD J (Dh m) (.int 1)=some (fr m):=fun J=>eI _ _ _
  refine cO rfl (i0 _) (by decide +kernel) ?_
  refine cO rfl (i0 _) (by decide +kernel) ?_
  refine cO rfl (i0 _) (by decide +kernel) ?_
  refine cO rfl (i0 _) (by decide +kernel) ?_
  simp_all! only [i0,i1,if_true]
  exact q
abbrev qE:Stmt:=(top 60)
theorem CN:L2.aw ["_law_lane","_law_deed_here"] ["_law_lane","_law_deed_here"] (L2.aj qE):=dk
def vo (cN cL T:Addr):b9:=fun xs J Q _=>∃ p L dv,xs=[.ref p,dv]∧aW cN cL J p L∧bU L ∧
 ((∃ n x v,dv=fg n x v∧J T=some .tab∧good n=true∧FN x v∧n ∉ L.cs.map Cf.n∧L.row.length < 12∧L.cs.length < 100∧n.length≤sizeLine∧∀ J' L',aW cN cL J' p L'→bU L'→L.joined n x v L'→Mv J J' (L.own p) (L'.own p)→Q (.fl []) J') ∨
  (∃ n v,dv=gR n v∧n∈L.row∧v.natAbs≤1000∧(∀ c∈L.cs,c.w.length < 200)∧∀ J' L',aW cN cL J' p L'→bU L'→L'.cs=L.cs.map (cM n L.t v)→L'.t=L.t→Mv J J' (L.own p) (L'.own p)→Q (.fl []) J') ∨
  (dv=gm∧(∀ c∈L.cs,c.w.length < 200)∧∀ J' L',aW cN cL J' p L'→bU L'→L'.cs=L.cs.map (du L.t)→L'.t=L.t→Mv J J' (L.own p) (L'.own p)→Q (.fl []) J') ∨
  (∃ n,dv=fR n∧n∈L.row∧∀ J' L',aW cN cL J' p L'→bU L'→L'.cs=L.cs.map (bp n L.t)→L'.t=L.t→Mv J J' (L.own p) (L'.own p)→Q (.fl []) J') ∨
  (∃ m:Rat,dv=Dh m∧fz m.num m.den=true∧L.t≤m∧∀ J' o',aW cN cL J' p { L with t:=m,o:=o',row:=cm m L.fs }→bU { L with t:=m,o:=o',row:=cm m L.fs }→Mv J J' (L.own p) (Ln.own { L with t:=m,o:=o',row:=cm m L.fs } p)→Q (.fl ((mS L.t (L.fs.map (key L.t)) m).map aA.v)) J'))
theorem zW {cN cL T eB eF eT eU eC eM eP f:Addr} {fd:FuncData} (F:bQ K "_law_done" "_law_done" qE f fd) (Z:bC mg) (m_Lane_join:cf P w K mg base cN 8 "join" ["self","name","place","pace"] (wY cN cL T eB eF eT eU)) (m_Lane_leave:cf P w K mg base cN 2 "leave" ["self","name"] (nk cN cL eC)) (m_Lane_turn:cf P w K mg base cN 8 "turn" ["self","name","pace"] (w6 cN cL eC eF)) (m_Lane_about:cf P w K mg base cN 8 "about" ["self"] (tN cN cL)) (m_Lane_go_to:cf P w K mg base cN 8 "go_to" ["self","moment"] (AU cN cL eM eP)):aH P w K mg base (cF P w) 9 f fd ["_law_lane","_law_deed_here"] (c8 K (vo cN cL T)):=by
 simp_arith [CN]
 ·obtain ⟨p,L,dv,rfl,_⟩:=h;rfl
 obtain ⟨p,L,dv,rfl,b,ok,h⟩:=h
 have bo:=b.ob
 refine ⟨_,(dn (aR (aD (cy hr.aT) (aq av (rv 1) ag (fun _ _=>rfl)) bD (L2.ax _)) (ak (aX (aY (pl:=_) m_Lane_join B hr (by decide) (rv 0) (af (aq av (rv 1) ag (fun _ _=>rfl)) (af (aq av (rv 1) ag (fun _ _=>rfl)) (af (aq av (rv 1) ag (fun _ _=>rfl)) ah)))))) aE)
   (dn (aR (aD (cy hr.aT) (aq av (rv 1) ag (fun _ _=>rfl)) bD (L2.ax _)) (ak (aX (aY (pl:=_) m_Lane_leave B hr (by decide) (rv 0) (af (aq av (rv 1) ag (fun _ _=>rfl)) ah)))) aE)
   (dn (aR (aD (cy hr.aT) (aq av (rv 1) ag (fun _ _=>rfl)) bD (L2.ax _)) (ak (aX (aY (pl:=_) m_Lane_turn B hr (by decide) (rv 0) (af (aq av (rv 1) ag (fun _ _=>rfl)) (af (aq av (rv 1) ag (fun _ _=>rfl)) ah))))) aE)
   (dn (aR (aD (cy hr.aT) (aq av (rv 1) ag (fun _ _=>rfl)) bD (L2.ax _)) (ak (aX (cT (pl:=_) m_Lane_about B hr (by decide) (rv 0)))) aE)
   (ai (aR (aD (cy hr.aT) (aq av (rv 1) ag (fun _ _=>rfl)) bD (L2.ax _)) (ak (ay (aY (pl:=_) m_Lane_go_to B hr (by decide) (rv 0) (af (aq av (rv 1) ag (fun _ _=>rfl)) ah)))) aE)
   (ak (ay (tj ah)))))))),?_⟩
 rcases h with ⟨n,x,v,rfl,hT,hg,hb,hn,hr12,hc,hl,q⟩ | ⟨n,v,rfl,hn,hv,hw,q⟩ | ⟨rfl,hw,q⟩ | ⟨n,rfl,hn,q⟩ | ⟨m,rfl,hg,hm,q⟩
 ·have i0:∀ J,eD J (fg n x v) (.int 0)=some (.str "join"):=fun J=>c6 _ _
  have i1:∀ J,eD J (fg n x v) (.int 1)=some (.str n):=fun J=>eI _ _ _
  have i2:∀ J,eD J (fg n x v) (.int 2)=some (.int x):=fun J=>i_ _ _ _ _
  have i3:∀ J,eD J (fg n x v) (.int 3)=some (.int v):=fun J=>rfl
  refine eJ (fun τ' J'=>τ'=[some (.ref p),some (fg n x v)]∧Q (.fl []) J') (pM rfl (i0 _)) ?_ ?_
  ·simp_all! only [bo,i1,i2,i3]
   exact ⟨dF _ _ _ _,p,L,n,x,v,rfl,b,ok,hT,hl,hc,(fun z=>by rw [hg] at z;cases z),(fun _ z=>absurd hb z),(fun _ _ z=>absurd z hn),(fun _ _ _ z=>by omega),fun _ _ _ _ J1 L1 b1 ok1 jn mv=>q J1 L1 b1 ok1 jn mv⟩
  rintro τ' J' ⟨rfl,hq⟩
  refine cO rfl (i0 _) (by decide +kernel) ?_
  refine cO rfl (i0 _) (by decide +kernel) ?_
  refine cO rfl (i0 _) (by decide +kernel) ?_
  simp_all! only [i0,DX,if_false]
  exact hq
 ·have i0:∀ J,eD J (gR n v) (.int 0)=some (.str "turn"):=fun J=>c6 _ _
  have i1:∀ J,eD J (gR n v) (.int 1)=some (.str n):=fun J=>eI _ _ _
  have i2:∀ J,eD J (gR n v) (.int 2)=some (.int v):=fun J=>i_ _ _ _ _
  refine cO rfl (i0 _) (by decide +kernel) ?_
  refine cO rfl (i0 _) (by decide +kernel) ?_
  refine eJ (fun τ' J'=>τ'=[some (.ref p),some (gR n v)]∧Q (.fl []) J') (pM rfl (i0 _)) ?_ ?_
  ·simp_all! only [bo,i1,i2]
   exact ⟨dF _ _ _ _,p,L,n,v,rfl,b,ok,hw,fun z=>absurd hn z,fun _ z=>absurd hv z,fun _ _ J1 L1 b1 ok1 e t1 mv=>q J1 L1 b1 ok1 e t1 mv⟩
  rintro τ' J' ⟨rfl,hq⟩
  refine cO rfl (i0 _) (by decide +kernel) ?_
  simp_all! only [i0,DZ,if_false]
  exact hq
 ·have i0:∀ J,eD J gm (.int 0)=some (.str "about"):=fun J=>c6 _ _
  refine cO rfl (i0 _) (by decide +kernel) ?_
  refine cO rfl (i0 _) (by decide +kernel) ?_
  refine cO rfl (i0 _) (by decide +kernel) ?_
  refine eJ (fun τ' J'=>τ'=[some (.ref p),some (gm)]∧Q (.fl []) J') (pM rfl (i0 _)) ?_ ?_
  ·simp_all! only [bo]
   exact ⟨dF _ _ _ _,p,L,rfl,b,ok,hw,fun J1 L1 b1 ok1 e t1 mv=>q J1 L1 b1 ok1 e t1 mv⟩
  rintro τ' J' ⟨rfl,hq⟩
  simp_all! only [i0,DW,if_false]
  exact hq
 ·have i0:∀ J,eD J (fR n) (.int 0)=some (.str "leave"):=fun J=>c6 _ _
  have i1:∀ J,eD J (fR n) (.int 1)=some (.str n):=fun J=>eI _ _ _
  refine cO rfl (i0 _) (by decide +kernel) ?_
  refine eJ (fun τ' J'=>τ'=[some (.ref p),some (fR n)]∧Q (.fl []) J') (pM rfl (i0 _)) ?_ ?_
  ·simp_all! only [bo,i1]
   exact ⟨dF _ _ _ _,p,L,n,rfl,b,ok,fun z=>absurd hn z,fun _ J1 L1 b1 ok1 e t1 mv=>q J1 L1 b1 ok1 e t1 mv⟩
  rintro τ' J' ⟨rfl,hq⟩
  refine cO rfl (i0 _) (by decide +kernel) ?_
  refine cO rfl (i0 _) (by decide +kernel) ?_
  simp_all! only [i0,DY,if_false]
  exact hq
 ·have i0:∀ J,eD J (Dh m) (.int 0)=some (.str "go"):=fun J=>c6 _ _
  have i1:∀ J,eD J (Dh m) (.int 1)=some (fr m):=fun J=>eI _ _ _
  refine cO rfl (i0 _) (by decide +kernel) ?_
  refine cO rfl (i0 _) (by decide +kernel) ?_
  refine cO rfl (i0 _) (by decide +kernel) ?_
  refine cO rfl (i0 _) (by decide +kernel) ?_
  simp_all! only [i0,i1,if_true,bo]
  refine ⟨dF _ _ _ _,p,L,m.num,m.den,rfl,b,ok,(fun z=>by rw [hg] at z;cases z),fun m' e1 e2 _=>?_⟩
  obtain rfl:m'=m:=Rat.ext e1 (by omega)
  exact ⟨fun z=>absurd z (Rat.not_lt.mpr hm),fun _ J1 o1 b1 ok1 mv1=>q J1 o1 b1 ok1 mv1⟩
abbrev m6:Stmt:=(top 57)
theorem l6:L2.aw ["_law_row","_law_mode","_law_names_here","_law_used","_law_legs","_law_clock","_law_there","_law_fresh","_law_name"] ["_law_row","_law_mode","_law_names_here","_law_used","_law_legs","_law_clock"] (L2.aj m6):=dk
def yL (names used:List Str) (gs:List (Str × aS)) (t:Rat) (dv:PV):Prop :=
 (∃ n x v,dv=fg n x v∧n∈names∧n ∉ used∧gs.length < 12∧x.natAbs≤1000000∧v.natAbs≤1000) ∨
 (∃ n v,dv=gR n v∧n∈gs.map (·.1)∧v.natAbs≤1000)∨dv=gm∨(∃ n,dv=fR n∧n∈gs.map (·.1))∨∃ m,dv=Dh m∧Later t m
def AN:b9:=fun xs J Q _=>∃ (r0 r1 r2 r3 r4 r5 m:Int) (names used:List Str) (U D:Addr) (gs:List (Str × aS)) (ep:Nat) (t:Rat),xs=[.fl [.int r0,.int r1,.int r2,.int r3,.int r4,.int r5],.int m,.fl (names.map .str),.ref U,.ref D,fr t]∧J U=some (.lst (used.map .str))∧J D=some (.dct (bh gs) ep)∧names.length≤40∧gs.length≤100 ∧
 0≤r1∧0≤r2∧0≤r3∧r3 < 2001∧0≤r4∧r4 < 2 ^ 60∧0≤r5∧0≤m∧m < 4∧Sz 900 t∧∀ dv,yL names used gs t dv→Q dv J
theorem pL {c:jk} {a u:gP} {D:En} {τ:Sr} {J:Hq} (b:Prop) [Decidable b] (hc:∀ R:Bool→Hq→Prop,R (decide b) J→c τ J R) (h1:b→∀ N,a { D with nx:=N } τ J) (h2:¬ b→u D τ J):b7 (vd c a mY) u D τ J:=by
 refine hc _ ?_
 by_cases h:b
 ·rw [decide_eq_true h,if_pos rfl];exact h1 h _
 ·rw [decide_eq_false h,if_neg (by decide)];exact h2 h
theorem CB {R:Bool→Hq→Prop} {b c:Bool} {J:Hq} (h:R b J) (e:b=true↔c=true):R c J:=by rw [← Bool.eq_iff_iff.mpr e];exact h
theorem lS {xs:List Str} {r:Int} (h0:0≤r) (hl:0 < xs.length):∃ n∈xs,c5 (xs.map PV.str) (r % (xs.length:Int))=some (.str n):=by
 obtain ⟨j,hj⟩:∃ j:Nat,r % (xs.length:Int)=j:=⟨(r % (xs.length:Int)).toNat,by have:=Int.emod_nonneg r (b:=(xs.length:Int)) (by omega);omega⟩
 have hjl:j < xs.length:=by have:=Int.emod_lt_of_pos r (b:=(xs.length:Int)) (by omega);omega
 exact ⟨xs[j],List.getElem_mem hjl,by rw [hj];exact bc (by rw [List.getElem?_map,List.getElem?_eq_getElem hjl];rfl)⟩
theorem zV {f:Addr} {fd:FuncData} (F:bQ K "_law_deed" "_law_deed" m6 f fd) (Z:bC mg) (C_placed:aZ P w K mg base 1 "_law_placed" ["_law_number","_law_mode"] pq) (C_paced:aZ P w K mg base 1 "_law_paced" ["_law_number","_law_mode"] tU) (C_later:aZ P w K mg base 2 "_law_later" ["_law_clock","_law_number","_law_bottom","_law_mode"] qZ):aH P w K mg base (cF P w) 3 f fd ["_law_row","_law_mode","_law_names_here","_law_used","_law_legs","_law_clock"] (c8 K AN):=by
 simp_arith [l6]
 ·obtain ⟨r0,r1,r2,r3,r4,r5,m,names,used,U,D,gs,ep,t,rfl,_⟩:=h;rfl
 obtain ⟨r0,r1,r2,r3,r4,r5,m,names,used,U,D,gs,ep,t,rfl,hU,hD,hnl,hgl,r10,r20,r30,r31,r40,r41,r50,m0,m1,st,q⟩:=h
 have hkv:(bh gs).map (fun kv=>PV.str kv.1)=(gs.map (·.1)).map PV.str:=by unfold bh;rw [List.map_map,List.map_map];rfl
 refine ⟨_,(ai (aF (i:=6) l6.nd rfl (Or.inl rfl) (gd (mn rfl) rfl Z.list boot_list (af (rv 4) ah)))
   (ai (Fm (i:=7) (L2.aj m6) ["_law_row","_law_mode","_law_names_here","_law_used","_law_legs","_law_clock","_law_there","_law_fresh","_law_name"] [("_law_used",3)] rfl rfl rfl l6.nd rfl (Or.inl rfl) (eO (rv 2)) (fun _ _ _ _ _ _=>(rv 0)) (fun _ _ _ _ _ _=>(aD wu (rv 0) (rv 1) (by with_unfolding_all rfl))))
   (ai (aR (dh (eG (aD jV (aG bF rfl Z.len boot_len (af (rv 7) ah)) ag (L2.ax _)) (eG (aD fB (aG bF rfl Z.len boot_len (af (rv 6) ah)) ag (L2.ax _)) (dN (dh (je (aD fB (aq av (rv 0) ag (fun _ _=>rfl)) ag (L2.ax _)) (fU (dh (eG (aD fB (aG bF rfl Z.len boot_len (af (rv 6) ah)) ag (L2.ax _)) (dN (aD fB (aq av (rv 0) ag (fun _ _=>rfl)) ag (L2.ax _)))))))))))) (ai (aF (i:=8) l6.nd rfl (Or.inl rfl) (aq av (rv 7) (aL dI (aq av (rv 0) ag (fun _ _=>rfl)) (aG bF rfl Z.len boot_len (af (rv 7) ah))) (fun _ _=>rfl)))
   (ak (ay (cu (af bD (af (rv 8) (af (aM C_placed B hr (by decide) rfl (af (aq av (rv 0) ag (fun _ _=>rfl)) (af (rv 1) ah))) (af (aM C_paced B hr (by decide) rfl (af (aq av (rv 0) ag (fun _ _=>rfl)) (af (rv 1) ah))) ah)))))))) aE)
   (ai (aR (dh (eG (aD EY (aq av (rv 0) ag (fun _ _=>rfl)) (cu (af ag (af ag ah))) (by with_unfolding_all rfl)) (dN (aD jV (aG bF rfl Z.len boot_len (af (rv 6) ah)) ag (L2.ax _))))) (ak (ay (cu (af bD (af (aq av (rv 6) (aL dI (aq av (rv 0) ag (fun _ _=>rfl)) (aG bF rfl Z.len boot_len (af (rv 6) ah))) (fun _ _=>rfl)) (af (aM C_paced B hr (by decide) rfl (af (aq av (rv 0) ag (fun _ _=>rfl)) (af (rv 1) ah))) ah)))))) aE)
   (ai (aR (dh (eG (aD (cy hr.aT) (aq av (rv 0) ag (fun _ _=>rfl)) ag (L2.ax _)) (dN (aD jV (aG bF rfl Z.len boot_len (af (rv 6) ah)) ag (L2.ax _))))) (ak (ay (cu (af bD (af (aq av (rv 6) (aL dI (aq av (rv 0) ag (fun _ _=>rfl)) (aG bF rfl Z.len boot_len (af (rv 6) ah))) (fun _ _=>rfl)) ah))))) aE)
   (ai (aR (aD (cy hr.aT) (aq av (rv 0) ag (fun _ _=>rfl)) ag (L2.ax _)) (ak (ay (cu (af bD ah)))) aE)
   (ak (ay (cu (af bD (af (aM C_later B hr (by decide) rfl (af (rv 5) (af (aq av (rv 0) ag (fun _ _=>rfl)) (af (aq av (rv 0) ag (fun _ _=>rfl)) (af (rv 1) ah))))) ah))))))))))),?_⟩
 simp_all! only [hD,hkv,sZ]
 obtain ⟨pn,hpn⟩:∃ pn:Str→Bool,∀ x,pn x=!decide (x∈used):=⟨_,fun _=>rfl⟩
 refine ⟨fun x=>match x with | .str s=>pn s | _=>false,id,⟨by rw [List.length_map];exact Nat.lt_of_le_of_lt hnl (by decide),fun J' sub=>⟨trivial,fun x hx=>?_⟩⟩,?_⟩
 ·obtain ⟨s,hs,rfl⟩:=List.mem_map.mp hx
  have hU':=sub _ _ hU
  simp_all! only [lH]
  refine ⟨⟨s,used,rfl,by show (match J' U with | some (.lst xs)=>some xs | _=>none)=_;rw [hU'],⟨_,rfl,(hpn s).symm,rfl⟩⟩,fun _=>trivial⟩
 have ef:((names.map PV.str).filter fun x=>match x with | .str s=>pn s | _=>false).map id=(names.filter pn).map PV.str:=by rw [List.map_id,List.filter_map];rfl
 rw [ef]
 have hfr:∀ n∈names.filter pn,n∈names∧n ∉ used:=fun n hn=>by
  obtain ⟨h1,h2⟩:=List.mem_filter.mp hn
  rw [hpn] at h2
  exact ⟨h1,by simpa using h2⟩
 generalize names.filter pn=fresh at hfr ⊢
 have gl:(gs.map (·.1)).length=gs.length:=List.length_map _
 generalize hgn:gs.map (·.1)=gn at gl q ⊢
 refine pL (0 < fresh.length∧gs.length < 12∧(r0 < 3∨gs.length < 2∧r0 < 8)) (fun R hR=>?_) (fun hb N=>?_) (fun hb=>?_)
 ·simp_all! only [List.length_map]
  (repeat' split) <;> exact CB hR (by simp only [decide_eq_true_eq,Bool.false_eq_true,eq_self,iff_true,iff_false];omega)
 ·obtain ⟨n,hn,ha⟩:=lS r10 hb.1
  simp_all! only [List.length_map,ha]
  refine ⟨by omega,r2,m,rfl,r20,fun x hx=>⟨r3,m,rfl,r30,r31,fun v hv=>?_⟩⟩
  exact q _ (.inl ⟨n,x,v,rfl,(hfr n hn).1,(hfr n hn).2,hb.2.1,hx,hv⟩)
 refine pL ((r0=3∨r0=4)∧0 < gs.length) (fun R hR=>?_) (fun hb N=>?_) (fun hb=>?_)
 ·simp_all! only [List.length_map]
  refine ⟨r0,[3,4],rfl,rfl,_,rfl,?_⟩
  (repeat' split) <;> exact CB hR (by simp only [decide_eq_true_eq,Bool.false_eq_true,id_eq,List.mem_cons,List.not_mem_nil,or_false,eq_self,iff_true,iff_false] at *;omega)
 ·obtain ⟨n,hn,ha⟩:=lS (xs:=gn) r10 (by omega)
  simp_all! only [List.length_map,ha]
  refine ⟨by omega,r3,m,rfl,r30,r31,fun v hv=>?_⟩
  exact q _ (.inr (.inl ⟨n,v,rfl,by rw [hgn];exact hn,hv⟩))
 refine pL (r0=5∧2 < gs.length) (fun R hR=>?_) (fun hb N=>?_) (fun hb=>?_)
 ·simp_all! only [List.length_map]
  (repeat' split) <;> exact CB hR (by simp only [decide_eq_true_eq,Bool.false_eq_true,eq_self,iff_true,iff_false];omega)
 ·obtain ⟨n,hn,ha⟩:=lS (xs:=gn) r10 (by omega)
  simp_all! only [List.length_map,ha]
  exact ⟨by omega,q _ (.inr (.inr (.inr (.inl ⟨n,rfl,by rw [hgn];exact hn⟩))))⟩
 refine pL (r0=6) (fun R hR=>?_) (fun hb N=>?_) (fun hb=>?_)
 ·simp_all! only []
  exact CB hR (by simp only [decide_eq_true_eq,Bool.false_eq_true])
 ·simp_all! only []
  exact q _ (.inr (.inr (.inl rfl)))
 simp_all! only []
 exact ⟨t,r4,r5,m,rfl,r40,r50,m0,m1,r41,st,fun m' hm'=>q _ (.inr (.inr (.inr (.inr ⟨m',rfl,hm'⟩))))⟩
theorem rR {m:Rat} (h0:0≤m) (hd:m.den≤60) (h1:m.num≤1000000 * (m.den:Int)):fz m.num m.den=true:=by
 refine decide_eq_true ⟨by omega,by have:=m.den_pos;omega,?_,Rat.num_nonneg.mpr h0,h1⟩
 have:=m.reduced
 unfold Int.gcd
 exact this
theorem oZ {c q:Rat} (h:Later c q) (hc:c.den≤60):q.den≤60:=by
 rcases h with rfl | ⟨u,s,u0,u1,s0,s1,rfl⟩
 ·exact hc
 ·have:=pI (t:=(c.num * (u:Int)).fdiv (c.den:Int) + (s:Int)) (b:=(u:Int)) (by omega)
  omega
theorem zH {q:Rat}:q.num≤1000000 * (q.den:Int)↔q≤1000000:=by
 rw [Rat.le_iff]
 have h3:(1000000:Rat).num=1000000:=rfl
 have h4:((1000000:Rat).den:Int)=1:=rfl
 rw [h3,h4]
 omega
abbrev qJ:Stmt:=(top 63)
theorem fM:L2.aw ["_law_lane","_law_names_here","_law_cells","_law_mode","_law_legs","_law_used","_law_clock","_law_cell_here","_law_row","_law_deed_here"] ["_law_lane","_law_names_here","_law_cells","_law_mode"] (L2.aj qJ):=dk
structure Wk (cN cL:Addr) (J0:Hq) (S0:Addr→Prop) (J:Hq) (p:Addr) (L:Ln) (D U:Addr) (gs:List (Str × aS)) (ep:Nat) (used:List Str) (k:Nat):Prop where
 b:aW cN cL J p L
 ok:bU L
 rl:Rl L gs
 hD:J D=some (.dct (bh gs) ep)
 hU:J U=some (.lst (used.map .str))
 nD:¬ L.own p D
 nU:¬ L.own p U
 mv:Mv J0 J S0 (fun a=>L.own p a∨a=D∨a=U)
 td:L.t.den≤60
 tl:L.t≤((500 * k:Nat):Rat)
 wl:∀ c∈L.cs,c.w.length≤1 + k
theorem Rl.go {L:Ln} {gs:List (Str × aS)} (h:Rl L gs) {m:Rat} (hm:L.t≤m) {o:Addr} {row:List Str}:Rl { L with t:=m,o:=o,row:=row } gs:=⟨h.nm,h.ln,h.ck,fun x hx=>Rat.le_trans (h.le x hx) hm,h.ct⟩
theorem rX {c q:Rat} (h:Later c q) (c0:0≤c):q≤c + 500:=by
 rcases h with rfl | ⟨u,s,u0,u1,s0,s1,rfl⟩
 ·grind
 rw [Rat.divInt_eq_div]
 have hu:(0:Rat) < ((u:Int):Rat):=by exact_mod_cast (show (0:Int) < u by omega)
 have h1:((s:Int):Rat)≤500 * ((u:Int):Rat):=by exact_mod_cast (show (s:Int)≤500 * u by omega)
 have hd:(0:Rat) < ((c.den:Int):Rat):=by exact_mod_cast (show (0:Int) < c.den by have:=c.den_pos;omega)
 have h2:((((c.num * (u:Int)).fdiv (c.den:Int)):Int):Rat)≤c * ((u:Int):Rat):=by
  have e1:(c.num * (u:Int)).fdiv (c.den:Int) * (c.den:Int)≤c.num * u:=by
   rw [Int.fdiv_eq_ediv_of_nonneg _ (by omega)]
   exact Int.ediv_mul_le _ (by have:=c.den_pos;omega)
  have e2:((((c.num * (u:Int)).fdiv (c.den:Int)):Int):Rat) * ((c.den:Int):Rat)≤(c.num:Rat) * ((u:Int):Rat):=by
   rw [← Rat.intCast_mul,← Rat.intCast_mul];exact Rat.intCast_le_intCast.mpr e1
  have e3:(c.num:Rat)=c * ((c.den:Int):Rat):=cast_eq c
  rw [e3] at e2
  generalize ((((c.num * (u:Int)).fdiv (c.den:Int)):Int):Rat)=x at e2 ⊢
  generalize ((c.den:Int):Rat)=y at e2 hd
  generalize ((u:Int):Rat)=z at e2 ⊢
  by_cases k:c * z < x
  ·have:0 < (x - c * z) * y:=Rat.mul_pos (by grind) hd
   grind
  ·grind
 rw [Rat.intCast_add]
 generalize ((((c.num * (u:Int)).fdiv (c.den:Int)):Int):Rat)=a at h2 ⊢
 generalize ((s:Int):Rat)=x at h1 ⊢
 generalize ((u:Int):Rat)=y at h1 h2 hu ⊢
 have e:(a + x) / y * y=a + x:=by grind
 generalize (a + x) / y=z at e ⊢
 by_cases k:c + 500 < z
 ·have:0 < (z - (c + 500)) * y:=Rat.mul_pos (by grind) hu
  grind
 ·grind
section
variable {cN cL:Addr} {J0 J:Hq} {S0:Addr→Prop} {p:Addr} {L:Ln} {D U:Addr} {gs:List (Str × aS)} {ep:Nat} {used:List Str} {k:Nat}
theorem Wk.ne (h:Wk cN cL J0 S0 J p L D U gs ep used k):U≠D:=fun e=>by have:=h.hU;rw [e,h.hD] at this;cases this
theorem Wk.kept (h:Wk cN cL J0 S0 J p L D U gs ep used k) {T:Addr} {o:HQ} (hT:J0 T=some o) (nT:¬ S0 T):J T=some o:=h.mv.keep _ _ hT nT
theorem Wk.next (h:Wk cN cL J0 S0 J p L D U gs ep used k) {J1:Hq} {L1:Ln} {gs1:List (Str × aS)} {k1:Nat} (b1:aW cN cL J1 p L1) (ok1:bU L1) (mv:Mv J J1 (L.own p) (L1.own p)) (rl1:Rl L1 gs1) (td:L1.t.den≤60) (tl:L1.t≤((500 * k1:Nat):Rat)) (wl:∀ c∈L1.cs,c.w.length≤1 + k1) (ep':Nat):Wk cN cL J0 S0 (put J1 D (.dct (bh gs1) ep')) p L1 D U gs1 ep' used k1:=by
 have new:∀ {x o},J x=some o→¬ L.own p x→¬ L1.own p x:=fun hx nx z=>by
  rcases mv.own _ z with q | q
  ·exact nx q
  ·rw [hx] at q;cases q
 have nD1:=new h.hD h.nD
 have hD1:=mv.keep _ _ h.hD h.nD
 have hU1:=mv.keep _ _ h.hU h.nU
 have mv1:Mv J J1 (fun a=>L.own p a∨a=D∨a=U) (fun a=>L1.own p a∨a=D∨a=U) :=
  ⟨fun a o e n=>mv.keep a o e fun z=>n (.inl z),fun a z=>z.elim (fun z=>(mv.own a z).imp .inl id) (fun z=>.inl (.inr z)),mv.mono⟩
 refine ⟨b1.keep fun a u ow e=>?_,ok1,rl1,au,?_,nD1,new h.hU h.nU,(h.mv.trans mv1).trans (fh (.inr (.inl rfl)) fun a z=>.inl z),td,tl,wl⟩
 ·rw [ar (fun z=>by subst z;exact nD1 ow)];exact e
 ·rw [ar h.ne];exact hU1
theorem Wk.push (h:Wk cN cL J0 S0 J p L D U gs ep used k) (n:Str):Wk cN cL J0 S0 (put J U (.lst ((used ++ [n]).map .str))) p L D U gs ep (used ++ [n]) k:=by
 refine ⟨h.b.keep fun a u ow e=>?_,h.ok,h.rl,?_,au,h.nD,h.nU,h.mv.trans (fh (.inr (.inr rfl)) fun a z=>.inl z),h.td,h.tl,h.wl⟩
 ·rw [ar (fun z=>by subst z;exact h.nU ow)];exact e
 ·rw [ar (fun e=>h.ne e.symm)];exact h.hD
theorem Wk.up (h:Wk cN cL J0 S0 J p L D U gs ep used k):Sz 900 L.t∧(gs.map (·.1)).Nodup∧gs.length≤12∧∀ x∈gs,lz 900 x.2 :=
 ⟨h.ok.D3,h.rl.nd h.ok.toaU,by rw [h.rl.len];exact h.ok.Ek,fun x hx=>(h.rl.sz x hx).mono (by decide)⟩
end
theorem mL {q:Rat} {k:Nat} (hk:k≤2000) (h:q≤((500 * k:Nat):Rat)):q≤1000000:=by
 refine Rat.le_trans h ?_
 have:((500 * k:Nat):Rat)≤((1000000:Nat):Rat):=by exact_mod_cast (show 500 * k≤1000000 by omega)
 exact this
theorem q9 {a b:Rat} {k:Nat} (h:b≤a + 500) (ha:a≤((500 * k:Nat):Rat)):b≤((500 * (k + 1):Nat):Rat):=by
 have e:((500 * (k + 1):Nat):Rat)=((500 * k:Nat):Rat) + 500:=by
  rw [show 500 * (k + 1)=500 * k + 500 by omega];exact Rat.natCast_add _ _
 rw [e];grind
theorem xb {a:Rat} {k:Nat} (ha:a≤((500 * k:Nat):Rat)):a≤((500 * (k + 1):Nat):Rat):=q9 (a:=a) (by grind) ha
theorem BF {n:Str} (hg:good n=true):n.length≤sizeLine:=by
 have h8:n.cps.size≤8:=by
  unfold good at hg
  rw [Bool.and_eq_true,Bool.and_eq_true] at hg
  exact of_decide_eq_true hg.1.2
 exact Nat.le_trans h8 (by decide)
theorem yE {cN cL T p D U:Addr} {J0 J:Hq} {S0:Addr→Prop} {L:Ln} {gs:List (Str × aS)} {ep:Nat} {used names:List Str} {i:Nat} {dv:PV} {E2:Addr→Hq→Prop} {Dn:En} {τ:Sr} {iL iU iD iC iV:Nat}
  (hL:τ[iL]?=some (some (.ref p))) (hU:τ[iU]?=some (some (.ref U))) (hDt:τ[iD]?=some (some (.ref D))) (hC:τ[iC]?=some (some (fr L.t))) (hV:τ[iV]?=some (some dv))
  (wk:Wk cN cL J0 S0 J p L D U gs ep used i) (hun:L.cs.map Cf.n=used) (hus:∀ n∈used,n∈names) (hul:used.length≤i) (hi:i < 90) (hng:∀ n∈names,good n=true) (hT:J0 T=some .tab) (nT:¬ S0 T) (hdv:yL names used gs L.t dv)
  (fin:∀ J1 L1 gs1 ep1 used1 t1,L1.t=t1→Wk cN cL J0 S0 J1 p L1 D U gs1 ep1 used1 (i + 1)→L1.cs.map Cf.n=used1→(∀ n∈used1,n∈names)→used1.length≤i + 1→Dn.nx (τ.set iC (some (fr t1))) J1) :
  Ay (vd (rB (rg (DH id) (rg DI (gA iV) (rC (.int 0))) (rC (.str "join")))) (wG (Jz "list" qx (gA iU) (ie (rg DI (gA iV) (rC (.int 1))) ou))) mY)
   (b7 (wG (sY (vo cN cL T) E2 (ie (gA iL) (ie (gA iV) ou)))) (ot (sY qT E2 (ie (gA iD) (ie (gA iC) (ie (gA iV) ou)))) (BA iC))) Dn τ J:=by
 obtain ⟨st,gnd,gl,gsz⟩:=wk.up
 have hT':∀ {J1:Hq} {L1 gs1 ep1 us k1},Wk cN cL J0 S0 J1 p L1 D U gs1 ep1 us k1→J1 T=some .tab:=fun wk'=>wk'.kept hT nT
 have hw200:∀ c∈L.cs,c.w.length < 200:=fun c hc=>by have:=wk.wl c hc;omega
 have tl1:L.t≤((500 * (i + 1):Nat):Rat):=xb wk.tl
 have hfl:L.fs.length=gs.length:=wk.rl.len.symm
 have hrow:∀ n,n∈gs.map (·.1)→n∈L.row:=fun n hn=>(wk.ok.rm n).mpr (by rw [← wk.rl.nm];exact hn)
 rcases hdv with ⟨n,x,v,rfl,hn,hnu,hgl,hx,hv⟩ | ⟨n,v,rfl,hn,hv⟩ | rfl | ⟨n,rfl,hn⟩ | ⟨m',rfl,hm'⟩
 ·have i0:∀ J,eD J (fg n x v) (.int 0)=some (.str "join"):=fun J=>c6 _ _
  have i1:∀ J,eD J (fg n x v) (.int 1)=some (.str n):=fun J=>eI _ _ _
  refine eJ (fun τ' J2=>τ'=τ∧J2=put J U (.lst ((used ++ [n]).map .str))) (pM hV (i0 _)) ?_ ?_
  ·simp_all! only [hU,hV,i1,wk.hU,List.length_map]
   exact ⟨Nat.lt_of_lt_of_le (show used.length < 100 by omega) (by decide),by rw [List.map_append];rfl⟩
  rintro τ' J2 ⟨rfl,rfl⟩
  have wk2:=wk.push n
  generalize put J U (.lst ((used ++ [n]).map .str))=J2 at wk2 ⊢
  have hnc:n ∉ L.cs.map Cf.n:=by rw [hun];exact hnu
  have hcl':L.cs.length < 100:=by have:=congrArg List.length hun;rw [List.length_map] at this;omega
  have hnf:n ∉ L.fs.map (·.1):=fun z=>hnc (by
   rw [d_,List.mem_map] at z
   obtain ⟨c',hc',e'⟩:=z
   exact List.mem_map.mpr ⟨c',(Ln.cV.mp hc').1,e'⟩)
  simp_all! only [hL,hDt,hC,hV]
  refine ⟨p,L,_,rfl,wk2.b,wk2.ok,.inl ⟨n,x,v,rfl,hT' wk2,hng n hn,⟨hx,hv⟩,hnc,by rw [wk.ok.row,sQ];omega,hcl',BF (hng n hn),fun J3 L3 b3 ok3 jn mv3=>?_⟩⟩
  have rl3:=wk2.rl.join ok3.toaU hv hx jn wk.ok.t0 wk.ok.ts hnf
  obtain ⟨a,r,ecs,et⟩:=jn
  simp_all! only [hL,hDt,hC,hV]
  refine ⟨D,gs,ep,L.t,_,rfl,mv3.keep _ _ wk2.hD wk2.nD,gnd,by omega,st,gsz,.inl ⟨n,x,v,rfl,by rw [wk.rl.nm];exact hnf,fun ep'=>?_⟩⟩
  refine fin _ L3 _ ep' (used ++ [n]) _ et (wk2.next b3 ok3 mv3 rl3 (by rw [et];exact wk.td) (by rw [et];exact tl1) (fun c hc=>?_) ep') ?_ (fun y hy=>?_) (by rw [List.length_append];show used.length + 1≤_;omega)
  ·rw [ecs] at hc
   rcases List.mem_append.mp hc with hc | hc
   ·have:=wk.wl c hc;omega
   ·rw [List.mem_singleton] at hc;subst hc;show 1≤_;omega
  ·rw [ecs,List.map_append,hun];rfl
  ·rcases List.mem_append.mp hy with hy | hy
   ·exact hus y hy
   ·rw [List.mem_singleton] at hy;subst hy;exact hn
 ·have i0:∀ J,eD J (gR n v) (.int 0)=some (.str "turn"):=fun J=>c6 _ _
  refine cO hV (i0 _) (by decide +kernel) ?_
  simp_all! only [hL,hDt,hC,hV]
  refine ⟨p,L,_,rfl,wk.b,wk.ok,.inr (.inl ⟨n,v,rfl,hrow n hn,hv,hw200,fun J3 L3 b3 ok3 e t1 mv3=>?_⟩)⟩
  simp_all! only [hL,hDt,hC,hV]
  refine ⟨D,gs,ep,L.t,_,rfl,mv3.keep _ _ wk.hD wk.nD,gnd,by omega,st,gsz,.inr (.inl ⟨n,v,rfl,hn,fun ep'=>?_⟩)⟩
  refine fin _ L3 _ ep' used _ t1 (wk.next b3 ok3 mv3 (wk.rl.turn wk.ok.toaU hv e t1) (by rw [t1];exact wk.td) (by rw [t1];exact tl1) (fun c hc=>?_) ep') (by rw [e,dG (fun c=>(km n L.t v c).1)];exact hun) hus (by omega)
  rw [e] at hc
  obtain ⟨c0,h0,rfl⟩:=List.mem_map.mp hc
  have h1:=wk.wl c0 h0
  unfold cM
  split
  ·have:=jC c0.w L.t v
   show (turned c0.w L.t v).length≤_
   omega
  ·omega
 ·have i0:∀ J,eD J gm (.int 0)=some (.str "about"):=fun J=>c6 _ _
  refine cO hV (i0 _) (by decide +kernel) ?_
  simp_all! only [hL,hDt,hC,hV]
  refine ⟨p,L,_,rfl,wk.b,wk.ok,.inr (.inr (.inl ⟨rfl,hw200,fun J3 L3 b3 ok3 e t1 mv3=>?_⟩))⟩
  simp_all! only [hL,hDt,hC,hV]
  refine ⟨D,gs,ep,L.t,_,rfl,mv3.keep _ _ wk.hD wk.nD,gnd,by omega,st,gsz,.inr (.inr (.inl ⟨rfl,fun ep'=>?_⟩))⟩
  refine fin _ L3 _ ep' used _ t1 (wk.next b3 ok3 mv3 (wk.rl.about wk.ok.toaU e t1) (by rw [t1];exact wk.td) (by rw [t1];exact tl1) (fun c hc=>?_) ep') (by rw [e,dG (fun c=>(rA L.t c).1)];exact hun) hus (by omega)
  rw [e] at hc
  obtain ⟨c0,h0,rfl⟩:=List.mem_map.mp hc
  have h1:=wk.wl c0 h0
  unfold du
  split
  ·have:=jC c0.w L.t (-c0.cur.v)
   show (turned c0.w L.t (-c0.cur.v)).length≤_
   omega
  ·omega
 ·have i0:∀ J,eD J (fR n) (.int 0)=some (.str "leave"):=fun J=>c6 _ _
  refine cO hV (i0 _) (by decide +kernel) ?_
  simp_all! only [hL,hDt,hC,hV]
  refine ⟨p,L,_,rfl,wk.b,wk.ok,.inr (.inr (.inr (.inl ⟨n,rfl,hrow n hn,fun J3 L3 b3 ok3 e t1 mv3=>?_⟩)))⟩
  simp_all! only [hL,hDt,hC,hV]
  refine ⟨D,gs,ep,L.t,_,rfl,mv3.keep _ _ wk.hD wk.nD,gnd,by omega,st,gsz,.inr (.inr (.inr (.inl ⟨n,rfl,hn,fun ep'=>?_⟩)))⟩
  refine fin _ L3 _ ep' used _ t1 (wk.next b3 ok3 mv3 (wk.rl.leave e t1) (by rw [t1];exact wk.td) (by rw [t1];exact tl1) (fun c hc=>?_) ep') (by rw [e,dG (fun c=>(dD n L.t c).1)];exact hun) hus (by omega)
  rw [e] at hc
  obtain ⟨c0,h0,rfl⟩:=List.mem_map.mp hc
  have h1:=wk.wl c0 h0
  rw [(dD n L.t c0).2.2.2];omega
 ·have i0:∀ J,eD J (Dh m') (.int 0)=some (.str "go"):=fun J=>c6 _ _
  refine cO hV (i0 _) (by decide +kernel) ?_
  have tl3:=q9 (rX hm' wk.ok.t0) wk.tl
  have td3:=oZ hm' wk.td
  have hg:fz m'.num m'.den=true:=rR (Rat.le_trans wk.ok.t0 (hm'.le)) td3 (zH.mpr (mL (by omega) tl3))
  simp_all! only [hL,hDt,hC,hV]
  refine ⟨p,L,_,rfl,wk.b,wk.ok,.inr (.inr (.inr (.inr ⟨m',rfl,hg,hm'.le,fun J3 o3 b3 ok3 mv3=>?_⟩)))⟩
  simp_all! only [hL,hDt,hC,hV]
  have hD3:=mv3.keep _ _ wk.hD wk.nD
  refine ⟨D,gs,ep,L.t,_,rfl,hD3,gnd,by omega,st,gsz,.inr (.inr (.inr (.inr ⟨m',rfl,?_⟩)))⟩
  have w3:=wk.next b3 ok3 mv3 (wk.rl.go hm'.le) td3 tl3 (fun c hc=>by have:=wk.wl c hc;omega) ep
  rw [qs hD3] at w3
  exact fin _ _ _ ep used _ rfl w3 hun hus (by omega)
def AW (cN cL T:Addr):b9:=fun xs J Q _=>∃ (p:Addr) (L0:Ln) (names:List Str) (cells:List Int) (m:Int),xs=[.ref p,.fl (names.map .str),.fl (cells.map .int),.int m]∧aW cN cL J p L0∧bU L0∧L0.cs=[]∧L0.t=0∧J T=some .tab∧names.length≤40∧(∀ n∈names,good n=true)∧cells.length≤40∧0≤m∧m < 4 ∧
 ∀ J' L D U gs ep used,Wk cN cL J (L0.own p) J' p L D U gs ep used cells.length→L.cs.map Cf.n=used→(∀ n∈used,n∈names)→used.length≤cells.length→Q (.tup [.ref D,fr L.t,.ref U]) J'
theorem zY {cN cL T f:Addr} {fd:FuncData} (F:bQ K "_law_walk" "_law_walk" qJ f fd) (Z:bC mg) (C_digits:aZ P w K mg base 1 "_law_digits" ["_law_cell_here","_law_sizes"] vn) (C_deed:aZ P w K mg base 3 "_law_deed" ["_law_row","_law_mode","_law_names_here","_law_used","_law_legs","_law_clock"] AN) (C_done:aZ P w K mg base 9 "_law_done" ["_law_lane","_law_deed_here"] (vo cN cL T)) (C_acted:aZ P w K mg base 3 "_law_acted" ["_law_legs","_law_clock","_law_deed_here"] qT):aH P w K mg base (cF P w) 10 f fd ["_law_lane","_law_names_here","_law_cells","_law_mode"] (c8 K (AW cN cL T)):=by
 simp_arith [fM]
 ·obtain ⟨p,L0,names,cells,m,rfl,_⟩:=h;rfl
 obtain ⟨p,L0,names,cells,m,rfl,b,ok,cs0,t0,hT,hnl,hng,hcl,m0,m1,q⟩:=h
 refine ⟨_,(ai (aF (i:=4) fM.nd rfl (Or.inl rfl) qz)
   (ai (aF (i:=5) fM.nd rfl (Or.inl rfl) (jv ah))
   (ai (aF (i:=6) fM.nd rfl (Or.inl rfl) (cu (af ag (af ag ah))))
   (ai (dM bI rfl (eO (rv 2)) (bj (i:=7) fM.nd rfl (Or.inl rfl)) (ai (aF (i:=8) fM.nd rfl (Or.inl rfl) (aM C_digits B hr (by decide) rfl (af (rv 7) (af (tj (ve [.int 10,.int 97,.int 2000001,.int 2001,.int 400000,.int 60] rfl [.int 10,.int 97,.int 2000001,.int 2001,.int 400000,.int 60] rfl)) ah))))
   (ai (aF (i:=9) fM.nd rfl (Or.inl rfl) (aM C_deed B hr (by decide) rfl (af (rv 8) (af (rv 3) (af (rv 1) (af (rv 5) (af (rv 4) (af (rv 6) ah))))))))
   (dn (aR (aD (cy hr.aT) (aq av (rv 9) ag (fun _ _=>rfl)) bD (L2.ax _)) (ak (aX (jc PySem.F.plainAttrs_list PySem.F.slot_list_append PySem.F.type_list_append kI (rv 5) (af (aq av (rv 9) ag (fun _ _=>rfl)) ah)))) aE)
   (ai (aX (aM C_done B hr (by decide) rfl (af (rv 0) (af (rv 9) ah))))
   (ak (aF (i:=6) fM.nd rfl (Or.inl rfl) (aM C_acted B hr (by decide) rfl (af (rv 4) (af (rv 6) (af (rv 9) ah)))))))))))
   (ak (ay (cu (af (rv 4) (af (rv 6) (af (rv 5) ah)))))))))),?_⟩
 simp_all! only []
 intro D hD ep
 simp_all! only []
 intro U hU
 have nDU:D≠U:=fun e=>by subst e;rw [au] at hU;cases hU
 have hU0:J U=none:=by rw [ar (fun e=>nDU e.symm)] at hU;exact hU
 have w0:Wk cN cL J (L0.own p) (put (put J D (.dct [] ep)) U (.lst [])) p L0 D U [] ep [] 0:=by
  refine ⟨(b.fresh hD).fresh hU,ok,⟨by unfold Ln.fs Ln.yJ;rw [cs0];rfl,(by simp),(by simp),(by simp),(by rw [cs0];simp)⟩,by rw [ar nDU];exact au,au,fun z=>b.some z hD,fun z=>b.some z hU0,?_,by rw [t0];decide,by rw [t0];decide,by rw [cs0];simp⟩
  have hh:=(Mv.xX (S:=L0.own p) (o:=.dct [] ep) hD).trans (Mv.xX (o:=.lst []) hU)
  exact ⟨hh.keep,fun a z=>hh.own a (z.elim (fun z=>.inl (.inl z)) fun z=>z.elim (fun z=>.inl (.inr z)) .inr),hh.mono⟩
 generalize put (put J D (.dct [] ep)) U (.lst [])=J1 at w0 ⊢
 clear hU hU0
 simp_all! only []
 obtain ⟨Inv,hInv⟩:∃ Inv:Nat→Sr→Hq→Prop,∀ i τ J',Inv i τ J'↔∃ (L:Ln) (gs:List (Str × aS)) (ep:Nat) (used:List Str) (u7 u8 u9:Option PV),τ=[some (.ref p),some (.fl (names.map .str)),some (.fl (cells.map .int)),some (.int m),some (.ref D),some (.ref U),some (fr L.t),u7,u8,u9]∧Wk cN cL J (L0.own p) J' p L D U gs ep used i∧L.cs.map Cf.n=used∧(∀ n∈used,n∈names)∧used.length≤i:=⟨_,fun _ _ _=>Iff.rfl⟩
 refine fe Inv ((hInv _ _ _).mpr ⟨L0,[],ep,[],_,_,_,by rw [t0];rfl,w0,by rw [cs0];rfl,(by simp),Nat.le_refl _⟩) (fun _ _ _ _=>trivial) ?_ ?_
 ·intro i x τ J' hx hv
  obtain ⟨L,gs,ep,used,u7,u8,u9,rfl,wk,hun,hus,hul⟩:=(hInv _ _ _).mp hv
  clear hv
  have hi:i < cells.length:=by have:=(List.getElem?_eq_some_iff.mp hx).1;simpa using this
  rw [List.getElem?_map,List.getElem?_eq_getElem hi] at hx
  cases hx
  generalize cells[i]=c
  simp_all! only []
  refine ⟨c,[10,97,2000001,2001,400000,60],rfl,ka (by decide),by decide,fun ds hG=>?_⟩
  obtain ⟨r0,ds,rfl,_,_,hG⟩:=hG.cons
  obtain ⟨r1,ds,rfl,r10,_,hG⟩:=hG.cons
  obtain ⟨r2,ds,rfl,r20,_,hG⟩:=hG.cons
  obtain ⟨r3,ds,rfl,r30,r31,hG⟩:=hG.cons
  obtain ⟨r4,ds,rfl,r40,r41,hG⟩:=hG.cons
  obtain ⟨r5,ds,rfl,r50,_,hG⟩:=hG.cons
  cases hG.nil
  obtain ⟨st,gnd,gl,gsz⟩:=wk.up
  simp_all! only []
  refine ⟨r0,r1,r2,r3,r4,r5,m,names,used,U,D,gs,ep,L.t,rfl,wk.hU,wk.hD,hnl,by omega,r10,r20,r30,r31,r40,by omega,r50,m0,m1,st,fun dv hdv=>?_⟩
  refine yE (iL:=0) (iU:=5) (iD:=4) (iC:=6) (iV:=9) rfl rfl rfl rfl rfl wk hun hus hul (by omega) hng hT (b.BZ hT) hdv fun J1 L1 gs1 ep1 used1 t1 e1 wk1 h1 h2 h3=>?_
  subst e1
  exact (hInv _ _ _).mpr ⟨L1,gs1,ep1,used1,_,_,_,rfl,wk1,h1,h2,h3⟩
 ·intro τ J' hv
  obtain ⟨L,gs,ep,used,u7,u8,u9,rfl,wk,hun,hus,hul⟩:=(hInv _ _ _).mp hv
  simp_all! only []
  rw [List.length_map] at wk hul
  exact q J' L D U gs ep used wk hun hus hul
def rG (ns:List Int) (k:Int):Int:=if k < (ns.length:Int) then ns.getD k.toNat 0 else 5 + 17 * k
def wM:b9:=fun xs J Q _=>∃ (ns:List Int) (k:Int),xs=[.fl (ns.map .int),.int k]∧0≤k∧k < 1000∧Q (.int (rG ns k)) J
theorem zU {f:Addr} {fd:FuncData} (F:bQ K "_law_cell" "_law_cell" qD f fd) (Z:bC mg):aH P w K mg base (cF P w) 1 f fd ["_law_script","_law_k"] (c8 K wM):=by
 simp_arith [CL]
 ·obtain ⟨ns,k,rfl,_⟩:=h;rfl
 obtain ⟨ns,k,rfl,h0,h1,q⟩:=h
 unfold rG at q
 refine ⟨_,(ai (aR (aD fB (rv 1) (aG bF rfl Z.len boot_len (af (rv 0) ah)) (L2.ax _)) (ak (ay (aq av (rv 0) (rv 1) (fun _ _=>rfl)))) aE)
   (ak (ay (aL cH ag (aL bS ag (rv 1)))))),?_⟩
 simp_arith! only [b7,List.length_map]
 split
 ·rename_i c
  rw [if_pos c] at q
  obtain ⟨j,rfl⟩:=Int.eq_ofNat_of_zero_le h0
  have hj:j < ns.length:=by omega
  refine ⟨.int ns[j],bc (by rw [List.getElem?_map,List.getElem?_eq_getElem hj];rfl),?_⟩
  simpa [List.getD,hj] using q
 ·rename_i c
  rw [if_neg c] at q
  exact ⟨.of (.small (x:=17) (by decide) (by decide)) (.small (x:=k) (by omega) (by omega)),q⟩
def IG:PV→Int
 | .int i=>i
 | _=>0
theorem yZ (ss:List Str):jm (ss.map .str) none (some (-1))=(ss.dropLast).map PV.str:=by
 unfold jm
 rw [HT.tw,List.drop_zero,Nat.sub_zero,List.map_dropLast,List.dropLast_eq_take]
 have e:HT.dz (ss.map PV.str).length (ss.map PV.str).length (some (-1))=(ss.map PV.str).length - 1:=by
  show (if (-1:Int) < 0 then (-1 + ((ss.map PV.str).length:Int)).toNat else min (-1:Int).toNat (ss.map PV.str).length)=_
  rw [if_pos (by decide)];omega
 rw [e]
abbrev d5:Stmt:=(L2.inClass (top 42) 21)
theorem m8:L2.aw ["self","name"] ["self","name"] (L2.aj d5):=dk
def tQ (cN cL eC:Addr):b9:=fun xs J Q E=>∃ p L n,xs=[.ref p,.str n]∧aW cN cL J p L∧aU L∧(∀ c∈L.cs,c.n=n→Q (.ref c.a) J)∧(n ∉ L.cs.map Cf.n→E eC J)
theorem mO {cN cL eC f:Addr} {fd:FuncData} (F:bQ K "log_of" "Lane.log_of" d5 f fd) (Z:bC mg) (KD_Lane:cR K mg "Lane" cN) (NA_Lane_logs:az K cN "logs") (O_NoCraft:Own K mg "NoCraft" eC):aH P w K mg base (cF P w) 1 f fd ["self","name"] (c8 K (tQ cN cL eC)):=by
 simp_arith [m8]
 ·obtain ⟨p,L,n,rfl,_⟩:=h;rfl
 obtain ⟨p,L,n,rfl,b,ok,q,qe⟩:=h
 have bo:=b.ob
 have bd:=b.dc
 refine ⟨_,(ai (aR (aD B9 (rv 1) (aP KD_Lane.cl NA_Lane_logs (rv 0)) (by with_unfolding_all rfl)) (ak (dg O_NoCraft rfl bY B.kn rfl (af bD ah))) aE)
   (ak (ay (aq cG (aP KD_Lane.cl NA_Lane_logs (rv 0)) (rv 1) (fun _ _=>rfl))))),?_⟩
 simp_all! only [bo,sf,bd,ok.KI]
 by_cases c:n∈L.cs.map Cf.n
 ·rw [if_pos (by simpa using c)]
  obtain ⟨c0,hc,rfl⟩:=List.mem_map.mp c
  simp_all! only [bo,sf,bd,ok.va hc]
  exact q c0 hc rfl
 ·rw [if_neg (by simpa using c)]
  simp_all! only [eE]
  exact qe c
abbrev fG:Stmt:=(L2.inClass (top 42) 17)
theorem qL:L2.aw ["self","name"] ["self","name"] (L2.aj fG):=dk
def wZ (cN cL eC:Addr):b9:=fun xs J Q E=>∃ p L n,xs=[.ref p,.str n]∧aW cN cL J p L∧aU L∧(∀ c∈L.cs,c.n=n→Q (gv c.g) J)∧(n ∉ L.cs.map Cf.n→E eC J)
theorem pZ {cN cL eC f:Addr} {fd:FuncData} (F:bQ K "left" "Lane.left" fG f fd) (Z:bC mg) (KD_Lane:cR K mg "Lane" cN) (m_Lane_log_of:cf P w K mg base cN 1 "log_of" ["self","name"] (tQ cN cL eC)) (m_Log_left:cf P w K mg base cL 1 "left" ["self"] (wU cL)):aH P w K mg base (cF P w) 2 f fd ["self","name"] (c8 K (wZ cN cL eC)):=by
 simp_arith [qL]
 ·obtain ⟨p,L,n,rfl,_⟩:=h;rfl
 obtain ⟨p,L,n,rfl,b,ok,q,qe⟩:=h
 have bo:=b.ob
 refine ⟨_,(ak (ay (cT (pl:=_) m_Log_left B hr (by decide) (aY (pl:=_) m_Lane_log_of B hr (by decide) (rv 0) (af (rv 1) ah))))),?_⟩
 simp_all! only [bo]
 refine ⟨dF _ _ _ _,p,L,n,rfl,b,ok,fun c hc e=>?_,qe⟩
 have lo:=(b.lg c hc).o
 simp_all! only [lo]
 exact ⟨Ji _ _,c.a,c.r,c.w,c.g,rfl,b.lg c hc,q c hc e⟩
theorem Mv.fresh {J J':Hq} {S S':Addr→Prop} (mv:Mv J J' S S') {x:Addr} {o:HQ} (hx:J x=some o) (nx:¬ S x):¬ S' x:=fun z=>by
 rcases mv.own _ z with q | q
 ·exact nx q
 ·rw [hx] at q;cases q
section
variable {cN cL:Addr} {J0 J:Hq} {S0:Addr→Prop} {p:Addr} {L:Ln} {D U:Addr} {gs:List (Str × aS)} {ep:Nat} {used:List Str} {k:Nat}
theorem Wk.more (h:Wk cN cL J0 S0 J p L D U gs ep used k):Wk cN cL J0 S0 J p L D U gs ep used (k + 1):={ h with tl:=xb h.tl,wl:=fun c hc=>by have:=h.wl c hc;omega }
theorem Wk.other (h:Wk cN cL J0 S0 J p L D U gs ep used k) {x:Addr} {o:HQ} (nx:¬ L.own p x) (nD:x≠D) (nU:x≠U) (n0:J0 x=none):Wk cN cL J0 S0 (put J x o) p L D U gs ep used k:=by
 refine { h with b:=h.b.keep fun a u ow e=>by rw [ar (fun z=>by subst z;exact nx ow)];exact e,hD:=by rw [ar (Ne.symm nD)];exact h.hD,hU:=by rw [ar (Ne.symm nU)];exact h.hU,mv:=⟨fun a u e n=>?_,h.mv.own,fun a z=>?_⟩ }
 ·rw [ar (fun z=>by subst z;rw [n0] at e;cases e)];exact h.mv.keep a u e n
 ·by_cases q:a=x
  ·subst q;exact n0
  ·rw [ar q] at z;exact h.mv.mono a z
end
def Iy (L:Ln) (gone:List (Str × Rat)):Prop:=(gone.map (·.1)).Nodup∧∀ x∈gone,∃ c∈L.cs,c.n=x.1∧c.g=some x.2
theorem xY {l:List Str} {n:Str} (h:l.Nodup) (hn:n ∉ l):(l ++ [n]).Nodup:=by
 rw [List.nodup_append]
 refine ⟨h,by simp,fun a ha b hb e=>hn ?_⟩
 rw [List.mem_singleton] at hb
 rw [← hb,← e];exact ha
theorem o7:∀ {l m:List Str},l.Nodup→(∀ x∈l,x∈m)→l.length≤m.length
 | [],_,_,_=>Nat.zero_le _
 | a :: l,m,h,hs=>by
  have ha:=hs a List.mem_cons_self
  have hn:=List.nodup_cons.mp h
  have:=o7 (l:=l) (m:=m.erase a) hn.2 fun x hx=>(List.mem_erase_of_ne (fun e=>hn.1 (by rw [← e];exact hx))).mpr (hs x (List.mem_cons_of_mem _ hx))
  rw [List.length_erase_of_mem ha] at this
  have:=List.length_pos_of_mem ha
  rw [List.length_cons]
  omega
theorem uB {gs:List (Str × aS)} {n:Str} (h:(gs.map (·.1)).Nodup) (hn:n∈gs.map (·.1)):(dX n gs).length + 1=gs.length:=by
 induction gs with
 | nil=>cases hn
 | cons a gs ih =>
  have hk:=List.nodup_cons.mp h
  unfold dX at ih ⊢
  rw [List.filter_cons]
  by_cases e:a.1=n
  ·have hs:∀ x∈gs,decide (x.1≠n)=true:=fun x hx=>decide_eq_true fun z=>hk.1 (List.mem_map.mpr ⟨x,hx,z.trans e.symm⟩)
   rw [if_neg (by simp [e]),List.filter_eq_self.mpr hs]
   rfl
  ·rw [if_pos (by simp [e]),List.length_cons,List.length_cons]
   have:=ih hk.2 ((List.mem_cons.mp hn).resolve_left fun z=>e z.symm)
   omega
abbrev tD:Stmt:=(top 66)
theorem dA:L2.aw ["_law_script","_law_head","_law_names_here","_law_lane","_law_cells","_law_legs","_law_clock","_law_used","_law_gone","_law_k","_law_row","_law_name","_law_one"] ["_law_script"] (L2.aj tD):=dk
theorem B4 {cN cL T eM eP eC f:Addr} {fd:FuncData} (F:bQ K "law" "law" tD f fd) (Z:bC mg) (C_cell:aZ P w K mg base 1 "_law_cell" ["_law_script","_law_k"] wM) (C_digits:aZ P w K mg base 1 "_law_digits" ["_law_cell_here","_law_sizes"] vn) (C_names:aZ P w K mg base 2 "_law_names" ["_law_cell_here","_law_many"] tT) (C_walk:aZ P w K mg base 10 "_law_walk" ["_law_lane","_law_names_here","_law_cells","_law_mode"] (AW cN cL T)) (M_Lane:uc P w K mg base cN 1 "Lane" ["self"] (wX cN cL)) (C_later:aZ P w K mg base 2 "_law_later" ["_law_clock","_law_number","_law_bottom","_law_mode"] qZ) (C_at:aZ P w K mg base 2 "_law_at" ["_law_leg","_law_moment"] jh) (C_part:aZ P w K mg base 2 "_law_part" ["_law_found","_law_due"] kg) (C_stands:aZ P w K mg base 8 "_law_stands" ["_law_lane","_law_legs","_law_clock"] (tV cN cL)) (m_Lane_go_to:cf P w K mg base cN 8 "go_to" ["self","moment"] (AU cN cL eM eP)) (m_Lane_leave:cf P w K mg base cN 2 "leave" ["self","name"] (nk cN cL eC)) (m_Lane_left:cf P w K mg base cN 2 "left" ["self","name"] (wZ cN cL eC)) (m_Lane_place:cf P w K mg base cN 5 "place" ["self","name"] (tS cN cL eC)) :
  aH P w K mg base (cF P w) 11 f fd ["_law_script"] (c8 K (vp [T])):=by
 simp_arith [dA]
 ·obtain ⟨ns,rfl,_⟩:=h;rfl
 obtain ⟨ns,rfl,hl,hT,hJ,q⟩:=h
 have hT:J T=some .tab:=hT T (by simp)
 refine ⟨_,(ai (aF (i:=1) dA.nd rfl (Or.inl rfl) (aM C_digits B hr (by decide) rfl (af (aM C_cell B hr (by decide) rfl (af (rv 0) (af ag ah))) (af (tj (af ag (af ag (af ag ah)))) ah))))
   (ai (aF (i:=2) dA.nd rfl (Or.inl rfl) (aM C_names B hr (by decide) rfl (af (aM C_cell B hr (by decide) rfl (af (rv 0) (af ag ah))) (af (aL cH ag (aq av (rv 1) ag (fun _ _=>rfl))) ah))))
   (ai (aF (i:=3) dA.nd rfl (Or.inl rfl) (mZ M_Lane B hr (by decide) rfl))
   (ai (HF (i:=4) (L2.aj tD) ["_law_script","_law_head","_law_names_here","_law_lane","_law_cells","_law_legs","_law_clock","_law_used","_law_gone","_law_k","_law_row","_law_name","_law_one"] [("_law_script",0)] rfl rfl rfl dA.nd rfl (Or.inl rfl) (iK rfl Z.range (af (aq av (rv 1) ag (fun _ _=>rfl)) ah)) (fun _ _ _ _ _ _=>(aM C_cell Gh hr (by decide) rfl (af (rv 1) (af (aL cH ag (rv 0)) ah)))))
   (ai (qC (aM C_walk B hr (by decide) rfl (af (rv 3) (af (gf AX (rv 2) iM (iN (pd k7 ag))) (af (rv 4) (af (aq av (rv 1) ag (fun _ _=>rfl)) ah))))) (m4 (n:=3) rfl (cA (bj (i:=5) dA.nd rfl (Or.inl rfl)) (cA (bj (i:=6) dA.nd rfl (Or.inl rfl)) (cA (bj (i:=7) dA.nd rfl (Or.inl rfl)) j1)))))
   (ai (aF (i:=8) dA.nd rfl (Or.inl rfl) qz)
   (ai (dM bI rfl (iK rfl Z.range (af (aG vM rfl Z.len boot_len (af (rv 5) ah)) ah)) (bj (i:=9) dA.nd rfl (Or.inl rfl)) (ai (aF (i:=10) dA.nd rfl (Or.inl rfl) (aM C_digits B hr (by decide) rfl (af (aM C_cell B hr (by decide) rfl (af (rv 0) (af (aL cH ag (rv 9)) ah))) (af (tj (ve [.int 97,.int 3,.int 400000,.int 60] rfl [.int 97,.int 3,.int 400000,.int 60] rfl)) ah))))
   (ai (aF (i:=11) dA.nd rfl (Or.inl rfl) (aq av (gd (mn rfl) rfl Z.list boot_list (af (rv 5) ah)) (aL dI (aq av (rv 10) ag (fun _ _=>rfl)) (aG vM rfl Z.len boot_len (af (rv 5) ah))) (fun _ _=>rfl)))
   (dn (aR (aD (cy hr.aT) (aq av (rv 10) ag (fun _ _=>rfl)) ag (L2.ax _)) (ai (aF (i:=6) dA.nd rfl (Or.inl rfl) (aM C_later B hr (by decide) rfl (af (rv 6) (af (aq av (rv 10) ag (fun _ _=>rfl)) (af (aq av (rv 10) ag (fun _ _=>rfl)) (af (aq av (rv 1) ag (fun _ _=>rfl)) ah))))))
   (ak (aX (aY (pl:=_) m_Lane_go_to B hr (by decide) (rv 3) (af (rv 6) ah))))) aE)
   (ai (aR (aD hX (aY (pl:=_) m_Lane_leave B hr (by decide) (rv 3) (af (rv 11) ah)) gB (L2.ax _)) (ak (ay dR)) aE)
   (ai (aX (jc PySem.F.plainAttrs_dict PySem.F.slot_dict_pop PySem.F.type_dict_pop wm (rv 5) (af (rv 11) ah)))
   (ai (m5 kj (rv 8) (rv 11) (rv 6))
   (ai (aR (cj (bz (aM C_stands B hr (by decide) rfl (af (rv 3) (af (rv 5) (af (rv 6) ah)))))) (ak (ay dR)) aE)
   (ai (dM bI rfl (lV (rv 5)) (bj (i:=12) dA.nd rfl (Or.inl rfl)) (ak (aR (dh (je (aD hX (aY (pl:=_) m_Lane_left B hr (by decide) (rv 3) (af (rv 12) ah)) gB (L2.ax _)) (fU (cj (bz (aM C_part B hr (by decide) rfl (af (aY (pl:=_) m_Lane_place B hr (by decide) (rv 3) (af (rv 12) ah)) (af (aM C_at B hr (by decide) rfl (af (aq cG (rv 5) (rv 12) (fun _ _=>rfl)) (af (rv 6) ah))) ah)))))))) (ak (ay dR)) aE)))
   (ak (dM bI rfl (lV (rv 8)) (bj (i:=12) dA.nd rfl (Or.inl rfl)) (ak (aR (cj (bz (aM C_part B hr (by decide) rfl (af (aY (pl:=_) m_Lane_left B hr (by decide) (rv 3) (af (rv 12) ah)) (af (aq cG (rv 8) (rv 12) (fun _ _=>rfl)) ah))))) (ak (ay dR)) aE)))))))))))))
   (ak (ay dR))))))))),?_⟩
 simp_all! only []
 refine ⟨ns,0,rfl,by decide,by decide,_,[21,7,4],rfl,ka (by decide),by decide,fun ds hD=>?_⟩
 obtain ⟨d0,ds,rfl,d00,d01,hD⟩:=hD.cons
 obtain ⟨d1,ds,rfl,d10,d11,hD⟩:=hD.cons
 obtain ⟨d2,ds,rfl,d20,d21,hD⟩:=hD.cons
 cases hD.nil
 simp_all! only []
 refine ⟨ns,1,rfl,by decide,by decide,_,3 + d1,rfl,by omega,by omega,fun names nl nd ng=>?_⟩
 simp_all! only []
 intro p hp
 refine ⟨p,rfl,au,fun J1 d e o b mv=>?_⟩
 have mvJ:Mv J J1 (fun _=>False) (Ln.own ⟨0,d,e,o,[],[]⟩ p):=by
  refine (Mv.xX (S:=fun _=>False) hp).trans ⟨fun a u h n=>mv.keep a u h fun z=>n (.inr z),fun a z=>(mv.own a z).imp .inr id,mv.mono⟩
 have ok0:bU ⟨0,d,e,o,[],[]⟩:=⟨⟨List.nodup_nil,(by simp),(by simp),(by simp),(by simp),(by simp),Rat.le_refl,K5 _,(by show 0≤100;decide),(by intro n;simp [Ln.fs,Ln.yJ]),List.nodup_nil,(by show 0≤12;decide)⟩,rfl⟩
 have hT1:J1 T=some .tab:=mvJ.keep _ _ hT fun z=>z
 simp_all! only [sZ]
 refine ⟨by omega,by omega,fun _=>true,fun x=>.int (rG ns (8 + IG x)),⟨by rw [f7];exact aV (by omega),fun J' _=>⟨trivial,fun x hx=>⟨⟨rfl,rfl⟩,fun _=>?_⟩⟩⟩,?_⟩
 ·obtain ⟨i,hi⟩:=List.mem_iff_getElem?.mp hx
  obtain ⟨i1,rfl⟩:=(mF _ _ _ _).mp hi
  simp_all! only []
  exact ⟨ns,_,rfl,by omega,by omega,rfl,rfl⟩
 obtain ⟨cs,hcs,hcl⟩:∃ cs:List Int,((mE 0 d0.toNat).filter fun _=>true).map (fun x=>PV.int (rG ns (8 + IG x)))=cs.map .int∧cs.length≤21:=⟨((mE 0 d0.toNat).filter fun _=>true).map (fun x=>rG ns (8 + IG x)),by rw [List.map_map];rfl,by
  rw [List.length_map]
  exact Nat.le_trans (List.length_filter_le _ _) (by rw [f7];omega)⟩
 rw [hcs]
 simp_all! only [yZ]
 have hnl:names.dropLast.length≤40:=by rw [List.length_dropLast];omega
 refine ⟨p,_,names.dropLast,cs,d2,rfl,b,ok0,rfl,rfl,hT1,hnl,(fun n hn=>ng n (List.dropLast_subset _ hn)),by omega,d20,d21,fun J2 L D U gs ep used wk hun hus hul=>?_⟩
 have hT2:J2 T=some .tab:=wk.kept hT1 (b.BZ hT1)
 obtain ⟨st,gnd,gl,gsz⟩:=wk.up
 clear mvJ mv hcs
 simp_all! only []
 intro Gn hG ep2
 have nGo:¬ L.own p Gn:=fun z=>wk.b.some z hG
 have nGD:Gn≠D:=fun e=>by rw [e,wk.hD] at hG;cases hG
 have nGU:Gn≠U:=fun e=>by rw [e,wk.hU] at hG;cases hG
 have hG0:J1 Gn=none:=wk.mv.mono _ hG
 have wk0:=wk.other (o:=.dct [] ep2) nGo nGD nGU hG0
 have hll:∀ g:List (Str × aS),(bh g).length=g.length:=fun g=>by unfold bh;rw [List.length_map]
 have hT2:(put J2 Gn (.dct [] ep2)) T=some .tab:=wk0.kept hT1 (b.BZ hT1)
 obtain ⟨g0,hg0⟩:∃ g0:Nat,gs.length=g0:=⟨_,rfl⟩
 simp_all! only [wk0.hD,hll]
 refine ⟨by omega,by omega,?_⟩
 obtain ⟨Inv,hInv⟩:∃ Inv:Nat→Sr→Hq→Prop,∀ i τ J',Inv i τ J'↔∃ (L:Ln) (gs:List (Str × aS)) (ep ep2:Nat) (gone:List (Str × Rat)) (u9 u10 u11 u12:Option PV),τ=[some (.fl (ns.map .int)),some (.fl [.int d0,.int d1,.int d2]),some (.fl (names.map .str)),some (.ref p),some (.fl (cs.map .int)),some (.ref D),some (fr L.t),some (.ref U),some (.ref Gn),u9,u10,u11,u12]∧Wk cN cL J1 (Ln.own ⟨0,d,e,o,[],[]⟩ p) J' p L D U gs ep used (cs.length + i)∧J' Gn=some (.dct (gone.map fun x=>(x.1,fr x.2)) ep2)∧¬ L.own p Gn∧gs.length + i=g0∧Iy L gone:=⟨_,fun _ _ _=>Iff.rfl⟩
 refine pK Inv ((hInv _ _ _).mpr ⟨L,gs,ep,ep2,[],_,_,_,_,rfl,wk0,au,nGo,hg0,⟨List.nodup_nil,by simp⟩⟩) ?_ ?_
 ·clear wk0 nGo hG hT2 gnd gsz st
  intro i τ J' hi hv
  obtain ⟨L,gs,ep,ep2,gone,u9,u10,u11,u12,rfl,wk,hG,nG,hgi,gne⟩:=(hInv _ _ _).mp hv
  clear hv
  have hi':i < g0:=by omega
  obtain ⟨st,gnd,gl,gsz⟩:=wk.up
  simp_all! only []
  refine ⟨ns,2 + (0 + (i:Int)),rfl,by omega,by omega,_,[97,3,400000,60],rfl,ka (by decide),by decide,fun ds hQ=>?_⟩
  obtain ⟨e0,ds,rfl,e00,e01,hQ⟩:=hQ.cons
  obtain ⟨e1,ds,rfl,e10,e11,hQ⟩:=hQ.cons
  obtain ⟨e2,ds,rfl,e20,e21,hQ⟩:=hQ.cons
  obtain ⟨e3,ds,rfl,e30,e31,hQ⟩:=hQ.cons
  cases hQ.nil
  obtain ⟨n,hn,ha⟩:=lS (xs:=gs.map (·.1)) e00 (by rw [List.length_map];omega)
  rw [List.length_map] at ha
  have hkv2:(bh gs).map (fun kv=>PV.str kv.1)=(gs.map (·.1)).map PV.str:=by unfold bh;rw [List.map_map,List.map_map];rfl
  simp_all! only [wk.hD,hkv2,hll,ha]
  refine ⟨by omega,?_⟩
  obtain ⟨M,hM⟩:∃ M:Sr→Hq→Prop,∀ τ' Ja,M τ' Ja↔∃ (L1:Ln),τ'=[some (.fl (ns.map .int)),some (.fl [.int d0,.int d1,.int d2]),some (.fl (names.map .str)),some (.ref p),some (.fl (cs.map .int)),some (.ref D),some (fr L1.t),some (.ref U),some (.ref Gn),some (.int (0 + (i:Int))),some (.fl [.int e0,.int e1,.int e2,.int e3]),some (.str n),u12]∧Wk cN cL J1 (Ln.own ⟨0,d,e,o,[],[]⟩ p) Ja p L1 D U gs ep used (cs.length + (i + 1))∧Ja Gn=some (.dct (gone.map fun x=>(x.1,fr x.2)) ep2)∧¬ L1.own p Gn∧L1.cs=L.cs:=⟨_,fun _ _=>Iff.rfl⟩
  refine ⟨M,?_,?_⟩
  ·simp_all! only []
   split
   ·simp_all! only []
    refine ⟨L.t,e2,e3,d2,rfl,e20,e30,d20,d21,by omega,st,fun m' hm'=>?_⟩
    have tl3:=q9 (rX hm' wk.ok.t0) wk.tl
    have td3:=oZ hm' wk.td
    have hg:fz m'.num m'.den=true:=rR (Rat.le_trans wk.ok.t0 hm'.le) td3 (zH.mpr (mL (by omega) tl3))
    simp_all! only [wk.b.ob]
    refine ⟨dF _ _ _ _,p,L,m'.num,m'.den,rfl,wk.b,wk.ok,(fun z=>by rw [hg] at z;cases z),fun m1 h1 h2 _=>?_⟩
    obtain rfl:m1=m':=Rat.ext h1 (by omega)
    refine ⟨fun z=>absurd z (Rat.not_lt.mpr hm'.le),fun _ J3 o3 b3 ok3 mv3=>?_⟩
    have hD3:=mv3.keep _ _ wk.hD wk.nD
    have w3:=wk.next b3 ok3 mv3 (wk.rl.go hm'.le) td3 tl3 (fun c hc=>by have:=wk.wl c hc;omega) ep
    rw [qs hD3] at w3
    exact (hM _ _).mpr ⟨_,rfl,w3,mv3.keep _ _ hG nG,mv3.fresh hG nG,rfl⟩
   ·exact (hM _ _).mpr ⟨L,rfl,wk.more,hG,nG,rfl⟩
  intro τ' Ja hm
  obtain ⟨L1,rfl,wk1,hG1,nG1,ecs⟩:=(hM _ _).mp hm
  clear hm hM M hG nG wk st gsz
  have gne1:Iy L1 gone:=⟨gne.1,by rw [ecs];exact gne.2⟩
  have hnr:n∈L1.row:=(wk1.ok.rm n).mpr (by rw [← wk1.rl.nm];exact hn)
  simp_all! only [wk1.b.ob]
  refine ⟨dF _ _ _ _,p,L1,n,rfl,wk1.b,wk1.ok,fun z=>absurd hnr z,fun _ J3 L3 b3 ok3 e3s t3 mv3=>?_⟩
  have hD3:=mv3.keep _ _ wk1.hD wk1.nD
  obtain ⟨l,hl,hvl⟩:=l_ (f:=aS.V) gnd hn
  have hvl:i9 (bh gs) n=some l.V:=hvl
  simp_all! only [hD3,hvl]
  intro ep'
  have edr:xC (bh gs) n=bh (dX n gs):=by unfold xC bh dX;rw [List.filter_map];rfl
  rw [edr]
  have wk3:=wk1.next b3 ok3 mv3 (wk1.rl.leave e3s t3) (by rw [t3];exact wk1.td) (by rw [t3];exact wk1.tl) (fun c hc=>by
   rw [e3s] at hc
   obtain ⟨c0,h0,rfl⟩:=List.mem_map.mp hc
   rw [(dD n L1.t c0).2.2.2];exact wk1.wl c0 h0) ep'
  have nG3:=mv3.fresh hG1 nG1
  have hG3:(put J3 D (.dct (bh (dX n gs)) ep')) Gn=some (.dct (gone.map fun x=>(x.1,fr x.2)) ep2):=by rw [ar nGD];exact mv3.keep _ _ hG1 nG1
  obtain ⟨c0,hc0,hcn,hcg⟩:=wk1.ok.found hnr
  have hng:n ∉ gone.map (·.1):=fun z=>by
   obtain ⟨x,hx,ex⟩:=List.mem_map.mp z
   obtain ⟨c,hc,ec,eg⟩:=gne1.2 x hx
   have:=wk1.ok.uniq hc hc0 (by rw [ec,ex,hcn])
   rw [this,hcg] at eg;cases eg
  have gne3:Iy L3 (gone ++ [(n,L1.t)]):=by
   refine ⟨by rw [List.map_append];exact xY gne1.1 hng,fun x hx=>?_⟩
   rw [e3s]
   rcases List.mem_append.mp hx with hx | hx
   ·obtain ⟨c,hc,ec,eg⟩:=gne1.2 x hx
    refine ⟨_,List.mem_map.mpr ⟨c,hc,rfl⟩,?_⟩
    have hne:¬ c.n=n:=fun z=>hng (List.mem_map.mpr ⟨x,hx,by rw [← ec];exact z⟩)
    unfold bp
    rw [if_neg hne]
    exact ⟨ec,eg⟩
   ·rw [List.mem_singleton] at hx
    subst hx
    refine ⟨_,List.mem_map.mpr ⟨c0,hc0,rfl⟩,?_⟩
    unfold bp
    rw [if_pos hcn]
    exact ⟨hcn,rfl⟩
  have hgl:gone.length≤100:=by
   have h1:∀ x∈gone.map (·.1),x∈L1.cs.map Cf.n:=fun x hx=>by
    obtain ⟨y,hy,rfl⟩:=List.mem_map.mp hx
    obtain ⟨c,hc,ec,_⟩:=gne1.2 y hy
    exact List.mem_map.mpr ⟨c,hc,ec⟩
   have h2:=o7 gne1.1 h1
   rw [List.length_map,List.length_map] at h2
   exact Nat.le_trans h2 wk1.ok.many
  have hgi3:(dX n gs).length + (i + 1)=g0:=by
   have:=uB gnd hn
   omega
  clear gne gne1 hG1 nG1 hD3 b3 ok3 mv3 hvl hl
  generalize dX n gs=gs3 at *
  generalize put J3 D (.dct (bh gs3) ep')=J4 at *
  simp_all! only [hG3]
  refine ⟨aV (by rw [List.length_map];omega),fun ep3=>?_⟩
  rw [qp (f:=fr) hng]
  have wk4:=wk3.other (o:=.dct ((gone ++ [(n,L1.t)]).map fun x=>(x.1,fr x.2)) ep3) nG3 nGD nGU hG0
  clear hG3 wk3 hng
  have hG4:(put J4 Gn (.dct ((gone ++ [(n,L1.t)]).map fun x=>(x.1,fr x.2)) ep3)) Gn=_:=au
  generalize gone ++ [(n,L1.t)]=gone3 at *
  generalize put J4 Gn (.dct (gone3.map fun x=>(x.1,fr x.2)) ep3)=J5 at *
  rw [← t3]
  have bo:=wk4.b.ob
  have hD:=wk4.hD
  obtain ⟨st,gnd,gl,gsz⟩:=wk4.up
  have hfl:=wk4.ok.Ek
  simp_all! only []
  refine ⟨p,L3,D,ep',gs3,rfl,wk4.b,wk4.ok,hD,gnd,by omega,wk4.rl.sz,wk4.rl.same _,true,rfl,?_⟩
  rw [if_neg (by decide)]
  have hkv:(bh gs3).map (fun kv=>PV.str kv.1)=gs3.map fun x=>PV.str x.1:=by unfold bh;rw [List.map_map];rfl
  simp_all! only [hD,hkv]
  obtain ⟨In2,hIn2⟩:∃ In2:Nat→Sr→Hq→Prop,∀ j τ Jb,In2 j τ Jb↔∃ u12:Option PV,τ=[some (.fl (ns.map .int)),some (.fl [.int d0,.int d1,.int d2]),some (.fl (names.map .str)),some (.ref p),some (.fl (cs.map .int)),some (.ref D),some (fr L3.t),some (.ref U),some (.ref Gn),some (.int (0 + (i:Int))),some (.fl [.int e0,.int e1,.int e2,.int e3]),some (.str n),u12]∧Jb=J5:=⟨_,fun _ _ _=>Iff.rfl⟩
  refine fe In2 ((hIn2 _ _ _).mpr ⟨_,rfl,rfl⟩) (fun i τ Jb h=>?_) ?_ ?_
  ·obtain ⟨_,_,rfl⟩:=(hIn2 _ _ _).mp h
   exact hD
  ·intro j y τ Jb hx hv
   obtain ⟨u12,rfl,rfl⟩:=(hIn2 _ _ _).mp hv
   clear hv
   obtain ⟨⟨m,l⟩,hmem,rfl⟩:=List.mem_map.mp (List.mem_of_getElem? hx)
   have hvn:i9 (bh gs3) m=some l.V:=fq (f:=aS.V) gnd hmem
   have sll:=gsz _ hmem
   have hmr:m∈L3.row:=(wk4.ok.rm m).mpr (by rw [← wk4.rl.nm];exact List.mem_map.mpr ⟨_,hmem,rfl⟩)
   obtain ⟨c1,hc1,hc1n,hc1g⟩:=wk4.ok.found hmr
   have hmn:m∈L3.cs.map Cf.n:=List.mem_map.mpr ⟨c1,hc1,hc1n⟩
   simp_all! only [bo]
   refine ⟨dF _ _ _ _,p,L3,m,rfl,wk4.b,wk4.ok.toaU,fun c hc e=>?_,fun z=>absurd hmn z⟩
   cases wk4.ok.uniq hc hc1 (e.trans hc1n.symm)
   rw [hc1g]
   simp_all! only [gv]
   refine ⟨_,bo,dF _ _ _ _,p,L3,m,rfl,wk4.b,wk4.ok.toaU,fun c' hc' e' hg'=>?_,fun z=>absurd hmr z⟩
   have es:l.at L3.t=c'.cur.at L3.t:=(wk4.rl.ln m l c'.cur hmem (by rw [← e'];exact List.mem_map.mpr ⟨c',Ln.cV.mpr ⟨hc',hg'⟩,rfl⟩)).2 _
   refine ⟨_,_,hD,_,hvn,l,L3.t,rfl,sll.m,sll.p,st,sll.v,l.at L3.t,by rw [es],true,rfl,?_⟩
   rw [if_neg (by decide)]
   exact (hIn2 _ _ _).mpr ⟨_,rfl,rfl⟩
  ·intro τ Jb hv
   obtain ⟨u12,rfl,rfl⟩:=(hIn2 _ _ _).mp hv
   clear hv hIn2 In2
   have hkg:(gone3.map fun x=>(x.1,fr x.2)).map (fun kv=>PV.str kv.1)=gone3.map fun x=>PV.str x.1:=by rw [List.map_map];rfl
   simp_all! only [hG4,hkg]
   obtain ⟨In2,hIn2⟩:∃ In2:Nat→Sr→Hq→Prop,∀ j τ Jc,In2 j τ Jc↔∃ u12:Option PV,τ=[some (.fl (ns.map .int)),some (.fl [.int d0,.int d1,.int d2]),some (.fl (names.map .str)),some (.ref p),some (.fl (cs.map .int)),some (.ref D),some (fr L3.t),some (.ref U),some (.ref Gn),some (.int (0 + (i:Int))),some (.fl [.int e0,.int e1,.int e2,.int e3]),some (.str n),u12]∧Jc=Jb:=⟨_,fun _ _ _=>Iff.rfl⟩
   refine fe In2 ((hIn2 _ _ _).mpr ⟨_,rfl,rfl⟩) (fun i τ Jb h=>?_) ?_ ?_
   ·obtain ⟨_,_,rfl⟩:=(hIn2 _ _ _).mp h
    exact hG4
   ·intro j y τ Jc hx hv
    obtain ⟨u12,rfl,rfl⟩:=(hIn2 _ _ _).mp hv
    clear hv
    obtain ⟨⟨m,s⟩,hmem,rfl⟩:=List.mem_map.mp (List.mem_of_getElem? hx)
    have hvn:=fq (f:=fr) gne3.1 hmem
    obtain ⟨c1,hc1,hc1n,hc1g⟩:=gne3.2 _ hmem
    have hmn:m∈L3.cs.map Cf.n:=List.mem_map.mpr ⟨c1,hc1,hc1n⟩
    simp_all! only [bo]
    refine ⟨dF _ _ _ _,p,L3,m,rfl,wk4.b,wk4.ok.toaU,fun c hc e=>?_,fun z=>absurd hmn z⟩
    cases wk4.ok.uniq hc hc1 (e.trans hc1n.symm)
    rw [hc1g]
    refine ⟨_,_,hG4,_,hvn,s,rfl,true,rfl,?_⟩
    rw [if_neg (by decide)]
    exact (hIn2 _ _ _).mpr ⟨_,rfl,rfl⟩
   ·intro τ Jc hv
    obtain ⟨u12,rfl,rfl⟩:=(hIn2 _ _ _).mp hv
    exact (hInv _ _ _).mpr ⟨L3,gs3,ep',ep3,gone3,_,_,_,_,rfl,wk4,hG4,nG3,hgi3,gne3⟩
 ·intro τ J' hv
  obtain ⟨L,gs,ep,ep2,gone,u9,u10,u11,u12,rfl,wk,hG,nG,hgi,gne⟩:=(hInv _ _ _).mp hv
  exact q J' (by simpa using wk.kept hT1 (b.BZ hT1))
end
theorem D9 {P:Program} {w:World} {K:PySem.W.Frag} {mg:Str→Option Value} (Z:bC mg) (N:mh K mg) {t_FARTHEST:Tok} (g_FARTHEST:mg "FARTHEST"=some (.int 1000000 t_FARTHEST)) {t_FASTEST:Tok} (g_FASTEST:mg "FASTEST"=some (.int 1000 t_FASTEST)) {t_FINEST:Tok} (g_FINEST:mg "FINEST"=some (.int 60 t_FINEST)) {t_LATEST:Tok} (g_LATEST:mg "LATEST"=some (.int 1000000 t_LATEST)) {t_LONGEST:Tok} (g_LONGEST:mg "LONGEST"=some (.int 8 t_LONGEST)) {t_MOST:Tok} (g_MOST:mg "MOST"=some (.int 12 t_MOST)) {t_SIGNS:Tok} (g_SIGNS:mg "SIGNS"=some (.str "abcdefghijklmnopqrstuvwxyz0123456789" t_SIGNS)) {e_BadMoment:Addr} (O_BadMoment:Own K mg "BadMoment" e_BadMoment) {e_BadName:Addr} (O_BadName:Own K mg "BadName" e_BadName) {e_Full:Addr} (O_Full:Own K mg "Full" e_Full) {e_NoCraft:Addr} (O_NoCraft:Own K mg "NoCraft" e_NoCraft) {e_NotThere:Addr} (O_NotThere:Own K mg "NotThere" e_NotThere) {e_Past:Addr} (O_Past:Own K mg "Past" e_Past) {e_Taken:Addr} (O_Taken:Own K mg "Taken" e_Taken) {e_TooFar:Addr} (O_TooFar:Own K mg "TooFar" e_TooFar) {c_Log:Addr} (KD_Log:cR K mg "Log" c_Log) {c_Lane:Addr} (KD_Lane:cR K mg "Lane" c_Lane) {c_Bells:Addr} (KD_Bells:cR K mg "Bells" c_Bells) (NA_Log_rows:az K c_Log "rows") (NA_Log_gone:az K c_Log "gone") (NA_Lane_now:az K c_Lane "now") (NA_Lane_logs:az K c_Lane "logs") (NA_Lane_row:az K c_Lane "row") (NA_Bells_rows:az K c_Bells "rows") (D_cell:Def K mg "_law_cell" qD) (D_digits:Def K mg "_law_digits" j3) (D_shared:Def K mg "shared" j6) (D_fraction:Def K mg "fraction" gH) (D_low:Def K mg "_law_low" wI) (D_less:Def K mg "less" qF) (D_plus:Def K mg "plus" qH) (D_minus:Def K mg "minus" lY) (D_times:Def K mg "times" l3) {T_good_name:Addr} (D_good_name:t_ K mg "good_name" fK T_good_name) (D_names:Def K mg "_law_names" iT) (D_place_on:Def K mg "place_on" gK) (D_last_by:Def K mg "last_by" iQ) (D_lies_behind:Def K mg "lies_behind" d7) (D_in_order:Def K mg "in_order" gI) (D_rings_ahead:Def K mg "rings_ahead" d8) (D_meeting:Def K mg "meeting" iS) (D_in_lowest_terms:Def K mg "in_lowest_terms" cK) (D_good_moment:Def K mg "good_moment" d6) (D_whole:Def K mg "_law_whole" l4) (D_part:Def K mg "_law_part" qG) (D_words:Def K mg "_law_words" l5) (D_passrow:Def K mg "_law_passrow" iW) (D_passrows:Def K mg "_law_passrows" gJ) (D_placed:Def K mg "_law_placed" j5) (D_paced:Def K mg "_law_paced" lZ) (D_at:Def K mg "_law_at" CK) (D_later:Def K mg "_law_later" lX) (D_before:Def K mg "_law_before" j2) (D_order:Def K mg "_law_order" j4) (D_ringdue:Def K mg "_law_ringdue" iX) (D_stands:Def K mg "_law_stands" j7) (D_acted:Def K mg "_law_acted" lW) (D_done:Def K mg "_law_done" qE) (D_deed:Def K mg "_law_deed" m6) (D_walk:Def K mg "_law_walk" qJ) (MD_Log___init__:bq K c_Log "__init__" "Log.__init__" dP) (MD_Log_turn:bq K c_Log "turn" "Log.turn" gG) (MD_Log_leave:bq K c_Log "leave" "Log.leave" fI) (MD_Log_left:bq K c_Log "left" "Log.left" gF) (MD_Log_there:bq K c_Log "there" "Log.there" fJ) (MD_Log_leg_at:bq K c_Log "leg_at" "Log.leg_at" e9) (MD_Lane___init__:bq K c_Lane "__init__" "Lane.__init__" dq) (MD_Lane_must_be_there:bq K c_Lane "must_be_there" "Lane.must_be_there" bW) (MD_Lane_leg_of:bq K c_Lane "leg_of" "Lane.leg_of" d4) (MD_Lane_settle:bq K c_Lane "settle" "Lane.settle" di) (MD_Lane_join:bq K c_Lane "join" "Lane.join" fF) (MD_Lane_clock:bq K c_Lane "clock" "Lane.clock" eV) (MD_Lane_order:bq K c_Lane "order" "Lane.order" eZ) (MD_Lane_place:bq K c_Lane "place" "Lane.place" e8) (MD_Lane_log_of:bq K c_Lane "log_of" "Lane.log_of" d5) (MD_Lane_left:bq K c_Lane "left" "Lane.left" fG) (MD_Bells___init__:bq K c_Bells "__init__" "Bells.__init__" cX) (MD_Bells_drop:bq K c_Bells "drop" "Bells.drop" dO) (MD_Bells_put:bq K c_Bells "put" "Bells.put" fE) (MD_Bells_told:bq K c_Bells "told" "Bells.told" eQ) (MD_Lane_meets:bq K c_Lane "meets" "Lane.meets" eY) (MD_Lane_foretold:bq K c_Lane "foretold" "Lane.foretold" dt) (MD_Lane_go_to:bq K c_Lane "go_to" "Lane.go_to" eW) (MD_Lane_bells:bq K c_Lane "bells" "Lane.bells" eS) (MD_Lane_turn:bq K c_Lane "turn" "Lane.turn" fH) (MD_Lane_about:bq K c_Lane "about" "Lane.about" eR) (MD_Lane_leave:bq K c_Lane "leave" "Lane.leave" eX) {f:Addr} {fd:FuncData} (F:bQ K "law" "law" tD f fd) (base:Heap) (Bm:BMain mg base) :
  aH P w K mg base (cF P w) 11 f fd ["_law_script"] (c8 K (vp [T_good_name])):=by
 have L_cell:=D_cell.d9 (P:=P) (w:=w) (base:=base) (fun _ _ F=>zU F Z) fun _ _ _ _ _ _=>gS fun _ _=>rfl
 have C_digits:=D_digits.yW (P:=P) (w:=w) (base:=base) (fun _ _ F=>x5 F Z.toyF) fun _ _ _ _ _ _=>gS fun _ _=>rfl
 have L_digits:=sd C_digits
 have C_shared:=D_shared.yW (P:=P) (w:=w) (base:=base) (fun _ _ F=>x6 F Z.toyF) fun _ _ _ _ _ _=>gS fun _ _=>rfl
 have L_shared:=se C_shared
 have C_fraction:=D_fraction.yW (P:=P) (w:=w) (base:=base) (fun _ _ F=>sC F Z.toyF C_shared) fun _ _ _ _ _ _=>gS fun _ _=>rfl
 have L_fraction:=nX C_fraction
 have C_low:=D_low.yW (P:=P) (w:=w) (base:=base) (fun _ _ F=>EO F Z.toyF) fun _ _ _ _ _ _=>gS fun _ _=>rfl
 have L_low:=zJ C_low
 have C_less:=D_less.yW (P:=P) (w:=w) (base:=base) (fun _ _ F=>B2 F Z.toyF) fun _ _ _ _ _ _=>gS fun _ _=>rfl
 have L_less:=xQ C_less
 have C_plus:=D_plus.yW (P:=P) (w:=w) (base:=base) (fun _ _ F=>B3 F Z.toyF C_fraction) fun _ _ _ _ _ _=>gS fun _ _=>rfl
 have C_minus:=D_minus.yW (P:=P) (w:=w) (base:=base) (fun _ _ F=>zR F Z.toyF C_fraction) fun _ _ _ _ _ _=>gS fun _ _=>rfl
 have C_times:=D_times.yW (P:=P) (w:=w) (base:=base) (fun _ _ F=>zT F Z.toyF C_fraction) fun _ _ _ _ _ _=>gS fun _ _=>rfl
 have L_plus:=xR C_plus
 have L_minus:=uC C_minus
 have L_times:=uE C_times
 have C_good_name:=D_good_name.yW (P:=P) (w:=w) (base:=base) (fun _ _ _ F=>p8 F Z.toyF Bm g_LONGEST g_SIGNS) fun _ _ _ _ _ _=>xy fun _=>rfl
 have L_good_name:=mJ C_good_name
 have C_names:=D_names.yW (P:=P) (w:=w) (base:=base) (fun _ _ F=>zS F Z.toyF C_digits) fun _ _ _ _ _ _=>gS fun _ _=>rfl
 have L_names:=uD C_names
 have L_place_on:=D_place_on.d9 (P:=P) (w:=w) (base:=base) (fun _ _ F=>qa F Z L_plus L_minus L_times) fun _ _ _ _ _ _=>gS fun _ _=>rfl
 have L_last_by:=D_last_by.d9 (P:=P) (w:=w) (base:=base) (fun _ _ F=>sD F Z L_less) fun _ _ _ _ _ _=>gS fun _ _=>rfl
 have L_lies_behind:=D_lies_behind.d9 (P:=P) (w:=w) (base:=base) (fun _ _ F=>lE F Z L_place_on L_less) fun _ _ _ _ _ _=>KP fun _ _ _ _ _=>rfl
 have L_in_order:=D_in_order.d9 (P:=P) (w:=w) (base:=base) (fun _ _ F=>p9 F Z L_lies_behind) fun _ _ _ _ _ _=>gS fun _ _=>rfl
 have M_Log:=MD_Log___init__.Jn (P:=P) (w:=w) (base:=base) KD_Log (fun _ _ F=>sv F KD_Log NA_Log_rows NA_Log_gone) fun _ _ _ _ _ _=>F4 fun _ _ _ _=>rfl
 have m_Log_turn:=MD_Log_turn.lN (P:=P) (w:=w) (base:=base) (mg:=mg) KD_Log.cl (fun _ _ F=>sy F Z KD_Log NA_Log_rows L_place_on) fun _ _ _ _ _ _=>FL fun _ _ _=>rfl
 have m_Log_leave:=MD_Log_leave.lN (P:=P) (w:=w) (base:=base) (mg:=mg) KD_Log.cl (fun _ _ F=>p6 F Z KD_Log NA_Log_gone) fun _ _ _ _ _ _=>gS fun _ _=>rfl
 have m_Log_left:=MD_Log_left.lN (P:=P) (w:=w) (base:=base) (mg:=mg) KD_Log.cl (fun _ _ F=>sx F Z KD_Log NA_Log_gone) fun _ _ _ _ _ _=>xy fun _=>rfl
 have m_Log_there:=MD_Log_there.lN (P:=P) (w:=w) (base:=base) (mg:=mg) KD_Log.cl (fun _ _ F=>p7 F Z KD_Log NA_Log_rows NA_Log_gone L_less) fun _ _ _ _ _ _=>gS fun _ _=>rfl
 have m_Log_leg_at:=MD_Log_leg_at.lN (P:=P) (w:=w) (base:=base) (mg:=mg) KD_Log.cl (fun _ _ F=>om F Z KD_Log NA_Log_rows O_NotThere m_Log_there L_last_by) fun _ _ _ _ _ _=>gS fun _ _=>rfl
 have M_Lane:=MD_Lane___init__.Jn (P:=P) (w:=w) (base:=base) KD_Lane (fun _ _ F=>pX F (cL:=c_Log) N KD_Lane NA_Lane_now NA_Lane_logs NA_Lane_row) fun _ _ _ _ _ _=>xy fun _=>rfl
 have m_Lane_must_be_there:=MD_Lane_must_be_there.lN (P:=P) (w:=w) (base:=base) (mg:=mg) KD_Lane.cl (fun _ _ F=>gW F Z (cL:=c_Log) KD_Lane NA_Lane_row O_NoCraft) fun _ _ _ _ _ _=>gS fun _ _=>rfl
 have m_Lane_leg_of:=MD_Lane_leg_of.lN (P:=P) (w:=w) (base:=base) (mg:=mg) KD_Lane.cl (fun _ _ F=>mM F Z KD_Lane NA_Lane_logs NA_Lane_now m_Lane_must_be_there m_Log_leg_at) fun _ _ _ _ _ _=>gS fun _ _=>rfl
 have m_Lane_settle:=MD_Lane_settle.lN (P:=P) (w:=w) (base:=base) (mg:=mg) KD_Lane.cl (fun _ _ F=>mP F Z KD_Lane NA_Lane_row NA_Lane_now m_Lane_leg_of L_in_order) fun _ _ _ _ _ _=>xy fun _=>rfl
 have m_Lane_join:=MD_Lane_join.lN (P:=P) (w:=w) (base:=base) (mg:=mg) KD_Lane.cl (fun _ _ F=>pY F Z KD_Lane NA_Lane_row NA_Lane_now NA_Lane_logs g_FARTHEST g_FASTEST g_MOST O_BadName O_TooFar O_Taken O_Full L_good_name M_Log m_Lane_settle) fun _ _ _ _ _ _=>F4 fun _ _ _ _=>rfl
 have m_Lane_clock:=MD_Lane_clock.lN (P:=P) (w:=w) (base:=base) (mg:=mg) KD_Lane.cl (fun _ _ F=>n_ F Z (cL:=c_Log) KD_Lane NA_Lane_now) fun _ _ _ _ _ _=>xy fun _=>rfl
 have m_Lane_order:=MD_Lane_order.lN (P:=P) (w:=w) (base:=base) (mg:=mg) KD_Lane.cl (fun _ _ F=>oi F Z (cL:=c_Log) KD_Lane NA_Lane_row) fun _ _ _ _ _ _=>xy fun _=>rfl
 have m_Lane_place:=MD_Lane_place.lN (P:=P) (w:=w) (base:=base) (mg:=mg) KD_Lane.cl (fun _ _ F=>oj F Z KD_Lane NA_Lane_now m_Lane_leg_of L_place_on) fun _ _ _ _ _ _=>gS fun _ _=>rfl
 have m_Lane_log_of:=MD_Lane_log_of.lN (P:=P) (w:=w) (base:=base) (mg:=mg) KD_Lane.cl (fun _ _ F=>mO F Z (cL:=c_Log) KD_Lane NA_Lane_logs O_NoCraft) fun _ _ _ _ _ _=>gS fun _ _=>rfl
 have m_Lane_left:=MD_Lane_left.lN (P:=P) (w:=w) (base:=base) (mg:=mg) KD_Lane.cl (fun _ _ F=>pZ F Z KD_Lane m_Lane_log_of m_Log_left) fun _ _ _ _ _ _=>gS fun _ _=>rfl
 have L_rings_ahead:=D_rings_ahead.d9 (P:=P) (w:=w) (base:=base) (fun _ _ F=>lF F Z L_less) fun _ _ _ _ _ _=>gS fun _ _=>rfl
 have M_Bells:=MD_Bells___init__.Jn (P:=P) (w:=w) (base:=base) KD_Bells (fun _ _ F=>n4 F KD_Bells NA_Bells_rows) fun _ _ _ _ _ _=>xy fun _=>rfl
 have m_Bells_drop:=MD_Bells_drop.lN (P:=P) (w:=w) (base:=base) (mg:=mg) KD_Bells.cl (fun _ _ F=>nZ F Z KD_Bells NA_Bells_rows) fun _ _ _ _ _ _=>FL fun _ _ _=>rfl
 have m_Bells_put:=MD_Bells_put.lN (P:=P) (w:=w) (base:=base) (mg:=mg) KD_Bells.cl (fun _ _ F=>pW F Z KD_Bells NA_Bells_rows m_Bells_drop L_rings_ahead) fun _ _ _ _ _ _=>F4 fun _ _ _ _=>rfl
 have m_Bells_told:=MD_Bells_told.lN (P:=P) (w:=w) (base:=base) (mg:=mg) KD_Bells.cl (fun _ _ F=>n6 F Z KD_Bells NA_Bells_rows) fun _ _ _ _ _ _=>xy fun _=>rfl
 have L_meeting:=D_meeting.d9 (P:=P) (w:=w) (base:=base) (fun _ _ F=>sE F Z N L_place_on L_minus L_fraction) fun _ _ _ _ _ _=>gS fun _ _=>rfl
 have m_Lane_meets:=MD_Lane_meets.lN (P:=P) (w:=w) (base:=base) (mg:=mg) KD_Lane.cl (fun _ _ F=>oh F Z KD_Lane NA_Lane_now m_Lane_leg_of L_meeting L_less) fun _ _ _ _ _ _=>FL fun _ _ _=>rfl
 have L_in_lowest_terms:=D_in_lowest_terms.d9 (P:=P) (w:=w) (base:=base) (fun _ _ F=>i6 F Z L_shared) fun _ _ _ _ _ _=>xy fun _=>rfl
 have L_good_moment:=D_good_moment.d9 (P:=P) (w:=w) (base:=base) (fun _ _ F=>lD F Z g_FINEST g_LATEST L_in_lowest_terms) fun _ _ _ _ _ _=>xy fun _=>rfl
 have m_Lane_foretold:=MD_Lane_foretold.lN (P:=P) (w:=w) (base:=base) (mg:=mg) KD_Lane.cl (fun _ _ F=>kJ F Z KD_Lane NA_Lane_now NA_Lane_row O_BadMoment O_Past L_good_moment L_less M_Bells m_Lane_meets m_Bells_put m_Bells_told) fun _ _ _ _ _ _=>gS fun _ _=>rfl
 have m_Lane_go_to:=MD_Lane_go_to.lN (P:=P) (w:=w) (base:=base) (mg:=mg) KD_Lane.cl (fun _ _ F=>oa F Z KD_Lane NA_Lane_now m_Lane_foretold m_Lane_settle) fun _ _ _ _ _ _=>gS fun _ _=>rfl
 have m_Lane_bells:=MD_Lane_bells.lN (P:=P) (w:=w) (base:=base) (mg:=mg) KD_Lane.cl (fun _ _ F=>n9 F Z KD_Lane NA_Lane_row M_Bells m_Lane_meets m_Bells_put m_Bells_told) fun _ _ _ _ _ _=>xy fun _=>rfl
 have m_Lane_turn:=MD_Lane_turn.lN (P:=P) (w:=w) (base:=base) (mg:=mg) KD_Lane.cl (fun _ _ F=>p5 F Z KD_Lane NA_Lane_logs NA_Lane_now g_FASTEST O_TooFar m_Lane_must_be_there m_Log_turn m_Lane_settle) fun _ _ _ _ _ _=>FL fun _ _ _=>rfl
 have m_Lane_about:=MD_Lane_about.lN (P:=P) (w:=w) (base:=base) (mg:=mg) KD_Lane.cl (fun _ _ F=>n8 F Z KD_Lane NA_Lane_row NA_Lane_logs NA_Lane_now m_Lane_leg_of m_Log_turn m_Lane_settle) fun _ _ _ _ _ _=>xy fun _=>rfl
 have m_Lane_leave:=MD_Lane_leave.lN (P:=P) (w:=w) (base:=base) (mg:=mg) KD_Lane.cl (fun _ _ F=>og F Z KD_Lane NA_Lane_logs NA_Lane_now NA_Lane_row m_Lane_must_be_there m_Log_leave) fun _ _ _ _ _ _=>gS fun _ _=>rfl
 have L_whole:=D_whole.d9 (P:=P) (w:=w) (base:=base) (fun _ _ F=>yb F Z) fun _ _ _ _ _ _=>xy fun _=>rfl
 have L_part:=D_part.d9 (P:=P) (w:=w) (base:=base) (fun _ _ F=>zX F Z L_whole) fun _ _ _ _ _ _=>gS fun _ _=>rfl
 have L_words:=D_words.d9 (P:=P) (w:=w) (base:=base) (fun _ _ F=>yc F Z) fun _ _ _ _ _ _=>gS fun _ _=>rfl
 have L_passrow:=D_passrow.d9 (P:=P) (w:=w) (base:=base) (fun _ _ F=>sF F Z L_part) fun _ _ _ _ _ _=>gS fun _ _=>rfl
 have L_passrows:=D_passrows.d9 (P:=P) (w:=w) (base:=base) (fun _ _ F=>p_ F Z L_passrow) fun _ _ _ _ _ _=>gS fun _ _=>rfl
 have L_placed:=D_placed.d9 (P:=P) (w:=w) (base:=base) (fun _ _ F=>uO F Z) fun _ _ _ _ _ _=>gS fun _ _=>rfl
 have L_paced:=D_paced.d9 (P:=P) (w:=w) (base:=base) (fun _ _ F=>ya F Z) fun _ _ _ _ _ _=>gS fun _ _=>rfl
 have L_at:=D_at.d9 (P:=P) (w:=w) (base:=base) (fun _ _ F=>ER F Z L_low) fun _ _ _ _ _ _=>gS fun _ _=>rfl
 have L_later:=D_later.d9 (P:=P) (w:=w) (base:=base) (fun _ _ F=>x9 F Z L_low) fun _ _ _ _ _ _=>F4 fun _ _ _ _=>rfl
 have L_before:=D_before.d9 (P:=P) (w:=w) (base:=base) (fun _ _ F=>uN F Z) fun _ _ _ _ _ _=>gS fun _ _=>rfl
 have L_order:=D_order.d9 (P:=P) (w:=w) (base:=base) (fun _ _ F=>x_ F Z L_at L_before) fun _ _ _ _ _ _=>gS fun _ _=>rfl
 have L_ringdue:=D_ringdue.d9 (P:=P) (w:=w) (base:=base) (fun _ _ F=>sG F Z L_order L_at L_low L_before) fun _ _ _ _ _ _=>gS fun _ _=>rfl
 have L_stands:=D_stands.d9 (P:=P) (w:=w) (base:=base) (fun _ _ F=>uP F Z L_part L_words L_order L_passrows L_ringdue m_Lane_clock m_Lane_order m_Lane_bells) fun _ _ _ _ _ _=>FL fun _ _ _=>rfl
 have L_acted:=D_acted.d9 (P:=P) (w:=w) (base:=base) (fun _ _ F=>x8 F Z L_at) fun _ _ _ _ _ _=>FL fun _ _ _=>rfl
 have L_done:=D_done.d9 (P:=P) (w:=w) (base:=base) (fun _ _ F=>zW F Z m_Lane_join m_Lane_leave m_Lane_turn m_Lane_about m_Lane_go_to) fun _ _ _ _ _ _=>gS fun _ _=>rfl
 have L_deed:=D_deed.d9 (P:=P) (w:=w) (base:=base) (fun _ _ F=>zV F Z L_placed L_paced L_later) fun _ _ _ _ _ _=>KQ fun _ _ _ _ _ _=>rfl
 have L_walk:=D_walk.d9 (P:=P) (w:=w) (base:=base) (fun _ _ F=>zY F Z L_digits L_deed L_done L_acted) fun _ _ _ _ _ _=>F4 fun _ _ _ _=>rfl
 exact B4 F Z L_cell L_digits L_names L_walk M_Lane L_later L_at L_part L_stands m_Lane_go_to m_Lane_leave m_Lane_left m_Lane_place
end Ov
namespace PySem.W.Fast
def tw930600612271227916:=()
def tw11317248494457249835:=()
def tw16705794108859523699:=()
def tw9423643604187800732:=()
def tw17579466084950742066:=()
def tw5321606112762400266:=()
def tw1789586431788894630:=()
def tw9432098282367466828:=()
def tw15607312299568629741:=()
def tw6932388470847086711:=()
def tw2558880287293723861:=()
def tw8212373400577240784:=()
def tw8962299367863696514:=()
def tw8182059792591520055:=()
def tw6194886893665604569:=()
def tw5493871357123732098:=()
def tw9113372585951137572:=()
def tw12127643884512631413:=()
def tw13286569025078416421:=()
def tw4354486804043850741:=()
def tw15192515678327095026:=()
def tw6531965015257808161:=()
def tw3045672060307297718:=()
def tw12246044599957629398:=()
def tw16974082527657022426:=()
def tw7662700030199974848:=()
def tw15898770901357528084:=()
def tw6681385692230513144:=()
def tw11720282763580274459:=()
def tw2447994161362829749:=()
def tw15715310292332611314:=()
def tw14455217806938375450:=()
def tw649189767760528368:=()
def tw7030141162813145148:=()
def tw3043071186386136041:=()
def tw10358824482119709117:=()
def tw15218283934875602148:=()
def tw14392272140889874315:=()
def tw12066723439036872314:=()
def tw1937624331715627786:=()
def tw16278306707114882828:=()
def tw9039461901190627936:=()
def tw6305832888688743352:=()
def tw13284385038655304966:=()
def tw7803694650793142761:=()
def tw13797755770886088290:=()
def tw3646442858402337956:=()
def tw8007243657837109245:=()
def tw12788328238790819019:=()
def tw11615824523641287080:=()
def tw12478167698546171368:=()
def tw16420917416779818827:=()
def tw10510327356379724930:=()
def tw5602967777359565355:=()
def tw15649020022161279441:=()
def tw16806746577116865265:=()
def tw64489508348126356:=()
def tw17886165826263815769:=()
def tw18153317535776132914:=()
def tw10645590108497549885:=()
def tw13634459726744341260:=()
def tw17965904324098561804:=()
def tw7003937731658003044:=()
def tw16709155876866726064:=()
def tw15825043924693648816:=()
def tw15897219364424126637:=()
def tw1979423714945079268:=()
def tw3504606892380397256:=()
def tw3689309746570881432:=()
def tw14377893891185930621:=()
def tw1576657315075530458:=()
def tw10513230639060564207:=()
def tw12594370425293769858:=()
def tw7986776703563389334:=()
def tw16584654712325787801:=()
def tw13980723501295631526:=()
def tw4206226440734775938:=()
def tw6305083808801127286:=()
def tw17013336729679718130:=()
def tw2932591017002974435:=()
def tw1207449327432121758:=()
def tw3287819889474252891:=()
def tw5961045074923436023:=()
def tw18151435516609302843:=()
def tw8837875233226321172:=()
def tw14576239929155500504:=()
def tw13883018399742630086:=()
def tw8275368341339017971:=()
def tw2175951047035909809:=()
def tw14684539874874950807:=()
def tw15028903537940442212:=()
def tw295882366717064106:=()
def tw9859307135946894246:=()
def tw697716788297949431:=()
def tw14353689094969694152:=()
def tw10776367719011612670:=()
def tw17569170900704029844:=()
def tw12795224026522535062:=()
def tw12393777284696455061:=()
def tw6266599282182544492:=()
def tw1545627837389958901:=()
def tw14811705086214370121:=()
def tw4945792955501209559:=()
def tw172127740794853456:=()
def tw7017533865329870149:=()
def tw7442671590802106919:=()
def tw1581510542273054641:=()
def tw17031022927154629206:=()
def tw15884489755026949975:=()
def tw18349071490086828144:=()
def tw13548618034644739735:=()
def tw8000991436602281036:=()
def tw17874928608950472388:=()
def tw13186635361668834126:=()
def tw6096902737403218237:=()
def tw16581782924471272885:=()
def tw6424677715456275413:=()
def tw16318519521950266321:=()
def tw15227916924360950459:=()
def tw11531434932600103698:=()
def tw11504104052161481798:=()
def tw9060673888481440618:=()
def tw2232632717291764435:=()
def tw10555029117139492758:=()
def tw3877585142867693739:=()
def tw742231609035641168:=()
def tw2054762509734843067:=()
def tw8755994531639365222:=()
def tw14493944850188083775:=()
def tw38224929754505037:=()
def tw11231740105867850338:=()
def tw1645933162899659286:=()
def tw3502558298796666631:=()
def tw12872937602780109331:=()
def tw15100456644172747407:=()
def tw1876992883889641366:=()
def tw14707430825606695048:=()
def tw13510360632531943347:=()
def tw15470773158738442451:=()
def tw9208186839621834911:=()
def tw16196196574811086687:=()
def tw7210647342954646703:=()
def tw6123256087776238904:=()
def tw16282294020981988707:=()
def tw2196198938746590407:=()
def tw9644921912680788438:=()
def tw12665642817971996727:=()
def tw15723271000402512559:=()
def tw14288080610600774026:=()
def tw3726423565628223981:=()
def tw1969504018196404681:=()
def tw1909818808973120691:=()
def tw18235516122990375751:=()
def tw15967288451574601295:=()
def tw15798599506729257524:=()
def tw6853834442391758076:=()
def tw1913518287919379088:=()
def tw11593893312644970998:=()
def tw6147369292859516055:=()
def tw9123129861201643777:=()
def tw9705261860914655627:=()
def tw9984200235249264230:=()
def tw13288515757158670407:=()
def tw9823872468858491747:=()
def tw3658470626418287761:=()
def tw8304519798995968089:=()
def tw13969903472541668377:=()
def tw16353761301381204843:=()
def tw9740940494478990301:=()
def tw8655747628793924735:=()
def tw614110097684215470:=()
def tw13171179849608823292:=()
def tw1615563222923308482:=()
def tw14708136483565357844:=()
def tw13492853742342667117:=()
def tw13812687874400183701:=()
def tw14088855689791036423:=()
def tw2591419880685725362:=()
def tw1831617943212374465:=()
def tw15777572347054923513:=()
def tw11972446578022606429:=()
def tw18363509694286924769:=()
def tw2062861909019844287:=()
def tw11434397805775201946:=()
def tw10134319286359160802:=()
def tw18241500945595649631:=()
def tw17435060786836237221:=()
def tw7884073473107050468:=()
def tw7008192437876000447:=()
def tw9556175811870176152:=()
def tw8099962305977317391:=()
def tw819759279293446373:=()
def tw15445922690293061930:=()
def tw6317727719517444629:=()
def tw278409227337040375:=()
def tw4077614329805199211:=()
def tw17751697684662139945:=()
def tw281008399182800853:=()
def tw2189711068234132927:=()
def tw2691394264675155020:=()
def tw16271144848976608172:=()
def tw18026494288690272061:=()
def tw3181460628929790617:=()
def tw14579195944697315212:=()
def tw16745782090688523697:=()
def tw55297635542442294:=()
def tw16914084873042262199:=()
def tw11874111140502154537:=()
def tw2726491388556929803:=()
def tw14847534873112565451:=()
def tw1815396275132648305:=()
def tw1183284646439625026:=()
def tw3443185213733047622:=()
def tw13735499037495730520:=()
def tw14079800941324477862:=()
def tw3119600448481782853:=()
def tw10775109461497742834:=()
def tw17628995860366973430:=()
def tw10312752532087303222:=()
def tw4553429433545580751:=()
def tw13547417215169070867:=()
def tw10047315837777184239:=()
def tw7179998207570325473:=()
def tw18163891590449525599:=()
def tw1865609949036758363:=()
def tw696341395616791910:=()
def tw13844791053923946292:=()
def tw1773305051457558046:=()
def tw11763654622995244640:=()
def tw14019478065148842096:=()
def tw2285088333675139043:=()
def tw15558662973695407863:=()
def tw7011413812951418875:=()
def tw11970037630420413952:=()
def tw14204854474092320240:=()
def tw8451938363719669491:=()
def tw7719862870358341021:=()
def tw7252278998150138119:=()
def tw12804002379829509591:=()
def tw6453740135601847856:=()
def tw16880694954436668792:=()
def tw15466127672363056771:=()
def tw1509987758902882350:=()
def tw11506568895263841246:=()
def tw10239920844149000322:=()
def tw10085621116541772930:=()
def tw2826440624659542170:=()
def tw18422204120133192453:=()
def tw9762073410195649386:=()
def tw18329947764622512459:=()
def tw6963187286155889664:=()
def tw11422344461921651624:=()
def tw6627883281655694895:=()
def tw11280348261753289501:=()
def tw11537888183588702687:=()
def tw9416814300416602373:=()
def tw13750343203618583491:=()
def tw7614600525636263200:=()
def tw6904605920706932189:=()
def tw10389622750070748886:=()
def tw17453888724492659855:=()
def tw13000920355307651737:=()
def tw2072104605865212921:=()
def tw12205230632206664607:=()
def tw14061824300866146429:=()
def tw3913438394337494775:=()
def tw8012708619098094140:=()
def tw15645520546454674295:=()
def tw15945760800457510350:=()
def tw11866544311638213464:=()
def tw7246186797196612384:=()
def tw7746888028630944727:=()
def tw10905049633847425803:=()
def tw5911715712233164763:=()
def tw2560124769173407246:=()
def tw15941654251132052972:=()
def tw8907542826990113428:=()
def tw11420404636399616862:=()
def tw10982131473574497469:=()
def tw3600688680008592958:=()
def tw5478911493794679546:=()
def tw18317739733199713627:=()
def tw15731354615904360537:=()
def tw6458212558644674781:=()
def tw6242049166004998536:=()
def tw13416408961881552320:=()
def tw7490968780759399370:=()
def tw11422442194185709382:=()
def tw10517810870727744183:=()
def tw9430808353909718653:=()
def tw4336044834055709802:=()
def tw13945309654834318119:=()
def tw12300193699763041437:=()
def tw11867245434961618122:=()
def tw17468964374165786631:=()
def tw6045165519032448075:=()
def tw17292255311300861053:=()
def tw13773739972755678006:=()
def tw13477778377740487846:=()
def tw1014252960294238955:=()
def tw9865780337765479785:=()
def tw9692505212406827952:=()
def tw960473081351645408:=()
def tw8011737047031172711:=()
def tw5739721681145921210:=()
def tw14871543908795487618:=()
def tw11624240343970396282:=()
def tw11120417818989179137:=()
def tw10251873167694621899:=()
def tw6968651593235670497:=()
def tw5903537305484659049:=()
def tw2432495468610104298:=()
def tw13015972103137935759:=()
def tw6620994844331407523:=()
def tw5417322606627940066:=()
def tw4529189713813749349:=()
def tw17582256412356808448:=()
def tw16039960577569654161:=()
def tw1599830412883926783:=()
def tw14568941572127313462:=()
def tw3484926026522950907:=()
def tw4715048550639797927:=()
def tw14284283103896746519:=()
def tw13918805659046864739:=()
def tw9636367616448695160:=()
def tw5179983805753323966:=()
def tw252097310067807990:=()
def tw2674098538254922607:=()
def tw1996561024214516290:=()
def tw9763771194997869061:=()
def tw15253499028101008851:=()
def tw10730720697984220825:=()
def tw4883883074379990393:=()
def tw27239084001006082:=()
def tw13386684582325576041:=()
def tw260073997154551523:=()
def tw11525859732407410584:=()
def tw15305030268668920502:=()
def tw274598732024576685:=()
def tw13596903217003244080:=()
def tw12069783971920386564:=()
def tw8238485099200818872:=()
def tw14032130218165579432:=()
def tw13521972638628187756:=()
def tw1671650833033240236:=()
def tw1215965932242676364:=()
def tw11155668232363945630:=()
def tw9779977217794225123:=()
def tw785563606236323990:=()
def tw15419123835742785919:=()
def tw17535666388933798832:=()
def tw13299342770172196849:=()
def tw10460720840242832393:=()
def tw8471513160450336814:=()
def tw9466005479482485880:=()
def tw2354542996277647116:=()
def tw1177352270990180386:=()
def tw10177338817196645303:=()
def tw1628307032058845451:=()
def tw14585825808198421252:=()
def tw12137100061950638616:=()
def tw12034096615238149275:=()
def tw11709684222593239945:=()
def tw1856951394734252153:=()
def tw14194404794882037782:=()
def tw4159221460606318441:=()
def tw16288842274736650119:=()
def tw14754833372026906603:=()
def tw12307752412248401705:=()
def tw4648546213760864247:=()
def tw17226189998593556080:=()
def tw16729734274521114076:=()
def tw13517309182573115534:=()
def tw3956588391819608148:=()
def tw1081782895759701145:=()
def tw18274143353915929538:=()
def tw10679371219862792305:=()
def tw6323100625069188610:=()
def tw2753534785214515140:=()
def tw15101708734601914553:=()
def tw12823198765610564692:=()
def tw10014297296873531294:=()
def tw16905997412161785672:=()
def tw15339525070494208003:=()
def tw1394021984245548808:=()
def tw498265195487884025:=()
def tw7064732266302107758:=()
def tw4973335079737330571:=()
def tw2180963709454667829:=()
def tw1749293942768946401:=()
def tw8198377233192239433:=()
def tw17885810575604456093:=()
def tw14930276627305448861:=()
def tw11475363244017237236:=()
def tw7611977220859108468:=()
def tw6655545362749930626:=()
def tw11666541982078788799:=()
def tw3591063681077630587:=()
def tw13053496823653786791:=()
def tw18278795459614538839:=()
def tw12472565701272570417:=()
def tw7778180996344893085:=()
def tw10814770420687169873:=()
def tw17352844583504680387:=()
def tw14178661411746304096:=()
def tw4828906378986653026:=()
def tw847730824944521360:=()
def tw7943372259888113365:=()
def tw15557073357918389431:=()
def tw14096563765097740177:=()
def tw11739929966723462940:=()
def tw11459301517855596310:=()
def tw10820934053532498139:=()
def tw5271054627902990015:=()
def tw10340720972212866475:=()
def tw11508181726694437235:=()
def tw2637405021810928202:=()
def tw7286047049545328039:=()
def tw15034065501462806912:=()
def tw11632587585355374043:=()
def tw8787588037461697447:=()
def tw4048067717125273011:=()
def tw17404819774349807358:=()
def tw13231690722012217526:=()
def tw11103576020069365036:=()
def tw3151013395180660446:=()
def tw6743479614718995350:=()
def tw337710322245925230:=()
def tw13540548711752458732:=()
def tw8488960787189626925:=()
def tw6283437762735010350:=()
def tw3356135148827643662:=()
def tw13799712654647254236:=()
def tw5765659832169606736:=()
def tw5112708273512303917:=()
def tw5097737508941871218:=()
def tw4076220874379729705:=()
def tw1383666483992519409:=()
def tw8425267395157930735:=()
def tw7651870490249832041:=()
def tw6662204417658308639:=()
def tw2510096851312775699:=()
def tw1688249101270166408:=()
def tw12097931232343020488:=()
def tw12004896620542148415:=()
def tw11939439836976373960:=()
def tw10266433511961301006:=()
def tw4612828266572540205:=()
def tw5881019910328334065:=()
def tw6820992134625476651:=()
def tw17742462824402763431:=()
def tw13266455744560161657:=()
def tw8952401949603934418:=()
def tw8688559513191250821:=()
def tw17008330506828703100:=()
def tw10610062171633776022:=()
def tw8764496075746896764:=()
def tw7858544046421397978:=()
def tw5594950989627755526:=()
def tw4877344434477376739:=()
def tw2107640525463290254:=()
def tw1632811658681040688:=()
def tw15009338446363676316:=()
def tw14248249368402487326:=()
def tw11910796248464278494:=()
def tw10927999099039979183:=()
def tw10707890173194055217:=()
def tw6819428941360497343:=()
def tw12683970573808121233:=()
def tw4347668485566499256:=()
def tw16741941164475465357:=()
def tw12841454351493865392:=()
def tw10778662013271294395:=()
def tw12440877598241624619:=()
def tw5971976311312816417:=()
def tw10551817766631449878:=()
def tw8869791445309626068:=()
def tw6356339826079278502:=()
def tw6030371730924519549:=()
def tw3302253769928045706:=()
def tw2022615101630684975:=()
def tw1880232595683581873:=()
def tw18407555842159572932:=()
def tw17533479113899970580:=()
def tw15297829286445412594:=()
def tw15074492613678449873:=()
def tw14755502620164929129:=()
def tw13598725829733495538:=()
def tw12953917353673076632:=()
def tw12641278377269226445:=()
def tw1234690933606955480:=()
def tw1223383460968210606:=()
def tw120218049700390173:=()
def tw17568944431908533007:=()
def tw16049621758566573655:=()
def tw13695638978332193381:=()
def tw4946729482807764:=()
def tw4864535965293408328:=()
def tw4019675581747450153:=()
def tw3938839665174407294:=()
def tw3875724262920403951:=()
def tw3161450448735349935:=()
def tw1936722137211036470:=()
def tw16684426413938248622:=()
def tw16643942867888879931:=()
def tw14825913924945576721:=()
def tw12130242340455195001:=()
def tw11113491025651032584:=()
def tw10351848512549431723:=()
def tw7260031613276765791:=()
def tw6698009813524285020:=()
def tw4767815964270116283:=()
def tw4701318547345869042:=()
def tw4278387059633935921:=()
def tw421568329054838686:=()
def tw3962559731507592936:=()
def tw1819274843766225590:=()
def tw17824974519141100987:=()
def tw16348299112360208226:=()
def tw14222677978157964140:=()
def tw13637023219140079715:=()
def tw14182506476444176043:=()
def tw6922013146761307958:=()
def tw8820230485780162638:=()
def tw5996091000820832755:=()
def tw564794354642033992:=()
def tw17635038916122705570:=()
def tw17510714862363407209:=()
def tw16475793132336440430:=()
def tw13449987022508122:=()
def tw1107710882131173438:=()
def tw9123090814688775160:=()
def tw7770780243911612781:=()
def tw7010795514327652798:=()
def tw6649861130276150804:=()
def tw5632781925803005257:=()
def tw5078071992782632412:=()
def tw1864547401924159638:=()
def tw18328768294245117927:=()
def tw17600254602913240699:=()
def tw14151385133225503993:=()
def tw11844100479521251061:=()
def tw100655673148672835:=()
def tw9943265132255653120:=()
def tw993020861798152576:=()
def tw9848560438295631979:=()
def tw9816496661152401851:=()
def tw9721364207704195408:=()
def tw9673268896959653930:=()
def tw9652084777664246880:=()
def tw9605484754075575726:=()
def tw9590553473620439688:=()
def tw953867699434689601:=()
def tw947884381626654366:=()
def tw9369742403292160503:=()
def tw9317362121763176693:=()
def tw9240642761435708042:=()
def tw9182723555192141709:=()
def tw9106285919135324865:=()
def tw9072879882853815563:=()
def tw886721742728713156:=()
def tw8727993891543771414:=()
def tw8548967653409880780:=()
def tw8413806375688681494:=()
def tw8403194517458763585:=()
def tw8383033957303800218:=()
def tw8277829755327022394:=()
def tw8260227769460274774:=()
def tw8254885242432894787:=()
def tw8034083939029268614:=()
def tw7998011180385953467:=()
def tw7988977333598768458:=()
def tw7956349119742994509:=()
def tw7943329299604465905:=()
def tw7745064528529291311:=()
def tw7658848743695618822:=()
def tw7638799014341692369:=()
def tw7548336834163663106:=()
def tw7364442743574443765:=()
def tw7052205001194871754:=()
def tw7035217992346893582:=()
def tw7017867523624695369:=()
def tw6939804831836177503:=()
def tw6933940356010062112:=()
def tw6925365662364061721:=()
def tw6839296975465856031:=()
def tw6795528626218189174:=()
def tw6704864662571022769:=()
def tw6460608335189701316:=()
def tw6418840560079675990:=()
def tw6418291417355617788:=()
def tw6310925130919346197:=()
def tw6214039265061358457:=()
def tw6210358878728392793:=()
def tw6083976544615154576:=()
def tw6000230609588158744:=()
def tw5982977966984222100:=()
def tw5932462716005007527:=()
def tw5881327969457208630:=()
def tw5860741537480727449:=()
def tw5805430096413264940:=()
def tw5679395038671205490:=()
def tw5438021289232378099:=()
def tw5432643468547113734:=()
def tw5368091168985399435:=()
def tw5143662712224999139:=()
def tw5095635381634789043:=()
def tw5007176323178343117:=()
def tw474622923813085687:=()
def tw4726738793054641429:=()
def tw4681941179686295998:=()
def tw464029136838205063:=()
def tw4608670206577806286:=()
def tw4576466477322649776:=()
def tw45234859801162122:=()
def tw4484815604665578805:=()
def tw4453357358821443146:=()
def tw4431749507549703993:=()
def tw439050937534868812:=()
def tw4251089569361483630:=()
def tw4138784505614743733:=()
def tw4135316510406735052:=()
def tw4086510510352391220:=()
def tw4053195344758996440:=()
def tw4041374180481940872:=()
def tw393520932186649772:=()
def tw3868444065513440967:=()
def tw3649465730814305783:=()
def tw358035101487543128:=()
def tw3497916368793326792:=()
def tw3220466614091012284:=()
def tw3128498224368734528:=()
def tw2970695500697424337:=()
def tw2890372218892727458:=()
def tw2850518309951799651:=()
def tw2754884282301135741:=()
def tw2509366512669396557:=()
def tw2458812389709328995:=()
def tw2438018697313467472:=()
def tw2406498645975668717:=()
def tw2371413254124280744:=()
def tw2369565109182728478:=()
def tw2345026948888179404:=()
def tw2127582617008081913:=()
def tw202293131847587098:=()
def tw18386577208466716956:=()
def tw18351864015493779211:=()
def tw18268704064432723720:=()
def tw18228112551909920736:=()
def tw18020259156885778698:=()
def tw18004064526010145678:=()
def tw17956768636977961990:=()
def tw17942255591973528598:=()
def tw17868054844842071127:=()
def tw17662863596411044394:=()
def tw17638526555421967733:=()
def tw17586658273762962830:=()
def tw17540788382552677988:=()
def tw17506161280774848485:=()
def tw17492394377393799912:=()
def tw17461793682749057425:=()
def tw17379921664829909055:=()
def tw17340436500766090648:=()
def tw17307608755975765150:=()
def tw17118411308327279807:=()
def tw16978328709464797197:=()
def tw16970936894580468973:=()
def tw16970304410460345504:=()
def tw16756709483290738868:=()
def tw16715558869707774039:=()
def tw16711692485784276926:=()
def tw16484112645099381781:=()
def tw16454165726427970920:=()
def tw16383585686858441733:=()
def tw16139385680188856642:=()
def tw16061712671896729289:=()
def tw15875059226641624491:=()
def tw15836628679625012205:=()
def tw15816280993884896378:=()
def tw15795023999046092696:=()
def tw15736078900565979017:=()
def tw15590148557316619249:=()
def tw15581470515200105665:=()
def tw15567055916849753752:=()
def tw15482090324667861258:=()
def tw15397227521789780973:=()
def tw15089589281628960:=()
def tw15038613871424892750:=()
def tw149256243596361020:=()
def tw14800072214223020020:=()
def tw14679144639664150989:=()
def tw14542544751179431567:=()
def tw14452390981046333921:=()
def tw14406494428932542516:=()
def tw14250995733298526193:=()
def tw14188332413780681421:=()
def tw14158333444114577755:=()
def tw14147654715239114899:=()
def tw1405222012151557784:=()
def tw13689783719281956166:=()
def tw13650067895845452047:=()
def tw13638531806481251883:=()
def tw13557603386550768619:=()
def tw13537874190803525848:=()
def tw13447187619284110565:=()
def tw13392687472976727266:=()
def tw13312190815632965812:=()
def tw13244313032640862747:=()
def tw13194543189244085194:=()
def tw13004896327689637308:=()
def tw12968894276532927002:=()
def tw12936967299043749667:=()
def tw12903963609093200076:=()
def tw12782023531733070998:=()
def tw12702884916017115655:=()
def tw12622479949138372094:=()
def tw12515534931618470836:=()
def tw1240808785902337841:=()
def tw1227474711513902200:=()
def tw12015624661756684194:=()
def tw11864379290622215709:=()
def tw11659481548946374601:=()
def tw11613764228701193966:=()
def tw11588498879901531894:=()
def tw1154841760460788384:=()
def tw11423679785267236074:=()
def tw11319797006105754034:=()
def tw11284574260002103359:=()
def tw11225009805256395038:=()
def tw11199938366112376332:=()
def tw11181032146745430930:=()
def tw11180205114588233804:=()
def tw1115610685516885773:=()
def tw1112078222152070368:=()
def tw10978904869256777332:=()
def tw10783112131275331209:=()
def tw10776293268238609946:=()
def tw10713448086484456435:=()
def tw10706986045755053598:=()
def tw10705432627063665928:=()
def tw10650282359750933302:=()
def tw10385157081554309941:=()
def tw10335919124812702787:=()
def tw10184460316910063216:=()
end PySem.W.Fast
open PySem PySem.W PyProof.Rows
set_option hygiene false
local macro_rules | `(tactic| simp_arith)=>`(tactic| (dsimp only [L2.bM];refine' Ov.Eg KX G ?a ?l ?c ?k;(case a=>k_is);(case l=>k_is);(case c=>k_is);(case k=>k_is)))
set_option maxRecDepth 100000 in
set_option maxHeartbeats 0 in
theorem PySem.Challenge.cw_overhaul_k20_leaving_holds : PySem.Challenge.rw_overhaul_k20_leaving.Holds := by
 w_on;o_law;k_head;(case hw=>w_witness2)
 k_fill
 refine Ov.Bg (l:=PySem.Challenge.rw_overhaul_k20_leaving) (n:=63) (k:=11) (x:="_law_script") (sp:=Ov.AQ) ["good_name"] rfl (by decide) rfl ⟨rfl,by decide,by decide⟩ (fun w h Y=>PySem.W.kIn_of Y) ?Nm ?F (fun tabs K H a ns hl hT hS hA hK=>⟨a,ns,rfl,hS,hl,hT,hA,hK,fun _ e=>⟨rfl,e⟩⟩)
 case Nm=>decide +kernel
 case F =>
  intro w mg fa h KX G hmg
  have D_cell:Ov.Def (L2.bM KX) mg "_law_cell" Ov.qD:=by simp_arith
  have D_digits:Ov.Def (L2.bM KX) mg "_law_digits" Ov.j3:=by simp_arith
  have D_shared:Ov.Def (L2.bM KX) mg "shared" Ov.j6:=by simp_arith
  have D_fraction:Ov.Def (L2.bM KX) mg "fraction" Ov.gH:=by simp_arith
  have D_low:Ov.Def (L2.bM KX) mg "_law_low" Ov.wI:=by simp_arith
  have D_less:Ov.Def (L2.bM KX) mg "less" Ov.qF:=by simp_arith
  have D_plus:Ov.Def (L2.bM KX) mg "plus" Ov.qH:=by simp_arith
  have D_minus:Ov.Def (L2.bM KX) mg "minus" Ov.lY:=by simp_arith
  have D_times:Ov.Def (L2.bM KX) mg "times" Ov.l3:=by simp_arith
  obtain ⟨T_good_name,D_good_name⟩:∃ T,Ov.t_ (L2.bM KX) mg "good_name" Ov.fK T:=by
   dsimp only [L2.bM]
   refine' ⟨_,Ov.Bv KX G ?ga ?gl ?gc ?gk ?gt ?gp ?gb ?ge ?go⟩
   (case ga=>k_is);(case gl=>k_is);(case gc=>k_is);(case gk=>k_is);(case gt=>k_is);(case gp=>rfl);(case gb=>kernel_rfl);(case ge=>decide);(case go=>kernel_rfl)
  have D_names:Ov.Def (L2.bM KX) mg "_law_names" Ov.iT:=by simp_arith
  have D_place_on:Ov.Def (L2.bM KX) mg "place_on" Ov.gK:=by simp_arith
  have D_last_by:Ov.Def (L2.bM KX) mg "last_by" Ov.iQ:=by simp_arith
  have D_lies_behind:Ov.Def (L2.bM KX) mg "lies_behind" Ov.d7:=by simp_arith
  have D_in_order:Ov.Def (L2.bM KX) mg "in_order" Ov.gI:=by simp_arith
  have D_rings_ahead:Ov.Def (L2.bM KX) mg "rings_ahead" Ov.d8:=by simp_arith
  have D_meeting:Ov.Def (L2.bM KX) mg "meeting" Ov.iS:=by simp_arith
  have D_in_lowest_terms:Ov.Def (L2.bM KX) mg "in_lowest_terms" Ov.cK:=by simp_arith
  have D_good_moment:Ov.Def (L2.bM KX) mg "good_moment" Ov.d6:=by simp_arith
  have D_whole:Ov.Def (L2.bM KX) mg "_law_whole" Ov.l4:=by simp_arith
  have D_part:Ov.Def (L2.bM KX) mg "_law_part" Ov.qG:=by simp_arith
  have D_words:Ov.Def (L2.bM KX) mg "_law_words" Ov.l5:=by simp_arith
  have D_passrow:Ov.Def (L2.bM KX) mg "_law_passrow" Ov.iW:=by simp_arith
  have D_passrows:Ov.Def (L2.bM KX) mg "_law_passrows" Ov.gJ:=by simp_arith
  have D_placed:Ov.Def (L2.bM KX) mg "_law_placed" Ov.j5:=by simp_arith
  have D_paced:Ov.Def (L2.bM KX) mg "_law_paced" Ov.lZ:=by simp_arith
  have D_at:Ov.Def (L2.bM KX) mg "_law_at" Ov.CK:=by simp_arith
  have D_later:Ov.Def (L2.bM KX) mg "_law_later" Ov.lX:=by simp_arith
  have D_before:Ov.Def (L2.bM KX) mg "_law_before" Ov.j2:=by simp_arith
  have D_order:Ov.Def (L2.bM KX) mg "_law_order" Ov.j4:=by simp_arith
  have D_ringdue:Ov.Def (L2.bM KX) mg "_law_ringdue" Ov.iX:=by simp_arith
  have D_stands:Ov.Def (L2.bM KX) mg "_law_stands" Ov.j7:=by simp_arith
  have D_acted:Ov.Def (L2.bM KX) mg "_law_acted" Ov.lW:=by simp_arith
  have D_done:Ov.Def (L2.bM KX) mg "_law_done" Ov.qE:=by simp_arith
  have D_deed:Ov.Def (L2.bM KX) mg "_law_deed" Ov.m6:=by simp_arith
  have D_walk:Ov.Def (L2.bM KX) mg "_law_walk" Ov.qJ:=by simp_arith
  have D_law:Ov.Def (L2.bM KX) mg "law" Ov.tD:=by simp_arith
  obtain ⟨c_Log,KD_Log,NA_Log_rows,NA_Log_gone,MD_Log___init__,MD_Log_turn,MD_Log_leave,MD_Log_left,MD_Log_there,MD_Log_leg_at⟩:∃ C,Ov.cR (L2.bM KX) mg "Log" C∧L2.az (L2.bM KX) C "rows"∧L2.az (L2.bM KX) C "gone"∧Ov.bq (L2.bM KX) C "__init__" "Log.__init__" Ov.dP∧Ov.bq (L2.bM KX) C "turn" "Log.turn" Ov.gG∧Ov.bq (L2.bM KX) C "leave" "Log.leave" Ov.fI∧Ov.bq (L2.bM KX) C "left" "Log.left" Ov.gF∧Ov.bq (L2.bM KX) C "there" "Log.there" Ov.fJ∧Ov.bq (L2.bM KX) C "leg_at" "Log.leg_at" Ov.e9:=by
   dsimp only [L2.bM]
   refine' ⟨_,Ov.pO KX G ?a ?pg ?hd ?po ?sa ?mk ?kc,?n0,?n1,Ov.a9 ?m0a ?m0i ?m0l ?m0c ?m0k,Ov.a9 ?m1a ?m1i ?m1l ?m1c ?m1k,Ov.a9 ?m2a ?m2i ?m2l ?m2c ?m2k,Ov.a9 ?m3a ?m3i ?m3l ?m3c ?m3k,Ov.a9 ?m4a ?m4i ?m4l ?m4c ?m4k,Ov.a9 ?m5a ?m5i ?m5l ?m5c ?m5k⟩
   (case a=>k_is);(case pg=>k_is);(case hd=>k_is);(case po=>k_is);(case sa=>k_is);(case mk=>k_is);(case kc=>k_is)
   (case n0=>(show PySem.W.findIn _ _ _=_;k_is))
   (case n1=>(show PySem.W.findIn _ _ _=_;k_is))
   (case m0a=>k_is);(case m0i=>k_is);(case m0l=>k_is);(case m0c=>k_is);(case m0k=>k_is)
   (case m1a=>k_is);(case m1i=>k_is);(case m1l=>k_is);(case m1c=>k_is);(case m1k=>k_is)
   (case m2a=>k_is);(case m2i=>k_is);(case m2l=>k_is);(case m2c=>k_is);(case m2k=>k_is)
   (case m3a=>k_is);(case m3i=>k_is);(case m3l=>k_is);(case m3c=>k_is);(case m3k=>k_is)
   (case m4a=>k_is);(case m4i=>k_is);(case m4l=>k_is);(case m4c=>k_is);(case m4k=>k_is)
   (case m5a=>k_is);(case m5i=>k_is);(case m5l=>k_is);(case m5c=>k_is);(case m5k=>k_is)
  obtain ⟨c_Lane,KD_Lane,NA_Lane_now,NA_Lane_logs,NA_Lane_row,MD_Lane___init__,MD_Lane_must_be_there,MD_Lane_leg_of,MD_Lane_settle,MD_Lane_join,MD_Lane_clock,MD_Lane_order,MD_Lane_place,MD_Lane_log_of,MD_Lane_left,MD_Lane_meets,MD_Lane_foretold,MD_Lane_go_to,MD_Lane_bells,MD_Lane_turn,MD_Lane_about,MD_Lane_leave⟩:∃ C,Ov.cR (L2.bM KX) mg "Lane" C∧L2.az (L2.bM KX) C "now"∧L2.az (L2.bM KX) C "logs"∧L2.az (L2.bM KX) C "row"∧Ov.bq (L2.bM KX) C "__init__" "Lane.__init__" Ov.dq∧Ov.bq (L2.bM KX) C "must_be_there" "Lane.must_be_there" Ov.bW∧Ov.bq (L2.bM KX) C "leg_of" "Lane.leg_of" Ov.d4∧Ov.bq (L2.bM KX) C "settle" "Lane.settle" Ov.di∧Ov.bq (L2.bM KX) C "join" "Lane.join" Ov.fF∧Ov.bq (L2.bM KX) C "clock" "Lane.clock" Ov.eV∧Ov.bq (L2.bM KX) C "order" "Lane.order" Ov.eZ∧Ov.bq (L2.bM KX) C "place" "Lane.place" Ov.e8∧Ov.bq (L2.bM KX) C "log_of" "Lane.log_of" Ov.d5∧Ov.bq (L2.bM KX) C "left" "Lane.left" Ov.fG∧Ov.bq (L2.bM KX) C "meets" "Lane.meets" Ov.eY∧Ov.bq (L2.bM KX) C "foretold" "Lane.foretold" Ov.dt∧Ov.bq (L2.bM KX) C "go_to" "Lane.go_to" Ov.eW∧Ov.bq (L2.bM KX) C "bells" "Lane.bells" Ov.eS∧Ov.bq (L2.bM KX) C "turn" "Lane.turn" Ov.fH∧Ov.bq (L2.bM KX) C "about" "Lane.about" Ov.eR∧Ov.bq (L2.bM KX) C "leave" "Lane.leave" Ov.eX:=by
   dsimp only [L2.bM]
   refine' ⟨_,Ov.pO KX G ?a ?pg ?hd ?po ?sa ?mk ?kc,?n0,?n1,?n2,Ov.a9 ?m0a ?m0i ?m0l ?m0c ?m0k,Ov.a9 ?m1a ?m1i ?m1l ?m1c ?m1k,Ov.a9 ?m2a ?m2i ?m2l ?m2c ?m2k,Ov.a9 ?m3a ?m3i ?m3l ?m3c ?m3k,Ov.a9 ?m4a ?m4i ?m4l ?m4c ?m4k,Ov.a9 ?m5a ?m5i ?m5l ?m5c ?m5k,Ov.a9 ?m6a ?m6i ?m6l ?m6c ?m6k,Ov.a9 ?m7a ?m7i ?m7l ?m7c ?m7k,Ov.a9 ?m8a ?m8i ?m8l ?m8c ?m8k,Ov.a9 ?m9a ?m9i ?m9l ?m9c ?m9k,Ov.a9 ?m10a ?m10i ?m10l ?m10c ?m10k,Ov.a9 ?m11a ?m11i ?m11l ?m11c ?m11k,Ov.a9 ?m12a ?m12i ?m12l ?m12c ?m12k,Ov.a9 ?m13a ?m13i ?m13l ?m13c ?m13k,Ov.a9 ?m14a ?m14i ?m14l ?m14c ?m14k,Ov.a9 ?m15a ?m15i ?m15l ?m15c ?m15k,Ov.a9 ?m16a ?m16i ?m16l ?m16c ?m16k⟩
   (case a=>k_is);(case pg=>k_is);(case hd=>k_is);(case po=>k_is);(case sa=>k_is);(case mk=>k_is);(case kc=>k_is)
   (case n0=>(show PySem.W.findIn _ _ _=_;k_is))
   (case n1=>(show PySem.W.findIn _ _ _=_;k_is))
   (case n2=>(show PySem.W.findIn _ _ _=_;k_is))
   (case m0a=>k_is);(case m0i=>k_is);(case m0l=>k_is);(case m0c=>k_is);(case m0k=>k_is)
   (case m1a=>k_is);(case m1i=>k_is);(case m1l=>k_is);(case m1c=>k_is);(case m1k=>k_is)
   (case m2a=>k_is);(case m2i=>k_is);(case m2l=>k_is);(case m2c=>k_is);(case m2k=>k_is)
   (case m3a=>k_is);(case m3i=>k_is);(case m3l=>k_is);(case m3c=>k_is);(case m3k=>k_is)
   (case m4a=>k_is);(case m4i=>k_is);(case m4l=>k_is);(case m4c=>k_is);(case m4k=>k_is)
   (case m5a=>k_is);(case m5i=>k_is);(case m5l=>k_is);(case m5c=>k_is);(case m5k=>k_is)
   (case m6a=>k_is);(case m6i=>k_is);(case m6l=>k_is);(case m6c=>k_is);(case m6k=>k_is)
   (case m7a=>k_is);(case m7i=>k_is);(case m7l=>k_is);(case m7c=>k_is);(case m7k=>k_is)
   (case m8a=>k_is);(case m8i=>k_is);(case m8l=>k_is);(case m8c=>k_is);(case m8k=>k_is)
   (case m9a=>k_is);(case m9i=>k_is);(case m9l=>k_is);(case m9c=>k_is);(case m9k=>k_is)
   (case m10a=>k_is);(case m10i=>k_is);(case m10l=>k_is);(case m10c=>k_is);(case m10k=>k_is)
   (case m11a=>k_is);(case m11i=>k_is);(case m11l=>k_is);(case m11c=>k_is);(case m11k=>k_is)
   (case m12a=>k_is);(case m12i=>k_is);(case m12l=>k_is);(case m12c=>k_is);(case m12k=>k_is)
   (case m13a=>k_is);(case m13i=>k_is);(case m13l=>k_is);(case m13c=>k_is);(case m13k=>k_is)
   (case m14a=>k_is);(case m14i=>k_is);(case m14l=>k_is);(case m14c=>k_is);(case m14k=>k_is)
   (case m15a=>k_is);(case m15i=>k_is);(case m15l=>k_is);(case m15c=>k_is);(case m15k=>k_is)
   (case m16a=>k_is);(case m16i=>k_is);(case m16l=>k_is);(case m16c=>k_is);(case m16k=>k_is)
  obtain ⟨c_Bells,KD_Bells,NA_Bells_rows,MD_Bells___init__,MD_Bells_drop,MD_Bells_put,MD_Bells_told⟩:∃ C,Ov.cR (L2.bM KX) mg "Bells" C∧L2.az (L2.bM KX) C "rows"∧Ov.bq (L2.bM KX) C "__init__" "Bells.__init__" Ov.cX∧Ov.bq (L2.bM KX) C "drop" "Bells.drop" Ov.dO∧Ov.bq (L2.bM KX) C "put" "Bells.put" Ov.fE∧Ov.bq (L2.bM KX) C "told" "Bells.told" Ov.eQ:=by
   dsimp only [L2.bM]
   refine' ⟨_,Ov.pO KX G ?a ?pg ?hd ?po ?sa ?mk ?kc,?n0,Ov.a9 ?m0a ?m0i ?m0l ?m0c ?m0k,Ov.a9 ?m1a ?m1i ?m1l ?m1c ?m1k,Ov.a9 ?m2a ?m2i ?m2l ?m2c ?m2k,Ov.a9 ?m3a ?m3i ?m3l ?m3c ?m3k⟩
   (case a=>k_is);(case pg=>k_is);(case hd=>k_is);(case po=>k_is);(case sa=>k_is);(case mk=>k_is);(case kc=>k_is)
   (case n0=>(show PySem.W.findIn _ _ _=_;k_is))
   (case m0a=>k_is);(case m0i=>k_is);(case m0l=>k_is);(case m0c=>k_is);(case m0k=>k_is)
   (case m1a=>k_is);(case m1i=>k_is);(case m1l=>k_is);(case m1c=>k_is);(case m1k=>k_is)
   (case m2a=>k_is);(case m2i=>k_is);(case m2l=>k_is);(case m2c=>k_is);(case m2k=>k_is)
   (case m3a=>k_is);(case m3i=>k_is);(case m3l=>k_is);(case m3c=>k_is);(case m3k=>k_is)
  have Z:Ov.bC mg:=by
   refine' ⟨Ov.yF.mk (PySem.W.mg_none_of KX G ?z0) (PySem.W.mg_none_of KX G ?z1) (PySem.W.mg_none_of KX G ?z2) (PySem.W.mg_none_of KX G ?z3) (PySem.W.mg_none_of KX G ?z4) (PySem.W.mg_none_of KX G ?z5) (PySem.W.mg_none_of KX G ?z6) (PySem.W.mg_none_of KX G ?z7) (PySem.W.mg_none_of KX G ?z8) (PySem.W.mg_none_of KX G ?z9),PySem.W.mg_none_of KX G ?w0,PySem.W.mg_none_of KX G ?w1,PySem.W.mg_none_of KX G ?w2,PySem.W.mg_none_of KX G ?w3,PySem.W.mg_none_of KX G ?w4⟩
   (case z0=>k_is);(case z1=>k_is);(case z2=>k_is);(case z3=>k_is);(case z4=>k_is);(case z5=>k_is);(case z6=>k_is);(case z7=>k_is);(case z8=>k_is);(case z9=>k_is);(case w0=>k_is);(case w1=>k_is);(case w2=>k_is);(case w3=>k_is);(case w4=>k_is)
  have N:Ov.mh (L2.bM KX) mg:=by
   dsimp only [L2.bM]
   refine' Ov.xZ KX G ?a ?l
   (case a=>k_is);(case l=>k_is)
  obtain ⟨e_BadMoment,O_BadMoment⟩:∃ C,Ov.Own (L2.bM KX) mg "BadMoment" C:=by
   dsimp only [L2.bM]
   refine' ⟨_,Ov.hZ KX G ?a ?b⟩
   (case a=>k_is);(case b=>kernel_rfl)
  obtain ⟨e_BadName,O_BadName⟩:∃ C,Ov.Own (L2.bM KX) mg "BadName" C:=by
   dsimp only [L2.bM]
   refine' ⟨_,Ov.hZ KX G ?a ?b⟩
   (case a=>k_is);(case b=>kernel_rfl)
  obtain ⟨e_Full,O_Full⟩:∃ C,Ov.Own (L2.bM KX) mg "Full" C:=by
   dsimp only [L2.bM]
   refine' ⟨_,Ov.hZ KX G ?a ?b⟩
   (case a=>k_is);(case b=>kernel_rfl)
  obtain ⟨e_NoCraft,O_NoCraft⟩:∃ C,Ov.Own (L2.bM KX) mg "NoCraft" C:=by
   dsimp only [L2.bM]
   refine' ⟨_,Ov.hZ KX G ?a ?b⟩
   (case a=>k_is);(case b=>kernel_rfl)
  obtain ⟨e_NotThere,O_NotThere⟩:∃ C,Ov.Own (L2.bM KX) mg "NotThere" C:=by
   dsimp only [L2.bM]
   refine' ⟨_,Ov.hZ KX G ?a ?b⟩
   (case a=>k_is);(case b=>kernel_rfl)
  obtain ⟨e_Past,O_Past⟩:∃ C,Ov.Own (L2.bM KX) mg "Past" C:=by
   dsimp only [L2.bM]
   refine' ⟨_,Ov.hZ KX G ?a ?b⟩
   (case a=>k_is);(case b=>kernel_rfl)
  obtain ⟨e_Taken,O_Taken⟩:∃ C,Ov.Own (L2.bM KX) mg "Taken" C:=by
   dsimp only [L2.bM]
   refine' ⟨_,Ov.hZ KX G ?a ?b⟩
   (case a=>k_is);(case b=>kernel_rfl)
  obtain ⟨e_TooFar,O_TooFar⟩:∃ C,Ov.Own (L2.bM KX) mg "TooFar" C:=by
   dsimp only [L2.bM]
   refine' ⟨_,Ov.hZ KX G ?a ?b⟩
   (case a=>k_is);(case b=>kernel_rfl)
  obtain ⟨t_FARTHEST,g_FARTHEST⟩:∃ t,mg "FARTHEST"=some (.int 1000000 t):=by
   refine' Ov.const_int KX G ?cz ?cw
   (case cz=>k_is);(case cw=>kernel_rfl)
  obtain ⟨t_FASTEST,g_FASTEST⟩:∃ t,mg "FASTEST"=some (.int 1000 t):=by
   refine' Ov.const_int KX G ?cz ?cw
   (case cz=>k_is);(case cw=>kernel_rfl)
  obtain ⟨t_FINEST,g_FINEST⟩:∃ t,mg "FINEST"=some (.int 60 t):=by
   refine' Ov.const_int KX G ?cz ?cw
   (case cz=>k_is);(case cw=>kernel_rfl)
  obtain ⟨t_LATEST,g_LATEST⟩:∃ t,mg "LATEST"=some (.int 1000000 t):=by
   refine' Ov.const_int KX G ?cz ?cw
   (case cz=>k_is);(case cw=>kernel_rfl)
  obtain ⟨t_LONGEST,g_LONGEST⟩:∃ t,mg "LONGEST"=some (.int 8 t):=by
   refine' Ov.const_int KX G ?cz ?cw
   (case cz=>k_is);(case cw=>kernel_rfl)
  obtain ⟨t_MOST,g_MOST⟩:∃ t,mg "MOST"=some (.int 12 t):=by
   refine' Ov.const_int KX G ?cz ?cw
   (case cz=>k_is);(case cw=>kernel_rfl)
  obtain ⟨t_SIGNS,g_SIGNS⟩:∃ t,mg "SIGNS"=some (.str "abcdefghijklmnopqrstuvwxyz0123456789" t):=by
   refine' Ov.xB KX G ?cz ?cw
   (case cz=>k_is);(case cw=>kernel_rfl)
  obtain ⟨fd,F,hb⟩:=Ov.EB D_law hmg (fun _ _ _ _ _ _ _=>rfl)
  exact ⟨fd,[T_good_name],hb,(fun T hT=>by simp only [List.mem_cons,List.not_mem_nil,or_false] at hT;rcases hT with rfl <;> first | exact ⟨_,by simp,_,D_good_name⟩),fun base _ _ Bm=>Ov.xO (Ov.D9 Z N g_FARTHEST g_FASTEST g_FINEST g_LATEST g_LONGEST g_MOST g_SIGNS O_BadMoment O_BadName O_Full O_NoCraft O_NotThere O_Past O_Taken O_TooFar KD_Log KD_Lane KD_Bells NA_Log_rows NA_Log_gone NA_Lane_now NA_Lane_logs NA_Lane_row NA_Bells_rows D_cell D_digits D_shared D_fraction D_low D_less D_plus D_minus D_times D_good_name D_names D_place_on D_last_by D_lies_behind D_in_order D_rings_ahead D_meeting D_in_lowest_terms D_good_moment D_whole D_part D_words D_passrow D_passrows D_placed D_paced D_at D_later D_before D_order D_ringdue D_stands D_acted D_done D_deed D_walk MD_Log___init__ MD_Log_turn MD_Log_leave MD_Log_left MD_Log_there MD_Log_leg_at MD_Lane___init__ MD_Lane_must_be_there MD_Lane_leg_of MD_Lane_settle MD_Lane_join MD_Lane_clock MD_Lane_order MD_Lane_place MD_Lane_log_of MD_Lane_left MD_Bells___init__ MD_Bells_drop MD_Bells_put MD_Bells_told MD_Lane_meets MD_Lane_foretold MD_Lane_go_to MD_Lane_bells MD_Lane_turn MD_Lane_about MD_Lane_leave F base Bm)⟩
