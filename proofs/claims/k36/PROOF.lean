import PyProof.Rows.All
import Wide.All
import OpenK.AllK
import Wide.FinOn
import Lean
import PyProof.EqAt
import PyProof.EqKinds
import PyProof.TupleCall
import PyProof.NeKinds
import PyProof.CompFree
import PyProof.ListRange
import PyProof.Rows.SortWalk
import PyProof.ExcArgsOwn
import PyProof.ExcAttrAll.ValueError
import KE.KTryMore
import PyProof.GenCompD
import PyProof.StrWalks
import PyProof.ConsumeS
import PyProof.StrOps2
import PyProof.CompMap
import KE.KRevIter
import PyProof.ZipIter
import PyProof.DictWalks
import PyProof.DictCompW
import PyProof.DictRoads
import PyProof.MeetsDictList
import KE.KDictList
import PyProof.EnumFor
import PyProof.EnumMake
import PyProof.WalksEnum
import PyProof.DictRoadsH
import PySem.Challenge.RW_overhaul_k36_whole_ranks_balance
noncomputable section
set_option compiler.extract_closed false
set_option Elab.async false
set_option linter.all false
set_option maxRecDepth 100000
namespace L2
open PySem PySem.Spec PyProof.Rows
abbrev Key:=Sum Int Str
def Fq:Key→Value→Bool
 | .inl k,v=>Value.isInt k v
 | .inr x,v=>Value.isStrOf x v
def LK (w:World):Key→Int
 | .inl k=>hashInt k
 | .inr x=>hashStr w x
theorem bY:∀ {k:Key} {v:Value},Fq k v=true→(∃ i t,k=Sum.inl i∧v=Value.int i t)∨(∃ x t,k=Sum.inr x∧v=Value.str x t)
 | .inl i,v,h=>by
  obtain ⟨t,e⟩:=Value.isInt_shape (k:=i) (v:=v) h
  exact .inl ⟨i,t,rfl,e⟩
 | .inr x,v,h=>by
  obtain ⟨t,e⟩:=Value.isStrOf_shape (x:=x) (v:=v) h
  exact .inr ⟨x,t,rfl,e⟩
theorem GS (a b:Int):decide ((Sum.inl a:Key)=Sum.inl b)=(a == b):=by
 by_cases e:a=b
 ·subst e;simp
 ·have h:¬ (Sum.inl a:Key)=Sum.inl b:=fun q=>e (Sum.inl.inj q)
  rw [decide_eq_false h]
  exact (beq_eq_false_iff_ne.mpr e).symm
theorem GW (a b:Str):decide ((Sum.inr a:Key)=Sum.inr b)=decide (a=b):=by
 by_cases e:a=b
 ·subst e;simp
 ·have h:¬ (Sum.inr a:Key)=Sum.inr b:=fun q=>e (Sum.inr.inj q)
  rw [decide_eq_false h,decide_eq_false e]
theorem GU (a:Int) (b:Str):decide ((Sum.inl a:Key)=Sum.inr b)=false:=decide_eq_false (fun q=>nomatch q)
theorem GV (a:Str) (b:Int):decide ((Sum.inr a:Key)=Sum.inl b)=false:=decide_eq_false (fun q=>nomatch q)
def DS (prog:Program) (w:World):PySem.KeyKind prog w Key where
 is:=Fq
 hash:=LK w
 inj:=fun v a b ha hb=>by
  rcases bY ha with ⟨i,t,rfl,rfl⟩ | ⟨x,t,rfl,rfl⟩
  ·rcases bY hb with ⟨j,u,rfl,e⟩ | ⟨y,u,rfl,e⟩
   ·injection e with e1 _;rw [e1]
   ·exact nomatch e
  ·rcases bY hb with ⟨j,u,rfl,e⟩ | ⟨y,u,rfl,e⟩
   ·exact nomatch e
   ·injection e with e1 _;rw [e1]
 byValue:=fun k v h=>by
  rcases bY h with ⟨i,t,rfl,rfl⟩ | ⟨x,t,rfl,rfl⟩ <;> rfl
 pyHash:=fun hv h=>by
  rcases bY hv with ⟨i,t,rfl,rfl⟩ | ⟨x,t,rfl,rfl⟩
  ·exact wpAny_pyHash_int h
  ·exact wpAny_pyHash_str h
 eqBool:=fun hu hv h=>by
  rcases bY hu with ⟨i,t,rfl,rfl⟩ | ⟨x,t,rfl,rfl⟩
  ·rcases bY hv with ⟨j,u,rfl,rfl⟩ | ⟨y,u,rfl,rfl⟩
   ·rw [GS] at h;exact wpAny_eqBool_int h
   ·rw [GU] at h;exact SeqAt.EqAt.int_str i t y u _ _ _ _ h
  ·rcases bY hv with ⟨j,u,rfl,rfl⟩ | ⟨y,u,rfl,rfl⟩
   ·rw [GV] at h;exact SeqAt.EqAt.str_int x t j u _ _ _ _ h
   ·rw [GW] at h;exact wpAny_eqBool_str h
 «strs»:=fun k x t v h=>by
  rcases bY h with ⟨i,u,rfl,e⟩ | ⟨y,u,rfl,e⟩
  ·exact nomatch e
  ·injection e with e1 _
   subst e1
   cases v <;> rfl
end L2
namespace L2
open PySem PySem.Spec PyProof.Rows
inductive V where
 | non | bl (b:Bool) | int (i:Int) | str (x:Str) | byt (b:Array UInt8) | flt (b:UInt64) | ref (a:Addr) | ty (n:String)
 deriving DecidableEq
def RelV:V→Value→Prop
 | .non,u=>u=Value.none
 | .bl b,u=>u=Value.bool b
 | .int i,u=>∃ t,u=Value.int i t
 | .str x,u=>∃ t,u=Value.str x t
 | .byt b,u=>∃ t,u=Value.bytes b t
 | .flt b,u=>∃ t,u=Value.float b t
 | .ref a,u=>u=Value.ref a
 | .ty n,u=>u=Value.type n
abbrev Vals:List V→List Value→Prop:=Paired RelV
theorem Vals.length {xs:List V} {us:List Value} (r:Vals xs us):xs.length=us.length:=Paired.length r
theorem Vals.get:∀ {xs:List V} {us:List Value} {i:Nat} {x:V},Vals xs us→xs[i]?=some x→∃ u,us[i]?=some u∧RelV x u
 | _,_,_,_,.nil,e=>by simp at e
 | _,_,0,_,.cons r _,e=>by simp at e;subst e;exact ⟨_,rfl,r⟩
 | _,_,i + 1,x,.cons _ t,e=>by
  obtain ⟨u,h1,h2⟩:=Vals.get (i:=i) (x:=x) t (by simpa using e)
  exact ⟨u,by simpa using h1,h2⟩
theorem Vals.set {x:V} {u:Value} (r:RelV x u):∀ {xs:List V} {us:List Value} (i:Nat),Vals xs us→Vals (xs.set i x) (us.set i u)
 | _,_,_,.nil=>.nil
 | _,_,0,.cons _ t=>.cons r t
 | _,_,i + 1,.cons q t=>.cons q (Vals.set r i t)
theorem Vals.append:∀ {xs ys:List V} {us ws:List Value},Vals xs us→Vals ys ws→Vals (xs ++ ys) (us ++ ws)
 | _,_,_,_,.nil,s=>s
 | _,_,_,_,.cons r t,s=>.cons r (Vals.append t s)
theorem Vals.take:∀ {xs:List V} {us:List Value} (n:Nat),Vals xs us→Vals (xs.take n) (us.take n)
 | _,_,0,_=>.nil
 | _,_,_ + 1,.nil=>.nil
 | _,_,n + 1,.cons r t=>.cons r (Vals.take n t)
theorem Vals.drop:∀ {xs:List V} {us:List Value} (n:Nat),Vals xs us→Vals (xs.drop n) (us.drop n)
 | _,_,0,r=>r
 | _,_,_ + 1,.nil=>.nil
 | _,_,n + 1,.cons _ t=>Vals.drop n t
def pI:Option V→Option Value→Prop
 | some v,some u=>RelV v u
 | none,none=>True
 | _,_=>False
def KV {κ:Type}:List (κ × V)→List (κ × Value)→Prop:=Paired fun (p:κ × V) (q:κ × Value)=>p.1=q.1∧RelV p.2 q.2
def kV:Key→V
 | .inl i=>.int i
 | .inr x=>.str x
inductive HO where
 | lst (xs:List V)
 | tup (xs:List V)
 | dK (kvs:List (Key × V)) | dE (kvs:List (Str × V)) (ep:Nat)
 | set (S:Int→Bool) (n:Nat)
 | ins (C dx:Addr) (fs:List (Str × V))
 | own (x:Addr)
 | xd (fs:List (Str × V))
 | met (f x:Addr)
 | Io (lo hi:Int)
 | pK (o:Obj) (u:HO)
 | tbl (ps:Array Value)
 | ext (φ:Heap→Prop)
abbrev Hp:=Addr→Option HO
def upd (H:Hp) (a:Addr) (o:HO):Hp:=fun b=>if b=a then some o else H b
theorem aA {H:Hp} {a:Addr} {o:HO}:upd H a o a=some o:=by unfold upd;rw [if_pos rfl]
theorem aG {H:Hp} {a b:Addr} {o:HO} (h:b≠a):upd H a o b=H b:=by unfold upd;rw [if_neg h]
theorem bR {H:Hp} {a b:Addr} {o:HO} (h:H a=some o) (h':H b=none):a≠b:=by
 intro e;subst e;rw [h] at h';cases h'
section
variable (P:Program) (w:World)
def cu (H:Hp) (h:Heap) (a:Addr):HO→Prop
 | .lst xs=>xs.length≤sizeLine∧∃ (its:List Value) (n:Nat),Vals xs its∧h.get? a=some { cls:=.type "list",data:=.seq its.toArray n }
 | .tup xs=>xs.length≤sizeLine∧∃ its:List Value,Vals xs its∧IsTup h a its.toArray
 | .dK kvs=>kvs.length≤sizeLine∧(a == sysModules)=false∧∃ vs,KV kvs vs∧h.DictOf (DS P w) a vs
 | .dE kvs ep=>kvs.length≤sizeLine∧(a == sysModules)=false∧∃ vs,KV kvs vs∧h.DictAt (strKind P w) a vs ep
 | .set S n=>h.SetOf (intKind P w) a S n
 | .ins C dx fs=>H dx=some (.own a)∧fs.length≤1000∧dx≠a∧h.get? a=some (PySem.W.instObj C dx) ∧
   ∃ mA,h.Ns1 dx mA∧(∀ f,pI (fs.lookup f) (mA f))∧PySem.Within mA (fs.map (·.1))
 | .own _=>∃ o,h.get? a=some o
 | .xd fs=>∃ mA,h.Ns1 a mA∧∀ f,pI (fs.lookup f) (mA f)
 | .Io lo hi=>∃ t u v,h.get? a=some { cls:=.type "range",data:=.fields #[.int lo t,.int hi u,.int 1 v] }
 | .pK o u=>h.get? a=some o∧cu H h a u
 | .tbl ps=>h.get? a=some { cls:=.none,data:=.fields ps }
 | .met f x=>h.get? a=some (PySem.W.methodObj (.ref f) (.ref x))
 | .ext φ=>φ h∧(∃ o,h.get? a=some o)∧∀ h1 h2:Heap,φ h1→(∀ o,h1.get? a=some o→h2.get? a=some o)→φ h2
def ku (H:Hp) (h:Heap):Prop:=∀ a o,H a=some o→cu P w H h a o
end
section
variable {P:Program} {w:World} {H H':Hp} {h h':Heap} {a:Addr} {o:HO}
theorem cu.lt (x:cu P w H h a o):a < h.objs.size:=by
 cases o with
 | lst xs=>obtain ⟨_,_,_,_,e⟩:=x;exact Heap.lt_size e
 | tup xs=>obtain ⟨_,_,_,p⟩:=x;exact p.lt
 | dK kvs=>obtain ⟨_,_,_,_,o,_,_,e,_⟩:=x;exact Heap.lt_size e
 | dE kvs ep=>obtain ⟨_,_,_,_,o,_,e,_⟩:=x;exact Heap.lt_size e
 | set S n=>obtain ⟨o,_,_,_,e,_⟩:=x;exact Heap.lt_size e
 | ins C dx fs=>obtain ⟨_,_,_,e,_⟩:=x;exact Heap.lt_size e
 | own y=>obtain ⟨_,e⟩:=x;exact Heap.lt_size e
 | xd fs=>obtain ⟨_,⟨_,_,_,e,_⟩,_⟩:=x;exact Heap.lt_size e
 | Io lo hi=>obtain ⟨_,_,_,e⟩:=x;exact Heap.lt_size e
 | pK ob u=>obtain ⟨e,_⟩:=x;exact Heap.lt_size e
 | tbl ps=>exact Heap.lt_size (show h.get? a=some _ from x)
 | met f y=>exact Heap.lt_size (show h.get? a=some _ from x)
 | ext φ=>obtain ⟨_,⟨_,e⟩,_⟩:=x;exact Heap.lt_size e
theorem cu.o_ (x:cu P w H h a o) (k:∀ b u,(b=a∨H b=some (.own a))→h.get? b=some u→h'.get? b=some u)
  (ho:∀ b,H b=some (.own a)→H' b=some (.own a)) (ht:∀ b xs,H b=some (.tup xs)→H' b=some (.tup xs)):cu P w H' h' a o:=by
 induction o with
 | lst xs=>obtain ⟨z,its,n,r,e⟩:=x;exact ⟨z,its,n,r,k _ _ (.inl rfl) e⟩
 | tup xs=>obtain ⟨z,its,r,ob,e,c⟩:=x;exact ⟨z,its,r,ob,k _ _ (.inl rfl) e,c⟩
 | dK kvs=>obtain ⟨z,y,vs,r,ob,es,ep,e,c⟩:=x;exact ⟨z,y,vs,r,ob,es,ep,k _ _ (.inl rfl) e,c⟩
 | dE kvs ep=>obtain ⟨z,y,vs,r,ob,es,e,c⟩:=x;exact ⟨z,y,vs,r,ob,es,k _ _ (.inl rfl) e,c⟩
 | set S n=>obtain ⟨ob,es,ep,t,e,c⟩:=x;exact ⟨ob,es,ep,t,k _ _ (.inl rfl) e,c⟩
 | ins C dx fs =>
  obtain ⟨d,z,ne,e,mA,⟨od,es,ep,e2,c⟩,r⟩:=x
  exact ⟨ho _ d,z,ne,k _ _ (.inl rfl) e,mA,⟨od,es,ep,k _ _ (.inr d) e2,c⟩,r⟩
 | own y=>obtain ⟨ob,e⟩:=x;exact ⟨ob,k _ _ (.inl rfl) e⟩
 | xd fs=>obtain ⟨mA,⟨od,es,ep,e,c⟩,r⟩:=x;exact ⟨mA,⟨od,es,ep,k _ _ (.inl rfl) e,c⟩,r⟩
 | Io lo hi=>obtain ⟨t,u,v,e⟩:=x;exact ⟨t,u,v,k _ _ (.inl rfl) e⟩
 | pK ob u ih=>obtain ⟨e,q⟩:=x;exact ⟨k _ _ (.inl rfl) e,ih q⟩
 | tbl ps =>
  have e:h.get? a=some { cls:=.none,data:=.fields ps }:=x
  show h'.get? a=some { cls:=.none,data:=.fields ps }
  exact k a _ (.inl rfl) e
 | met f y =>
  have e:h.get? a=some (PySem.W.methodObj (.ref f) (.ref y)):=x
  show h'.get? a=some (PySem.W.methodObj (.ref f) (.ref y))
  exact k a _ (.inl rfl) e
 | ext φ=>obtain ⟨p,⟨o,e⟩,st⟩:=x;exact ⟨st _ _ p fun o q=>k _ _ (.inl rfl) q,⟨o,k _ _ (.inl rfl) e⟩,st⟩
theorem ku.lt (x:ku P w H h) (e:H a=some o):a < h.objs.size:=(x a o e).lt
theorem ku.fresh (x:ku P w H h) (e:h.objs.size≤a):H a=none:=by
 cases q:H a with
 | none=>rfl
 | some u=>exact absurd (Nat.lt_of_lt_of_le (x.lt q) e) (Nat.lt_irrefl _)
theorem ku.kept (x:ku P w H h) (k:∀ b u,h.get? b=some u→h'.get? b=some u):ku P w H h':=fun a o e =>
 (x a o e).o_ (fun b u _ q=>k b u q) (fun _ q=>q) fun _ _ q=>q
theorem ku.laid (x:ku P w H h) (k:∀ b u,h.get? b=some u→h'.get? b=some u) (hp:h.objs.size≤a) (new:cu P w (upd H a o) h' a o):ku P w (upd H a o) h':=fun b u e=>by
 have hn:=x.fresh hp
 by_cases hb:b=a
 ·subst hb;rw [aA] at e;cases e;exact new
 ·rw [aG hb] at e
  exact (x b u e).o_ (fun c v _ q=>k c v q) (fun c q=>by rw [aG (bR q hn)];exact q) fun c xs q=>by rw [aG (bR q hn)];exact q
end
def Rd (H:Hp) (a:Addr) (u:HO):Prop:=H a=some u∨∃ o,H a=some (.pK o u)
theorem Rd.ok {P:Program} {w:World} {H:Hp} {h:Heap} {a:Addr} {u:HO} (r:Rd H a u) (x:ku P w H h):cu P w H h a u:=by
 rcases r with r | ⟨o,r⟩
 ·exact x a u r
 ·obtain ⟨_,q⟩:=x a _ r
  exact q
def KR:Option HO→Prop
 | some (.lst _)=>True
 | some (.dK _)=>True
 | some (.dE _ _)=>True
 | some (.set _ _)=>True
 | some (.ins _ _ _)=>True
 | some (.ext _)=>True
 | _=>False
section
variable {P:Program} {w:World} {H:Hp} {h h':Heap} {x e:Addr} {o':HO}
theorem ku.write (ok:ku P w H h) (mu:KR (H x)) (he:e=x∨H e=some (.own x)) (k:∀ b u,b≠e→h.get? b=some u→h'.get? b=some u) (heo:∃ u,h'.get? e=some u)
  (new:cu P w (upd H x o') h' x o'):ku P w (upd H x o') h':=fun b u q=>by
 have nown:∀ c y,H c=some (.own y)→c≠x:=fun c y r z=>by subst z;rw [r] at mu;exact mu
 have ntup:∀ c xs,H c=some (.tup xs)→c≠x:=fun c xs r z=>by subst z;rw [r] at mu;exact mu
 by_cases hb:b=x
 ·subst hb;rw [aA] at q;cases q;exact new
 ·rw [aG hb] at q
  by_cases hbe:b=e
  ·have q':H b=some (.own x):=by
    rcases he with z | z
    ·exact absurd (hbe.trans z) hb
    ·rw [hbe];exact z
   rw [q] at q';cases q'
   obtain ⟨v,hv⟩:=heo
   exact ⟨v,by rw [hbe];exact hv⟩
  ·refine (ok b u q).o_ (fun c v hc r=>k c v ?_ r) (fun c r=>by rw [aG (nown c b r)];exact r) fun c xs r=>by rw [aG (ntup c xs r)];exact r
   rcases hc with rfl | hc
   ·exact hbe
   ·rintro rfl
    rcases he with z | z
    ·exact nown c b hc z
    ·rw [hc] at z;cases z;exact hb rfl
end
structure Un (fs ex:List Addr) (H H':Hp) (h h':Heap):Prop where
 keep:∀ b o,h.get? b=some o→H b=none→b ∉ fs→b ∉ ex→h'.get? b=some o
 slot:∀ b o,h.get? b=some o→H b=none→b∈fs→b ∉ ex→∃ sl,h'.get? b=some { o with slots:=sl }
 free:∀ b o,h.get? b=some o→H b=none→b ∉ ex→H' b=none
 there:∀ b o,h.get? b=some o→b ∉ ex→∃ o',h'.get? b=some o'
 tups:∀ b xs,H b=some (.tup xs)→H' b=some (.tup xs)
 frzs:∀ b o u,H b=some (.pK o u)→H' b=some (.pK o u)
 tbls:∀ b ps,H b=some (.tbl ps)→∃ more,H' b=some (.tbl (ps ++ more))
section
variable {fs fs' ex ex':List Addr} {H H1 H2:Hp} {h h1 h2 h':Heap} {a x e:Addr} {o:HO}
theorem Un.any (u:Un fs ex H H1 h h1) {b:Addr} {ob:Obj} (q:h.get? b=some ob) (n:H b=none) (hx:b ∉ ex):∃ sl,h1.get? b=some { ob with slots:=sl }:=by
 by_cases hb:b∈fs
 ·exact u.slot b ob q n hb hx
 ·exact ⟨ob.slots,u.keep b ob q n hb hx⟩
theorem Un.kept (k:∀ b u,h.get? b=some u→h'.get? b=some u):Un fs ex H H h h' :=
 ⟨fun b ob q _ _ _=>k b ob q,fun b ob q _ _ _=>⟨ob.slots,k b ob q⟩,fun _ _ _ n _=>n,fun b ob q _=>⟨ob,k b ob q⟩,fun _ _ q=>q,fun _ _ _ q=>q,fun _ ps q=>⟨#[],by rw [q];simp⟩⟩
theorem Un.refl:Un fs ex H H h h:=Un.kept fun _ _ q=>q
theorem Un.laid (k:∀ b u,h.get? b=some u→h'.get? b=some u) (hp:h.objs.size≤a) (hn:H a=none):Un fs ex H (upd H a o) h h' where
 keep:=fun b u q _ _ _=>k b u q
 slot:=fun b u q _ _ _=>⟨u.slots,k b u q⟩
 free:=fun b u q n _=>by rw [aG (Nat.ne_of_lt (Nat.lt_of_lt_of_le (Heap.lt_size q) hp))];exact n
 there:=fun b u q _=>⟨u,k b u q⟩
 tups:=fun b xs q=>by rw [aG (bR q hn)];exact q
 frzs:=fun b u xs q=>by rw [aG (bR q hn)];exact q
 tbls:=fun b ps q=>⟨#[],by rw [aG (bR q hn),q];simp⟩
theorem Un.write (mu:KR (H x)) (he:e=x∨H e=some (.own x)) (k:∀ b u,b≠e→h.get? b=some u→h'.get? b=some u) (heo:∃ u,h'.get? e=some u):Un fs ex H (upd H x o) h h':=by
 have hx:∀ b,H b=none→b≠x:=fun b n z=>by subst z;rw [n] at mu;exact mu
 have hb:∀ b,H b=none→b≠e:=fun b n z=>by
  subst z
  rcases he with r | r
  ·exact hx b n r
  ·rw [n] at r;cases r
 have hm:∀ b u,H b=some u→¬ KR (some u)→b≠x:=fun b u q nm z=>by subst z;rw [q] at mu;exact nm mu
 refine ⟨fun b u q n _ _=>k b u (hb b n) q,fun b u q n _ _=>⟨u.slots,k b u (hb b n) q⟩,fun b u q n _=>by rw [aG (hx b n)];exact n,fun b u q _=>?_,
  fun b xs q=>by rw [aG (hm b _ q fun z=>z)];exact q,fun b u xs q=>by rw [aG (hm b _ q fun z=>z)];exact q,fun b ps q=>⟨#[],by rw [aG (hm b _ q fun z=>z),q];simp⟩⟩
 by_cases hbe:b=e
 ·subst hbe;exact heo
 ·exact ⟨u,k b u hbe q⟩
end
def La (h:Heap) (H:Hp):List Addr:=(List.range h.objs.size).filter fun a=>(H a).isSome
def pL (h:Heap) (H:Hp):Heap:=PySem.W.hideAll h (La h H)
theorem zd (h:Heap) (H:Hp):(pL h H).objs.size=h.objs.size:=PySem.W.hideAll_size _ _
theorem A7 {h:Heap} {H:Hp} {b:Addr} {o:Obj} (e:h.get? b=some o) (n:H b=none):(pL h H).get? b=some o :=
 PySem.W.hideAll_get _ e fun hm=>by
  have q:(H b).isSome=true:=(List.mem_filter.mp hm).2
  rw [n] at q;simp at q
theorem D0 {h:Heap} {H:Hp} {b:Addr} {o:Obj} (e:(pL h H).get? b=some o):h.get? b=some o∧H b=none:=by
 have e':h.get? b=some o:=PySem.W.of_hideAll (La h H) e
 refine ⟨e',?_⟩
 cases q:H b with
 | none=>rfl
 | some x =>
  have hm:b∈La h H:=List.mem_filter.mpr ⟨List.mem_range.mpr (Heap.lt_size e'),by simp [q]⟩
  have z:(pL h H).get? b=none:=PySem.W.hideAll_none (La h H) hm
  rw [z] at e;cases e
def Dp (g h:Heap) (L:Addr):List (Addr × Obj):=(List.range h.objs.size).filterMap fun a=>if a=L∨(g.get? a).isSome=true then none else (h.get? a).map fun o=>(a,o)
def rest (g h:Heap) (L d:Addr):List (Addr × Obj):=(Dp g h L).filter fun p=>decide (p.1≠d)
end L2
namespace L2
open PySem PySem.Spec PyProof.Rows
structure Mod (K:PySem.W.Frag) (mg:Str→Option Value) (base:Heap):Prop where
 kin:K.In base
 glob:base.Ns mainGlobals mg
 blt:∃ mb,base.Ns builtinsNs mb∧∀ x:Str,x≠"__name__"→mb x=bootBuiltins x
 nolimit:base.NoLimit
structure Cx where
 prog:Program
 w:World
 K:PySem.W.Frag
 mg:Str→Option Value
 base:Heap
 A:Around
 N:List Str
 s₀:Shared
 H₀:Hp
 env:Env
 outer:List Env
 stack:List Env
 ex:List Addr
 fn:Str→Bool
 calm:Bool
 pn:List (Addr × Obj)
 xe:Value→Shared→Prop
def iN (l:List Env):List Addr:=l.filterMap (·.frame)
abbrev Cx.fs (X:Cx):List Addr:=iN X.outer
def tP (sc:Scope) (x:Str):Prop:=sc.names.lookup x=some .local∨sc.names.lookup x=some .cell∨sc.names.lookup x=some .free
def Loc (sc:Scope) (x:Str):Prop:=sc.names.lookup x=some .local∨sc.names.lookup x=some .cell
def Look (env:Env) (h:Heap) (m:Str→Option Value) (x:Str) (u:Value):Prop :=
 (env.kindOf x=some .local∧m x=some u)∨((env.kindOf x=some .cell∨env.kindOf x=some .free)∧∃ c,env.cells.lookup x=some c∧h.IsCell c (some u))
structure Cx.Ok (X:Cx):Prop where
 mod:Mod X.K X.mg X.base
 kind:X.env.scope.kind=.function
 glob:X.env.globals=mainGlobals
 blt:X.env.builtins=builtinsNs
 above:X.s₀.heap.objs.size≤X.env.locals
 inj:∀ x y c,X.env.cells.lookup x=some c→X.env.cells.lookup y=some c→x=y
 has:∀ x,(X.env.kindOf x=some .cell∨X.env.kindOf x=some .free)→∃ c,X.env.cells.lookup x=some c
 cab:∀ x c,X.fn x=true→X.env.cells.lookup x=some c→X.s₀.heap.objs.size≤c
 hd:X.calm=true→X.A.handled=none
 frames:X.A.frames=some X.stack
 stk:X.stack=X.outer∨(X.stack=X.env :: X.outer∧X.env.frame=some X.env.locals)
 exf:∀ b∈X.ex,b≠X.env.locals∧∀ x c,X.env.cells.lookup x=some c→c≠b
 bs:∀ b o,X.base.get? b=some o→X.s₀.heap.get? b=some o∧X.H₀ b=none
 bsz:X.base.objs.size≤X.s₀.heap.objs.size
 noex:∀ b o,X.base.get? b=some o→b ∉ X.ex
 exfs:∀ b∈X.ex,b ∉ X.fs
 lU:X.s₀.heap.FunFrames X.base X.outer
 frf:∀ b∈X.fs,X.H₀ b=none
structure Inv (X:Cx) (pins:List (Addr × Obj)) (σ:List (Option V)) (H:Hp) (s:Shared):Prop where
 ok:X.Ok
 os:s.os=X.s₀.os
 bare:AllBare s.gens
 base:Un X.fs X.ex X.H₀ H X.s₀.heap s.heap
 loc:∃ m,s.heap.Ns X.env.locals m∧∀ (i:Nat) (x:Str) (v:V),X.N[i]?=some x→σ[i]?=some (some v)→tP X.env.scope x→∃ u,RelV v u∧Look X.env s.heap m x u
 cell:∀ x c,X.env.cells.lookup x=some c→∃ v,s.heap.IsCell c v
 free:H X.env.locals=none
 freeC:∀ x c,X.env.cells.lookup x=some c→H c=none
 pin:∀ p∈X.pn ++ pins,s.heap.get? p.1=some p.2∧H p.1=none∧p.1≠X.env.locals∧p.1 ∉ X.fs∧∀ v,p.2.data≠.cell v
 hok:ku X.prog X.w H s.heap
 len:σ.length=X.N.length
section
variable {X:Cx} {pins:List (Addr × Obj)} {σ:List (Option V)} {H H':Hp} {s:Shared} {h':Heap}
theorem Cx.Ok.L6 (ok:X.Ok) {b:Addr} {o:Obj} (e:X.base.get? b=some o):b ∉ X.fs:=fun hb=>by
 have:=(ok.lU.mem hb).1
 rw [e] at this;cases this
theorem Inv.bs (I:Inv X pins σ H s):∀ b o,X.base.get? b=some o→s.heap.get? b=some o∧H b=none:=fun b o e =>
 ⟨I.base.keep b o (I.ok.bs b o e).1 (I.ok.bs b o e).2 (I.ok.L6 e) (I.ok.noex b o e),I.base.free b o (I.ok.bs b o e).1 (I.ok.bs b o e).2 (I.ok.noex b o e)⟩
theorem Inv.bk (I:Inv X pins σ H s):∀ b o,X.base.get? b=some o→s.heap.get? b=some o:=fun b o e=>(I.bs b o e).1
theorem Inv.mod (I:Inv X pins σ H s):Mod X.K X.mg X.base:=I.ok.mod
theorem Inv.kU (I:Inv X pins σ H s):X.K.In s.heap:=I.ok.mod.kin.keeps I.bk
theorem Inv.nolimit (I:Inv X pins σ H s):s.heap.NoLimit:=I.ok.mod.nolimit.keeps I.bk
theorem Inv.fr (I:Inv X pins σ H s):∃ m,Fr X.base X.env.locals s.heap m :=
 let ⟨m,hn,_⟩:=I.loc
 ⟨m,hn,I.bk,Nat.le_trans I.ok.bsz I.ok.above⟩
theorem Inv.lt (I:Inv X pins σ H s):X.env.locals < s.heap.objs.size:=let ⟨_,hn,_⟩:=I.loc;hn.lt
theorem Inv.sz (I:Inv X pins σ H s):X.s₀.heap.objs.size≤s.heap.objs.size:=Nat.le_trans I.ok.above (Nat.le_of_lt I.lt)
theorem Inv.L7 (I:Inv X pins σ H s) {a:Addr} (h:s.heap.objs.size≤a):a ∉ X.fs:=fun hb=>by
 obtain ⟨_,o,ho,_⟩:=I.ok.lU.mem hb
 exact absurd (Nat.lt_of_lt_of_le (Heap.lt_size ho) (Nat.le_trans I.sz h)) (Nat.lt_irrefl _)
theorem Inv.GC (I:Inv X pins σ H s):∀ x c,X.env.cells.lookup x=some c→c≠X.env.locals:=fun x c e z=>by
 obtain ⟨v,o,ho,hd⟩:=I.cell x c e
 obtain ⟨m,⟨o',es,ep,ho',hd',_⟩,_⟩:=I.loc
 rw [z,ho'] at ho;cases ho;rw [hd'] at hd;cases hd
theorem Inv.lU (I:Inv X pins σ H s):s.heap.FunFrames X.base X.outer:=by
 have all:∀ (l:List Env),(∀ b∈iN l,b∈X.fs)→X.s₀.heap.FunFrames X.base l→s.heap.FunFrames X.base l:=by
  intro l
  induction l with
  | nil=>intro _ _;trivial
  | cons env r ih =>
   intro hs hl
   obtain ⟨hk,⟨L,o,hf,hn,ho,hd⟩,hr⟩:=hl
   have hL:L∈X.fs:=hs L (by unfold iN;rw [List.filterMap_cons,hf];exact List.mem_cons_self)
   obtain ⟨sl,e⟩:=I.base.slot L o ho (I.ok.frf L hL) hL fun z=>I.ok.exfs L z hL
   exact ⟨hk,⟨L,_,hf,hn,e,hd⟩,ih (fun b hb=>hs b (by unfold iN;rw [List.filterMap_cons,hf];exact List.mem_cons_of_mem _ hb)) hr⟩
 exact all X.outer (fun _ hb=>hb) I.ok.lU
theorem Inv.stack (I:Inv X pins σ H s):s.heap.FunFrames X.base X.stack:=by
 rcases I.ok.stk with e | ⟨e,hf⟩
 ·rw [e];exact I.lU
 ·rw [e]
  obtain ⟨m,hn,_⟩:=I.loc
  refine .cons (by rw [I.ok.kind];decide) hf hn ?_ I.lU
  exact Heap.get?_none_of_le (Nat.le_trans I.ok.bsz I.ok.above)
theorem Inv.ko (I:Inv X pins σ H s):∀ b∈iN X.stack,b∈X.env.locals :: X.fs:=fun b hb=>by
 rcases I.ok.stk with e | ⟨e,hf⟩
 ·rw [e] at hb;exact List.mem_cons_of_mem _ hb
 ·rw [e] at hb
  unfold iN at hb
  rw [List.filterMap_cons,hf] at hb
  exact hb
theorem Inv.tJ (I:Inv X pins σ H s):∀ b∈iN X.stack,H b=none:=fun b hb=>by
 rcases List.mem_cons.mp (I.ko b hb) with e | hb
 ·rw [e];exact I.free
 ·obtain ⟨_,o,ho,_⟩:=I.ok.lU.mem hb
  exact I.base.free b o ho (I.ok.frf b hb) fun z=>I.ok.exfs b z hb
theorem Inv.step {g':Array GenState} {t':Nat} {d':Drawn} {ch:List Addr} (I:Inv X pins σ H s)
  (hch:∀ b∈ch,(b∈X.ex∨X.s₀.heap.objs.size≤b)∧b≠X.env.locals∧(∀ x c,X.env.cells.lookup x=some c→c≠b)∧∀ p∈X.pn ++ pins,p.1≠b)
  (keep:∀ b o,b≠X.env.locals→b ∉ X.fs→b ∉ ch→s.heap.get? b=some o→H b=none→h'.get? b=some o)
  (slot:∀ b o,b≠X.env.locals→b∈X.fs→b ∉ ch→s.heap.get? b=some o→H b=none→∃ sl,h'.get? b=some { o with slots:=sl }) (free:∀ b o,b ∉ ch→s.heap.get? b=some o→H b=none→H' b=none)
  (there:∀ b o,b ∉ ch→s.heap.get? b=some o→∃ o',h'.get? b=some o')
  (tups:∀ b xs,H b=some (.tup xs)→H' b=some (.tup xs)) (frzs:∀ b o u,H b=some (.pK o u)→H' b=some (.pK o u)) (tbls:∀ b ps,H b=some (.tbl ps)→∃ more,H' b=some (.tbl (ps ++ more)))
  (ns:∀ m,s.heap.Ns X.env.locals m→h'.Ns X.env.locals m) (hok:ku X.prog X.w H' h') (hg:AllBare g') :
  Inv X pins σ H' { s with heap:=h',gens:=g',drawn:=d',toks:=t' }:=by
 have neL:∀ b o,X.s₀.heap.get? b=some o→b≠X.env.locals:=fun b o e=>Nat.ne_of_lt (Nat.lt_of_lt_of_le (Heap.lt_size e) I.ok.above)
 have neC:∀ b o,X.s₀.heap.get? b=some o→b ∉ X.ex→b ∉ ch:=fun b o e hx hb=>by
  rcases (hch b hb).1 with z | z
  ·exact hx z
  ·exact absurd (Nat.lt_of_lt_of_le (Heap.lt_size e) z) (Nat.lt_irrefl _)
 have cellK:∀ x c,X.env.cells.lookup x=some c→∀ v,s.heap.IsCell c v→h'.IsCell c v:=fun x c e v ⟨o,ho,hd⟩=>by
  have nch:c ∉ ch:=fun z=>(hch c z).2.2.1 x c e rfl
  by_cases hc:c∈X.fs
  ·obtain ⟨sl,q⟩:=slot c o (I.GC x c e) hc nch ho (I.freeC x c e)
   exact ⟨_,q,hd⟩
  ·exact ⟨o,keep c o (I.GC x c e) hc nch ho (I.freeC x c e),hd⟩
 refine ⟨I.ok,I.os,hg,⟨fun b o e n hb hx=>?_,fun b o e n hb hx=>?_,fun b o e n hx=>?_,fun b o e hx=>?_,fun b xs e=>tups b xs (I.base.tups b xs e),fun b o xs e=>frzs b o xs (I.base.frzs b o xs e),fun b ps e=>?_⟩,?_,fun x c e=>?_,?_,fun x c e=>?_,fun p hp=>?_,hok,I.len⟩
 ·exact keep b o (neL b o e) hb (neC b o e hx) (I.base.keep b o e n hb hx) (I.base.free b o e n hx)
 ·obtain ⟨sl,e1⟩:=I.base.slot b o e n hb hx
  obtain ⟨sl',e2⟩:=slot b _ (neL b o e) hb (neC b o e hx) e1 (I.base.free b o e n hx)
  exact ⟨sl',e2⟩
 ·obtain ⟨o',e1⟩:=I.base.there b o e hx
  exact free b o' (neC b o e hx) e1 (I.base.free b o e n hx)
 ·obtain ⟨o',e1⟩:=I.base.there b o e hx
  exact there b o' (neC b o e hx) e1
 ·obtain ⟨m1,e1⟩:=I.base.tbls b ps e
  obtain ⟨m2,e2⟩:=tbls b _ e1
  exact ⟨m1 ++ m2,by rw [e2,Array.append_assoc]⟩
 ·obtain ⟨m,hn,hl⟩:=I.loc
  refine ⟨m,ns m hn,fun i x v e1 e2 e3=>?_⟩
  obtain ⟨u,r,l⟩:=hl i x v e1 e2 e3
  refine ⟨u,r,?_⟩
  rcases l with l | ⟨k,c,e,z⟩
  ·exact .inl l
  ·exact .inr ⟨k,c,e,cellK x c e _ z⟩
 ·obtain ⟨v,z⟩:=I.cell x c e
  exact ⟨v,cellK x c e v z⟩
 ·obtain ⟨m,⟨o,_,_,ho,_⟩,_⟩:=I.loc
  exact free _ o (fun z=>(hch _ z).2.1 rfl) ho I.free
 ·obtain ⟨v,o,ho,hd⟩:=I.cell x c e
  exact free c o (fun z=>(hch c z).2.2.1 x c e rfl) ho (I.freeC x c e)
 ·obtain ⟨e,n,ne,nf,d⟩:=I.pin p hp
  have nch:p.1 ∉ ch:=fun z=>(hch p.1 z).2.2.2 p hp rfl
  exact ⟨keep p.1 p.2 ne nf nch e n,free p.1 p.2 nch e n,ne,nf,d⟩
theorem Inv.un {t':Nat} (I:Inv X pins σ H s) (u:Un X.fs [] H H' s.heap h') (hok:ku X.prog X.w H' h'):Inv X pins σ H' { s with heap:=h',toks:=t' }:=by
 obtain ⟨m,⟨o,es,ep,ho,r⟩,_⟩:=id I.loc
 obtain ⟨sl,hL⟩:=u.any ho I.free (by simp)
 exact I.step (g':=s.gens) (d':=s.drawn) (ch:=[]) (fun _ z=>nomatch z) (fun b o _ hb _ e n=>u.keep b o e n hb (by simp)) (fun b o _ hb _ e n=>u.slot b o e n hb (by simp)) (fun b o _ e n=>u.free b o e n (by simp)) (fun b o _ e=>u.there b o e (by simp)) u.tups u.frzs u.tbls (fun m' hm=>by
  obtain ⟨o',es',ep',ho',r'⟩:=hm
  rw [ho] at ho';cases ho'
  exact ⟨_,es',ep',hL,r'⟩) hok I.bare
theorem Inv.call {g':Array GenState} {t':Nat} {d':Drawn} {ch:List Addr} (I:Inv X pins σ H s) (u:Un (iN X.stack) ch H H' s.heap h') (hok:ku X.prog X.w H' h') (hg:AllBare g')
  (hch:∀ b∈ch,(b∈X.ex∨X.s₀.heap.objs.size≤b)∧b≠X.env.locals∧(∀ x c,X.env.cells.lookup x=some c→c≠b)∧∀ p∈X.pn ++ pins,p.1≠b) :
  Inv X pins σ H' { s with heap:=h',gens:=g',drawn:=d',toks:=t' }:=by
 obtain ⟨m,⟨o,es,ep,ho,r⟩,_⟩:=id I.loc
 obtain ⟨sl,hL⟩:=u.any ho I.free fun z=>(hch _ z).2.1 rfl
 exact I.step (ch:=ch) hch (fun b o hL hb hc e n=>u.keep b o e n (fun z=>(List.mem_cons.mp (I.ko b z)).elim hL hb) hc) (fun b o _ _ hc e n=>u.any e n hc) (fun b o hc e n=>u.free b o e n hc) (fun b o hc e=>u.there b o e hc) u.tups u.frzs u.tbls (fun m' hm=>by
  obtain ⟨o',es',ep',ho',r'⟩:=hm
  rw [ho] at ho';cases ho'
  exact ⟨_,es',ep',hL,r'⟩) hok hg
theorem Inv.turned {t':Nat} {it:Addr} (I:Inv X pins σ H s) (k:∀ b o,b≠it→s.heap.get? b=some o→h'.get? b=some o) (hn:H it=none) (hL:it≠X.env.locals)
  (h1:it∈X.ex∨X.s₀.heap.objs.size≤it) (h2:∀ x c,X.env.cells.lookup x=some c→c≠it) (h3:∀ p∈X.pn ++ pins,p.1≠it):Inv X pins σ H { s with heap:=h',toks:=t' }:=by
 have nit:∀ b u,H b=some u→b≠it:=fun b u e z=>by rw [z,hn] at e;cases e
 refine I.step (g':=s.gens) (d':=s.drawn) (ch:=[it]) (fun b hb=>?_) (fun b o _ _ hc e _=>k b o (fun z=>hc (by simp [z])) e) (fun b o _ _ hc e _=>⟨o.slots,k b o (fun z=>hc (by simp [z])) e⟩) (fun _ _ _ _ n=>n)
  (fun b o hc e=>⟨o,k b o (fun z=>hc (by simp [z])) e⟩) (fun _ _ e=>e) (fun _ _ _ e=>e) (fun b ps e=>⟨#[],by rw [e];simp⟩) (fun m hm=>?_) (fun b u e=>?_) I.bare
 ·have e:b=it:=by simpa using hb
  subst e
  exact ⟨h1,hL,h2,h3⟩
 ·obtain ⟨o,es,ep,ho,r⟩:=hm
  exact ⟨o,es,ep,k _ o (Ne.symm hL) ho,r⟩
 ·refine (I.hok b u e).o_ (fun c v hc q=>k c v ?_ q) (fun _ q=>q) fun _ _ q=>q
  rcases hc with z | z
  ·rw [z];exact nit b u e
  ·exact nit c _ z
theorem Inv.tok (I:Inv X pins σ H s) (t:Nat):Inv X pins σ H { s with toks:=t }:=I.un (h':=s.heap) (t':=t) Un.refl I.hok
theorem Inv.kept {t':Nat} (I:Inv X pins σ H s) (k:∀ b u,s.heap.get? b=some u→h'.get? b=some u):Inv X pins σ H { s with heap:=h',toks:=t' }:=I.un (Un.kept k) (I.hok.kept k)
theorem Inv.laid {a:Addr} {o:HO} {t':Nat} (I:Inv X pins σ H s) (k:∀ b u,s.heap.get? b=some u→h'.get? b=some u) (hp:s.heap.objs.size≤a) (new:cu X.prog X.w (upd H a o) h' a o) :
  Inv X pins σ (upd H a o) { s with heap:=h',toks:=t' }:=I.un (Un.laid k hp (I.hok.fresh hp)) (I.hok.laid k hp new)
theorem Inv.write {x e:Addr} {o:HO} {t':Nat} (I:Inv X pins σ H s) (mu:KR (H x)) (he:e=x∨H e=some (.own x)) (k:∀ b u,b≠e→s.heap.get? b=some u→h'.get? b=some u) (heo:∃ u,h'.get? e=some u)
  (new:cu X.prog X.w (upd H x o) h' x o):Inv X pins σ (upd H x o) { s with heap:=h',toks:=t' }:=I.un (Un.write mu he k heo) (I.hok.write mu he k heo new)
theorem Inv.x5 {pins':List (Addr × Obj)} (I:Inv X pins σ H s) (h:∀ p∈pins',s.heap.get? p.1=some p.2∧H p.1=none∧p.1≠X.env.locals∧p.1 ∉ X.fs∧∀ v,p.2.data≠.cell v):Inv X pins' σ H s :=
 ⟨I.ok,I.os,I.bare,I.base,I.loc,I.cell,I.free,I.freeC,fun p hp=>(List.mem_append.mp hp).elim (fun z=>I.pin p (List.mem_append_left _ z)) (h p),I.hok,I.len⟩
theorem uy {N:List Str} (hN:N.Nodup) {i j:Nat} {x:Str} (a:N[i]?=some x) (b:N[j]?=some x):i=j:=by
 obtain ⟨h1,e1⟩:=List.getElem?_eq_some_iff.mp a
 obtain ⟨h2,e2⟩:=List.getElem?_eq_some_iff.mp b
 exact (List.getElem_inj hN).mp (e1.trans e2.symm)
theorem mw {M:Model} {A:Around} {E:Value→Shared→Prop} {i:Nat} {x:Str} {v:V} {u:Value} {Q:Unit→Shared→Prop} (I:Inv X pins σ H s) (hN:X.N.Nodup) (hi:X.N[i]?=some x) (hx:Loc X.env.scope x) (r:RelV v u)
  (h:∀ s',Inv X pins (σ.set i (some v)) H s'→(∃ a,Heap.SameBut a s.heap s'.heap∧(a=X.env.locals∨X.env.cells.lookup x=some a))→Q () s') (hf:X.fn x=true∨X.env.scope.names.lookup x=some .local:=by first | exact .inl rfl | exact .inr rfl | assumption):wpAny M A (storeName X.env x u) Q E s:=by
 obtain ⟨m,hn,hl⟩:=id I.loc
 have hcls:(X.env.scope.kind == .class || (X.env.scope.kind == .module && X.env.locals != X.env.globals))=false:=by rw [I.ok.kind];rfl
 have hiσ:i < σ.length:=by rw [I.len];exact (List.getElem?_eq_some_iff.mp hi).1
 have GC:=I.GC
 have tracked:∀ {a:Addr} {h':Heap},(∃ o,s.heap.get? a=some o∧H a=none)→Heap.SameBut a s.heap h'→ku X.prog X.w H h':=fun {a h'} ha hs b ob e=>by
  obtain ⟨_,_,hfree⟩:=ha
  refine (I.hok b ob e).o_ (fun c w' hc q=>(hs.2 c ?_).trans q) (fun _ q=>q) fun _ _ q=>q
  rintro rfl
  rcases hc with rfl | hc
  ·rw [hfree] at e;cases e
  ·rw [hfree] at hc;cases hc
 rcases hx with hk | hk
 ·refine wpAny_storeName_local hk hn (fun h' hn' hs=>?_) hcls
  obtain ⟨oL,_,_,hoL,_⟩:=id hn
  refine h _ ⟨I.ok,I.os,I.bare,⟨fun b o e n hb hx=>?_,fun b o e n hb hx=>?_,I.base.free,fun b o e hx=>?_,I.base.tups,I.base.frzs,I.base.tbls⟩,⟨_,hn',fun j y v' e1 e2 e3=>?_⟩,fun y c e=>?_,I.free,I.freeC,fun p hp=>?_,tracked ⟨oL,hoL,I.free⟩ hs,by simpa using I.len⟩ ⟨_,hs,.inl rfl⟩
  ·exact (hs.2 b (Nat.ne_of_lt (Nat.lt_of_lt_of_le (Heap.lt_size e) I.ok.above))).trans (I.base.keep b o e n hb hx)
  ·obtain ⟨sl,e1⟩:=I.base.slot b o e n hb hx
   exact ⟨sl,(hs.2 b (Nat.ne_of_lt (Nat.lt_of_lt_of_le (Heap.lt_size e) I.ok.above))).trans e1⟩
  ·obtain ⟨o',e1⟩:=I.base.there b o e hx
   exact ⟨o',(hs.2 b (Nat.ne_of_lt (Nat.lt_of_lt_of_le (Heap.lt_size e) I.ok.above))).trans e1⟩
  ·by_cases hj:j=i
   ·subst hj
    rw [hi] at e1;cases e1
    rw [List.getElem?_set_self hiσ] at e2
    cases e2
    exact ⟨u,r,.inl ⟨hk,by simp⟩⟩
   ·rw [List.getElem?_set_ne (Ne.symm hj)] at e2
    obtain ⟨u',r',q⟩:=hl j y v' e1 e2 e3
    refine ⟨u',r',?_⟩
    rcases q with ⟨k,e⟩ | ⟨k,c,e,z⟩
    ·refine .inl ⟨k,?_⟩
     have:y≠x:=fun e=>hj (uy hN e1 (e ▸ hi))
     simp [this,e]
    ·exact .inr ⟨k,c,e,z.sameBut hs (GC y c e)⟩
  ·obtain ⟨w',z⟩:=I.cell y c e
   exact ⟨w',z.sameBut hs (GC y c e)⟩
  ·obtain ⟨e,n,ne,nf,d⟩:=I.pin p hp
   exact ⟨(hs.2 p.1 ne).trans e,n,ne,nf,d⟩
 ·have hfn:X.fn x=true:=by
   rcases hf with z | z
   ·exact z
   ·rw [z] at hk;cases hk
  obtain ⟨c,hc⟩:=I.ok.has x (.inl hk)
  obtain ⟨w',z⟩:=I.cell x c hc
  refine wpAny_storeName_cell I.ok.kind hk hc z (fun h' hc' hs=>?_)
  obtain ⟨oc,hoc,hocd⟩:=id z
  refine h { s with heap:=h' } ⟨I.ok,I.os,I.bare,⟨fun b o e n hb hx=>?_,fun b o e n hb hx=>?_,I.base.free,fun b o e hx=>?_,I.base.tups,I.base.frzs,I.base.tbls⟩,⟨m,hn.sameBut hs (Ne.symm (GC x c hc)),fun j y v' e1 e2 e3=>?_⟩,fun y c' e=>?_,I.free,I.freeC,fun p hp=>?_,tracked ⟨oc,hoc,I.freeC x c hc⟩ hs,by simpa using I.len⟩ ⟨c,hs,.inr hc⟩
  ·exact (hs.2 b (Nat.ne_of_lt (Nat.lt_of_lt_of_le (Heap.lt_size e) (I.ok.cab x c hfn hc)))).trans (I.base.keep b o e n hb hx)
  ·obtain ⟨sl,e1⟩:=I.base.slot b o e n hb hx
   exact ⟨sl,(hs.2 b (Nat.ne_of_lt (Nat.lt_of_lt_of_le (Heap.lt_size e) (I.ok.cab x c hfn hc)))).trans e1⟩
  ·obtain ⟨o',e1⟩:=I.base.there b o e hx
   exact ⟨o',(hs.2 b (Nat.ne_of_lt (Nat.lt_of_lt_of_le (Heap.lt_size e) (I.ok.cab x c hfn hc)))).trans e1⟩
  ·by_cases hj:j=i
   ·subst hj
    rw [hi] at e1;cases e1
    rw [List.getElem?_set_self hiσ] at e2
    cases e2
    exact ⟨u,r,.inr ⟨.inl hk,c,hc,hc'⟩⟩
   ·rw [List.getElem?_set_ne (Ne.symm hj)] at e2
    obtain ⟨u',r',q⟩:=hl j y v' e1 e2 e3
    refine ⟨u',r',?_⟩
    rcases q with q | ⟨k,c',e,z'⟩
    ·exact .inl q
    ·refine .inr ⟨k,c',e,z'.sameBut hs ?_⟩
     rintro rfl
     exact hj (uy hN e1 (I.ok.inj _ _ _ e hc ▸ hi))
  ·by_cases hcc:c'=c
   ·subst hcc;exact ⟨_,hc'⟩
   ·obtain ⟨w2,z2⟩:=I.cell y c' e
    exact ⟨w2,z2.sameBut hs hcc⟩
  ·obtain ⟨e,n,ne,nf,d⟩:=I.pin p hp
   refine ⟨(hs.2 p.1 ?_).trans e,n,ne,nf,d⟩
   intro q
   rw [q,hoc] at e
   have q':oc=p.2:=Option.some.inj e
   exact d w' (by rw [← q'];exact hocd)
theorem eG {M:Model} {A:Around} {E:Value→Shared→Prop} {i:Nat} {x:Str} {v:V} {u:Value} {Q:Unit→Shared→Prop} (I:Inv X pins σ H s) (hN:X.N.Nodup) (hi:X.N[i]?=some x) (hx:Loc X.env.scope x) (r:RelV v u)
  (h:∀ s',Inv X pins (σ.set i (some v)) H s'→Q () s') (hf:X.fn x=true∨X.env.scope.names.lookup x=some .local:=by first | exact .inl rfl | exact .inr rfl | assumption):wpAny M A (storeName X.env x u) Q E s :=
 mw I hN hi hx r (fun s' I' _=>h s' I') hf
theorem Inv.IM {s':Shared} {ch:List Addr} (I:Inv X pins σ H s) (ho:s'.os=s.os) (u:Un (iN X.stack) ch H H' s.heap s'.heap) (hok:ku X.prog X.w H' s'.heap) (hg:AllBare s'.gens)
  (hch:∀ b∈ch,(b∈X.ex∨X.s₀.heap.objs.size≤b)∧b≠X.env.locals∧(∀ x c,X.env.cells.lookup x=some c→c≠b)∧∀ p∈X.pn ++ pins,p.1≠b):Inv X pins σ H' s':=by
 obtain ⟨h',g',d',t',o'⟩:=s'
 have e:o'=s.os:=ho
 subst e
 exact I.call (g':=g') (t':=t') (d':=d') u hok hg hch
end
abbrev XK:=Value→Option Addr→Hp→Prop
abbrev St:=List (Option V)
abbrev VK:=V→Hp→Prop
abbrev TE:=St→Hp→VK→Prop
abbrev TT:=St→Hp→(Bool→Hp→Prop)→Prop
abbrev TA:=St→Hp→(List V→Hp→Prop)→Prop
structure Ends where
 nx:St→Hp→Prop
 rt:VK
 bk:St→Hp→Prop:=fun _ _=>False
 ct:St→Hp→Prop:=fun _ _=>False
abbrev TS:=Ends→St→Hp→Prop
def EP (X:Cx) (pins:List (Addr × Obj)) (σ:St) (Q:VK) (u:Value) (s':Shared):Prop:=∃ v H',Inv X pins σ H' s'∧RelV v u∧Q v H'
def TP (X:Cx) (pins:List (Addr × Obj)) (σ:St) (Q:Bool→Hp→Prop) (b:Bool) (s':Shared):Prop:=∃ H',Inv X pins σ H' s'∧Q b H'
def AP (X:Cx) (pins:List (Addr × Obj)) (σ:St) (Q:List V→Hp→Prop) (us:List Value) (s':Shared):Prop:=∃ vs H',Inv X pins σ H' s'∧Vals vs us∧Q vs H'
def SP (X:Cx) (pins:List (Addr × Obj)) (D:Ends) (f:Flow) (s':Shared):Prop :=
 match f with
 | .next=>∃ σ' H',Inv X pins σ' H' s'∧D.nx σ' H'
 | .brk=>∃ σ' H',Inv X pins σ' H' s'∧D.bk σ' H'
 | .cont=>∃ σ' H',Inv X pins σ' H' s'∧D.ct σ' H'
 | .ret u=>∃ v σ' H',Inv X pins σ' H' s'∧RelV v u∧D.rt v H'
def PE (X:Cx) (e:Expr) (t:TE):Prop :=
 ∀ (pins:List (Addr × Obj)) (s:Shared) (σ:St) (H:Hp) (Q:VK),Inv X pins σ H s→t σ H Q→wpAny (model X.prog X.w) X.A (eval e X.env) (EP X pins σ Q) X.xe s
def PT (X:Cx) (e:Expr) (t:TT):Prop :=
 ∀ (pins:List (Addr × Obj)) (s:Shared) (σ:St) (H:Hp) (Q:Bool→Hp→Prop),Inv X pins σ H s→t σ H Q→wpAny (model X.prog X.w) X.A (isTrue e X.env (eval e X.env)) (TP X pins σ Q) X.xe s
def PW (X:Cx) (e:Expr) (t:TT):Prop :=
 ∀ (whole:Sem Value) (pins:List (Addr × Obj)) (s:Shared) (σ:St) (H:Hp) (Q:Bool→Hp→Prop),Inv X pins σ H s→t σ H Q→wpAny (model X.prog X.w) X.A (isTrue e X.env whole) (TP X pins σ Q) X.xe s
theorem PW.pt {X:Cx} {e:Expr} {t:TT} (h:PW X e t):PT X e t:=h _
def PA (X:Cx) (es:List Expr) (t:TA):Prop :=
 ∀ (pos:Pos) (pins:List (Addr × Obj)) (s:Shared) (σ:St) (H:Hp) (Q:List V→Hp→Prop),Inv X pins σ H s→t σ H Q→wpAny (model X.prog X.w) X.A (spliced (backTo pos (starEach es X.env))) (AP X pins σ Q) X.xe s
def PS (X:Cx) (st:Stmt) (t:TS):Prop :=
 ∀ (pins:List (Addr × Obj)) (s:Shared) (σ:St) (H:Hp) (D:Ends),Inv X pins σ H s→t D σ H→wpAny (model X.prog X.w) X.A (exec st X.env) (SP X pins D) X.xe s
def qg (X:Cx) (st:List Stmt) (t:TS):Prop :=
 ∀ (pins:List (Addr × Obj)) (s:Shared) (σ:St) (H:Hp) (D:Ends),Inv X pins σ H s→t D σ H→wpAny (model X.prog X.w) X.A (execs st X.env) (SP X pins D) X.xe s
theorem bM {α:Type} {t:Sem α} {Q Q':α→Shared→Prop} {M:Model} {A:Around} {E:Value→Shared→Prop} {s:Shared} (h:wpAny M A t Q E s) (hQ:∀ a s,Q a s→Q' a s):wpAny M A t Q' E s:=wpAny_mono h hQ fun _ _ x=>x
end L2
namespace L2
open PySem PySem.Spec PyProof.Rows
section
variable {X:Cx}
def zW (i:Nat):TE:=fun σ H Q=>∃ v,σ[i]?=some (some v)∧Q v H
def tC (v:V):TE:=fun _ H Q=>Q v H
theorem wG {i:Nat} {x:Str} {pos:Pos} (hN:X.N[i]?=some x) (hv:tP X.env.scope x) (hd:(x == ("__debug__":Str))=false:=by decide) (hcd:(x == ("__classdict__":Str))=false:=by decide):PE X (.Name x pos) (zW i):=by
 intro pins s σ H Q I h
 obtain ⟨v,e,h⟩:=h
 obtain ⟨m,hn,hl⟩:=I.loc
 obtain ⟨u,r,l⟩:=hl i x v hN e hv
 have fin:EP X pins σ Q u s:=⟨v,H,I,r,h⟩
 rcases l with ⟨hk,hm⟩ | ⟨hk,c,hc,hcell⟩
 ·exact wpAny_Name (wpAny_loadName_local I.ok.kind hk hn hm fin) hd
 ·rcases hk with hk | hk
  ·exact wpAny_Name (wpAny_loadName_cell I.ok.kind hk hc hcell fin) hd
  ·exact wpAny_Name (wpAny_loadName_free I.ok.kind hk hc hcell fin hcd) hd
theorem aJ {i j pos}:PE X (.Constant (.int i) j pos) (tC (.int i)):=fun _ _ _ H _ I h=>wpAny_Constant_int ⟨.int i,H,I.tok _,⟨_,rfl⟩,h⟩
theorem uJ {b j pos}:PE X (.Constant (.bool b) j pos) (tC (.bl b)):=fun _ _ _ H _ I h=>Constant_bool ⟨.bl b,H,I,rfl,h⟩
theorem wC {j pos}:PE X (.Constant .none j pos) (tC .non):=fun _ _ _ H _ I h=>Constant_none ⟨.non,H,I,rfl,h⟩
theorem l5 {x j pos}:PE X (.Constant (.str x) j pos) (tC (.str x)):=fun _ _ _ H _ I h=>Calls.Constant_str ⟨.str x,H,I.tok _,⟨_,rfl⟩,h⟩
def Gl (X:Cx) (x:Str):Prop:=X.env.kindOf x=some .globalImplicit
theorem kW {E:Value→Shared→Prop} {pins:List (Addr × Obj)} {s:Shared} {σ:St} {H:Hp} {x:Str} {u:Value} {pos:Pos} {Q:Value→Shared→Prop} (I:Inv X pins σ H s) (hg:Gl X x) (hm:X.mg x=some u) (h:Q u s)
  (hd:(x == ("__debug__":Str))=false:=by decide):wpAny (model X.prog X.w) X.A (eval (.Name x pos) X.env) Q E s :=
 Calls.Name_function_global I.ok.kind hg (Calls.loadGlobal_global (by rw [I.ok.glob];exact I.mod.glob.keeps I.bk) hm h) hd
theorem lW {E:Value→Shared→Prop} {pins:List (Addr × Obj)} {s:Shared} {σ:St} {H:Hp} {x:Str} {u:Value} {pos:Pos} {Q:Value→Shared→Prop} (I:Inv X pins σ H s) (hg:Gl X x) (hm:X.mg x=none) (hv:bootBuiltins x=some u) (h:Q u s)
  (hn:x≠"__name__":=by decide) (hd:(x == ("__debug__":Str))=false:=by decide):wpAny (model X.prog X.w) X.A (eval (.Name x pos) X.env) Q E s:=by
 obtain ⟨mb,h1,h2⟩:=I.mod.blt
 exact Calls.Name_function_global I.ok.kind hg (Calls.loadGlobal_builtin (by rw [I.ok.glob];exact I.mod.glob.keeps I.bk) hm (by rw [I.ok.blt];exact h1.keeps I.bk) ((h2 x hn).trans hv) h) hd
theorem m9 {x:Str} {v:V} {u:Value} {pos:Pos} (hg:Gl X x) (hm:X.mg x=some u) (r:RelV v u) (hd:(x == ("__debug__":Str))=false:=by decide):PE X (.Name x pos) (tC v) :=
 fun _ _ _ H _ I h=>kW I hg hm ⟨v,H,I,r,h⟩ hd
theorem sv {x:Str} {v:V} {u:Value} {pos:Pos} (hg:Gl X x) (hm:X.mg x=none) (hv:bootBuiltins x=some u) (r:RelV v u) (hn:x≠"__name__":=by decide) (hd:(x == ("__debug__":Str))=false:=by decide):PE X (.Name x pos) (tC v) :=
 fun _ _ _ H _ I h=>lW I hg hm hv ⟨v,H,I,r,h⟩ hn hd
variable {a b:Expr} {ta tb:TE} {pos:Pos}
def tB (t:TE):TT:=fun σ H Q=>t σ H fun x H1=>∃ c,x=.bl c∧Q c H1
theorem wL {e:Expr} {t:TE} (h:PE X e t) (he:∀ whole,isTrue e X.env whole=(do let v ← whole;standAt e.pos;holding [v] (truthy v)):=by intro _;rfl):PT X e (tB t):=by
 intro pins s σ H Q I hw
 refine isTrue_plain (bM (h pins s σ H _ I hw) fun v s1 ⟨x,H1,I1,r1,q1⟩=>?_) (he _)
 obtain ⟨d,rfl,q⟩:=q1
 cases r1
 exact wpAny_truthy_bool ⟨H1,I1,q⟩
variable {tA tB':TT} {rest:List Expr}
def CS (t u:TT):TT:=fun σ H Q=>t σ H fun c H1=>if c=true then u σ H1 Q else Q false H1
def Kx (t u:TT):TT:=fun σ H Q=>t σ H fun c H1=>if c=true then Q true H1 else u σ H1 Q
def E1 (t:TT):TT:=fun σ H Q=>t σ H fun c H1=>Q (!c) H1
theorem ni (ha:PT X a tA):PW X (.BoolOp .And [a] pos) tA:=by
 intro wh pins s σ H Q I h
 refine isTrue_and (bM (ha pins s σ H Q I h) fun c s1 e=>?_)
 cases c with
 | true=>exact isTrue_and_nil e
 | false=>exact e
theorem sH (ha:PT X a tA):PW X (.BoolOp .Or [a] pos) tA:=by
 intro wh pins s σ H Q I h
 refine isTrue_or (bM (ha pins s σ H Q I h) fun c s1 e=>?_)
 cases c with
 | false=>exact isTrue_or_nil e
 | true=>exact e
theorem sG (ha:PT X a tA) (hb:PW X (.BoolOp .And (b :: rest) pos) tB'):PW X (.BoolOp .And (a :: b :: rest) pos) (CS tA tB'):=by
 intro wh pins s σ H Q I h
 refine isTrue_and (bM (ha pins s σ H _ I h) fun c s1 ⟨H1,I1,q1⟩=>?_)
 cases c with
 | true=>exact hb wh pins s1 σ H1 Q I1 q1
 | false=>exact ⟨H1,I1,q1⟩
theorem x9 (ha:PT X a tA) (hb:PW X (.BoolOp .Or (b :: rest) pos) tB'):PW X (.BoolOp .Or (a :: b :: rest) pos) (Kx tA tB'):=by
 intro wh pins s σ H Q I h
 refine isTrue_or (bM (ha pins s σ H _ I h) fun c s1 ⟨H1,I1,q1⟩=>?_)
 cases c with
 | true=>exact ⟨H1,I1,q1⟩
 | false=>exact hb wh pins s1 σ H1 Q I1 q1
theorem wK (ha:PT X a tA):PT X (.UnaryOp .Not a pos) (E1 tA):=by
 intro pins s σ H Q I h
 exact isTrue_not (ha pins s σ H (fun c H1=>Q (!c) H1) I h)
def yF (ta tb:TE):TE:=fun σ H Q=>ta σ H fun x H1=>∃ c,x=.bl c∧if c=true then tb σ H1 Q else Q (.bl false) H1
def E3 (ta tb:TE):TE:=fun σ H Q=>ta σ H fun x H1=>∃ c,x=.bl c∧if c=true then Q (.bl true) H1 else tb σ H1 Q
def yI (ta:TE):TE:=fun σ H Q=>ta σ H fun x H1=>∃ c,x=.bl c∧Q (.bl (!c)) H1
theorem wF {op} {t:TE} (h:PE X a t):PE X (.BoolOp op [a] pos) t:=fun pins s σ H Q I hw=>BoolOp_one (h pins s σ H Q I hw)
theorem wB (ha:PE X a ta) (hb:PE X (.BoolOp .And (b :: rest) pos) tb):PE X (.BoolOp .And (a :: b :: rest) pos) (yF ta tb):=by
 intro pins s σ H Q I h
 refine BoolOp_and (bM (ha pins s σ H _ I h) fun v s1 ⟨x,H1,I1,r1,q1⟩=>?_)
 obtain ⟨c,rfl,q1⟩:=q1
 cases r1
 refine wpAny_truthy_bool ?_
 cases c with
 | true=>exact hb pins s1 σ H1 Q I1 q1
 | false=>exact ⟨.bl false,H1,I1,rfl,q1⟩
theorem B0 (ha:PE X a ta) (hb:PE X (.BoolOp .Or (b :: rest) pos) tb):PE X (.BoolOp .Or (a :: b :: rest) pos) (E3 ta tb):=by
 intro pins s σ H Q I h
 refine BoolOp_or (bM (ha pins s σ H _ I h) fun v s1 ⟨x,H1,I1,r1,q1⟩=>?_)
 obtain ⟨c,rfl,q1⟩:=q1
 cases r1
 refine wpAny_truthy_bool ?_
 cases c with
 | false=>exact hb pins s1 σ H1 Q I1 q1
 | true=>exact ⟨.bl true,H1,I1,rfl,q1⟩
theorem wD (ha:PE X a ta):PE X (.UnaryOp .Not a pos) (yI ta):=by
 intro pins s σ H Q I h
 refine UnaryOp_ (bM (ha pins s σ H _ I h) fun v s1 ⟨x,H1,I1,r1,q1⟩=>?_)
 obtain ⟨c,rfl,q1⟩:=q1
 cases r1
 exact not_of (wpAny_truthy_bool ⟨.bl (!c),H1,I1,rfl,q1⟩)
def K8 (t:TT) (ta tb:TE):TE:=fun σ H Q=>t σ H fun c H1=>if c=true then ta σ H1 Q else tb σ H1 Q
theorem oM {c:Expr} (hc:PT X c tA) (ha:PE X a ta) (hb:PE X b tb):PE X (.IfExp c a b pos) (K8 tA ta tb):=by
 intro pins s σ H Q I h
 refine wpAny_IfExp (bM (hc pins s σ H _ I h) fun d s1 ⟨H1,I1,q1⟩=>?_)
 cases d with
 | true=>exact ha pins s1 σ H1 Q I1 q1
 | false=>exact hb pins s1 σ H1 Q I1 q1
end
end L2
namespace L2
open PySem PySem.Spec PyProof.Rows
def c8 (K:PySem.W.Frag) (H:Hp) (a:Addr) (xs:List V):Prop :=
 Rd H a (.lst xs) ∨
  ∃ (o:Obj) (its:Array Value) (n:Nat),K.lookup a=some o∧o.cls=.type "list"∧o.dict=none∧o.data=.seq its n∧its.size≤sizeLine∧Vals xs its.toList
def eL (K:PySem.W.Frag) (H:Hp) (a:Addr) (xs:List V):Prop :=
 Rd H a (.tup xs) ∨
  ∃ (o:Obj) (its:Array Value) (n:Nat),K.lookup a=some o∧o.cls=.type "tuple"∧o.data=.seq its n∧its.size≤sizeLine∧Vals xs its.toList
def Lj:Value→Option V
 | .none=>some .non
 | .bool b=>some (.bl b)
 | .int i _=>some (.int i)
 | .str x _=>some (.str x)
 | .bytes b _=>some (.byt b)
 | .float b _=>some (.flt b)
 | .ref a=>some (.ref a)
 | .type n=>some (.ty n)
 | _=>none
theorem RelV.abs {x:V} {u:Value} (r:RelV x u):Lj u=some x:=by
 cases x with
 | non=>cases r;rfl
 | bl _=>cases r;rfl
 | int _=>obtain ⟨t,rfl⟩:=r;rfl
 | str _=>obtain ⟨t,rfl⟩:=r;rfl
 | byt _=>obtain ⟨t,rfl⟩:=r;rfl
 | flt _=>obtain ⟨t,rfl⟩:=r;rfl
 | ref _=>cases r;rfl
 | ty _=>cases r;rfl
theorem RelV.inj {x y:V} {u:Value} (r:RelV x u) (q:RelV y u):x=y:=Option.some.inj (r.abs.symm.trans q.abs)
theorem Vals.inj:∀ {xs ys:List V} {us:List Value},Vals xs us→Vals ys us→xs=ys
 | _,_,_,.nil,.nil=>rfl
 | _,_,_,.cons r t,.cons r' t'=>by rw [r.inj r',Vals.inj t t']
section
variable {X:Cx} {pins:List (Addr × Obj)} {σ:St} {H:Hp} {s:Shared} {a:Addr} {xs ys:List V}
theorem c8.of {K:PySem.W.Frag} (h:H a=some (.lst xs)):c8 K H a xs:=.inl (.inl h)
theorem eL.of {K:PySem.W.Frag} (h:H a=some (.tup xs)):eL K H a xs:=.inl (.inl h)
theorem Inv.list (I:Inv X pins σ H s) (h:c8 X.K H a xs):∃ its:List Value,Vals xs its∧PlainL s.heap a its.toArray∧xs.length≤sizeLine:=by
 rcases h with h | ⟨o,its,n,hk,hc,hd,hs,hz,r⟩
 ·obtain ⟨z,its,n,r,e⟩:=h.ok I.hok
  exact ⟨its,r,⟨_,n,e,rfl,rfl,rfl⟩,z⟩
 ·refine ⟨its.toList,r,⟨o,n,I.kU a o hk,hc,hd,by simpa using hs⟩,?_⟩
  have e:=r.length
  simp only [Array.length_toList] at e
  omega
theorem Inv.tuple (I:Inv X pins σ H s) (h:eL X.K H a xs):∃ its:List Value,Vals xs its∧IsTup s.heap a its.toArray∧xs.length≤sizeLine:=by
 rcases h with h | ⟨o,its,n,hk,hc,hs,hz,r⟩
 ·obtain ⟨z,its,r,p⟩:=h.ok I.hok
  exact ⟨its,r,p,z⟩
 ·refine ⟨its.toList,r,⟨o,I.kU a o hk,hc,n,by simpa using hs⟩,?_⟩
  have e:=r.length
  simp only [Array.length_toList] at e
  omega
theorem Inv.oA (I:Inv X pins σ H s) (h:c8 X.K H a xs) (h':c8 X.K H a ys):xs=ys:=by
 obtain ⟨its,r,⟨o,n,e,_,_,d⟩,_⟩:=I.list h
 obtain ⟨its',r',⟨o',n',e',_,_,d'⟩,_⟩:=I.list h'
 rw [e] at e';cases e'
 rw [d] at d'
 injection d' with d1 _
 have:its=its':=by simpa using congrArg Array.toList d1
 subst this
 exact r.inj r'
theorem Inv.zY (I:Inv X pins σ H s) (h:eL X.K H a xs) (h':eL X.K H a ys):xs=ys:=by
 obtain ⟨its,r,⟨o,e,_,n,d⟩,_⟩:=I.tuple h
 obtain ⟨its',r',⟨o',e',_,n',d'⟩,_⟩:=I.tuple h'
 rw [e] at e';cases e'
 rw [d] at d'
 injection d' with d1 _
 have:its=its':=by simpa using congrArg Array.toList d1
 subst this
 exact r.inj r'
end
abbrev Cx.ph (X:Cx) (E:Value→Shared→Prop):Cx:={ X with xe:=E }
abbrev Cx.G' (X:Cx):Cx:=X.ph fun _ _=>False
theorem Cx.Ok.ph {X:Cx} (ok:X.Ok) (E:Value→Shared→Prop):(X.ph E).Ok :=
 ⟨ok.mod,ok.kind,ok.glob,ok.blt,ok.above,ok.inj,ok.has,ok.cab,ok.hd,ok.frames,ok.stk,ok.exf,ok.bs,ok.bsz,ok.noex,ok.exfs,ok.lU,ok.frf⟩
theorem Cx.Ok.jz {X:Cx} {E:Value→Shared→Prop} (ok:(X.ph E).Ok):X.Ok :=
 ⟨ok.mod,ok.kind,ok.glob,ok.blt,ok.above,ok.inj,ok.has,ok.cab,ok.hd,ok.frames,ok.stk,ok.exf,ok.bs,ok.bsz,ok.noex,ok.exfs,ok.lU,ok.frf⟩
section
variable {X:Cx} {pins:List (Addr × Obj)} {σ:St} {H:Hp} {s:Shared} {E:Value→Shared→Prop}
theorem Inv.ph (I:Inv X pins σ H s) (E:Value→Shared→Prop):Inv (X.ph E) pins σ H s:=⟨I.ok.ph E,I.os,I.bare,I.base,I.loc,I.cell,I.free,I.freeC,I.pin,I.hok,I.len⟩
theorem Inv.jz (I:Inv (X.ph E) pins σ H s):Inv X pins σ H s:=⟨I.ok.jz,I.os,I.bare,I.base,I.loc,I.cell,I.free,I.freeC,I.pin,I.hok,I.len⟩
theorem SP.jz {D:Ends} {f:Flow} {s':Shared} (h:SP (X.ph E) pins D f s'):SP X pins D f s':=by
 cases f with
 | next=>obtain ⟨σ',H',I,q⟩:=h;exact ⟨σ',H',I.jz,q⟩
 | brk=>obtain ⟨σ',H',I,q⟩:=h;exact ⟨σ',H',I.jz,q⟩
 | cont=>obtain ⟨σ',H',I,q⟩:=h;exact ⟨σ',H',I.jz,q⟩
 | ret u=>obtain ⟨v,σ',H',I,r,q⟩:=h;exact ⟨v,σ',H',I.jz,r,q⟩
theorem qg.G' {st:List Stmt} {t:TS} (h:qg X.G' st t):qg X st t:=fun pins s σ H D I hw =>
 wpAny_mono (h pins s σ H D (I.ph _) hw) (fun _ _ q=>q.jz) fun _ _ z=>False.elim z
end
section
variable {X:Cx} {st:Stmt} {rest:List Stmt} {t u:TS} {e:Expr} {te:TE} {pos:Pos}
def yH:TS:=fun D σ H=>D.nx σ H
def E6 (t u:TS):TS:=fun D σ H=>t { D with nx:=u D } σ H
theorem eY:qg X [] yH:=fun _ _ σ H _ I h=>wpAny_execs_nil ⟨σ,H,I,h⟩
theorem aW (h1:PS X st t) (h2:qg X rest u):qg X (st :: rest) (E6 t u):=by
 intro pins s σ H D I h
 refine wpAny_execs_cons (bM (h1 pins s σ H { D with nx:=u D } I h) fun f s1 q=>?_)
 cases f with
 | next =>
  obtain ⟨σ',H',I',q⟩:=q
  exact h2 pins s1 σ' H' D I' q
 | ret v=>exact q
 | brk=>exact q
 | cont=>exact q
theorem bC (h1:PS X st t):qg X [st] t:=by
 intro pins s σ H D I h
 refine wpAny_execs_cons (bM (h1 pins s σ H D I h) fun f s1 q=>?_)
 cases f with
 | next=>exact wpAny_execs_nil q
 | ret v=>exact q
 | brk=>exact q
 | cont=>exact q
def HU:TS:=fun D σ H=>D.bk σ H
def Ks:TS:=fun D σ H=>D.ct σ H
theorem Inv.quiet {pins:List (Addr × Obj)} {σ:St} {H:Hp} {s:Shared} (I:Inv X pins σ H s):interactive X.env=false:=by simp [interactive,I.ok.kind]
def yG (te:TE):TS:=fun D σ H=>te σ H fun _ H1=>D.nx σ H1
theorem jM (he:PE X e te) (hs:swapsWith e none pos.line X.env=pure false:=by rfl):PS X (.Expr e pos) (yG te):=by
 intro pins s σ H D I h
 exact wpAny_Expr_any (bM (he pins s σ H _ I h) fun v s1 ⟨x,H1,I1,r1,q1⟩=>⟨σ,H1,I1,q1⟩) I.quiet hs
def E5 (te:TE):TS:=fun D σ H=>te σ H D.rt
theorem c9 (he:PE X e te):PS X (.Return (some e) pos) (E5 te):=by
 intro pins s σ H D I h
 exact wpAny_Return_some (bM (he pins s σ H _ I h) fun v s1 ⟨x,H1,I1,r1,q1⟩=>⟨x,σ,H1,I1,r1,q1⟩)
def yK:TS:=fun D _ H=>D.rt .non H
theorem sE:PS X (.Return none pos) yK:=fun _ _ σ H _ I h=>wpAny_Return_none ⟨.non,σ,H,I,rfl,h⟩
def EY (c:TT) (t u:TS):TS:=fun D σ H=>c σ H fun b H1=>if b=true then t D σ H1 else u D σ H1
theorem k7 {c:Expr} {a b:List Stmt} {tc:TT} (hc:PT X c tc) (ha:qg X a t) (hb:qg X b u):PS X (.If c a b pos) (EY tc t u):=by
 intro pins s σ H D I h
 refine wpAny_If (bM (hc pins s σ H _ I h) fun d s1 ⟨H1,I1,q1⟩=>?_)
 cases d with
 | true=>exact ha pins s1 σ H1 D I1 q1
 | false=>exact hb pins s1 σ H1 D I1 q1
def xb:TS:=fun _ _ _=>False
theorem l8 {sts:List Stmt}:qg X sts xb:=fun _ _ _ _ _ _ h=>h.elim
end
abbrev TG:=V→St→Hp→(St→Hp→Prop)→Prop
abbrev m3:=List V→St→Hp→(St→Hp→Prop)→Prop
def PG (X:Cx) (target:Expr) (t:TG):Prop :=
 ∀ (pins:List (Addr × Obj)) (s:Shared) (σ:St) (H:Hp) (v:V) (u:Value) (Q:St→Hp→Prop),Inv X pins σ H s→RelV v u→t v σ H Q →
  wpAny (model X.prog X.w) X.A (assign target X.env u) (fun _ s'=>∃ σ' H',Inv X pins σ' H' s'∧Q σ' H') X.xe s
def Fh (X:Cx) (ts:List Expr) (t:m3):Prop :=
 ∀ (pins:List (Addr × Obj)) (s:Shared) (σ:St) (H:Hp) (vs:List V) (us:List Value) (Q:St→Hp→Prop),Inv X pins σ H s→Vals vs us→t vs σ H Q →
  wpAny (model X.prog X.w) X.A (assignInOrder ((assignEach ts X.env).map (·.2)) us) (fun _ s'=>∃ σ' H',Inv X pins σ' H' s'∧Q σ' H') X.xe s
abbrev iM:=V→V→V→Hp→(Hp→Prop)→Prop
def iK (X:Cx) (t:iM):Prop :=
 ∀ (pins:List (Addr × Obj)) (s:Shared) (σ:St) (H:Hp) (o i v:V) (ov iv u:Value) (Q:Hp→Prop),Inv X pins σ H s→RelV o ov→RelV i iv→RelV v u→t o i v H Q →
  wpAny (model X.prog X.w) X.A (setItem ov iv u) (fun _ s'=>∃ H',Inv X pins σ H' s'∧Q H') X.xe s
abbrev KY:=V→V→Hp→VK→Prop
def Lg (X:Cx) (op:Operator) (t:KY):Prop :=
 ∀ (pins:List (Addr × Obj)) (s:Shared) (σ:St) (H:Hp) (x y:V) (v u:Value) (Q:VK),Inv X pins σ H s→RelV x v→RelV y u→t x y H Q →
  wpAny (model X.prog X.w) X.A (inplaceOp op v u) (EP X pins σ Q) X.xe s
section
variable {X:Cx} {pos:Pos}
def oa (i:Nat):TG:=fun v σ H Q=>Q (σ.set i (some v)) H
theorem jK {i:Nat} {x:Str} (hN:X.N.Nodup) (hi:X.N[i]?=some x) (hx:Loc X.env.scope x) (hf:X.fn x=true∨X.env.scope.names.lookup x=some .local:=by first | exact .inl rfl | exact .inr rfl | assumption):PG X (.Name x pos) (oa i):=by
 intro pins s σ H v u Q I r h
 exact wpAny_assign_Name (eG I hN hi hx r (fun s' I'=>⟨_,H,I',h⟩) hf)
def Dy:m3:=fun vs σ H Q=>vs=[]∧Q σ H
def xG (t:TG) (u:m3):m3:=fun vs σ H Q=>∃ v r,vs=v :: r∧t v σ H fun σ' H'=>u r σ' H' Q
theorem sy:Fh X [] Dy:=by
 intro pins s σ H vs us Q I r h
 obtain ⟨e,h⟩:=h
 subst e
 cases r
 exact assignInOrder_nil ⟨σ,H,I,h⟩
theorem oO {e:Expr} {es:List Expr} {t:TG} {u:m3} (h1:PG X e t) (h2:Fh X es u)
  (hs:(assignEach (e :: es) X.env).map (·.2)=assign e X.env :: (assignEach es X.env).map (·.2):=by rfl):Fh X (e :: es) (xG t u):=by
 intro pins s σ H vs us Q I r h
 obtain ⟨v,vr,e1,h⟩:=h
 subst e1
 cases r with
 | cons r rr =>
  rw [hs]
  refine assignInOrder_cons (bM (h1 pins s σ H _ _ _ I r h) fun _ s1 ⟨σ1,H1,I1,q1⟩=>?_)
  exact h2 pins s1 σ1 H1 _ _ Q I1 rr q1
def DA (K:PySem.W.Frag) (n:Nat) (t:m3):TG:=fun v σ H Q=>∃ a xs,v=.ref a∧eL K H a xs∧xs.length=n∧t xs σ H Q
theorem wH {es:List Expr} {k:Nat} {t:m3} {n:Nat} (hc:X.calm=true) (h:Fh X es t)
  (hn:(assignEach es X.env).length=n:=by rfl) (hst:(assignEach es X.env).findIdx? (·.1)=none:=by rfl):PG X (.Tuple es k pos) (DA X.K n t):=by
 intro pins s σ H v u Q I r hw
 obtain ⟨a,xs,e1,hq,hl,hw⟩:=hw
 subst e1
 cases r
 obtain ⟨its,rv,ht,hz⟩:=I.tuple hq
 refine assign_Tuple_tuple (I.ok.hd hc) ht (by simp [hn,← hl,rv.length]) hst fun h' hx=>?_
 have I1:Inv X pins σ H { s with heap:=h' }:=I.kept (t':=s.toks) fun b o e=>hx b o (Nat.ne_of_lt (Heap.lt_size e)) e
 exact h pins _ σ H xs _ Q I1 (by simpa using rv) hw
def Dz (to ti:TE) (t:iM):TG:=fun v σ H Q=>to σ H fun o H1=>ti σ H1 fun i H2=>t o i v H2 fun H3=>Q σ H3
theorem sx {o i:Expr} {to ti:TE} {t:iM} (ho:PE X o to) (hi:PE X i ti) (hs:iK X t)
  (ha:∀ v,assign (.Subscript o i pos) X.env v=(do
   let ov ← holding [v] (eval o X.env)
   let iv ← holding [v,ov] (eval i X.env)
   standAt pos
   holding [v,ov,iv] (setItem ov iv v)
   release [v,ov,iv] []):=by intro _;rfl):PG X (.Subscript o i pos) (Dz to ti t):=by
 intro pins s σ H v u Q I r h
 rw [ha]
 refine wpAny_bind (wpAny_holding (bM (ho pins s σ H _ I h) fun ov s1 ⟨x,H1,I1,r1,q1⟩=>?_))
 refine wpAny_bind (wpAny_holding (bM (hi pins s1 σ H1 _ I1 q1) fun iv s2 ⟨y,H2,I2,r2,q2⟩=>?_))
 refine wpAny_bind (wpAny_standAt (wpAny_bind (wpAny_holding (bM (hs pins s2 σ H2 x y v ov iv u _ I2 r1 r2 r q2) fun _ s3 ⟨H3,I3,q3⟩=>?_))))
 exact wpAny_release ⟨σ,H3,I3,q3⟩
def xa (te:TE) (g:TG):TS:=fun D σ H=>te σ H fun x H1=>g x σ H1 D.nx
theorem sD {tg e:Expr} {te:TE} {g:TG} (he:PE X e te) (hg:PG X tg g) (hs:swapsWithSole [tg] e pos.line X.env=pure false:=by rfl) (hw:swappedStores [tg] e X.env=pure none:=by rfl)
  (h1:(assignEach [tg] X.env).map (·.2)=[assign tg X.env]:=by rfl):PS X (.Assign [tg] e pos) (xa te g):=by
 intro pins s σ H D I h
 refine wpAny_Assign_stores (bM (he pins s σ H _ I h) fun v s1 ⟨x,H1,I1,r1,q1⟩=>?_) hs hw
 rw [h1]
 exact bM (hg pins s1 σ H1 x v _ I1 r1 q1) fun _ s2 q=>q
theorem cy {i:Nat} {x:Str} {e:Expr} {te:TE} {pos':Pos} (hN:X.N.Nodup) (hi:X.N[i]?=some x) (hx:Loc X.env.scope x) (he:PE X e te) (hs:swapsWith e (some (.Name x pos')) pos.line X.env=pure false:=by rfl) (hf:X.fn x=true∨X.env.scope.names.lookup x=some .local:=by first | exact .inl rfl | exact .inr rfl | assumption) :
  PS X (.Assign [.Name x pos'] e pos) (xa te (oa i)):=by
 intro pins s σ H D I h
 refine wpAny_Assign_Name (bM (he pins s σ H _ I h) fun v s1 ⟨y,H1,I1,r1,q1⟩=>?_) hs
 exact eG I1 hN hi hx r1 (fun s2 I2=>⟨_,H1,I2,q1⟩) hf
def E4 (i j:Nat) (ta:TA):TS:=fun D σ H=>ta σ H fun vs H1=>∃ v w,vs=[v,w]∧D.nx ((σ.set i (some v)).set j (some w)) H1
theorem l7 {i j:Nat} {x y:Str} {a b:Expr} {ta:TA} {px py pt:Pos} {kt k2 pt2} (hc:X.calm=true) (hN:X.N.Nodup) (hi:X.N[i]?=some x) (hj:X.N[j]?=some y) (hij:i≠j)
  (hx:X.env.scope.names.lookup x=some .local) (hy:X.env.scope.names.lookup y=some .local) (ha:PA X [a,b] ta)
  (hw:swappedStores [.Tuple [.Name x px,.Name y py] kt pt] (.Tuple [a,b] k2 pt2) X.env=pure (some [x,y]))
  (hs:swapsWithSole [.Tuple [.Name x px,.Name y py] kt pt] (.Tuple [a,b] k2 pt2) pos.line X.env=pure false:=by rfl) :
  PS X (.Assign [.Tuple [.Name x px,.Name y py] kt pt] (.Tuple [a,b] k2 pt2) pos) (E4 i j ta):=by
 intro pins s σ H D I h
 rw [exec_Assign_arm]
 refine wpAny_bind (wpAny_standAt ?_)
 rw [hs]
 refine wpAny_bind (wpAny_pure ?_)
 rw [if_neg (by decide)]
 refine wpAny_bind (Tuple_ (bM (ha _ pins s σ H _ I h) fun us s1 ⟨vs,H1,I1,r1,q1⟩=>?_))
 obtain ⟨v,w,e1,q1⟩:=q1
 subst e1
 obtain ⟨u1,u2,rfl,rv,rw'⟩:∃ u1 u2,us=[u1,u2]∧RelV v u1∧RelV w u2:=by
  cases r1 with
  | cons p q =>
   cases q with
   | cons p' q' =>
    cases q'
    exact ⟨_,_,rfl,p,p'⟩
 refine wpAny_newObj_type ?_ (by show 2≤sizeLine;decide)
 have I2:Inv X pins σ H1 { s1 with heap:=s1.heap.push { cls:=.type "tuple",data:=.seq [u1,u2].toArray } }:=I1.kept (t':=s1.toks) fun b o e=>Heap.get?_push_of_some _ e
 rw [hw]
 refine wpAny_bind (wpAny_pure ?_)
 show wpAny (model X.prog X.w) X.A (do rule "assign.swapped-stores";let items ← unpackItems (.ref s1.heap.objs.size) 2 none;assignInOrder [fun v=>bindName X.env y v,fun v=>bindName X.env x v] items.reverse;pure Flow.next) _ _ _
 refine wpAny_bind (wpAny_rule (wpAny_bind (unpackItems_tuple (items:=#[u1,u2]) (I.ok.hd hc) (IsTup.new s1.heap _) fun h' hx'=>?_)))
 have I3:=I2.kept (h':=h') (t':=s1.toks) fun b o e=>hx' b o (Nat.ne_of_lt (Heap.lt_size e)) e
 show wpAny _ _ (assignInOrder [fun v=>bindName X.env y v,fun v=>bindName X.env x v] [u2,u1] >>= fun _=>pure Flow.next) _ _ _
 refine wpAny_bind (assignInOrder_cons (wpAny_bindName (eG I3 hN hj (.inl hy) rw' (fun s2 I4=>?_) (.inr hy))))
 refine assignInOrder_cons (wpAny_bindName (eG I4 hN hi (.inl hx) rv (fun s3 I5=>assignInOrder_nil (wpAny_pure ?_)) (.inr hx)))
 rw [List.set_comm _ _ (Ne.symm hij)] at I5
 exact ⟨_,H1,I5,q1⟩
def Mt (i:Nat) (te:TE) (ti:KY):TS:=fun D σ H=>∃ x,σ[i]?=some (some x)∧te σ H fun y H1=>ti x y H1 fun z H2=>D.nx (σ.set i (some z)) H2
theorem Hs {i:Nat} {x:Str} {e:Expr} {te:TE} {op:Operator} {ti:KY} {pos':Pos} (hN:X.N.Nodup) (hi:X.N[i]?=some x) (hx:Loc X.env.scope x) (he:PE X e te) (ho:Lg X op ti) (hf:X.fn x=true∨X.env.scope.names.lookup x=some .local:=by first | exact .inl rfl | exact .inr rfl | assumption) :
  PS X (.AugAssign (.Name x pos') op e pos) (Mt i te ti):=by
 intro pins s σ H D I h
 obtain ⟨v,e1,h⟩:=h
 obtain ⟨m,hn,hl⟩:=I.loc
 have vis:tP X.env.scope x:=by rcases hx with k | k;exact .inl k;exact .inr (.inl k)
 obtain ⟨u,r,l⟩:=hl i x v hi e1 vis
 refine wpAny_AugAssign_Name ?_
 have go:wpAny (model X.prog X.w) X.A (eval e X.env) (fun w s₂=>wpAny (model X.prog X.w) X.A (inplaceOp op u w) (fun r s₃=>wpAny (model X.prog X.w) X.A (storeName X.env x r) (fun _=>SP X pins D .next) X.xe s₃) X.xe s₂) X.xe s:=by
  refine bM (he pins s σ H _ I h) fun w s1 ⟨y,H1,I1,r1,q1⟩=>?_
  refine bM (ho pins s1 σ H1 v y u w _ I1 r r1 q1) fun z s2 ⟨zv,H2,I2,r2,q2⟩=>?_
  exact eG I2 hN hi hx r2 (fun s3 I3=>⟨_,H2,I3,q2⟩) hf
 rcases l with ⟨hk,hm⟩ | ⟨hk,c,hc,hcell⟩
 ·exact wpAny_loadName_local I.ok.kind hk hn hm go
 ·rcases hk with hk | hk
  ·exact wpAny_loadName_cell I.ok.kind hk hc hcell go
  ·rcases hx with k | k
   ·have:X.env.scope.names.lookup x=some .free:=hk
    rw [k] at this;cases this
   ·have:X.env.scope.names.lookup x=some .free:=hk
    rw [k] at this;cases this
def Np (f:Int→Int→Int):KY:=fun x y H Q=>∃ i j,x=.int i∧y=.int j∧Q (.int (f i j)) H
theorem GO:Lg X .Sub (Np fun i j=>i - j):=by
 intro pins s σ H x y v u Q I r1 r2 h
 obtain ⟨i,j,e1,e2,q⟩:=h
 subst e1;subst e2
 obtain ⟨t,rfl⟩:=r1
 obtain ⟨t',rfl⟩:=r2
 exact isub_int ⟨.int _,H,I.tok _,⟨_,rfl⟩,q⟩
end
section
variable {X:Cx} {pos:Pos}
def tK (c:TT) (tb:TS):TS:=fun D σ H=>∃ W:Nat→St→Hp→Prop,(∃ m,W m σ H)∧∀ m σ H,W m σ H →
 c σ H fun b H1=>if b=true then ∃ N:St→Hp→Prop,(∀ σ' H',N σ' H'→∃ m',m' < m∧W m' σ' H')∧tb { D with nx:=N,ct:=N,bk:=D.nx } σ H1 else D.nx σ H1
theorem jq {c:Expr} {body:List Stmt} {tc:TT} {tb:TS} (hp:PassesOwn (model X.prog X.w) X.A X.env X.xe) (hc:PT X c tc) (hb:qg X body tb):PS X (.While c body [] pos) (tK tc tb):=by
 intro pins s σ H D I h
 obtain ⟨W,⟨m0,w0⟩,turn⟩:=h
 refine wpAny_While (codeAny_whileLoop (fun n s'=>∃ σ' H',Inv X pins σ' H' s'∧W n σ' H') ?_ m0 ⟨σ,H,I,w0⟩)
 rintro n s1 ⟨σ1,H1,I1,w1⟩
 refine wpAny_passesOwn hp (bM (hc pins s1 σ1 H1 _ I1 (turn n σ1 H1 w1)) fun b s2 ⟨H2,I2,q2⟩=>?_)
 cases b with
 | true =>
  obtain ⟨N,hN,q2⟩:=q2
  rw [if_pos rfl]
  refine wpAny_passesOwn hp (bM (hb pins s2 σ1 H2 _ I2 q2) fun f s3 q3=>?_)
  cases f with
  | next =>
   obtain ⟨σ3,H3,I3,n3⟩:=q3
   obtain ⟨m',hm,w3⟩:=hN σ3 H3 n3
   exact ⟨m',hm,σ3,H3,I3,w3⟩
  | cont =>
   obtain ⟨σ3,H3,I3,n3⟩:=q3
   obtain ⟨m',hm,w3⟩:=hN σ3 H3 n3
   exact ⟨m',hm,σ3,H3,I3,w3⟩
  | brk=>exact q3
  | ret v=>exact q3
 | false =>
  rw [if_neg Bool.false_ne_true]
  exact wpAny_execs_nil ⟨σ1,H2,I2,q2⟩
end
structure It where
 go:Nat→Hp→Prop
 yld:Nat→Hp→V→Hp→Prop
 stop:Nat→Hp→Prop
def iJ (X:Cx) (pins:List (Addr × Obj)) (H:Hp) (b:Addr):Prop :=
 H b=none∧b≠X.env.locals∧b ∉ X.fs∧(b∈X.ex∨X.s₀.heap.objs.size≤b)∧(∀ x c,X.env.cells.lookup x=some c→c≠b)∧∀ p∈X.pn ++ pins,p.1≠b
theorem Inv.Dx {X:Cx} {pins:List (Addr × Obj)} {σ:St} {H H':Hp} {s:Shared} {b:Addr} (I:Inv X pins σ H s) (hb:s.heap.objs.size≤b) (hn:H' b=none):iJ X pins H' b:=by
 refine ⟨hn,Nat.ne_of_gt (Nat.lt_of_lt_of_le I.lt hb),I.L7 hb,.inr (Nat.le_trans I.sz hb),fun x c e z=>?_,fun p hp z=>?_⟩
 ·obtain ⟨v,q⟩:=I.cell x c e
  exact absurd (Nat.lt_of_lt_of_le q.lt (by rw [z];exact hb)) (Nat.lt_irrefl _)
 ·exact absurd (Nat.lt_of_lt_of_le (Heap.lt_size (I.pin p hp).1) (by rw [z];exact hb)) (Nat.lt_irrefl _)
structure Turn (P:Program) (w:World) (K:PySem.W.Frag) (tg:Expr) (J:It) (fp:List Addr) (it:Addr) (tn:Nat→Heap→Prop):Prop where
 mem:it∈fp
 obj:∀ i h,tn i h→∀ b∈fp,∃ o,h.get? b=some o∧∀ v,o.data≠.cell v
 keep:∀ i h h',tn i h→(∀ b∈fp,∀ o,h.get? b=some o→h'.get? b=some o)→tn i h'
 item:∀ (X:Cx),X.prog=P→X.w=w→X.K=K→X.calm=true→∀ (i:Nat) (pins:List (Addr × Obj)) (s:Shared) (σ:St) (H:Hp) (E:Value→Shared→Prop),Inv X pins σ H s→(∀ b∈fp,iJ X pins H b)→tn i s.heap→J.go i H →
  wpAny (model P w) X.A (pyNext (.ref it)) (fun r s1=>∃ u,r=some u ∧
   wpAny (model P w) X.A (letOwnedTupleGo tg (.ref it) u) (fun _ s2=>∃ x H',Inv X pins σ H' s2∧RelV x u∧J.yld i H x H'∧tn (i + 1) s2.heap∧∀ b∈fp,H' b=none) E s1) E s
 done:∀ (X:Cx),X.prog=P→X.w=w→X.K=K→X.calm=true→∀ (i:Nat) (pins:List (Addr × Obj)) (s:Shared) (σ:St) (H:Hp) (E:Value→Shared→Prop),Inv X pins σ H s→(∀ b∈fp,iJ X pins H b)→tn i s.heap→J.stop i H →
  wpAny (model P w) X.A (pyNext (.ref it)) (fun r s1=>r=none∧Inv X pins σ H s1) E s
 self:∀ (A:Around) (i:Nat) (s:Shared) (Q:Value→Shared→Prop) (E:Value→Shared→Prop),tn i s.heap→Q (.ref it) s→wpAny (model P w) A (pyIter (.ref it)) Q E s
abbrev TI:=St→Hp→(It→Hp→Prop)→Prop
def ML (X:Cx) (pins:List (Addr × Obj)) (σ:St) (tg:Expr) (R:It→Hp→Prop) (itv:Value) (s2:Shared):Prop :=
 ∃ (it:Addr) (fp:List Addr) (tn:Nat→Heap→Prop) (J:It) (H':Hp),itv=.ref it∧Inv X pins σ H' s2∧Turn X.prog X.w X.K tg J fp it tn∧tn 0 s2.heap∧(∀ b∈fp,iJ X pins H' b)∧R J H'
def PI (X:Cx) (tg iter:Expr) (wi:TI):Prop :=
 ∀ (pins:List (Addr × Obj)) (s:Shared) (σ:St) (H:Hp) (R:It→Hp→Prop),Inv X pins σ H s→wi σ H R →
  wpAny (model X.prog X.w) X.A (eval iter X.env) (fun v s1=>wpAny (model X.prog X.w) X.A (pyIter v) (ML X pins σ tg R) X.xe s1) X.xe s
theorem A5 {M:Model} {A:Around} {E:Value→Shared→Prop} {s:Shared} {tg:Expr} {it:Addr} {u:Value} {o:Obj} {n:String} {vs:Array Value} {Q:Unit→Shared→Prop} (ho:s.heap.get? it=some o) (hc:o.cls=.type n) (hd:o.data=.fields vs)
  (hn:["enumerate","zip","dict_itemiterator","dict_reverseitemiterator","odict_iterator","itertools.zip_longest","itertools.pairwise"].contains n=false) (hQ:Q () s):wpAny M A (letOwnedTupleGo tg (.ref it) u) Q E s:=by
 unfold letOwnedTupleGo
 cases tg <;> first
  | exact wpAny_pure hQ
  | (cases u <;> first
    | exact wpAny_pure hQ
    | (refine wpAny_bind (wpAny_load ho ?_)
       rw [hc,hd]
       show wpAny M A (if (["enumerate","zip","dict_itemiterator","dict_reverseitemiterator","odict_iterator","itertools.zip_longest","itertools.pairwise"].contains n && vs[0]? == some (rawInt _))=true then _ else _) Q E s
       rw [if_neg (by intro h;rw [hn,Bool.false_and] at h;cases h)]
       exact wpAny_pure hQ))
def Dg (K:PySem.W.Frag) (a:Addr):It :=
 ⟨fun i H=>∃ xs x,c8 K H a xs∧xs[i]?=some x,fun i H x H'=>H'=H∧∀ xs,c8 K H a xs→xs[i]?=some x,fun i H=>∃ xs,c8 K H a xs∧xs.length≤i⟩
def Nb (K:PySem.W.Frag) (a:Addr):It :=
 ⟨fun i H=>∃ xs x,eL K H a xs∧xs[i]?=some x,fun i H x H'=>H'=H∧∀ xs,eL K H a xs→xs[i]?=some x,fun i H=>∃ xs,eL K H a xs∧xs.length≤i⟩
def Ao (lo:Int) (n:Nat):It:=⟨fun i _=>i < n,fun i H x H'=>H'=H∧x=.int (lo + i),fun i _=>n≤i⟩
theorem Aa {P:Program} {w:World} {K:PySem.W.Frag} {tg:Expr} (a it:Addr):Turn P w K tg (Dg K a) [it] it (fun i h=>h.IsListIter it a i) where
 mem:=by simp
 obj:=fun i h st b hb=>by
  have e:b=it:=by simpa using hb
  subst e
  obtain ⟨o,e,c,d⟩:=st
  exact ⟨o,e,fun v z=>by rw [d] at z;cases z⟩
 keep:=fun i h h' st k=>st.at fun o e=>k it (by simp) o e
 item:=by
  intro X hP hw hK hc i pins s σ H E I hf st hg
  subst hP hw hK
  obtain ⟨xs,x,hq,hx⟩:=hg
  obtain ⟨its,rv,p,hz⟩:=I.list hq
  obtain ⟨u,hu,ru⟩:=rv.get hx
  obtain ⟨f0,f1,f2,f3,f4,f5⟩:=hf it (by simp)
  refine wpAny_pyNext_list_item st p.isList (x:=u) (by simpa using hu) fun h' st' sb=>?_
  have I1:Inv X pins σ H { s with heap:=h' }:=I.turned (t':=s.toks) (fun b o hb e=>(sb.2 b hb).trans e) f0 f1 f3 f4 f5
  obtain ⟨o,e,c,d⟩:=id st'
  exact ⟨u,rfl,A5 (s:={ s with heap:=h' }) e c d (by decide) ⟨x,H,I1,ru,⟨rfl,fun ys hy=>by rw [I.oA hy hq];exact hx⟩,st',fun b hb=>(hf b hb).1⟩⟩
 done:=by
  intro X hP hw hK hc i pins s σ H E I hf st hg
  subst hP hw hK
  obtain ⟨xs,hq,hx⟩:=hg
  obtain ⟨its,rv,p,hz⟩:=I.list hq
  obtain ⟨f0,f1,f2,f3,f4,f5⟩:=hf it (by simp)
  have hl:=rv.length
  exact wpAny_pyNext_list_end (I.ok.hd hc) st p.isList (by simp;omega) fun h' eb=>⟨rfl,I.turned (t':=s.toks) (fun b o hb e=>eb b o hb e) f0 f1 f3 f4 f5⟩
 self:=fun _ _ _ _ _ st h=>wpAny_pyIter_listiter st h
theorem xg {P:Program} {w:World} {K:PySem.W.Frag} {tg:Expr} (it:Addr) (lo:Int) (n:Nat):Turn P w K tg (Ao lo n) [it] it (fun i h=>IsRangeIter h it (lo + (i:Nat) * 1) ((n:Int) - (i:Nat)) 1) where
 mem:=by simp
 obj:=fun i h st b hb=>by
  have e:b=it:=by simpa using hb
  subst e
  exact ⟨_,st,fun v z=>by
   have z':Data.fields _=Data.cell v:=z
   cases z'⟩
 keep:=fun i h h' st k=>k it (by simp) _ st
 item:=by
  intro X hP hw hK hc i pins s σ H E I hf st hg
  subst hP hw hK
  obtain ⟨f0,f1,f2,f3,f4,f5⟩:=hf it (by simp)
  have W:=Walks.range (prog:=X.prog) (w:=X.w) (I.ok.hd hc) it lo 1 n
  refine W.item i s _ _ hg st fun v h' tk hv st' kk=>?_
  obtain ⟨t,rfl⟩:=hv
  have I1:Inv X pins σ H { s with heap:=h',toks:=tk }:=I.turned (fun b o hb e=>kk b o (by simpa using hb) e) f0 f1 f3 f4 f5
  refine ⟨_,rfl,A5 (s:={ s with heap:=h',toks:=tk }) (n:="range_iterator") st' rfl rfl (by decide) ⟨.int (lo + i),H,I1,⟨t,?_⟩,⟨rfl,rfl⟩,st',fun b hb=>(hf b hb).1⟩⟩
  rw [Int.mul_one]
 done:=by
  intro X hP hw hK hc i pins s σ H E I hf st hg
  subst hP hw hK
  obtain ⟨f0,f1,f2,f3,f4,f5⟩:=hf it (by simp)
  exact wpAny_pyNext_range_end (I.ok.hd hc) st (by have:n≤i:=hg;omega) fun h' eb=>⟨rfl,I.turned (t':=s.toks) (fun b o hb e=>eb b o hb e) f0 f1 f3 f4 f5⟩
 self:=fun _ _ _ _ _ st h=>wpAny_pyIter_rangeiter st h
end L2
namespace L2
open PySem PySem.Spec PyProof.Rows
section
variable {X:Cx} {tg:Expr}
def xM (K:PySem.W.Frag) (tl:TE):TI:=fun σ H R=>tl σ H fun x H1=>∃ a,x=.ref a∧(∃ xs,c8 K H1 a xs)∧R (Dg K a) H1
def Lv (K:PySem.W.Frag) (tl:TE):TI:=fun σ H R=>tl σ H fun x H1=>∃ a,x=.ref a∧(∃ xs,eL K H1 a xs)∧R (Nb K a) H1
theorem k4 {l:Expr} {tl:TE} (hl:PE X l tl):PI X tg l (xM X.K tl):=by
 intro pins s σ H R I h
 refine bM (hl pins s σ H _ I h) fun v s1 ⟨x,H1,I1,r1,q1⟩=>?_
 obtain ⟨a,e,⟨xs,hq⟩,q⟩:=q1
 subst e
 cases r1
 obtain ⟨its,rv,p,hz⟩:=I1.list hq
 refine wpAny_pyIter_list p.isList ?_
 refine ⟨s1.heap.objs.size,[s1.heap.objs.size],_,_,H1,rfl,I1.kept (t':=s1.toks) fun b o e=>Heap.get?_push_of_some _ e,Aa a _,⟨_,Heap.get?_push_size _ rfl,rfl,rfl⟩,fun b hb=>?_,q⟩
 have e:b=s1.heap.objs.size:=by simpa using hb
 subst e
 exact I1.Dx (Nat.le_refl _) (I1.hok.fresh (Nat.le_refl _))
theorem Ci {pins:List (Addr × Obj)} {σ:St} {H:Hp} {s:Shared} {R:It→Hp→Prop} {E:Value→Shared→Prop} {lo hi:Int} {t u v:Tok} {tk:Nat} (I:Inv X pins σ H s) (h1:-(2 ^ 62)≤lo) (h2:lo < 2 ^ 62) (h3:-(2 ^ 62)≤hi) (h4:hi < 2 ^ 62)
  (q:R (Ao lo (hi - lo).toNat) H):wpAny (model X.prog X.w) X.A (pyIter (.ref s.heap.objs.size)) (ML X pins σ tg R) E { s with heap:=s.heap.push { cls:=.type "range",data:=.fields #[.int lo t,.int hi u,.int 1 v] },toks:=tk }:=by
 refine wpAny_pyIter_range (IsRange.new ..) (small_one h1 h2 h3 h4) ?_
 have I1:Inv X pins σ H { s with heap:=s.heap.push { cls:=.type "range",data:=.fields #[.int lo t,.int hi u,.int 1 v] },toks:=tk }:=I.kept fun b o e=>Heap.get?_push_of_some _ e
 refine ⟨(s.heap.push { cls:=.type "range",data:=.fields #[.int lo t,.int hi u,.int 1 v] }).objs.size,[(s.heap.push { cls:=.type "range",data:=.fields #[.int lo t,.int hi u,.int 1 v] }).objs.size],_,_,H,rfl,
  I1.kept (t':=tk) fun b o e=>Heap.get?_push_of_some _ e,xg _ lo (hi - lo).toNat,?_,fun b hb=>?_,q⟩
 ·have e1:lo + ((0:Nat):Int) * 1=lo:=by simp
  have e2:(((hi - lo).toNat:Nat):Int) - ((0:Nat):Int)=Builtin.Range.rangeSize lo hi 1:=by rw [rangeSize_one];split <;> omega
  show IsRangeIter _ _ (lo + ((0:Nat):Int) * 1) ((((hi - lo).toNat:Nat):Int) - ((0:Nat):Int)) 1
  rw [e1,e2]
  exact Heap.get?_push_size _ rfl
 ·have e:b=(s.heap.push { cls:=.type "range",data:=.fields #[.int lo t,.int hi u,.int 1 v] }).objs.size:=by simpa using hb
  subst e
  exact I1.Dx (Nat.le_refl _) (I1.hok.fresh (Nat.le_refl _))
def xN (ta:TA):TI:=fun σ H R=>ta σ H fun vs H1=>∃ j:Int,vs=[.int j]∧-(2 ^ 62)≤j∧j < 2 ^ 62∧R (Ao 0 j.toNat) H1
def Fn (ta:TA):TI:=fun σ H R=>ta σ H fun vs H1=>∃ i j:Int,vs=[.int i,.int j]∧(-(2 ^ 62)≤i∧i < 2 ^ 62∧-(2 ^ 62)≤j∧j < 2 ^ 62)∧R (Ao i (j - i).toNat) H1
theorem fj {a:Expr} {ta:TA} {p pos:Pos} (hg:Gl X "range") (hm:X.mg "range"=none) (ha:PA X [a] ta) (hs:starEach [a] X.env=[(false,eval a X.env)]:=by rfl):PI X tg (.Call (.Name "range" p) [a] [] pos) (xN ta):=by
 intro pins s σ H R I h
 refine Call_ (lW I hg hm boot_range (PyProof.Rows.callWith_type1 (bM (ha pos pins s σ H _ I h) fun us s1 ⟨vs,H1,I1,r1,q1⟩=>?_) hs rfl))
 obtain ⟨j,e,q1,q2,q⟩:=q1
 subst e
 cases r1 with
 | cons r rr =>
  cases rr
  obtain ⟨t,rfl⟩:=r
  exact call_range_1 (Ci I1 (by omega) (by omega) q1 q2 (by simpa using q))
def HV (wi:TI) (g:TG) (tb:TS):TS:=fun D σ H=>wi σ H fun J H1=>∃ W:Nat→Nat→St→Hp→Prop,(∃ m,W 0 m σ H1)∧∀ i m σ H,W i m σ H →
 (J.stop i H∧D.nx σ H)∨(J.go i H∧∃ N:St→Hp→Prop,(∀ σ' H',N σ' H'→∃ m',m' < m∧W (i + 1) m' σ' H')∧∀ x H',J.yld i H x H'→g x σ H' fun σ2 H2=>tb { D with nx:=N,ct:=N,bk:=D.nx } σ2 H2)
def sC (fp:List Addr) (h:Heap):List (Addr × Obj):=fp.filterMap fun b=>(h.get? b).map fun o=>(b,o)
theorem bL {fp:List Addr} {h:Heap} {b:Addr} {o:Obj} (hb:b∈fp) (e:h.get? b=some o):(b,o)∈sC fp h:=List.mem_filterMap.mpr ⟨b,hb,by rw [e];rfl⟩
theorem zD {fp:List Addr} {h:Heap} {p:Addr × Obj} (hp:p∈sC fp h):p.1∈fp∧h.get? p.1=some p.2:=by
 obtain ⟨b,hb,e⟩:=List.mem_filterMap.mp hp
 cases q:h.get? b with
 | none=>rw [q] at e;cases e
 | some o =>
  rw [q] at e
  have e':(b,o)=p:=Option.some.inj e
  subst e'
  exact ⟨hb,q⟩
theorem Inv.pinned {pins:List (Addr × Obj)} {σ:St} {H:Hp} {s:Shared} {fp:List Addr} (I:Inv X pins σ H s) (hf:∀ b∈fp,iJ X pins H b) (ho:∀ b∈fp,∃ o,s.heap.get? b=some o∧∀ v,o.data≠.cell v):Inv X (pins ++ sC fp s.heap) σ H s :=
 I.x5 fun p hp=>(List.mem_append.mp hp).elim (fun z=>I.pin p (List.mem_append_right _ z)) fun z=>by
  obtain ⟨hb,e⟩:=zD z
  obtain ⟨f0,f1,f2,_⟩:=hf p.1 hb
  obtain ⟨o,e',d⟩:=ho p.1 hb
  rw [e] at e';cases e'
  exact ⟨e,f0,f1,f2,d⟩
theorem Inv.eI {pins pl:List (Addr × Obj)} {σ:St} {H:Hp} {s:Shared} (I:Inv X (pins ++ pl) σ H s):Inv X pins σ H s:=I.x5 fun p hp=>I.pin p (List.mem_append_right _ (List.mem_append_left _ hp))
theorem l6 {iter:Expr} {body:List Stmt} {wi:TI} {g:TG} {tb:TS} {pos:Pos} (hp:PassesOwn (model X.prog X.w) X.A X.env X.xe) (hc:X.calm=true) (hi:PI X tg iter wi) (hg:PG X tg g) (hb:qg X body tb)
  (hs:∀ x,foldedSetIterable iter X.env x=pure x:=by intro _;rfl):PS X (.For tg iter body [] pos) (HV wi g tb):=by
 intro pins s σ H D I h
 refine wpAny_For (bM (hi pins s σ H _ I h) fun v s1 h1=>bM h1 fun itv s2 h2=>?_) hs
 obtain ⟨it,fp,tn,J,H2,e,I2,T,st2,f2,W,⟨m0,w0⟩,turn⟩:=h2
 subst e
 have stat:∀ {H':Hp},(∀ b∈fp,H' b=none)→∀ b∈fp,iJ X pins H' b:=fun hn b hb=>⟨hn b hb,(f2 b hb).2⟩
 refine codeAny_forLoop_any (fun n s'=>∃ i σ' H',Inv X pins σ' H' s'∧tn i s'.heap∧(∀ b∈fp,H' b=none)∧W i n σ' H') ?_ m0 ⟨0,σ,H2,I2,st2,fun b hb=>(f2 b hb).1,w0⟩
 rintro n s3 ⟨i,σ3,H3,I3,st3,fr3,w3⟩
 rcases turn i n σ3 H3 w3 with ⟨stop,qn⟩ | ⟨go,N,hN,step⟩
 ·refine wpAny_passesOwn hp (bM (T.done X rfl rfl rfl hc i pins s3 σ3 H3 X.xe I3 (stat fr3) st3 stop) fun r s4 ⟨hr,I4⟩=>?_)
  subst hr
  exact wpAny_execs_nil ⟨σ3,H3,I4,qn⟩
 ·refine wpAny_passesOwn hp (bM (T.item X rfl rfl rfl hc i pins s3 σ3 H3 X.xe I3 (stat fr3) st3 go) fun r s4 ⟨u,hr,h4⟩=>?_)
  subst hr
  refine wpAny_passesOwn hp (bM h4 fun _ s5 ⟨x,H5,I5,r5,y5,st5,fr5⟩=>?_)
  have I5':=I5.pinned (stat fr5) (T.obj _ _ st5)
  refine wpAny_passesOwn hp (bM (hg _ s5 σ3 H5 x u _ I5' r5 (step x H5 y5)) fun _ s6 ⟨σ6,H6,I6,q6⟩=>?_)
  refine wpAny_passesOwn hp (bM (hb _ s6 σ6 H6 _ I6 q6) fun f s7 q7=>?_)
  have again:∀ {σ7:St} {H7:Hp},Inv X (pins ++ sC fp s5.heap) σ7 H7 s7→N σ7 H7→∃ m,m < n∧∃ i σ' H',Inv X pins σ' H' s7∧tn i s7.heap∧(∀ b∈fp,H' b=none)∧W i m σ' H':=fun {σ7 H7} I7 n7=>by
   obtain ⟨m',hm,w7⟩:=hN σ7 H7 n7
   refine ⟨m',hm,i + 1,σ7,H7,I7.eI,T.keep _ _ _ st5 fun b hb o e=>(I7.pin (b,o) (List.mem_append_right _ (List.mem_append_right _ (bL hb e)))).1,fun b hb=>?_,w7⟩
   obtain ⟨o,e,d⟩:=T.obj _ _ st5 b hb
   exact (I7.pin (b,o) (List.mem_append_right _ (List.mem_append_right _ (bL hb e)))).2.1
  cases f with
  | next=>obtain ⟨σ7,H7,I7,n7⟩:=q7;exact again I7 n7
  | cont=>obtain ⟨σ7,H7,I7,n7⟩:=q7;exact again I7 n7
  | brk=>obtain ⟨σ7,H7,I7,q7⟩:=q7;exact ⟨σ7,H7,I7.eI,q7⟩
  | ret v=>obtain ⟨x7,σ7,H7,I7,r7,q7⟩:=q7;exact ⟨x7,σ7,H7,I7.eI,r7,q7⟩
end
theorem AW {K:PySem.W.Frag} {a:Addr} {xs:List V} {g:TG} {tb:TS} {D:Ends} {σ:St} {H:Hp} (Pv:Nat→St→Hp→Prop) (h0:Pv 0 σ H) (hl:∀ i σ H,i≤xs.length→Pv i σ H→c8 K H a xs)
  (hs:∀ i x σ H,xs[i]?=some x→Pv i σ H→g x σ H fun σ2 H2=>tb { D with nx:=Pv (i + 1),ct:=Pv (i + 1),bk:=D.nx } σ2 H2) (hd:∀ σ H,Pv xs.length σ H→D.nx σ H) :
  ∃ W:Nat→Nat→St→Hp→Prop,(∃ m,W 0 m σ H)∧∀ i m σ H,W i m σ H →
   ((Dg K a).stop i H∧D.nx σ H)∨((Dg K a).go i H∧∃ N:St→Hp→Prop,(∀ σ' H',N σ' H'→∃ m',m' < m∧W (i + 1) m' σ' H')∧∀ x H',(Dg K a).yld i H x H'→g x σ H' fun σ2 H2=>tb { D with nx:=N,ct:=N,bk:=D.nx } σ2 H2):=by
 refine ⟨fun i m σ H=>m=xs.length - i∧i≤xs.length∧Pv i σ H,⟨xs.length,by simp,Nat.zero_le _,h0⟩,?_⟩
 rintro i m σ H ⟨rfl,hi,p⟩
 have q:=hl i σ H hi p
 by_cases hlt:i < xs.length
 ·refine .inr ⟨⟨xs,xs[i],q,by simp [hlt]⟩,Pv (i + 1),fun σ' H' p'=>⟨xs.length - (i + 1),by omega,rfl,hlt,p'⟩,fun x H' y=>?_⟩
  obtain ⟨e,y⟩:=y
  subst e
  exact hs i x σ _ (y xs q) p
 ·have e:i=xs.length:=by omega
  subst e
  exact .inl ⟨⟨xs,q,Nat.le_refl _⟩,hd σ H p⟩
theorem qy {lo:Int} {n:Nat} {g:TG} {tb:TS} {D:Ends} {σ:St} {H:Hp} (Pv:Nat→St→Hp→Prop) (h0:Pv 0 σ H)
  (hs:∀ i σ H,i < n→Pv i σ H→g (.int (lo + i)) σ H fun σ2 H2=>tb { D with nx:=Pv (i + 1),ct:=Pv (i + 1),bk:=D.nx } σ2 H2) (hd:∀ σ H,Pv n σ H→D.nx σ H) :
  ∃ W:Nat→Nat→St→Hp→Prop,(∃ m,W 0 m σ H)∧∀ i m σ H,W i m σ H →
   ((Ao lo n).stop i H∧D.nx σ H)∨((Ao lo n).go i H∧∃ N:St→Hp→Prop,(∀ σ' H',N σ' H'→∃ m',m' < m∧W (i + 1) m' σ' H')∧∀ x H',(Ao lo n).yld i H x H'→g x σ H' fun σ2 H2=>tb { D with nx:=N,ct:=N,bk:=D.nx } σ2 H2):=by
 refine ⟨fun i m σ H=>m=n - i∧i≤n∧Pv i σ H,⟨n,by simp,Nat.zero_le _,h0⟩,?_⟩
 rintro i m σ H ⟨rfl,hi,p⟩
 by_cases hlt:i < n
 ·refine .inr ⟨hlt,Pv (i + 1),fun σ' H' p'=>⟨n - (i + 1),by omega,rfl,hlt,p'⟩,fun x H' y=>?_⟩
  obtain ⟨e,y⟩:=y
  subst e y
  exact hs i σ _ hlt p
 ·have e:i=n:=by omega
  subst e
  exact .inl ⟨Nat.le_refl _,hd σ H p⟩
theorem vt {c:TT} {tb:TS} {D:Ends} {σ:St} {H:Hp} (Pv:St→Hp→Prop) (μ:St→Hp→Nat) (h0:Pv σ H)
  (hs:∀ σ H,Pv σ H→c σ H fun b H1=>if b=true then tb { D with nx:=fun σ' H'=>Pv σ' H'∧μ σ' H' < μ σ H,ct:=fun σ' H'=>Pv σ' H'∧μ σ' H' < μ σ H,bk:=D.nx } σ H1 else D.nx σ H1)
  (mono:∀ σ H Q Q',(∀ b H1,Q b H1→Q' b H1)→c σ H Q→c σ H Q'):tK c tb D σ H:=by
 refine ⟨fun m σ H=>m=μ σ H∧Pv σ H,⟨_,rfl,h0⟩,?_⟩
 rintro m σ H ⟨rfl,p⟩
 refine mono σ H _ _ (fun b H1 q=>?_) (hs σ H p)
 cases b with
 | true=>exact ⟨_,fun σ' H' ⟨p',l⟩=>⟨_,l,rfl,p'⟩,q⟩
 | false=>exact q
end L2
namespace L2
open PySem PySem.Spec PyProof.Rows
abbrev R2:=V→V→Hp→VK→Prop
def er (X:Cx) (f:Value→Value→Sem Value) (r:R2):Prop :=
 ∀ (pins:List (Addr × Obj)) (s:Shared) (σ:St) (H:Hp) (x y:V) (v u:Value) (Q:VK),Inv X pins σ H s→RelV x v→RelV y u→r x y H Q →
  wpAny (model X.prog X.w) X.A (f v u) (EP X pins σ Q) X.xe s
def tV (X:Cx) (f:Value→Sem Value) (r:V→Hp→VK→Prop):Prop :=
 ∀ (pins:List (Addr × Obj)) (s:Shared) (σ:St) (H:Hp) (x:V) (v:Value) (Q:VK),Inv X pins σ H s→RelV x v→r x H Q →
  wpAny (model X.prog X.w) X.A (f v) (EP X pins σ Q) X.xe s
def bT (X:Cx) (f:Value) (r:List V→Hp→VK→Prop):Prop :=
 ∀ (pins:List (Addr × Obj)) (s:Shared) (σ:St) (H:Hp) (xs:List V) (us:List Value) (Q:VK),Inv X pins σ H s→Vals xs us→r xs H Q →
  wpAny (model X.prog X.w) X.A (call f us) (EP X pins σ Q) X.xe s
def Li (X:Cx) (r:V→Hp→(Bool→Hp→Prop)→Prop):Prop :=
 ∀ (pins:List (Addr × Obj)) (s:Shared) (σ:St) (H:Hp) (x:V) (v:Value) (Q:Bool→Hp→Prop),Inv X pins σ H s→RelV x v→r x H Q →
  wpAny (model X.prog X.w) X.A (truthy v) (TP X pins σ Q) X.xe s
def CY (r:R2) (ta tb:TE):TE:=fun σ H Q=>ta σ H fun x H1=>tb σ H1 fun y H2=>r x y H2 Q
def K' (r:V→Hp→VK→Prop) (ta:TE):TE:=fun σ H Q=>ta σ H fun x H1=>r x H1 Q
def rI (C:Int→Int→Prop) (g:Int→Int→V):R2:=fun x y H Q=>∃ i j,x=.int i∧y=.int j∧C i j∧Q (g i j) H
def Dc (g:Int→Int→V):R2:=fun x y H Q=>∃ i j,x=.int i∧y=.int j∧Q (g i j) H
def rU (g:Int→V):V→Hp→VK→Prop:=fun x H Q=>∃ i,x=.int i∧Q (g i) H
section
variable {X:Cx} {a b c:Expr} {ta tb tc:TE} {pos:Pos}
theorem Gx (ha:PE X a ta) (hb:PE X b tb) {pins:List (Addr × Obj)} {s:Shared} {σ:St} {H:Hp} {R:V→V→Hp→Prop} (I:Inv X pins σ H s)
  (h:ta σ H fun x H1=>tb σ H1 fun y H2=>R x y H2) {Q:Value→Shared→Prop} {f:Value→Value→Sem Value}
  (hf:∀ v u s2 x y H2,Inv X pins σ H2 s2→RelV x v→RelV y u→R x y H2→wpAny (model X.prog X.w) X.A (f v u) Q X.xe s2) :
  wpAny (model X.prog X.w) X.A (eval a X.env) (fun v s₁=>wpAny (model X.prog X.w) X.A (eval b X.env) (fun u s₂=>wpAny (model X.prog X.w) X.A (f v u) Q X.xe s₂) X.xe s₁) X.xe s:=by
 refine bM (ha pins s σ H _ I h) fun v s1 ⟨x,H1,I1,r1,q1⟩=>?_
 refine bM (hb pins s1 σ H1 _ I1 q1) fun u s2 ⟨y,H2,I2,r2,q2⟩=>?_
 exact hf v u s2 x y H2 I2 r1 r2 q2
theorem bh {op:Operator} {r:R2} (ho:er X (binaryOp op) r) (ha:PE X a ta) (hb:PE X b tb):PE X (.BinOp a op b pos) (CY r ta tb):=by
 intro pins s σ H Q I h
 exact wpAny_BinOp (Gx ha hb I h fun v u s2 x y H2 I2 rx ry q=>ho pins s2 σ H2 x y v u Q I2 rx ry q)
theorem x4 {op:UnaryOp} {r:V→Hp→VK→Prop} (ho:tV X (unaryOp op) r) (ha:PE X a ta):PE X (.UnaryOp op a pos) (K' r ta):=by
 intro pins s σ H Q I h
 exact UnaryOp_ (bM (ha pins s σ H _ I h) fun v s1 ⟨x,H1,I1,r1,q1⟩=>ho pins s1 σ H1 x v Q I1 r1 q1)
theorem K3 {f:Value→Value→Sem Value} {C:Int→Int→Prop} {g:Int→Int→Int}
  (rule:∀ (i j:Int) (t u:Tok) (s:Shared) (Q:Value→Shared→Prop) (E:Value→Shared→Prop),C i j→Q (.int (g i j) s.toks) { s with toks:=s.toks + 1 }→wpAny (model X.prog X.w) X.A (f (.int i t) (.int j u)) Q E s) :
  er X f (rI C fun i j=>.int (g i j)):=by
 intro pins s σ H x y v u Q I rx ry h
 obtain ⟨i,j,rfl,rfl,hc,q⟩:=h
 obtain ⟨t,rfl⟩:=rx
 obtain ⟨t',rfl⟩:=ry
 exact rule i j t t' s _ _ hc ⟨.int (g i j),H,I.tok _,⟨_,rfl⟩,q⟩
theorem Jv {f:Value→Value→Sem Value} {g:Int→Int→Int}
  (rule:∀ (i j:Int) (t u:Tok) (s:Shared) (Q:Value→Shared→Prop) (E:Value→Shared→Prop),Q (.int (g i j) s.toks) { s with toks:=s.toks + 1 }→wpAny (model X.prog X.w) X.A (f (.int i t) (.int j u)) Q E s) :
  er X f (Dc fun i j=>.int (g i j)):=by
 intro pins s σ H x y v u Q I rx ry h
 obtain ⟨i,j,rfl,rfl,q⟩:=h
 obtain ⟨t,rfl⟩:=rx
 obtain ⟨t',rfl⟩:=ry
 exact rule i j t t' s _ _ ⟨.int (g i j),H,I.tok _,⟨_,rfl⟩,q⟩
theorem D5 {f:Value→Value→Sem Value} {g:Int→Int→Bool}
  (rule:∀ (i j:Int) (t u:Tok) (s:Shared) (Q:Value→Shared→Prop) (E:Value→Shared→Prop),Q (.bool (g i j)) s→wpAny (model X.prog X.w) X.A (f (.int i t) (.int j u)) Q E s) :
  er X f (Dc fun i j=>.bl (g i j)):=by
 intro pins s σ H x y v u Q I rx ry h
 obtain ⟨i,j,rfl,rfl,q⟩:=h
 obtain ⟨t,rfl⟩:=rx
 obtain ⟨t',rfl⟩:=ry
 exact rule i j t t' s _ _ ⟨.bl (g i j),H,I,rfl,q⟩
def Lc (i j:Int):Prop:=0≤j∧j≤1000000∧i.natAbs < 2 ^ 64
theorem iq:er X (binaryOp .Add) (Dc fun i j=>.int (i + j)):=Jv fun _ _ _ _ _ _ _ q=>add_int q
theorem wz:er X (binaryOp .Sub) (Dc fun i j=>.int (i - j)):=Jv fun _ _ _ _ _ _ _ q=>sub_int q
theorem fF:er X (binaryOp .Mod) (rI (fun _ j=>0 < j) fun i j=>.int (i % j)):=K3 fun i j _ _ _ _ _ hc q=>by
 have h1:(0:Int) < j:=hc
 exact mod_int' (by omega) (by rw [Int.fmod_eq_emod_of_nonneg i (by omega)];exact q)
theorem BK:er X (binaryOp .Pow) (rI Lc fun i j=>.int (i ^ j.toNat)):=K3 fun _ _ _ _ _ _ _ hc q=>pow_int_small hc.1 hc.2.1 hc.2.2 q
theorem Nz {f:Value→Sem Value} {g:Int→Int}
  (rule:∀ (i:Int) (t:Tok) (s:Shared) (Q:Value→Shared→Prop) (E:Value→Shared→Prop),Q (.int (g i) s.toks) { s with toks:=s.toks + 1 }→wpAny (model X.prog X.w) X.A (f (.int i t)) Q E s) :
  tV X f (rU fun i=>.int (g i)):=by
 intro pins s σ H x v Q I rx h
 obtain ⟨i,rfl,q⟩:=h
 obtain ⟨t,rfl⟩:=rx
 exact rule i t s _ _ ⟨.int (g i),H,I.tok _,⟨_,rfl⟩,q⟩
theorem C2:tV X (unaryOp .USub) (rU fun i=>.int (-i)):=Nz fun _ _ _ _ _ q=>neg_int q
end
def Cu:V→V→Bool
 | .non,.non=>true | .non,.int _=>true | .int _,.non=>true | .non,.bl _=>true | .bl _,.non=>true | .non,.str _=>true | .str _,.non=>true
 | .int _,.int _=>true | .bl _,.bl _=>true | .str _,.str _=>true | .byt _,.byt _=>true
 | .int _,.str _=>true | .str _,.int _=>true | .bl _,.str _=>true | .str _,.bl _=>true
 | _,_=>false
def M5:R2:=fun x y H Q=>Cu x y=true∧Q (.bl (decide (x=y))) H
def M9:R2:=fun x y H Q=>Cu x y=true∧Q (.bl (!decide (x=y))) H
theorem xA {i j:Int}:decide (V.int i=V.int j)=(i == j):=by
 rw [Bool.eq_iff_iff]
 simp
theorem AK {i j:Bool}:decide (V.bl i=V.bl j)=(i == j):=by
 rw [Bool.eq_iff_iff]
 simp
theorem xB {i j:Str}:decide (V.str i=V.str j)=(i == j):=by
 rw [Bool.eq_iff_iff]
 simp
theorem xy {i j:Array UInt8}:decide (V.byt i=V.byt j)=(i.toList == j.toList):=by
 rw [Bool.eq_iff_iff]
 cases i
 cases j
 simp
section
variable {X:Cx} {a b c:Expr} {ta tb tc:TE} {pos:Pos}
theorem bq {pins:List (Addr × Obj)} {σ:St} {H:Hp} {s:Shared} {Q:VK} {k k':Bool} (I:Inv X pins σ H s) (q:Q (.bl k) H) (e:k=k'):EP X pins σ Q (.bool k') s:=by
 subst e
 exact ⟨.bl k,H,I,rfl,q⟩
theorem BJ:er X (compareOp .Eq) M5:=by
 intro pins s σ H x y v u Q I rx ry h
 obtain ⟨hs,q⟩:=h
 cases x with
 | non =>
  cases rx
  cases y with
  | non=>cases ry;exact PySem.EqNone.eq_none_none (bq I q (by simp))
  | bl j=>cases ry;exact PySem.EqNone.eq_none_bool (bq I q (by simp))
  | int j=>obtain ⟨t',rfl⟩:=ry;exact PySem.EqNone.eq_none_int (bq I q (by simp))
  | str j=>obtain ⟨t',rfl⟩:=ry;exact PySem.EqNone.eq_none_str (bq I q (by simp))
  | _=>exact absurd (show false=true from hs) Bool.false_ne_true
 | bl i =>
  cases rx
  cases y with
  | non=>cases ry;exact PySem.EqNone.eq_bool_none (bq I q (by simp))
  | bl j=>cases ry;exact eq_bool (bq I q AK)
  | str j=>obtain ⟨t',rfl⟩:=ry;exact PySem.EqMixed.eq_bool_str (bq I q (by simp))
  | _=>exact absurd (show false=true from hs) Bool.false_ne_true
 | int i =>
  obtain ⟨t,rfl⟩:=rx
  cases y with
  | non=>cases ry;exact PySem.EqNone.eq_int_none (bq I q (by simp))
  | int j=>obtain ⟨t',rfl⟩:=ry;exact eq_int (bq I q xA)
  | str j=>obtain ⟨t',rfl⟩:=ry;exact PySem.EqMixed.eq_int_str (bq I q (by simp))
  | _=>exact absurd (show false=true from hs) Bool.false_ne_true
 | str i =>
  obtain ⟨t,rfl⟩:=rx
  cases y with
  | non=>cases ry;exact PySem.EqNone.eq_str_none (bq I q (by simp))
  | bl j=>cases ry;exact PySem.EqMixed.eq_str_bool (bq I q (by simp))
  | int j=>obtain ⟨t',rfl⟩:=ry;exact PySem.EqMixed.eq_str_int (bq I q (by simp))
  | str j=>obtain ⟨t',rfl⟩:=ry;exact eq_str (bq I q xB)
  | _=>exact absurd (show false=true from hs) Bool.false_ne_true
 | byt i =>
  obtain ⟨t,rfl⟩:=rx
  cases y with
  | byt j=>obtain ⟨t',rfl⟩:=ry;exact PySem.W.eq_bytes (bq I q xy)
  | _=>exact absurd (show false=true from hs) Bool.false_ne_true
 | _=>cases y <;> exact absurd (show false=true from hs) Bool.false_ne_true
theorem FG:er X (compareOp .NotEq) M9:=by
 intro pins s σ H x y v u Q I rx ry h
 obtain ⟨hs,q⟩:=h
 cases x with
 | non =>
  cases rx
  cases y with
  | non=>cases ry;exact PySem.EqNone.ne_none_none (bq I q (by simp))
  | bl j=>cases ry;exact PySem.EqNone.ne_none_bool (bq I q (by simp))
  | int j=>obtain ⟨t',rfl⟩:=ry;exact PySem.EqNone.ne_none_int (bq I q (by simp))
  | str j=>obtain ⟨t',rfl⟩:=ry;exact PySem.EqNone.ne_none_str (bq I q (by simp))
  | _=>exact absurd (show false=true from hs) Bool.false_ne_true
 | bl i =>
  cases rx
  cases y with
  | non=>cases ry;exact PySem.EqNone.ne_bool_none (bq I q (by simp))
  | bl j=>cases ry;exact ne_bool (bq I q (congrArg not AK))
  | str j=>obtain ⟨t',rfl⟩:=ry;exact PySem.EqMixed.ne_bool_str (bq I q (by simp))
  | _=>exact absurd (show false=true from hs) Bool.false_ne_true
 | int i =>
  obtain ⟨t,rfl⟩:=rx
  cases y with
  | non=>cases ry;exact PySem.EqNone.ne_int_none (bq I q (by simp))
  | int j=>obtain ⟨t',rfl⟩:=ry;exact ne_int (bq I q (congrArg not xA))
  | str j=>obtain ⟨t',rfl⟩:=ry;exact PySem.EqMixed.ne_int_str (bq I q (by simp))
  | _=>exact absurd (show false=true from hs) Bool.false_ne_true
 | str i =>
  obtain ⟨t,rfl⟩:=rx
  cases y with
  | non=>cases ry;exact PySem.EqNone.ne_str_none (bq I q (by simp))
  | bl j=>cases ry;exact PySem.EqMixed.ne_str_bool (bq I q (by simp))
  | int j=>obtain ⟨t',rfl⟩:=ry;exact PySem.EqMixed.ne_str_int (bq I q (by simp))
  | str j=>obtain ⟨t',rfl⟩:=ry;exact ne_str (bq I q (congrArg not xB))
  | _=>exact absurd (show false=true from hs) Bool.false_ne_true
 | byt i =>
  obtain ⟨t,rfl⟩:=rx
  cases y with
  | byt j=>obtain ⟨t',rfl⟩:=ry;exact PySem.W.ne_bytes (bq I q (congrArg not xy))
  | _=>exact absurd (show false=true from hs) Bool.false_ne_true
 | _=>cases y <;> exact absurd (show false=true from hs) Bool.false_ne_true
theorem xX:er X (compareOp .Lt) (Dc fun i j=>.bl (decide (i < j))):=D5 fun _ _ _ _ _ _ _ q=>lt_int q
theorem FF:er X (compareOp .LtE) (Dc fun i j=>.bl (decide (i≤j))):=D5 fun _ _ _ _ _ _ _ q=>le_int q
theorem FE:er X (compareOp .Gt) (Dc fun i j=>.bl (decide (j < i))):=D5 fun _ _ _ _ _ _ _ q=>gt_int q
theorem FD:er X (compareOp .GtE) (Dc fun i j=>.bl (decide (j≤i))):=D5 fun _ _ _ _ _ _ _ q=>ge_int q
theorem zL:er X (compareOp .Lt) (fun x y H Q=>∃ i j,x=.str i∧y=.str j∧Q (.bl (decide (i.cps.toList < j.cps.toList))) H):=by
 intro pins s σ H x y v u Q I rx ry h
 obtain ⟨i,j,rfl,rfl,q⟩:=h
 obtain ⟨t,rfl⟩:=rx
 obtain ⟨t',rfl⟩:=ry
 exact lt_str (bq I q rfl)
theorem Hh:er X (compareOp .Is) (fun x y H Q=>y=.non∧Q (.bl (decide (x=.non))) H):=by
 intro pins s σ H x y v u Q I rx ry h
 obtain ⟨rfl,q⟩:=h
 cases ry
 refine is_none_gen (bq I q ?_)
 cases x <;> first
  | (cases rx;rfl)
  | (obtain ⟨t,rfl⟩:=rx;rfl)
theorem D7:er X (compareOp .IsNot) (fun x y H Q=>y=.non∧Q (.bl (!decide (x=.non))) H):=by
 intro pins s σ H x y v u Q I rx ry h
 obtain ⟨rfl,q⟩:=h
 cases ry
 refine isnot_none_gen (bq I q ?_)
 cases x <;> first
  | (cases rx;rfl)
  | (obtain ⟨t,rfl⟩:=rx;rfl)
theorem er.or {f:Value→Value→Sem Value} {r r':R2} (h:er X f r) (h':er X f r'):er X f (fun x y H Q=>r x y H Q∨r' x y H Q):=by
 intro pins s σ H x y v u Q I rx ry q
 rcases q with q | q
 ·exact h pins s σ H x y v u Q I rx ry q
 ·exact h' pins s σ H x y v u Q I rx ry q
theorem ay (b:Expr) {op:CmpOp} (h:op≠.In:=by decide) (h2:op≠.NotIn:=by decide):behindInMarks op b=false:=by
 have e1:(op == CmpOp.In)=false:=by cases op <;> first | rfl | exact absurd rfl h
 have e2:(op == CmpOp.NotIn)=false:=by cases op <;> first | rfl | exact absurd rfl h2
 cases b <;> simp [behindInMarks,e1,e2]
theorem m8 {op:CmpOp} {r:R2} (ho:er X (compareOp op) r) (ha:PE X a ta) (hb:PE X b tb) (hm:behindInMarks op b=false):PE X (.Compare a [op] [b] pos) (CY r ta tb):=by
 intro pins s σ H Q I h
 exact wpAny_Compare1 (Gx ha hb I h fun v u s2 x y H2 I2 rx ry q=>ho pins s2 σ H2 x y v u Q I2 rx ry q) hm
def yL (t:TE):TT:=fun σ H Q=>t σ H fun x H'=>∃ k,x=.bl k∧Q k H'
theorem cY {op:CmpOp} {r:R2} (ho:er X (compareOp op) r) (ha:PE X a ta) (hb:PE X b tb) (hm:behindInMarks op b=false):PT X (.Compare a [op] [b] pos) (yL (CY r ta tb)):=by
 intro pins s σ H Q I h
 refine wpAny_isTrue_Compare1 (bM (ha pins s σ H _ I h) fun v s1 ⟨x,H1,I1,r1,q1⟩=>bM (hb pins s1 σ H1 _ I1 q1) fun u s2 ⟨y,H2,I2,r2,q2⟩ =>
  bM (ho pins s2 σ H2 x y v u _ I2 r1 r2 q2) fun c s3 ⟨z,H3,I3,r3,k,e,q3⟩=>?_) hm
 subst e
 cases r3
 exact wpAny_truthy_bool ⟨H3,I3,q3⟩
def CT (r r':R2) (ta tb tc:TE):TE:=fun σ H Q=>ta σ H fun x H1=>tb σ H1 fun y H2=>r x y H2 fun z H3=>∃ k,z=.bl k ∧
 (if k=true then tc σ H3 fun w' H4=>r' y w' H4 Q else Q (.bl false) H3)
theorem BX {op op':CmpOp} {r r':R2} (ho:er X (compareOp op) r) (ho':er X (compareOp op') r') (ha:PE X a ta) (hb:PE X b tb) (hc:PE X c tc)
  (hm:lastMarks [op,op'] [b,c]=false:=by with_unfolding_all rfl):PE X (.Compare a [op,op'] [b,c] pos) (CT r r' ta tb tc):=by
 intro pins s σ H Q I h
 refine Compare_chain (bM (ha pins s σ H _ I h) fun v s1 ⟨x,H1,I1,r1,q1⟩=>chain_link (bM (hb pins s1 σ H1 _ I1 q1) fun u s2 ⟨y,H2,I2,r2,q2⟩ =>
  bM (ho pins s2 σ H2 x y v u _ I2 r1 r2 q2) fun d s3 ⟨z,H3,I3,r3,k,e,q3⟩=>?_)) hm
 subst e
 cases r3
 refine wpAny_truthy_bool ?_
 cases k with
 | false=>exact ite_ff ⟨.bl false,H3,I3,rfl,q3⟩
 | true=>exact ite_tt (chain_last (bM (hc pins s3 σ H3 _ I3 q3) fun w' s4 ⟨z',H4,I4,r4,q4⟩=>ho' pins s4 σ H4 y z' u w' Q I4 r2 r4 q4))
def Gp (K:PySem.W.Frag) (x:V) (H:Hp) (k:Bool):Prop :=
 match x with
 | .non=>k=false
 | .bl b=>k=b
 | .int i=>k=(i != 0)
 | .str y=>y.length≤sizeLine∧k=((y.length:Int) != 0)
 | .byt y=>y.size≤sizeLine∧k=((y.size:Int) != 0)
 | .ref p=>(∃ xs,c8 K H p xs∧k=!xs.isEmpty)∨(∃ xs,eL K H p xs∧k=!xs.isEmpty)∨∃ kvs ep,H p=some (.dE kvs ep)∧k=!kvs.isEmpty
 | _=>False
theorem v_ {κ:Type} {kvs:List (κ × V)} {vs:List (κ × Value)} (r:KV kvs vs):(!vs.isEmpty)=!kvs.isEmpty:=by
 cases r <;> rfl
theorem oq {xs:List V} {its:List Value} (r:Vals xs its):(!its.toArray.isEmpty)=!xs.isEmpty:=by
 cases r <;> simp
theorem j_:(sizeLine:Nat) < 2 ^ 63:=by rw [sizeLine_eq];decide
theorem HZ:Li X (fun x H Q=>∃ k,Gp X.K x H k∧Q k H):=by
 intro pins s σ H x v Q I rx h
 obtain ⟨k,e,q⟩:=h
 have hl:=j_
 have hs:sizeLine=16777216:=sizeLine_eq
 cases x with
 | non =>
  cases rx
  have e':k=false:=e
  subst e'
  exact truthy_none ⟨H,I,q⟩
 | bl b =>
  cases rx
  have e':k=b:=e
  subst e'
  exact wpAny_truthy_bool ⟨H,I,q⟩
 | int i =>
  obtain ⟨t,rfl⟩:=rx
  have e':k=(i != 0):=e
  subst e'
  exact PySem.P.truthy_int ⟨H,I,q⟩
 | str y =>
  obtain ⟨t,rfl⟩:=rx
  obtain ⟨hy,e'⟩:y.length≤sizeLine∧k=((y.length:Int) != 0):=e
  subst e'
  exact PySem.P.truthy_str (by omega) ⟨H,I.tok _,q⟩
 | byt y =>
  obtain ⟨t,rfl⟩:=rx
  obtain ⟨hy,e'⟩:y.size≤sizeLine∧k=((y.size:Int) != 0):=e
  subst e'
  exact PySem.W.truthy_bytes (by omega) ⟨H,I.tok _,q⟩
 | ref p =>
  cases rx
  have e':(∃ xs,c8 X.K H p xs∧k=!xs.isEmpty)∨(∃ xs,eL X.K H p xs∧k=!xs.isEmpty)∨∃ kvs ep,H p=some (.dE kvs ep)∧k=!kvs.isEmpty:=e
  rcases e' with ⟨xs,hx,e'⟩ | ⟨xs,hx,e'⟩ | ⟨kvs,ep,hx,e'⟩
  ·subst e'
   obtain ⟨its,r,pl,hz⟩:=I.list hx
   have hlen:=r.length
   exact wpAny_truthy_list pl.isList (by simp only [List.size_toArray];omega) ⟨H,I.tok _,by rw [oq r];exact q⟩
  ·subst e'
   obtain ⟨its,r,pl,hz⟩:=I.tuple hx
   have hlen:=r.length
   exact truthy_tuple pl (by simp only [List.size_toArray];omega) ⟨H,I.tok _,by rw [oq r];exact q⟩
  ·subst e'
   obtain ⟨hz,hS,vs,r,m⟩:kvs.length≤sizeLine∧(p == sysModules)=false∧∃ vs,KV kvs vs∧s.heap.DictAt (strKind X.prog X.w) p vs ep:=I.hok p _ hx
   have hlen:kvs.length=vs.length:=Paired.length r
   exact wpAny_truthy_dict hS m.dictOf (by omega) ⟨H,I.tok _,by rw [v_ r];exact q⟩
 | _=>exact (show False from e).elim
theorem B4 (ha:PE X a ta) (he:∀ whole,isTrue a X.env whole=(do let v ← whole;standAt a.pos;holding [v] (truthy v))) :
  PT X a (fun σ H Q=>ta σ H fun x H'=>∃ k,Gp X.K x H' k∧Q k H'):=by
 intro pins s σ H Q I h
 exact isTrue_plain (bM (ha pins s σ H _ I h) fun v s1 ⟨x,H1,I1,r1,q1⟩=>HZ pins s1 σ H1 x v Q I1 r1 q1) (he _)
theorem vals1 {x:V} {us:List Value} (r:Vals [x] us):∃ u,us=[u]∧RelV x u:=by
 cases r with
 | cons r1 r2=>cases r2;exact ⟨_,rfl,r1⟩
theorem vals2 {x y:V} {us:List Value} (r:Vals [x,y] us):∃ u w',us=[u,w']∧RelV x u∧RelV y w':=by
 cases r with
 | cons r1 r2 =>
  cases r2 with
  | cons r3 r4=>cases r4;exact ⟨_,_,rfl,r1,r3⟩
theorem kL:bT X (.builtin "abs") (fun xs H Q=>∃ i,xs=[.int i]∧Q (.int (if i < 0 then -i else i)) H):=by
 intro pins s σ H xs us Q I r h
 obtain ⟨i,rfl,q⟩:=h
 obtain ⟨u,rfl,t,rfl⟩:=vals1 r
 exact call_abs_int fun u tk=>⟨.int (if i < 0 then -i else i),H,I.tok _,⟨_,rfl⟩,q⟩
end
end L2
namespace L2
open PySem PySem.Spec PyProof.Rows
structure vR (h:Heap) (x dx C:Addr) (mA:Str→Option Value):Prop where
 obj:h.get? x=some (PySem.W.instObj C dx)
 ns:h.Ns1 dx mA
 ne:dx≠x
theorem zt {h:Heap} {dx:Addr} {mA:Str→Option Value} (n:h.Ns1 dx mA):∃ od,h.get? dx=some od∧∀ name,PySem.W.lookIn name od=some (mA name):=by
 obtain ⟨o,es,ep,ho,hd,hk,_,hm⟩:=n
 refine ⟨o,ho,fun name=>?_⟩
 have e:=hm name
 unfold nsFind findBy at e
 rw [← Array.find?_toList] at e
 unfold PySem.W.lookIn
 rw [hd]
 dsimp only
 split
 ·rename_i y q
  rw [q] at e
  exact congrArg some e
 ·rename_i q
  rw [q] at e
  have a:es.toList.any (·.refKey)=false:=by
   rw [List.any_eq_false]
   intro y hy
   obtain ⟨z,t,hkey⟩:=hk y (Array.mem_toList_iff.mp hy)
   simp [DictEntry.refKey,hkey]
  have a':¬ es.toList.any (·.refKey)=true:=by rw [a];exact Bool.false_ne_true
  rw [if_neg a']
  exact congrArg some e
theorem vR.look {h:Heap} {x dx C:Addr} {mA:Str→Option Value} (I:vR h x dx C mA):∃ od,PySem.W.InstAt h x (PySem.W.instObj C dx) C (some od)∧∀ name,PySem.W.lookIn name od=some (mA name) :=
 let ⟨od,ho,hl⟩:=zt I.ns
 ⟨od,⟨I.obj,rfl,rfl,ho⟩,hl⟩
section
variable {prog:Program} {w:World} {A:Around} {E:Value→Shared→Prop} {s:Shared} {K:PySem.W.Frag} {x dx C f:Addr} {mA:Str→Option Value} {name:Str} {v:Value}
theorem get_map {expr:Bool} {Q:Value→Shared→Prop} (X:K.In s.heap) (I:vR s.heap x dx C mA) (hg:PySem.W.plainGet K C name=true) (hh:PySem.W.hasDictIn K C=true)
  (ha:PySem.W.findIn K (.ref C) name=some none) (hv:mA name=some v) (hv':PySem.W.handedIn v=true) (h:Q v { s with toks:=s.toks + 1 }) :
  wpAny (model prog w) A (getAttr (.ref x) name expr) Q E s:=by
 obtain ⟨od,J,hl⟩:=I.look
 exact PySem.W.get_value X J (PySem.W.plainGet_of hg).1 (PySem.W.findObj_own hh ha rfl (by rw [hl,hv])) hv' h
theorem A4 {pl:Sem Bool} {Q:Value × List Value→Shared→Prop} (X:K.In s.heap) (I:vR s.heap x dx C mA) (hg:PySem.W.plainGet K C name=true)
  (hf:PySem.W.findIn K (.ref C) name=some (some (.ref f))) (ht:PySem.W.isFn K (.ref f)=true) (hv:mA name=none) (h:Q (.ref f,[.ref x]) s) :
  wpAny (model prog w) A (getMethod (.ref x) name pl) Q E s:=by
 obtain ⟨od,J,hl⟩:=I.look
 exact PySem.W.method_fn X J (PySem.W.plainGet_of hg).1 (PySem.W.plainGet_of hg).2 hf (beq_iff_eq.mp ht) (by show (PySem.W.lookIn name od).map (·.isSome)=some false;rw [hl,hv];rfl) h
theorem EV {ns:List Str} {Q:Unit→Shared→Prop} (X:K.In s.heap) (I:vR s.heap x dx C mA)
  (hs:PySem.W.findIn K (.ref C) "__setattr__"=some (some (.builtin "object.__setattr__"))) (hp:PySem.W.plainOver K C=true) (ht:PySem.W.takerIn K C name=some none) (hh:PySem.W.hasDictIn K C=true)
  (hw:PySem.Within mA ns) (hsz:ns.length≤sizeLine)
  (h:∀ h',vR h' x dx C (fun y=>if y=name then some v else mA y)→Heap.SameBut dx s.heap h'→Q () { s with heap:=h',toks:=s.toks + 2 }) :
  wpAny (model prog w) A (setAttr (.ref x) name v) Q E s:=by
 obtain ⟨od,J,hl⟩:=I.look
 refine PySem.W.set_plain X J hs (PySem.W.osa_open (s:={ s with toks:=s.toks + 1 }) (r:=none) X J hp ht fun b=>?_)
 obtain ⟨cd,hc,hd'⟩:=PySem.W.any_some hh
 have hx:s.heap.get? x=some ⟨.ref C,some dx,.plain,#[]⟩:=I.obj
 refine wpAny_bind (wpAny_pure (wpAny_bind (wpAny_bind (wpAny_loadPart hx (wpAny_bind (PySem.W.Looks.here (s:={ s with toks:=s.toks + 1 }) (PySem.W.looks_clsIn X hc) ?_))))))
 rw [hd']
 refine wpAny_pure (a:=some dx) (wpAny_bind (wpAny_pure (wpAny_bind ?_)))
 refine wpAny_nsSet1 (s:={ s with toks:=s.toks + 1 }) I.ns fun h' hn2 hs2=>?_
 obtain ⟨oD,esD,epD,hoD,hdD,hcD⟩:=hn2.count (PySem.Within.cons name v hw)
 refine wpAny_bind (wpAny_lookBehind hoD (by rw [hdD];exact pastItsLine_dict (Nat.le_trans hcD (by rw [List.length_cons];omega))) ?_)
 exact wpAny_pure (h _ ⟨(hs2.2 _ (Ne.symm I.ne)).trans I.obj,hn2,I.ne⟩ hs2)
theorem Bu {R:Result→Shared→Prop} {vs:List Value} {kw:List (Str × Value)} (X:K.In s.heap) (hm:PySem.W.makesIn K C=true)
  (hi:PySem.W.findIn K (.ref C) "__init__"=some (some (.ref f))) (hf:PySem.W.typeIn K (.ref f)=some (.type "function"))
  (h:codeAny (model prog w) (A.under (.builtin "type.__call__" ⟨.ref C :: vs,kw⟩)) (.call (.ref f) ⟨.ref (s.heap.objs.size + 1) :: vs,kw⟩) (PySem.W.InitBack (s.heap.objs.size + 1) R)
   { s with heap:=(s.heap.push PySem.W.emptyDict).push (PySem.W.instObj C s.heap.objs.size) }) :
  codeAny (model prog w) A (.call (.ref C) ⟨vs,kw⟩) R s:=by
 obtain ⟨hh,g,d,t,os⟩:=s
 exact PySem.W.make_core (PySem.W.makes_of X hm) (PySem.W.looks_findIn X hi) (fun self=>PySem.W.bind_fn X self hf) (.inl rfl) h
end
def dW (f:Str) (v:V):List (Str × V)→List (Str × V)
 | []=>[(f,v)]
 | (g,x) :: r=>if g=f then (g,v) :: r else (g,x) :: dW f v r
theorem mC (f g:Str) (v:V):∀ fs:List (Str × V),(dW f v fs).lookup g=if g=f then some v else fs.lookup g
 | []=>by
  show List.lookup g [(f,v)]=_
  by_cases h:g=f
  ·have hb:(g == f)=true:=beq_iff_eq.mpr h
   simp only [List.lookup,hb,if_pos h]
  ·have hb:(g == f)=false:=beq_eq_false_iff_ne.mpr h
   simp only [List.lookup,hb,if_neg h]
 | (k,x) :: r=>by
  have ih:=mC f g v r
  rw [show dW f v ((k,x) :: r)=(if k=f then (k,v) :: r else (k,x) :: dW f v r) from rfl]
  by_cases hk:k=f
  ·rw [if_pos hk]
   by_cases h:g=k
   ·have hb:(g == k)=true:=beq_iff_eq.mpr h
    simp only [List.lookup,hb,if_pos (h.trans hk)]
   ·have hb:(g == k)=false:=beq_eq_false_iff_ne.mpr h
    simp only [List.lookup,hb,if_neg (fun e:g=f=>h (e.trans hk.symm))]
  ·rw [if_neg hk]
   by_cases h:g=k
   ·have hb:(g == k)=true:=beq_iff_eq.mpr h
    simp only [List.lookup,hb,if_neg (fun e:g=f=>hk (h.symm.trans e))]
   ·have hb:(g == k)=false:=beq_eq_false_iff_ne.mpr h
    simp only [List.lookup,hb]
    exact ih
theorem lV (f:Str) (v:V):∀ fs:List (Str × V),f∈(dW f v fs).map (·.1)∧∀ g,g∈fs.map (·.1)→g∈(dW f v fs).map (·.1)
 | []=>⟨by simp [dW],fun g h=>by simp at h⟩
 | (k,x) :: r=>by
  obtain ⟨i1,i2⟩:=lV f v r
  rw [show dW f v ((k,x) :: r)=(if k=f then (k,v) :: r else (k,x) :: dW f v r) from rfl]
  by_cases hk:k=f
  ·rw [if_pos hk]
   subst hk
   exact ⟨by simp,fun g h=>by simpa using h⟩
  ·rw [if_neg hk]
   refine ⟨?_,fun g h=>?_⟩
   ·rw [List.map_cons]
    exact List.mem_cons_of_mem _ i1
   ·rw [List.map_cons] at h ⊢
    rcases List.mem_cons.mp h with e | e
    ·exact List.mem_cons.mpr (.inl e)
    ·exact List.mem_cons_of_mem _ (i2 g e)
theorem mB (f:Str) (v:V):∀ fs:List (Str × V),(dW f v fs).length≤fs.length + 1
 | []=>by simp [dW]
 | (k,x) :: r=>by
  have ih:=mB f v r
  rw [show dW f v ((k,x) :: r)=(if k=f then (k,v) :: r else (k,x) :: dW f v r) from rfl]
  by_cases hk:k=f
  ·rw [if_pos hk,List.length_cons,List.length_cons];omega
  ·rw [if_neg hk,List.length_cons,List.length_cons];omega
theorem pI.some_of {v:V} {o:Option Value} (r:pI (some v) o):∃ u,o=some u∧RelV v u:=by
 cases o with
 | none=>exact (show False from r).elim
 | some u=>exact ⟨u,rfl,r⟩
theorem pI.none_of {o:Option Value} (r:pI none o):o=none:=by
 cases o with
 | none=>rfl
 | some u=>exact (show False from r).elim
theorem za {v:V} {u:Value} (r:RelV v u):PySem.W.handedIn u=true:=by
 cases v with
 | non=>cases (show u=Value.none from r);rfl
 | bl b=>cases (show u=Value.bool b from r);rfl
 | int i=>obtain ⟨t,e⟩:=(show ∃ t,u=Value.int i t from r);cases e;rfl
 | str x=>obtain ⟨t,e⟩:=(show ∃ t,u=Value.str x t from r);cases e;rfl
 | byt b=>obtain ⟨t,e⟩:=(show ∃ t,u=Value.bytes b t from r);cases e;rfl
 | flt b=>obtain ⟨t,e⟩:=(show ∃ t,u=Value.float b t from r);cases e;rfl
 | ref a=>cases (show u=Value.ref a from r);rfl
 | ty n=>cases (show u=Value.type n from r);rfl
section
variable {P:Program} {w:World} {H H':Hp} {h h':Heap} {a C dx:Addr} {fs fs':List (Str × V)}
theorem m5 (hok:ku P w H h) (e:H a=some (.ins C dx fs)):∃ mA,vR h a dx C mA∧(∀ f,pI (fs.lookup f) (mA f))∧PySem.Within mA (fs.map (·.1))∧fs.length≤1000∧H dx=some (.own a):=by
 obtain ⟨d,z,ne,ob,mA,n,r,q⟩:=(show cu P w H h a (.ins C dx fs) from hok a _ e)
 exact ⟨mA,⟨ob,n,ne⟩,r,q,z,d⟩
end
structure mL (K:PySem.W.Frag) (C:Addr):Prop where
 pg:PySem.W.plainGet K C Str.empty=true
 hd:PySem.W.hasDictIn K C=true
 po:PySem.W.plainOver K C=true
 sa:PySem.W.findIn K (.ref C) "__setattr__"=some (some (.builtin "object.__setattr__"))
theorem mL.get {K:PySem.W.Frag} {C:Addr} (c:mL K C) (f:Str):PySem.W.plainGet K C f=true:=c.pg
def aE (K:PySem.W.Frag) (C:Addr) (f:Str):Prop:=PySem.W.findIn K (.ref C) f=some none
theorem aE.Kz {K:PySem.W.Frag} {C:Addr} {f:Str} (n:aE K C f):PySem.W.takerIn K C f=some none:=by
 unfold PySem.W.takerIn
 rw [show PySem.W.findIn K (.ref C) f=some none from n]
 rfl
structure Meth (K:PySem.W.Frag) (C:Addr) (m:Str) (f:Addr):Prop where
 at_:PySem.W.findIn K (.ref C) m=some (some (.ref f))
 fn:PySem.W.isFn K (.ref f)=true
 kp:PySem.W.keepIn K (.ref f)=true
section
variable {X:Cx} {pins:List (Addr × Obj)} {σ:St} {H:Hp} {s:Shared} {a C dx:Addr} {fs:List (Str × V)} {f:Str} {v:V} {A:Around} {E:Value→Shared→Prop}
theorem v8 {b:Bool} {Q:Value→Shared→Prop} (I:Inv X pins σ H s) (e:H a=some (.ins C dx fs)) (c:mL X.K C) (n:aE X.K C f) (l:fs.lookup f=some v)
  (h:∀ u s',Inv X pins σ H s'→RelV v u→Q u s'):wpAny (model X.prog X.w) A (getAttr (.ref a) f b) Q E s:=by
 obtain ⟨mA,O,r,_,_,_⟩:=m5 I.hok e
 obtain ⟨u,hu,ru⟩:=pI.some_of (v:=v) (o:=mA f) (by rw [← l];exact r f)
 exact get_map I.kU O (c.get f) c.hd n hu (za ru) (h u _ (I.tok _) ru)
theorem oh {m:Str} {g:Addr} {pl:Sem Bool} {Q:Value × List Value→Shared→Prop} (I:Inv X pins σ H s) (e:H a=some (.ins C dx fs)) (c:mL X.K C) (k:Meth X.K C m g) (l:fs.lookup m=none)
  (h:Q (.ref g,[.ref a]) s):wpAny (model X.prog X.w) A (getMethod (.ref a) m pl) Q E s:=by
 obtain ⟨mA,O,r,_,_,_⟩:=m5 I.hok e
 have hn:mA m=none:=pI.none_of (by rw [← l];exact r m)
 exact A4 I.kU O (c.get m) k.at_ k.fn hn h
theorem wY {y:V} {u:Value} {Q:Unit→Shared→Prop} (I:Inv X pins σ H s) (e:H a=some (.ins C dx fs)) (c:mL X.K C) (n:aE X.K C f) (hl:fs.length < 1000) (ry:RelV y u)
  (h:∀ s',Inv X pins σ (upd H a (.ins C dx (dW f y fs))) s'→Q () s'):wpAny (model X.prog X.w) A (setAttr (.ref a) f u) Q E s:=by
 obtain ⟨mA,O,r,wi,_,ho⟩:=m5 I.hok e
 have hz:(fs.map (·.1)).length≤sizeLine:=by rw [List.length_map,sizeLine_eq];omega
 refine EV I.kU O c.sa c.po n.Kz c.hd wi hz fun h' O' sb=>h _ ?_
 have hd:∃ o,h'.get? dx=some o:=let ⟨o,_,_,e',_⟩:=O'.ns;⟨o,e'⟩
 refine I.write (x:=a) (e:=dx) (by rw [e];exact True.intro) (.inr ho) (fun b q hb z=>(sb.2 b hb).trans z) hd ?_
 refine ⟨by rw [aG O.ne];exact ho,?_,O.ne,O'.obj,_,O'.ns,fun g=>?_,fun g hg=>?_⟩
 ·have:=mB f y fs;omega
 ·show pI ((dW f y fs).lookup g) (if g=f then some u else mA g)
  rw [mC]
  by_cases q:g=f
  ·rw [if_pos q,if_pos q];exact ry
  ·rw [if_neg q,if_neg q];exact r g
 ·by_cases q:g=f
  ·rw [q];exact (lV f y fs).1
  ·refine (lV f y fs).2 g (wi g fun z=>hg ?_)
   show (if g=f then some u else mA g)=none
   rw [if_neg q];exact z
theorem Inv.made (I:Inv X pins σ H s):Inv X pins σ (upd (upd H s.heap.objs.size (.own (s.heap.objs.size + 1))) (s.heap.objs.size + 1) (.ins C s.heap.objs.size []))
  { s with heap:=(s.heap.push PySem.W.emptyDict).push (PySem.W.instObj C s.heap.objs.size) }:=by
 have e1:(s.heap.push PySem.W.emptyDict).get? s.heap.objs.size=some PySem.W.emptyDict:=Heap.get?_push_size s.heap rfl
 have e2:((s.heap.push PySem.W.emptyDict).push (PySem.W.instObj C s.heap.objs.size)).get? (s.heap.objs.size + 1)=some (PySem.W.instObj C s.heap.objs.size):=by
  have:=Heap.get?_push_size (s.heap.push PySem.W.emptyDict) (o:=PySem.W.instObj C s.heap.objs.size) rfl
  rwa [Heap.size_push] at this
 have e3:(s.heap.push PySem.W.emptyDict).Ns s.heap.objs.size (fun _=>none):=⟨PySem.W.emptyDict,#[],_,e1,rfl,(fun e he=>absurd he (by simp)),fun _=>rfl⟩
 have I1:=I.laid (a:=s.heap.objs.size) (o:=.own (s.heap.objs.size + 1)) (h':=s.heap.push PySem.W.emptyDict) (t':=s.toks) (fun b u q=>Heap.get?_push_of_some _ q) (Nat.le_refl _) ⟨_,e1⟩
 refine I1.laid (a:=s.heap.objs.size + 1) (o:=.ins C s.heap.objs.size []) (t':=s.toks) (fun b u q=>Heap.get?_push_of_some _ q) (Nat.le_of_eq (Heap.size_push _ _)) ?_
 have ne:s.heap.objs.size≠s.heap.objs.size + 1:=Nat.ne_of_lt (Nat.lt_succ_self _)
 refine ⟨by rw [aG ne,aA],Nat.zero_le _,ne,e2,fun _=>none,(Heap.Ns1.of_empty e3).at fun o q=>Heap.get?_push_of_some _ q,fun _=>True.intro,fun y hy=>absurd rfl hy⟩
theorem Dr {prog:Program} {w:World} {env:Env} {e:Expr} {f:Str} {pos:Pos} {s:Shared} {Q:Value→Shared→Prop} (hb:attributeBase e f env (eval e env)=eval e env)
  (h:wpAny (model prog w) A (eval e env) (fun o s₁=>wpAny (model prog w) A (getAttr o f true) Q E s₁) E s):wpAny (model prog w) A (eval (.Attribute e f pos) env) Q E s :=
 Attribute_any_ h (by rw [arm_eval_Attribute,hb])
end
def Mw (K:PySem.W.Frag) (ta:TE) (f:Str):TE:=fun σ H Q=>ta σ H fun x H1=>∃ a C dx fs v,x=.ref a∧H1 a=some (.ins C dx fs)∧mL K C∧aE K C f∧fs.lookup f=some v∧Q v H1
def Ms (K:PySem.W.Frag) (ta tv:TE) (f:Str):TS:=fun D σ H=>tv σ H fun y H1=>ta σ H1 fun x H2=>∃ a C dx fs,x=.ref a∧H2 a=some (.ins C dx fs)∧mL K C∧aE K C f∧fs.length < 1000 ∧
 D.nx σ (upd H2 a (.ins C dx (dW f y fs)))
section
variable {X:Cx} {o e value:Expr} {f:Str} {pos pos' tpos:Pos} {ta tv:TE}
theorem Ho (he:PE X e ta) (hb:attributeBase e f X.env (eval e X.env)=eval e X.env):PE X (.Attribute e f pos) (Mw X.K ta f):=by
 intro pins s σ H Q I h
 refine Dr hb (bM (he pins s σ H _ I h) fun u s1 ⟨x,H1,I1,rx,a,C,dx,fs,v,ex,ea,c,n,l,q⟩=>?_)
 subst ex
 obtain rfl:u=Value.ref a:=rx
 exact v8 I1 ea c n l fun u' s2 I2 ru=>⟨v,H1,I2,ru,q⟩
theorem Ht (ha:PE X o ta) (hv:PE X value tv) (hs:swapsWith value (some (.Attribute o f pos')) pos.line X.env=pure false):PS X (.Assign [.Attribute o f pos'] value pos) (Ms X.K ta tv f):=by
 intro pins s σ H D I h
 refine plainObj_wpAny_Assign_Attribute (bM (hv pins s σ H _ I h) fun u s1 ⟨y,H1,I1,ry,q⟩=>bM (ha pins s1 σ H1 _ I1 q) fun ov s2 ⟨x,H2,I2,rx,a,C,dx,fs,ex,ea,c,n,l,q2⟩=>?_) hs
 subst ex
 obtain rfl:ov=Value.ref a:=rx
 exact wY I2 ea c n l ry fun s3 I3=>⟨σ,_,I3,q2⟩
end
section
variable {X:Cx} {pins:List (Addr × Obj)} {σ:St} {H:Hp} {s:Shared} {A:Around} {E:Value→Shared→Prop} {Q:Value→Shared→Prop} {c:Value} {b:Bool}
inductive fu (K:PySem.W.Frag) (H:Hp):V→Value→Prop where
 | non:fu K H .non (.type "NoneType")
 | bl (x:Bool):fu K H (.bl x) (.type "bool")
 | int (i:Int):fu K H (.int i) (.type "int")
 | str (x:Str):fu K H (.str x) (.type "str")
 | flt (x:UInt64):fu K H (.flt x) (.type "float")
 | lst {a:Addr} {xs:List V} (e:H a=some (.lst xs)):fu K H (.ref a) (.type "list")
 | pK {a:Addr} {o:Obj} {xs:List V} (e:H a=some (.pK o (.lst xs))):fu K H (.ref a) (.type "list")
 | tup {a:Addr} {xs:List V} (e:H a=some (.tup xs)):fu K H (.ref a) (.type "tuple")
 | dK {a:Addr} {kvs:List (Key × V)} (e:H a=some (.dK kvs)):fu K H (.ref a) (.type "dict")
 | dE {a:Addr} {kvs:List (Str × V)} {ep:Nat} (e:H a=some (.dE kvs ep)):fu K H (.ref a) (.type "dict")
 | ins {a C dx:Addr} {fs:List (Str × V)} (e:H a=some (.ins C dx fs)) (cl:mL K C) (ha:PySem.W.findIn K (.ref C) "__class__"=some (some (.builtin "object.__class__")))
   (hn:PySem.W.specialIn K (.builtin "object.__class__") "__get__"=some (some (.builtin "getset_descriptor.__get__"))) (htk:PySem.W.takesIn K (.builtin "object.__class__")=some true)
   (hm:PySem.W.mroIn K C (.type "object")=some true):fu K H (.ref a) (.ref C)
theorem zg {x:V} {u t:Value} (I:Inv X pins σ H s) (rx:RelV x u) (ty:fu X.K H x t) (e:PySem.W.kitOne X.K t c=some b) (h:∀ tk,Q (.bool b) { s with toks:=tk }) :
  wpAny (model X.prog X.w) A (call (.builtin "isinstance") [u,c]) Q E s:=by
 cases ty with
 | non=>cases (show u=Value.none from rx);exact PySem.W.kia_one PySem.W.kitx_none I.kU True.intro e (fun z=>nomatch z) h
 | bl y=>cases (show u=Value.bool y from rx);exact PySem.W.kia_one PySem.W.kitx_bool I.kU True.intro e (fun z=>nomatch z) h
 | int i=>obtain ⟨t,q⟩:=(show ∃ t,u=Value.int i t from rx);cases q;exact PySem.W.kia_one PySem.W.kitx_int I.kU True.intro e (fun z=>nomatch z) h
 | str y=>obtain ⟨t,q⟩:=(show ∃ t,u=Value.str y t from rx);cases q;exact PySem.W.kia_one PySem.W.kitx_str I.kU True.intro e (fun z=>nomatch z) h
 | flt y=>obtain ⟨t,q⟩:=(show ∃ t,u=Value.float y t from rx);cases q;exact PySem.W.kia_one PySem.W.kitx_float I.kU True.intro e (fun z=>nomatch z) h
 | @lst a xs ea =>
  cases (show u=Value.ref a from rx)
  obtain ⟨_,_,n,_,h1⟩:=(show cu X.prog X.w H s.heap a (.lst xs) from I.hok a _ ea)
  exact PySem.W.kia_one PySem.W.kitx_list I.kU ⟨_,h1,rfl⟩ e (fun z=>nomatch z) h
 | @pK a ob xs ea =>
  cases (show u=Value.ref a from rx)
  obtain ⟨_,_,_,n,_,h1⟩:=(show cu X.prog X.w H s.heap a (.pK ob (.lst xs)) from I.hok a _ ea)
  exact PySem.W.kia_one PySem.W.kitx_list I.kU ⟨_,h1,rfl⟩ e (fun z=>nomatch z) h
 | @tup a xs ea =>
  cases (show u=Value.ref a from rx)
  obtain ⟨_,_,_,p⟩:=(show cu X.prog X.w H s.heap a (.tup xs) from I.hok a _ ea)
  obtain ⟨o,h1,h2,_⟩:=p
  exact PySem.W.kia_one PySem.W.kitx_tuple I.kU ⟨o,h1,h2⟩ e (fun z=>nomatch z) h
 | @dK a kvs ea =>
  cases (show u=Value.ref a from rx)
  obtain ⟨_,_,vs,_,p⟩:=(show cu X.prog X.w H s.heap a (.dK kvs) from I.hok a _ ea)
  obtain ⟨o,es,ep,h1,h2,_⟩:=p
  exact PySem.W.kia_one PySem.W.kitx_dict I.kU ⟨o,h1,h2.1⟩ e (fun z=>nomatch z) h
 | @dE a kvs ep ea =>
  cases (show u=Value.ref a from rx)
  obtain ⟨_,_,vs,_,o,es,h1,h2,_⟩:=(show cu X.prog X.w H s.heap a (.dE kvs ep) from I.hok a _ ea)
  exact PySem.W.kia_one PySem.W.kitx_dict I.kU ⟨o,h1,h2.1⟩ e (fun z=>nomatch z) h
 | @ins a C dx fs ea cl ha hn htk hm =>
  cases (show u=Value.ref a from rx)
  obtain ⟨mA,O,_⟩:=m5 I.hok ea
  obtain ⟨od,J,_⟩:=O.look
  exact PySem.W.kia_one (PySem.W.kitx_own (cl.get _) cl.hd ha hn htk hm) I.kU J e (fun z=>nomatch z) h
end
end L2
namespace L2
open PySem PySem.Spec PyProof.Rows
structure bI (k:Nat) (A:Around):Prop where
 hd:A.handled=none
 dp:A.depth + 3 * k + 5 < recursionLimit
 un:A.units + 16 * k + 200 < cLine
theorem bI.mono {j k:Nat} {A:Around} (r:bI k A) (h:j≤k):bI j A:=⟨r.hd,by have:=r.dp;omega,by have:=r.un;omega⟩
theorem bI.deeper {k:Nat} {A:Around} (r:bI (k + 1) A) (env:Env):bI k (A.deeper env) :=
 ⟨r.hd,by have:=r.dp;show A.depth + 1 + 3 * k + 5 < _;omega,by have:=r.un;show A.units + 3 + 16 * k + 200 < _;omega⟩
theorem wm {A:Around} {C:Addr} {us:List Value} {kw:List (Str × Value)}:(A.under (.builtin "type.__call__" ⟨.ref C :: us,kw⟩)).depth=A.depth + 1:=by
 first | rfl | simp [Around.under,Code.weight,Code.isCreation,Code.isGuard,Code.isCaller,Code.frames,Code.isFrame,guardIds]
theorem wo {A:Around} {C:Addr} {us:List Value} {kw:List (Str × Value)}:(A.under (.builtin "type.__call__" ⟨.ref C :: us,kw⟩)).units=A.units + 1:=by
 first | rfl | simp [Around.under,Code.cUnits,Code.frames,Code.isFrame]
theorem bI.make {k:Nat} {A:Around} (r:bI (k + 1) A) (C:Addr) (us:List Value) (kw:List (Str × Value)):bI k (A.under (.builtin "type.__call__" ⟨.ref C :: us,kw⟩)) :=
 ⟨r.hd,by have:=r.dp;rw [wm];omega,by have:=r.un;rw [wo];omega⟩
theorem bI.depth {k:Nat} {A:Around} (r:bI k A):A.depth < recursionLimit:=by have:=r.dp;omega
theorem bI.H_ {k:Nat} {A:Around} (r:bI k A):A.units < cLine:=by have:=r.un;omega
def xf:TA:=fun _ H Q=>Q [] H
def vn (ta:TE) (tr:TA):TA:=fun σ H Q=>ta σ H fun x H1=>tr σ H1 fun xs H2=>Q (x :: xs) H2
section
variable {X:Cx} {e:Expr} {es:List Expr} {te:TE} {t:TA} {pos:Pos}
theorem bB:PA X [] xf:=fun _ _ _ _ H Q I h=>Calls.spliced_nil ⟨[],H,I,.nil,h⟩
theorem aR (ha:PE X e te) (hr:PA X es t) (hs:starEach (e :: es) X.env=(false,eval e X.env) :: starEach es X.env:=by rfl):PA X (e :: es) (vn te t):=by
 intro pos pins s σ H Q I h
 rw [hs]
 show wpAny _ _ (spliced ((false,eval e X.env) :: backTo pos (starEach es X.env))) _ _ s
 refine Calls.spliced_cons (bM (ha pins s σ H _ I h) fun u s1 ⟨x,H1,I1,r1,q1⟩=>?_)
 exact bM (hr pos pins s1 σ H1 _ I1 q1) fun us s2 ⟨xs,H2,I2,r2,q2⟩=>⟨x :: xs,H2,I2,.cons r1 r2,q2⟩
def E7 (t:TA):TE:=fun σ H Q=>t σ H fun xs H1=>xs.length≤sizeLine∧∀ p,H1 p=none→Q (.ref p) (upd H1 p (.tup xs))
def CU (t:TA):TE:=fun σ H Q=>t σ H fun xs H1=>xs.length≤sizeLine∧∀ p,H1 p=none→Q (.ref p) (upd H1 p (.lst xs))
theorem oN {x1} (h:PA X es t):PE X (.Tuple es x1 pos) (E7 t):=by
 intro pins s σ H Q I hq
 refine wpAny_Tuple_spliced (bM (h pos pins s σ H _ I hq) fun us s1 ⟨xs,H1,I1,r,z,q⟩=>⟨by rw [← r.length];exact z,?_⟩)
 have hf:H1 s1.heap.objs.size=none:=I1.hok.fresh (Nat.le_refl _)
 refine ⟨.ref s1.heap.objs.size,upd H1 s1.heap.objs.size (.tup xs),I1.laid (t':=s1.toks) (fun b u e=>Heap.get?_push_of_some _ e) (Nat.le_refl _) ?_,rfl,q _ hf⟩
 exact ⟨z,us,r,⟨_,Heap.get?_push_size _ rfl,rfl,_,rfl⟩⟩
theorem jl (h:PA X es t):PE X (.List es pos) (CU t):=by
 intro pins s σ H Q I hq
 refine wpAny_List_spliced (bM (h pos pins s σ H _ I hq) fun us s1 ⟨xs,H1,I1,r,z,q⟩=>⟨by rw [← r.length];exact z,?_⟩)
 have hf:H1 s1.heap.objs.size=none:=I1.hok.fresh (Nat.le_refl _)
 refine ⟨.ref s1.heap.objs.size,upd H1 s1.heap.objs.size (.lst xs),I1.laid (t':=s1.toks) (fun b u e=>Heap.get?_push_of_some _ e) (Nat.le_refl _) ?_,rfl,q _ hf⟩
 exact ⟨z,us,0,r,Heap.get?_push_size _ rfl⟩
end
abbrev Sp:=List V→Hp→VK→XK→Prop
abbrev pj:=List Env→Hp→Shared→XK→Value→Shared→Prop
structure vL (P:Program) (w:World) (K:PySem.W.Frag) (mg:Str→Option Value) (base:Heap) (A:Around) (outer:List Env) (s:Shared) (H:Hp):Prop where
 frames:A.frames=some outer
 mod:Mod K mg base
 bs:∀ b o,base.get? b=some o→s.heap.get? b=some o∧H b=none
 bsz:base.objs.size≤s.heap.objs.size
 lU:s.heap.FunFrames base outer
 frf:∀ b∈iN outer,H b=none
 hok:ku P w H s.heap
 bare:AllBare s.gens
def CE (outer:List Env) (P:Program) (w:World) (H:Hp) (s:Shared) (Q:VK) (u:Value) (s':Shared):Prop :=
 ∃ v H',s'.os=s.os∧AllBare s'.gens∧Un (iN outer) [] H H' s.heap s'.heap∧ku P w H' s'.heap∧RelV v u∧Q v H'
def CR (CX:pj) (outer:List Env) (P:Program) (w:World) (H:Hp) (s:Shared) (Q:VK) (E:XK) (r:Result) (s':Shared):Prop :=
 match r with
 | .ok (.ret u)=>CE outer P w H s Q u s'
 | .ok _=>False
 | .error e=>CX outer H s E e s'
structure aQ (P:Program) (w:World) (K:PySem.W.Frag) (mg:Str→Option Value) (base:Heap) (CX:pj) (k:Nat) (f:Addr) (fd:FuncData) (ps:List Str) (sp:Sp):Prop where
 len:∀ vs H Q E,sp vs H Q E→vs.length=ps.length
 run:∀ (A:Around) (outer:List Env) (s:Shared) (H:Hp) (args:Args) (us:List Value) (vs:List V) (Q:VK) (E:XK),bI k A→vL P w K mg base A outer s H→BindsTo s fd args (ps.zip us)→Vals vs us→sp vs H Q E →
  codeAny (model P w) A (.call (.ref f) args) (CR CX outer P w H s Q E) s
theorem aQ.imp {P:Program} {w:World} {K:PySem.W.Frag} {mg:Str→Option Value} {base:Heap} {CX:pj} {k:Nat} {f:Addr} {fd:FuncData} {ps:List Str} {sp sp':Sp} (F:aQ P w K mg base CX k f fd ps sp)
  (h:∀ vs H Q E,sp' vs H Q E→sp vs H Q E):aQ P w K mg base CX k f fd ps sp' :=
 ⟨fun vs H Q E q=>F.len vs H Q E (h _ _ _ _ q),fun A outer s H args us vs Q E hr he hb hv hs=>F.run A outer s H args us vs Q E hr he hb hv (h _ _ _ _ hs)⟩
theorem vL.make {P:Program} {w:World} {K:PySem.W.Frag} {mg:Str→Option Value} {base:Heap} {A:Around} {outer:List Env} {s:Shared} {H:Hp} (e:vL P w K mg base A outer s H) (C:Addr) (us:List Value) (kw:List (Str × Value)) :
  vL P w K mg base (A.under (.builtin "type.__call__" ⟨.ref C :: us,kw⟩)) outer s H:=⟨by first | exact e.frames | (simpa [Around.under,Code.envs,Code.isFrame,pushEnvs] using e.frames),e.mod,e.bs,e.bsz,e.lU,e.frf,e.hok,e.bare⟩
section
variable {X:Cx} {pins:List (Addr × Obj)} {σ:St} {H:Hp} {s s':Shared}
theorem Inv.IS (I:Inv X pins σ H s):vL X.prog X.w X.K X.mg X.base X.A X.stack s H :=
 ⟨I.ok.frames,I.ok.mod,I.bs,Nat.le_trans I.ok.bsz I.sz,I.stack,I.tJ,I.hok,I.bare⟩
theorem Inv.after {Q:VK} {u:Value} (I:Inv X pins σ H s) (h:CE X.stack X.prog X.w H s Q u s'):EP X pins σ Q u s':=by
 obtain ⟨v,H',os,bare,un,hok,r,q⟩:=h
 obtain ⟨hh,g,d,t,os'⟩:=s'
 obtain rfl:os'=s.os:=os
 exact ⟨v,H',I.call (h':=hh) (g':=g) (d':=d) (t':=t) (ch:=[]) un hok bare (fun b z=>absurd z (by simp)),r,q⟩
end
def pe (sp:Sp) (dvs:List V) (E:XK) (t:TA):TE:=fun σ H Q=>t σ H fun vs H1=>sp (vs ++ dvs) H1 Q E
def CW (C:Addr) (m:Str) (sp:Sp) (dvs:List V) (E:XK) (ta:TE) (t:TA):TE:=fun σ H Q=>ta σ H fun x H1=>∃ a dx fs,x=.ref a∧H1 a=some (.ins C dx fs)∧fs.lookup m=none ∧
 t σ H1 fun vs H2=>sp (x :: (vs ++ dvs)) H2 Q E
def CV (C:Addr) (sp:Sp) (dvs:List V) (E:XK) (t:TA):TE:=fun σ H Q=>t σ H fun vs H1=>∀ x dx,H1 x=none→H1 dx=none→dx≠x →
 sp (.ref x :: (vs ++ dvs)) (upd (upd H1 dx (.own x)) x (.ins C dx [])) (fun v H2=>v=.non∧Q (.ref x) H2) E
def Binds (K:PySem.W.Frag) (fd:FuncData) (ps:List Str) (ds:List Value):Prop :=
 ∀ (s:Shared) (us:List Value),K.In s.heap→(us ++ ds).length=ps.length→BindsTo s fd ⟨us,[]⟩ (ps.zip (us ++ ds))
theorem Binds.all {K:PySem.W.Frag} {fd:FuncData} {ps:List Str} (h:∀ us:List Value,us.length=ps.length→bindArgs fd ⟨us,[]⟩=pure (ps.zip us)):Binds K fd ps []:=fun s us _ hl=>by
 rw [List.append_nil] at hl ⊢
 exact .of_eq (h us hl)
def Passes (CX:pj) (X:Cx) (E:XK):Prop:=∀ (pins:List (Addr × Obj)) (σ:St) (H:Hp) (s:Shared) (e:Value) (s':Shared),Inv X pins σ H s→CX X.stack H s E e s'→X.xe e s'
section
variable {X:Cx} {CX:pj} {k:Nat} {f C:Addr} {fd:FuncData} {ps:List Str} {sp:Sp} {dvs:List V} {ds:List Value} {E:XK} {x m:Str} {p pos apos:Pos} {e o:Expr} {es:List Expr} {ta:TE} {t:TA}
theorem wW {pins:List (Addr × Obj)} {σ:St} {H:Hp} {s:Shared} {Q:VK} {us:List Value} {vs:List V} (F:aQ X.prog X.w X.K X.mg X.base CX k f fd ps sp) (hr:bI k X.A) (hb:Binds X.K fd ps ds) (hd:Vals dvs ds) (hx:Passes CX X E)
  (I:Inv X pins σ H s) (r:Vals vs us) (h:sp (vs ++ dvs) H Q E):wpAny (model X.prog X.w) X.A (call (.ref f) us) (EP X pins σ Q) X.xe s:=by
 have r2:Vals (vs ++ dvs) (us ++ ds):=r.append hd
 have hl:(us ++ ds).length=ps.length:=by rw [← r2.length];exact F.len _ _ _ _ h
 refine wpAny_call (codeAny_mono (F.run X.A X.stack s H ⟨us,[]⟩ (us ++ ds) (vs ++ dvs) Q E hr I.IS (hb s us I.kU hl) r2 h) fun r s' hq=>?_)
 cases r with
 | error e=>exact hx pins σ H s e s' I hq
 | ok fl =>
  cases fl with
  | ret u=>exact I.after hq
  | next=>exact False.elim hq
  | brk=>exact False.elim hq
  | cont=>exact False.elim hq
theorem xZ (F:aQ X.prog X.w X.K X.mg X.base CX k f fd ps sp) (hr:bI k X.A) (hg:Gl X x) (hm:X.mg x=some (.ref f)) (hk:PySem.W.keepIn X.K (.ref f)=true) (hb:Binds X.K fd ps ds) (hd:Vals dvs ds) (hx:Passes CX X E)
  (ha:PA X (e :: es) t) (hdb:(x == ("__debug__":Str))=false:=by decide) (he:starEach (e :: es) X.env=(false,eval e X.env) :: starEach es X.env:=by rfl) (hpl:(backTo pos (starEach es X.env)).any (·.1)=false:=by rfl) :
  PE X (.Call (.Name x p) (e :: es) [] pos) (pe sp dvs E t):=by
 intro pins s σ H Q I h
 refine wpAny_Call_Name_kw (kW I hg hm ?_ hdb)
 refine PySem.W.callWith_K (h₀:=X.base) I.ok.mod.kin hk (bM (ha pos pins s σ H _ I h) fun us s1 ⟨vs,H1,I1,r,q⟩=>⟨I1.kU,?_⟩) he hpl
 exact wW F hr hb hd hx I1 r q
theorem Ee {pl:Sem Bool} (he:PE X o ta) (c:mL X.K C) (hm:Meth X.K C m f) (F:aQ X.prog X.w X.K X.mg X.base CX k f fd ps sp) (hr:bI k X.A) (hb:Binds X.K fd ps ds) (hd:Vals dvs ds) (hx:Passes CX X E) (ha:PA X (e :: es) t)
  (hst:starEach (e :: es) X.env=(false,eval e X.env) :: starEach es X.env:=by rfl) (hpl:(backTo pos (starEach es X.env)).any (·.1)=false:=by rfl)
  (ht:eval (.Call (.Attribute o m apos) (e :: es) [] pos) X.env=(do
   let ov ← eval o X.env
   standAt apos.atName
   let (f,first) ← holding [ov] (getMethod ov m pl)
   callWith pos f first (backTo pos (starEach (e :: es) X.env)) (backToKw pos (keywordEach [] X.env))):=by rfl) :
  PE X (.Call (.Attribute o m apos) (e :: es) [] pos) (CW C m sp dvs E ta t):=by
 intro pins s σ H Q I h
 refine PySem.W.methodCall_KW (pl:=pl) (bM (he pins s σ H _ I h) fun u s1 ⟨x,H1,I1,rx,a,dx,fs,ex,ea,l,q⟩=>?_) ht
 subst ex
 obtain rfl:u=Value.ref a:=rx
 refine oh I1 ea c hm l ?_
 refine PySem.W.callWith_K (first:=[.ref a]) (h₀:=X.base) I.ok.mod.kin hm.kp (bM (ha pos pins s1 σ H1 _ I1 q) fun us s2 ⟨vs,H2,I2,r,q2⟩=>⟨I2.kU,?_⟩) hst hpl
 exact wW (us:=.ref a :: us) (vs:=.ref a :: vs) F hr hb hd hx I2 (.cons rfl r) q2
theorem BZ {pl:Sem Bool} (he:PE X o ta) (c:mL X.K C) (hm:Meth X.K C m f) (F:aQ X.prog X.w X.K X.mg X.base CX k f fd ps sp) (hr:bI k X.A) (hb:Binds X.K fd ps ds) (hd:Vals dvs ds) (hx:Passes CX X E)
  (ht:eval (.Call (.Attribute o m apos) [] [] pos) X.env=(do
   let ov ← eval o X.env
   standAt apos.atName
   let (f,first) ← holding [ov] (getMethod ov m pl)
   callWith pos f first (backTo pos (starEach [] X.env)) (backToKw pos (keywordEach [] X.env))):=by rfl) :
  PE X (.Call (.Attribute o m apos) [] [] pos) (CW C m sp dvs E ta xf):=by
 intro pins s σ H Q I h
 refine PySem.W.methodCall_KW (pl:=pl) (bM (he pins s σ H _ I h) fun u s1 ⟨x,H1,I1,rx,a,dx,fs,ex,ea,l,q⟩=>?_) ht
 subst ex
 obtain rfl:u=Value.ref a:=rx
 refine oh I1 ea c hm l ?_
 exact PySem.W.callWith_K0 (first:=[.ref a]) I1.kU hm.kp (wW (us:=[.ref a]) (vs:=[.ref a]) F hr hb hd hx I1 (.cons rfl .nil) q)
structure Mk (K:PySem.W.Frag) (C f:Addr):Prop where
 makes:PySem.W.makesIn K C=true
 init:PySem.W.findIn K (.ref C) "__init__"=some (some (.ref f))
 fn:PySem.W.isFn K (.ref f)=true
 kp:PySem.W.keepIn K (.ref C)=true
theorem uX {pins:List (Addr × Obj)} {σ:St} {H:Hp} {s:Shared} {Q:VK} {us:List Value} {vs:List V} (M:Mk X.K C f) (F:aQ X.prog X.w X.K X.mg X.base CX k f fd ps sp) (hr:bI (k + 1) X.A) (hb:Binds X.K fd ps ds) (hd:Vals dvs ds)
  (hx:Passes CX X E) (I:Inv X pins σ H s) (r:Vals vs us)
  (h:∀ x dx,H x=none→H dx=none→dx≠x→sp (.ref x :: (vs ++ dvs)) (upd (upd H dx (.own x)) x (.ins C dx [])) (fun v H2=>v=.non∧Q (.ref x) H2) E) :
  wpAny (model X.prog X.w) X.A (call (.ref C) us) (EP X pins σ Q) X.xe s:=by
 have hq:=h (s.heap.objs.size + 1) s.heap.objs.size (I.hok.fresh (Nat.le_succ _)) (I.hok.fresh (Nat.le_refl _)) (Nat.ne_of_lt (Nat.lt_succ_self _))
 have I2:=Inv.made (C:=C) I
 have r2:Vals (V.ref (s.heap.objs.size + 1) :: (vs ++ dvs)) (Value.ref (s.heap.objs.size + 1) :: (us ++ ds)):=.cons rfl (r.append hd)
 have hl:(Value.ref (s.heap.objs.size + 1) :: us ++ ds).length=ps.length:=by
  have e:=r2.length
  rw [F.len _ _ _ _ hq] at e
  exact e.symm
 refine wpAny_call (Bu (f:=f) I.kU M.makes M.init (beq_iff_eq.mp M.fn) (codeAny_mono (F.run _ X.stack _ _ ⟨Value.ref (s.heap.objs.size + 1) :: us,[]⟩ (Value.ref (s.heap.objs.size + 1) :: (us ++ ds)) _ _ E (hr.make C us [])
  (I2.IS.make C us []) (hb _ (Value.ref (s.heap.objs.size + 1) :: us) I2.kU hl) r2 hq) fun r s' hq'=>?_))
 cases r with
 | error e=>exact hx pins σ _ _ e s' I2 hq'
 | ok fl =>
  cases fl with
  | ret u =>
   obtain ⟨v,H',I3,rv,ev,q3⟩:=I2.after hq'
   subst ev
   exact ⟨rv,⟨V.ref (s.heap.objs.size + 1),H',I3,rfl,q3⟩⟩
  | next=>exact False.elim hq'
  | brk=>exact False.elim hq'
  | cont=>exact False.elim hq'
theorem Ed (M:Mk X.K C f) (F:aQ X.prog X.w X.K X.mg X.base CX k f fd ps sp) (hr:bI (k + 1) X.A) (hg:Gl X x) (hm:X.mg x=some (.ref C)) (hb:Binds X.K fd ps ds) (hd:Vals dvs ds) (hx:Passes CX X E)
  (ha:PA X (e :: es) t) (hdb:(x == ("__debug__":Str))=false:=by decide) (he:starEach (e :: es) X.env=(false,eval e X.env) :: starEach es X.env:=by rfl) (hpl:(backTo pos (starEach es X.env)).any (·.1)=false:=by rfl) :
  PE X (.Call (.Name x p) (e :: es) [] pos) (CV C sp dvs E t):=by
 intro pins s σ H Q I h
 refine wpAny_Call_Name_kw (kW I hg hm ?_ hdb)
 refine PySem.W.callWith_K (h₀:=X.base) I.ok.mod.kin M.kp (bM (ha pos pins s σ H _ I h) fun us s1 ⟨vs,H1,I1,r,q⟩=>⟨I1.kU,?_⟩) he hpl
 exact uX M F hr hb hd hx I1 r q
theorem BY (M:Mk X.K C f) (F:aQ X.prog X.w X.K X.mg X.base CX k f fd ps sp) (hr:bI (k + 1) X.A) (hg:Gl X x) (hm:X.mg x=some (.ref C)) (hb:Binds X.K fd ps ds) (hd:Vals dvs ds) (hx:Passes CX X E)
  (hdb:(x == ("__debug__":Str))=false:=by decide):PE X (.Call (.Name x p) [] [] pos) (CV C sp dvs E xf):=by
 intro pins s σ H Q I h
 refine wpAny_Call_Name_kw (kW I hg hm ?_ hdb)
 exact PySem.W.callWith_K0 I.kU M.kp (uX (us:=[]) M F hr hb hd hx I .nil h)
end
section
variable {X:Cx} {CX:pj} {k:Nat} {f C:Addr} {fd:FuncData} {ps ks:List Str} {sp:Sp} {E:XK} {x m:Str} {p pos apos kpos:Pos} {e o:Expr} {es:List Expr} {kws:List Keyword} {te ta:TE} {t tk:TA} {nm:Option Str}
variable {g:List Value→List Value→List Value} {gV:List V→List V→List V}
end
structure aw (N P:List Str) (sc:Scope):Prop where
 kind:sc.kind=.function
 co:sc.isCoroutine=false
 gen:sc.isGenerator=false
 nd:N.Nodup
 pre:N.take P.length=P
 par:∀ x∈P,sc.names.lookup x=some .local∨sc.names.lookup x=some .cell
 nofree:∀ y∈sc.names,y.2≠.free
theorem qm {kindOf:Str→Option NameKind} {x:Str}:∀ {binds:List (Str × Value)} {m:Str→Option Value},(∀ v,(x,v) ∉ binds)→bindL kindOf binds m x=m x
 | [],_,_=>rfl
 | (n,v) :: r,m,h=>by
  unfold bindL
  rw [qm fun w hw=>h w (List.mem_cons_of_mem _ hw)]
  split
  ·have:x≠n:=by rintro rfl;exact h v List.mem_cons_self
   simp [this]
  ·rfl
theorem qk {kindOf:Str→Option NameKind} {x:Str}:∀ {binds:List (Str × Value)} {m:Str→Option Value},(∀ v,(x,v) ∉ binds)→bindC kindOf binds m x=m x
 | [],_,_=>rfl
 | (n,v) :: r,m,h=>by
  unfold bindC
  rw [qk fun w hw=>h w (List.mem_cons_of_mem _ hw)]
  split
  ·rfl
  ·have:x≠n:=by rintro rfl;exact h v List.mem_cons_self
   simp [this]
theorem ql {kindOf:Str→Option NameKind} {x:Str} {v:Value}:∀ {P:List Str} {vs:List Value} {i:Nat} {m:Str→Option Value},P.Nodup→P[i]?=some x→vs[i]?=some v→kindOf x=some .local →
  bindL kindOf (P.zip vs) m x=some v
 | [],_,_,_,_,h,_,_=>by simp at h
 | _ :: _,[],_,_,_,_,h,_=>by simp at h
 | p :: P,w :: vs,0,m,nd,h1,h2,hk=>by
  simp at h1 h2;subst h1;subst h2
  show bindL kindOf ((p,w) :: P.zip vs) m p=_
  unfold bindL
  rw [qm fun v hv=>(List.nodup_cons.mp nd).1 (List.of_mem_zip hv).1,if_pos hk]
  simp
 | p :: P,w :: vs,i + 1,m,nd,h1,h2,hk=>by
  show bindL kindOf ((p,w) :: P.zip vs) m x=_
  unfold bindL
  exact ql (i:=i) (List.nodup_cons.mp nd).2 (by simpa using h1) (by simpa using h2) hk
theorem qj {kindOf:Str→Option NameKind} {x:Str} {v:Value}:∀ {P:List Str} {vs:List Value} {i:Nat} {m:Str→Option Value},P.Nodup→P[i]?=some x→vs[i]?=some v→kindOf x≠some .local →
  bindC kindOf (P.zip vs) m x=some v
 | [],_,_,_,_,h,_,_=>by simp at h
 | _ :: _,[],_,_,_,_,h,_=>by simp at h
 | p :: P,w :: vs,0,m,nd,h1,h2,hk=>by
  simp at h1 h2;subst h1;subst h2
  show bindC kindOf ((p,w) :: P.zip vs) m p=_
  unfold bindC
  rw [qk fun v hv=>(List.nodup_cons.mp nd).1 (List.of_mem_zip hv).1,if_neg hk]
  simp
 | p :: P,w :: vs,i + 1,m,nd,h1,h2,hk=>by
  show bindC kindOf ((p,w) :: P.zip vs) m x=_
  unfold bindC
  exact qj (i:=i) (List.nodup_cons.mp nd).2 (by simpa using h1) (by simpa using h2) hk
def start (N:List Str) (vs:List V):St:=vs.map some ++ List.replicate (N.length - vs.length) none
def rA (CX:pj) (P:Program) (w:World) (K:PySem.W.Frag) (mg:Str→Option Value) (base:Heap) (N:List Str) (qual:Str) (scope:Scope) (f:Addr) (cd:Value) (A:Around) (outer:List Env) (s:Shared) (H:Hp) (E:XK):Cx where
 prog:=P
 w:=w
 K:=K
 mg:=mg
 base:=base
 A:=A.deeper (envOfC qual scope s.heap.objs.size f cd)
 N:=N
 s₀:=s
 H₀:=H
 env:=envOfC qual scope s.heap.objs.size f cd
 outer:=outer
 stack:=envOfC qual scope s.heap.objs.size f cd :: outer
 ex:=[]
 calm:=true
 fn:=fun _=>true
 pn:=[]
 xe:=fun e s'=>wpAny (model P w) (A.deeper (envOfC qual scope s.heap.objs.size f cd)) (leaving (envOfC qual scope s.heap.objs.size f cd) e) (fun _ s''=>CX outer H s E e s'') (fun e' s''=>CX outer H s E e' s'') s'
theorem t4 {sc:Scope} {n:Nat} {x:Str} (h:sc.names.lookup x=some .cell):∃ c,(cellsFrom n sc.names []).lookup x=some c:=by
 have q:=PySem.W.cellsFrom_some sc.names n [] (.inl h)
 exact Option.isSome_iff_exists.mp q
theorem ze {CX:pj} {P:Program} {w:World} {K:PySem.W.Frag} {mg:Str→Option Value} {base:Heap} {N ps:List Str} {qual:Str} {scope:Scope} {f:Addr} {cd:Value} {A:Around} {outer:List Env} {s s1:Shared} {H:Hp} {E:XK} {us:List Value} {vs:List V}
  (S:aw N ps scope) (hd:A.handled=none) (e0:vL P w K mg base A outer s H) (hl:vs.length=ps.length) (r:Vals vs us)
  (x:InCallC s s.heap.objs.size (bindL (envOfC qual scope s.heap.objs.size f cd).kindOf (ps.zip us) fun _=>none) (cellsFrom (s.heap.objs.size + 1) scope.names []) (bindC (envOfC qual scope s.heap.objs.size f cd).kindOf (ps.zip us) fun _=>none) s1) :
  Inv (rA CX P w K mg base N qual scope f cd A outer s H E) [] (start N vs) H s1:=by
 have hpl:ps.length≤N.length:=by have:=congrArg List.length S.pre;rw [List.length_take] at this;omega
 obtain ⟨h1,tk,rfl,hk⟩:=x.done
 have noA:∀ b:Addr,b ∉ (rA CX P w K mg base N qual scope f cd A outer s H E).ex:=fun b z=>absurd (show b∈([]:List Addr) from z) (by simp)
 refine ⟨⟨e0.mod,S.kind,rfl,rfl,Nat.le_refl _,fun y z c h1 h2=>?_,fun y hy=>?_,fun y c _ h=>?_,fun _=>hd,Around.frames_deeper e0.frames,.inr ⟨rfl,rfl⟩,fun b z=>absurd z (noA b),e0.bs,e0.bsz,fun b _ _=>noA b,fun b z=>absurd z (noA b),e0.lU,e0.frf⟩,
  rfl,e0.bare,Un.kept hk,⟨_,x.toInCall.ns,fun i y v h1 h2 h3=>?_⟩,fun y c h=>⟨_,x.cell y c h⟩,e0.hok.fresh (Nat.le_refl _),fun y c h=>?_,fun p hp=>absurd (show p∈([]:List (Addr × Obj)) from hp) (by simp),e0.hok.kept hk,?_⟩
 ·exact name_of_addr x.apart (PySem.mem_of_lookup h1) (PySem.mem_of_lookup h2)
 ·have hy:scope.names.lookup y=some .cell∨scope.names.lookup y=some .free:=hy
  rcases hy with hy | hy
  ·exact t4 hy
  ·exact absurd rfl (S.nofree _ (PySem.mem_of_lookup hy))
 ·exact Nat.le_of_lt (x.above y c (PySem.mem_of_lookup h))
 ·have hi:i < vs.length:=by
   unfold start at h2
   by_cases hi:i < vs.length
   ·exact hi
   ·rw [List.getElem?_append_right (by simpa using hi)] at h2
    rw [List.getElem?_replicate] at h2
    split at h2 <;> cases h2
  have ha:vs[i]?=some v:=by
   unfold start at h2
   rw [List.getElem?_append_left (by simpa using hi),List.getElem?_map] at h2
   cases e:vs[i]? with
   | none=>rw [e] at h2;cases h2
   | some a=>rw [e] at h2;cases h2;rfl
  obtain ⟨u,hu,rv⟩:=r.get ha
  have hp:ps[i]?=some y:=by
   rw [← S.pre,List.getElem?_take_of_lt (by omega)];exact h1
  have ndP:ps.Nodup:=by rw [← S.pre];exact S.nd.sublist (List.take_sublist _ _)
  refine ⟨u,rv,?_⟩
  rcases S.par y (List.mem_of_getElem? hp) with k | k
  ·exact .inl ⟨k,ql ndP hp hu k⟩
  ·obtain ⟨c,e⟩:=t4 (n:=s.heap.objs.size + 1) k
   refine .inr ⟨.inl k,c,e,?_⟩
   have q:=x.cell y c e
   rw [qj ndP hp hu (by show scope.names.lookup y≠_;rw [k];decide)] at q
   exact q
 ·exact e0.hok.fresh (Nat.le_of_lt (x.above y c (PySem.mem_of_lookup h)))
 ·unfold start
  show _=N.length
  rw [List.length_append,List.length_map,List.length_replicate]
  omega
theorem AV {CX:pj} {P:Program} {w:World} {K:PySem.W.Frag} {mg:Str→Option Value} {base:Heap} {k:Nat} {f:Addr} {name qual:Str} {params:Arguments} {body:List Stmt} {scope:Scope} {dV kV doc pm cdv ct oc:Value} {an od:Option Addr}
  {osl:Array (Option Value)} {N ps:List Str} {sp:Sp} (lk:K.lookup f=some ⟨oc,od,.func (PySem.W.fnOf name qual params body scope dV kV doc pm an cdv ct),osl⟩) (hcd:PySem.W.codeIn K cdv qual=true) (S:aw N ps scope)
  (len:∀ vs H Q E,sp vs H Q E→vs.length=ps.length)
  (hbody:∀ (A:Around) (outer:List Env) (s:Shared) (H:Hp) (vs:List V) (Q:VK) (E:XK),bI k (A.deeper (envOfC qual scope s.heap.objs.size f cdv))→sp vs H Q E →
   ∃ t,qg (rA CX P w K mg base N qual scope f cdv A outer s H E) body t∧t { nx:=fun _ H'=>Q .non H',rt:=Q } (start N vs) H) :
  aQ P w K mg base CX (k + 1) f (PySem.W.fnOf name qual params body scope dV kV doc pm an cdv ct) ps sp:=by
 refine ⟨len,fun A outer s H args us vs Q E hr e0 hb r hsp=>?_⟩
 have hl:=len _ _ _ _ hsp
 have KX:K.In s.heap:=e0.mod.kin.keeps fun b o e=>(e0.bs b o e).1
 have lim:s.heap.NoLimit:=e0.mod.nolimit.keeps fun b o e=>(e0.bs b o e).1
 have hkind:∀ y∈ps.zip us,scope.names.lookup y.1=some .local∨(scope.names.lookup y.1=some .cell∧((cellsFrom (s.heap.objs.size + 1) scope.names []).lookup y.1).isSome=true):=fun ⟨n,v⟩ hy=>by
  rcases S.par n (List.of_mem_zip hy).1 with q | q
  ·exact .inl q
  ·exact .inr ⟨q,PySem.W.cellsFrom_some _ _ _ (.inl q)⟩
 refine codeAny_call_function hr.depth (KX _ _ lk) rfl S.co S.gen rfl (PySem.W.codeRec_of KX hcd) (hb _ _ _ _ ?_)
 refine wpAny_newFunctionEnv_cells S.kind hkind fun env he s1 x=>?_
 subst he
 refine ⟨lim.keeps x.toInCall.keep,codeAny_func ?_⟩
 obtain ⟨t,ht,hq⟩:=hbody A outer s H vs Q E (hr.deeper _) hsp
 have I:Inv (rA CX P w K mg base N qual scope f cdv A outer s H E) [] (start N vs) H s1:=ze S hr.hd e0 hl r x
 refine wpAny_mono (ht [] s1 (start N vs) H _ I hq) (fun fl s' hs=>?_) fun e s' hs=>hs
 have fin:∀ {σ':St} {H':Hp} {v:V} {u:Value},Inv (rA CX P w K mg base N qual scope f cdv A outer s H E) [] σ' H' s'→RelV v u→Q v H'→CE outer P w H s Q u s' :=
  fun {σ' H' v u} J rv q=>⟨v,H',J.os,J.bare,J.base,J.hok,rv,q⟩
 cases fl with
 | ret u =>
  obtain ⟨v,σ',H',J,rv,q⟩:=hs
  exact fin J rv q
 | next =>
  obtain ⟨σ',H',J,q⟩:=hs
  exact fin (v:=V.non) (u:=Value.none) J rfl q
 | brk =>
  obtain ⟨_,_,_,q⟩:=hs
  exact False.elim q
 | cont =>
  obtain ⟨_,_,_,q⟩:=hs
  exact False.elim q
end L2
namespace L2
open PySem PySem.Spec PyProof.Rows
section
variable {X:Cx} {x:Str} {p pos:Pos} {e:Expr} {es:List Expr} {t:TA} {id T:String} {r:List V→Hp→VK→Prop}
def F5 (r:List V→Hp→VK→Prop) (t:TA):TE:=fun σ H Q=>t σ H fun vs H1=>r vs H1 Q
theorem dg (hc:bT X (.builtin id) r) (hg:Gl X x) (hm:X.mg x=none) (hv:bootBuiltins x=some (.builtin id)) (ha:PA X (e :: es) t) (hn:x≠"__name__":=by decide) (hdb:(x == ("__debug__":Str))=false:=by decide)
  (he:starEach (e :: es) X.env=(false,eval e X.env) :: starEach es X.env:=by rfl) (hpl:(backTo pos (starEach es X.env)).any (·.1)=false:=by rfl):PE X (.Call (.Name x p) (e :: es) [] pos) (F5 r t):=by
 intro pins s σ H Q I h
 refine wpAny_Call_Name_kw (lW I hg hm hv ?_ hn hdb)
 exact PyProof.Rows.callWith_builtin1 (bM (ha pos pins s σ H _ I h) fun us s1 ⟨vs,H1,I1,r1,q1⟩=>hc pins s1 σ H1 vs us Q I1 r1 q1) he hpl
theorem l4 (hc:bT X (.type T) r) (hg:Gl X x) (hm:X.mg x=none) (hv:bootBuiltins x=some (.type T)) (ha:PA X (e :: es) t) (hn:x≠"__name__":=by decide) (hdb:(x == ("__debug__":Str))=false:=by decide)
  (he:starEach (e :: es) X.env=(false,eval e X.env) :: starEach es X.env:=by rfl) (hpl:(backTo pos (starEach es X.env)).any (·.1)=false:=by rfl):PE X (.Call (.Name x p) (e :: es) [] pos) (F5 r t):=by
 intro pins s σ H Q I h
 refine wpAny_Call_Name_kw (lW I hg hm hv ?_ hn hdb)
 exact PyProof.Rows.callWith_type1 (bM (ha pos pins s σ H _ I h) fun us s1 ⟨vs,H1,I1,r1,q1⟩=>hc pins s1 σ H1 vs us Q I1 r1 q1) he hpl
end
end L2
namespace HT
open PySem PyProof.Rows
def lexLt:List Int→List Int→Bool
 | [],[]=>false
 | [],_ :: _=>true
 | _ :: _,[]=>false
 | x :: xs,y :: ys=>if x=y then lexLt xs ys else decide (x < y)
section
open PySem.SeqAt
open PySem.AutoSeq1 (wpAny_loadPart')
open PySem.MeetsSeq PySem.MeetsSeq2 PySem.MeetsSeq3
end
section
variable {prog:Program} {w:World} {A:Around} {E:Value→Shared→Prop} {s:Shared}
def dB (n d:Nat):Option Int→Nat
 | none=>d
 | some v=>if v < 0 then (v + (n:Int)).toNat else min v.toNat n
theorem Cp (n d:Nat):dB n d none=d:=rfl
theorem sQ (n d k:Nat):dB n d (some (k:Int))=min k n:=by
 show (if (k:Int) < 0 then ((k:Int) + (n:Int)).toNat else min (k:Int).toNat n)=min k n
 rw [if_neg (by omega),Int.toNat_natCast]
theorem HJ (n d:Nat) (hd:d≤n) (o:Option Int):dB n d o≤n:=by
 cases o with
 | none=>exact hd
 | some v =>
  show (if v < 0 then (v + (n:Int)).toNat else min v.toNat n)≤n
  by_cases hv:v < 0
  ·rw [if_pos hv];omega
  ·rw [if_neg hv];exact Nat.min_le_right _ _
theorem xt (v:Int) (n d:Nat):(if v < 0 then max (v + (n:Int)) 0 else min v (n:Int))=((dB n d (some v):Nat):Int):=by
 show (if v < 0 then max (v + (n:Int)) 0 else min v (n:Int))=(((if v < 0 then (v + (n:Int)).toNat else min v.toNat n):Nat):Int)
 by_cases hv:v < 0
 ·simp only [if_pos hv];omega
 ·simp only [if_neg hv];omega
theorem vU (lo hi:Option Int) (n:Nat):Builtin.Slice.sliceAdjust lo hi 1 (n:Int)=(((dB n 0 lo:Nat):Int),((dB n n hi:Nat):Int)):=by
 have h1:¬ ((1:Int) < 0):=by omega
 unfold Builtin.Slice.sliceAdjust
 simp only [h1,if_false]
 refine Prod.ext ?_ ?_
 ·cases lo with
  | none=>rfl
  | some v=>exact xt v n 0
 ·cases hi with
  | none=>rfl
  | some v=>exact xt v n n
theorem wI (i j:Nat):Builtin.Slice.slicePlaces (i:Int) (j:Int) 1=j - i:=by
 unfold Builtin.Slice.slicePlaces
 have h1:(1:Int) > 0:=by omega
 simp only [h1,if_true,Int.ediv_one]
 split <;> omega
theorem o5 {v:Value} {o:Option Int} {Q:Option Int→Shared→Prop} (p:IsPart v o) (h:Q o s):wpAny (model prog w) A (Builtin.Slice.slicePartIndex v) Q E s:=by
 cases p with
 | none=>exact slicePart_none h
 | int i t=>exact slicePart_int h
theorem ml {sl:Addr} {vl vu:Value} {lo hi:Option Int} {n:Nat} {Q:Int × Int × Nat→Shared→Prop} (hs:s.heap.IsSliceOf sl vl vu .none) (pl:IsPart vl lo) (pu:IsPart vu hi)
  (h:Q (((dB n 0 lo:Nat):Int),1,dB n n hi - dB n 0 lo) s):wpAny (model prog w) A (Builtin.Slice.sliceApplied (.ref sl) (pure (n:Int))) Q E s:=by
 obtain ⟨os,hos,hcs,hds⟩:=id hs
 unfold Builtin.Slice.sliceApplied Builtin.Slice.sliceFields
 refine wpAny_bind (wpAny_bind (wpAny_field hos hds (x:=vl) rfl (wpAny_bind (wpAny_field hos hds (x:=vu) rfl (wpAny_bind (wpAny_field hos hds (x:=.none) rfl (wpAny_pure ?_)))))))
 refine wpAny_bind (slicePart_none ?_)
 show wpAny _ _ (if ((1:Int) == 0)=true then _ else _) _ _ s
 rw [if_neg (by decide)]
 refine wpAny_bind (o5 pl (wpAny_bind (o5 pu (wpAny_bind (wpAny_pure ?_)))))
 show wpAny _ _ (match Builtin.Slice.sliceAdjust lo hi 1 (n:Int) with | (lo,hi)=>pure (lo,(1:Int),Builtin.Slice.slicePlaces lo hi 1)) _ _ s
 rw [vU lo hi n]
 show wpAny _ _ (pure (((dB n 0 lo:Nat):Int),(1:Int),Builtin.Slice.slicePlaces ((dB n 0 lo:Nat):Int) ((dB n n hi:Nat):Int) 1)) _ _ s
 rw [wI]
 exact wpAny_pure h
theorem B1 (xs:Array Value) (i k:Nat):((List.range k).filterMap fun (m:Nat)=>xs[((i:Int) + (m:Int) * 1).toNat]?).toArray=((xs.toList.drop i).take k).toArray:=by
 have e:(fun (m:Nat)=>xs[((i:Int) + (m:Int) * 1).toNat]?)=fun m=>xs[i + m]?:=by
  funext m
  have:((i:Int) + (m:Int) * 1).toNat=i + m:=by omega
  rw [this]
 rw [e]
 have:=pick_run xs i k
 rw [List.filterMap_map] at this
 have e2:((fun x=>xs[x]?) ∘ fun x=>i + x)=fun m=>xs[i + m]?:=rfl
 rw [e2] at this
 rw [this]
theorem kS {t sl:Addr} {items:Array Value} {vl vu:Value} {lo hi:Option Int} {Q:Value→Shared→Prop} (ht:IsTup s.heap t items) (hs:s.heap.IsSliceOf sl vl vu .none) (pl:IsPart vl lo) (pu:IsPart vu hi)
  (hw:¬ (dB items.size 0 lo=0∧dB items.size items.size hi=items.size))
  (h:Q (.ref s.heap.objs.size) { s with heap:=s.heap.push { cls:=.type "tuple",data:=.seq ((items.toList.drop (dB items.size 0 lo)).take (dB items.size items.size hi - dB items.size 0 lo)).toArray } })
  (hsz:items.size≤sizeLine):wpAny (model prog w) A (getItem (.ref t) (.ref sl)) Q E s:=by
 have htake:sizeOk (.seq ((items.toList.drop (dB items.size 0 lo)).take (dB items.size items.size hi - dB items.size 0 lo)).toArray):=by
  show ((items.toList.drop (dB items.size 0 lo)).take (dB items.size items.size hi - dB items.size 0 lo)).toArray.size≤sizeLine
  rw [List.size_toArray,List.length_take,List.length_drop,Array.length_toList]
  omega
 have hj:dB items.size items.size hi≤items.size:=HJ _ _ (Nat.le_refl _) hi
 obtain ⟨os,hos,hcs,hds⟩:=id hs
 have hTs:s.TypeIs (.ref sl) "slice":=⟨os,hos,hcs⟩
 unfold getItem
 try with_reducible refine wpAny_holding ?_
 first | refine wpAny_bind (wpAny_pure ?_) | skip
 refine wpAny_bind (wpAny_sequenceKey ht.typeIs (by decide) ?_)
 refine wpAny_bind (wpAny_callSpecial?_slot (name:=Str.ofString "__getitem__") ht.typeIs PyProof.Rows.slot_tuple_getitem
  (wpAny_call_entry PyProof.Rows.slot_tuple_getitem ht.typeIs entry_tuple_getitem ?_ (args_tuple_getitem _ _)))
 show wpAny _ _ (Builtin.Tuple.tupleItemsOf (.ref t) >>= _) _ _ s
 refine wpAny_bind (tupleItemsOf_ ht ?_)
 refine wpAny_bind (wpAny_typeOf hTs ?_)
 rw [if_pos (by decide)]
 refine wpAny_bind (ml hs pl pu ?_)
 have hno:¬ ((((dB items.size 0 lo:Nat):Int) == 0 && (1:Int) == 1 && (dB items.size items.size hi - dB items.size 0 lo) == items.size)=true):=by
  intro q
  rw [Bool.and_eq_true,Bool.and_eq_true] at q
  have q1:((dB items.size 0 lo:Nat):Int)=0:=eq_of_beq q.1.1
  have q2:dB items.size items.size hi - dB items.size 0 lo=items.size:=eq_of_beq q.2
  exact hw ⟨by omega,by omega⟩
 show wpAny _ _ (if (((dB items.size 0 lo:Nat):Int) == 0 && (1:Int) == 1 && (dB items.size items.size hi - dB items.size 0 lo) == items.size)=true then _ else _) _ _ s
 rw [if_neg hno,B1]
 first
  | exact wpAny_bind (m:=Builtin.Tuple.tupleExact _) (wpAny_newObj_type (wpAny_pure ⟨_,rfl,wpAny_pure h⟩) htake)
  | exact wpAny_bind (m:=Builtin.Tuple.tupleExact _) (wpAny_newObj_type (wpAny_bind (wpAny_pure (wpAny_pure ⟨_,rfl,wpAny_pure h⟩))) htake)
  | exact wpAny_bind (wpAny_bind (m:=Builtin.Tuple.tupleExact _) (wpAny_newObj_type (wpAny_pure (wpAny_pure ⟨_,rfl,wpAny_pure h⟩)) htake))
  | exact wpAny_bind (wpAny_bind (m:=Builtin.Tuple.tupleExact _) (wpAny_newObj_type (wpAny_pure ⟨_,rfl,wpAny_pure h⟩) htake))
end
end HT
namespace L2
open PySem PySem.Spec PyProof.Rows
abbrev TO:=St→Hp→(Option Int→Hp→Prop)→Prop
def PO (X:Cx) (e:Option Expr) (t:TO):Prop :=
 ∀ (pins:List (Addr × Obj)) (s:Shared) (σ:St) (H:Hp) (Q:Option Int→Hp→Prop),Inv X pins σ H s→t σ H Q →
  wpAny (model X.prog X.w) X.A (evalPart e X.env) (fun u s'=>∃ o H',Inv X pins σ H' s'∧IsPart u o∧Q o H') X.xe s
def nH:TO:=fun _ H Q=>Q none H
def yJ (t:TE):TO:=fun σ H Q=>t σ H fun x H1=>∃ i,x=.int i∧Q (some i) H1
theorem intsAre_of {ns:List Int}:∀ {us:List Value},Vals (ns.map V.int) us→IntsAre us ns:=by
 induction ns with
 | nil=>intro us r;rw [List.map_nil] at r;cases r;exact .nil
 | cons n ns ih =>
  intro us r
  rw [List.map_cons] at r
  cases r with
  | cons r1 r2 =>
   obtain ⟨t,e⟩:=r1
   subst e
   exact .cons n t (ih r2)
section
variable {X:Cx} {e:Expr} {te:TE} {lo hi:Option Expr} {tl th:TO} {pos p2:Pos}
theorem m_:PO X none nH:=by
 intro pins s σ H Q I h
 rw [evalPart_none]
 exact wpAny_pure ⟨none,H,I,.none,h⟩
theorem jL (h:PE X e te):PO X (some e) (yJ te):=by
 intro pins s σ H Q I hw
 rw [evalPart_some]
 refine bM (h pins s σ H _ I hw) fun u s1 ⟨x,H1,I1,r1,q1⟩=>?_
 obtain ⟨i,rfl,q⟩:=q1
 obtain ⟨t,rfl⟩:=r1
 exact ⟨some i,H1,I1,.int i t,q⟩
def pJ (X:Cx) (r:V→Option Int→Option Int→Hp→VK→Prop):Prop :=
 ∀ (pins:List (Addr × Obj)) (s:Shared) (σ:St) (H:Hp) (x:V) (v vl vu:Value) (lo hi:Option Int) (sl:Addr) (Q:VK),Inv X pins σ H s→RelV x v→s.heap.IsSliceOf sl vl vu .none→IsPart vl lo→IsPart vu hi→r x lo hi H Q →
  ∃ T id,typeLookup (.type T) "__getitem__"=pure (some (.builtin id))∧s.TypeIs v T∧wpAny (model X.prog X.w) X.A (getItem v (.ref sl)) (EP X pins σ Q) X.xe s
theorem pJ.or {r r':V→Option Int→Option Int→Hp→VK→Prop} (h:pJ X r) (h':pJ X r'):pJ X (fun x lo hi H Q=>r x lo hi H Q∨r' x lo hi H Q):=by
 intro pins s σ H x v vl vu lo hi sl Q I rx hs pl pu q
 rcases q with q | q
 ·exact h pins s σ H x v vl vu lo hi sl Q I rx hs pl pu q
 ·exact h' pins s σ H x v vl vu lo hi sl Q I rx hs pl pu q
def K_ (r:V→Option Int→Option Int→Hp→VK→Prop) (te:TE) (tl th:TO):TE:=fun σ H Q=>te σ H fun x H1=>tl σ H1 fun l H2=>th σ H2 fun u H3=>r x l u H3 Q
theorem jm {r:V→Option Int→Option Int→Hp→VK→Prop} (hr:pJ X r) (he:PE X e te) (hl:PO X lo tl) (hu:PO X hi th):PE X (.Subscript e (.Slice lo hi none p2) pos) (K_ r te tl th):=by
 intro pins s σ H Q I h
 refine Subscript_ (bM (he pins s σ H _ I h) fun v s1 ⟨x,H1,I1,r1,q1⟩=>?_)
 refine wpAny_Slice (bM (hl pins s1 σ H1 _ I1 q1) fun vl s2 ⟨l,H2,I2,pl,q2⟩=>bM (hu pins s2 σ H2 _ I2 q2) fun vu s3 ⟨u,H3,I3,pu,q3⟩=>?_)
 rw [evalPart_none]
 refine wpAny_pure ?_
 have I4:Inv X pins σ H3 { s3 with heap:=s3.heap.push { cls:=.type "slice",data:=.fields #[vl,vu,.none] } }:=I3.kept (t':=s3.toks) fun b ob q=>Heap.get?_push_of_some _ q
 obtain ⟨T,id,hT,ht,hg⟩:=hr pins { s3 with heap:=s3.heap.push { cls:=.type "slice",data:=.fields #[vl,vu,.none] } } σ H3 x v vl vu l u s3.heap.objs.size Q I4 r1 (Heap.IsSliceOf.new ..) pl pu q3
 show wpAny (model X.prog X.w) X.A (subscriptTail e (.Slice lo hi none p2) v (.ref s3.heap.objs.size)) (EP X pins σ Q) X.xe { s3 with heap:=s3.heap.push { cls:=.type "slice",data:=.fields #[vl,vu,.none] } }
 exact tail_any (ops:=[.ref s3.heap.objs.size,v]) ht hT hg (by with_unfolding_all rfl)
def lQ (xs:List V) (lo hi:Option Int):List V:=(xs.drop (HT.dB xs.length 0 lo)).take (HT.dB xs.length xs.length hi - HT.dB xs.length 0 lo)
theorem my (xs:List V) (lo hi:Option Int):(lQ xs lo hi).length≤xs.length:=by
 unfold lQ
 rw [List.length_take,List.length_drop]
 omega
def Mp (K:PySem.W.Frag):V→Option Int→Option Int→Hp→VK→Prop:=fun x lo hi H Q=>∃ a xs,x=.ref a∧eL K H a xs ∧
 ¬ (HT.dB xs.length 0 lo=0∧HT.dB xs.length xs.length hi=xs.length)∧∀ p,H p=none→Q (.ref p) (upd H p (.tup (lQ xs lo hi)))
theorem HN:pJ X (Mp X.K):=by
 intro pins s σ H x v vl vu lo hi sl Q I rx hs pl pu h
 obtain ⟨a,xs,rfl,hx,hw,q⟩:=h
 cases rx
 obtain ⟨its,r,ht,hz⟩:=I.tuple hx
 have hlen:its.toArray.size=xs.length:=by rw [List.size_toArray];exact r.length.symm
 refine ⟨"tuple",_,PyProof.Rows.slot_tuple_getitem.lookup,ht.typeIs,?_⟩
 refine HT.kS ht hs pl pu (by rw [hlen];exact hw) ?_ (by rw [hlen];exact hz)
 rw [hlen]
 refine ⟨.ref s.heap.objs.size,_,I.laid (t':=s.toks) (o:=.tup (lQ xs lo hi)) (fun b ob q=>Heap.get?_push_of_some _ q) (Nat.le_refl _) ?_,rfl,q _ (I.hok.fresh (Nat.le_refl _))⟩
 exact ⟨Nat.le_trans (my xs lo hi) hz,_,(r.drop (HT.dB xs.length 0 lo)).take (HT.dB xs.length xs.length hi - HT.dB xs.length 0 lo),IsTup.new _ _⟩
end
end L2
namespace L2
open PySem PySem.Spec PyProof.Rows
def Ah (n:Nat) (i:Int):Option Nat:=if 0≤i then (if i < n then some i.toNat else none) else if -(n:Int)≤i then some (i + n).toNat else none
def cU {α:Type} (xs:List α) (i:Int):Option α:=(Ah xs.length i).bind fun j=>xs[j]?
theorem xQ {n:Nat} {i:Int} {j:Nat} (h:Ah n i=some j):seqIndex? i n=some j∧j < n∧-(n:Int)≤i∧i < n:=by
 unfold Ah at h
 by_cases h0:0≤i
 ·rw [if_pos h0] at h
  by_cases h1:i < n
  ·rw [if_pos h1] at h
   have e:i.toNat=j:=Option.some.inj h
   exact ⟨by rw [seqIndex_of h0 h1,e],by omega,by omega,h1⟩
  ·rw [if_neg h1] at h;cases h
 ·rw [if_neg h0] at h
  by_cases h1:-(n:Int)≤i
  ·rw [if_pos h1] at h
   have e:(i + n).toNat=j:=Option.some.inj h
   exact ⟨by rw [seqIndex_neg (by omega) h1,e],by omega,h1,by omega⟩
  ·rw [if_neg h1] at h;cases h
theorem rh {α:Type} {xs:List α} {i:Int} {v:α} (h:cU xs i=some v):∃ j,seqIndex? i xs.length=some j∧xs[j]?=some v∧j < xs.length∧-(xs.length:Int)≤i∧i < xs.length:=by
 unfold cU at h
 cases e:Ah xs.length i with
 | none=>rw [e] at h;cases h
 | some j =>
  rw [e] at h
  obtain ⟨h1,h2,h3,h4⟩:=xQ e
  exact ⟨j,h1,h,h2,h3,h4⟩
theorem ba {α:Type} {xs:List α} {j:Nat} {v:α} (h:xs[j]?=some v):cU xs (j:Int)=some v:=by
 have hj:j < xs.length:=(List.getElem?_eq_some_iff.mp h).1
 have e:Ah xs.length (j:Int)=some j:=by
  unfold Ah
  rw [if_pos (by omega),if_pos (by omega)];simp
 unfold cU;rw [e];exact h
def cJ (b:Expr):Prop:=∀ o i,subscripted b false o i=operate [o,i] (getItem o i)
def mW (X:Cx) (r:R2):Prop :=
 ∀ (value slice:Expr) (pins:List (Addr × Obj)) (s:Shared) (σ:St) (H:Hp) (x y:V) (v u:Value) (Q:VK),Inv X pins σ H s→RelV x v→RelV y u→r x y H Q →
  subscripted slice false v u=operate [v,u] (getItem v u)→wpAny (model X.prog X.w) X.A (subscriptTail value slice v u) (EP X pins σ Q) X.xe s
def mO (X:Cx) (id:String) (r:V→List V→Hp→VK→Prop):Prop :=
 ∀ (pins:List (Addr × Obj)) (s:Shared) (σ:St) (H:Hp) (x:V) (xs:List V) (v:Value) (us:List Value) (Q:VK),Inv X pins σ H s→RelV x v→Vals xs us→r x xs H Q →
  wpAny (model X.prog X.w) X.A (call (.builtin id) (v :: us)) (EP X pins σ Q) X.xe s
section
variable {X:Cx} {a b:Expr} {ta tb:TE} {pos:Pos}
theorem mW.or {r r':R2} (h:mW X r) (h':mW X r'):mW X (fun x y H Q=>r x y H Q∨r' x y H Q):=by
 intro value slice pins s σ H x y v u Q I rx ry q hs
 rcases q with q | q
 ·exact h value slice pins s σ H x y v u Q I rx ry q hs
 ·exact h' value slice pins s σ H x y v u Q I rx ry q hs
theorem mO.or {id:String} {r r':V→List V→Hp→VK→Prop} (h:mO X id r) (h':mO X id r'):mO X id (fun x xs H Q=>r x xs H Q∨r' x xs H Q):=by
 intro pins s σ H x xs v us Q I rx rs q
 rcases q with q | q
 ·exact h pins s σ H x xs v us Q I rx rs q
 ·exact h' pins s σ H x xs v us Q I rx rs q
theorem bS {r:R2} (hr:mW X r) (ha:PE X a ta) (hb:PE X b tb) (hs:cJ b):PE X (.Subscript a b pos) (CY r ta tb):=by
 intro pins s σ H Q I h
 exact Subscript_ (Gx ha hb I h fun v u s2 x y H2 I2 rx ry q=>hr a b pins s2 σ H2 x y v u Q I2 rx ry q (hs _ _))
def JV (K:PySem.W.Frag):R2:=fun x y H Q=>∃ p xs i v,x=.ref p∧y=.int i∧c8 K H p xs∧cU xs i=some v∧Q v H
def JX (K:PySem.W.Frag):R2:=fun x y H Q=>∃ p xs i v,x=.ref p∧y=.int i∧eL K H p xs∧cU xs i=some v∧Q v H
def JW:R2:=fun x y H Q=>∃ z i c,x=.str z∧y=.int i∧z.length≤sizeLine∧cU z.cps.toList i=some c∧Q (.str ⟨#[c]⟩) H
theorem rL:mW X (JV X.K):=by
 intro value slice pins s σ H x y v u Q I rx ry h hs
 obtain ⟨p,xs,i,z,rfl,rfl,hq,he,q⟩:=h
 cases rx
 obtain ⟨t,rfl⟩:=ry
 obtain ⟨its,r,pl,hz⟩:=I.list hq
 obtain ⟨j,h1,h2,h3,h4,h5⟩:=rh he
 obtain ⟨w,ew,rw'⟩:=r.get h2
 have hl:=r.length
 have hn:=j_
 have fin:EP X pins σ Q w s:=⟨z,H,I,rw',q⟩
 by_cases h0:0≤i
 ·have hj:i.toNat=j:=by
   rw [seqIndex_of h0 h5] at h1
   exact Option.some.inj h1
  exact item_listR pl.isList h0 (by omega) (by rw [hj];simpa using ew) fin hs
 ·have hj:(i + (its.toArray.size:Int)).toNat=j:=by
   rw [seqIndex_neg (by omega) h4] at h1
   rw [List.size_toArray,← hl]
   exact Option.some.inj h1
  exact subscriptTail_builtinR (x:=w) pl.isList.typeIs slot_list_getitem.lookup
   (wpAny_getItem_list_neg (Q:=fun r s'=>r=w∧EP X pins σ Q r s') pl.isList (by omega) (by rw [List.size_toArray] <;> omega) (by omega) (by rw [hj];simpa using ew) ⟨rfl,fin⟩) hs
theorem cx:mW X (JX X.K):=by
 intro value slice pins s σ H x y v u Q I rx ry h hs
 obtain ⟨p,xs,i,z,rfl,rfl,hq,he,q⟩:=h
 cases rx
 obtain ⟨t,rfl⟩:=ry
 obtain ⟨its,r,pl,hz⟩:=I.tuple hq
 obtain ⟨j,h1,h2,h3,h4,h5⟩:=rh he
 obtain ⟨w,ew,rw'⟩:=r.get h2
 have hl:=r.length
 have hn:=j_
 have fin:EP X pins σ Q w s:=⟨z,H,I,rw',q⟩
 exact subscriptTail_builtinR (x:=w) pl.typeIs slot_tuple_getitem.lookup
  (getItem_tuple (j:=j) (Q:=fun r s'=>r=w∧EP X pins σ Q r s') pl (by omega) (by omega) (by rw [List.size_toArray,← hl];exact h1) (by simpa using ew) ⟨rfl,fin⟩) hs
theorem Bh:mW X JW:=by
 intro value slice pins s σ H x y v u Q I rx ry h hs
 obtain ⟨z,i,c,rfl,rfl,hz,he,q⟩:=h
 obtain ⟨t,rfl⟩:=rx
 obtain ⟨t',rfl⟩:=ry
 obtain ⟨j,h1,h2,h3,h4,h5⟩:=rh he
 have hl:z.cps.toList.length=z.length:=by simp [Str.length]
 rw [hl] at h1 h4 h5
 have hn:=j_
 exact tail_any (typeIs_str s z t) slot_str_getitem.lookup (getItem_str (c:=c) (by
  have e1:decide (i < -(2 ^ 63:Int))=false:=decide_eq_false (by omega)
  have e2:decide (i ≥ 2 ^ 63)=false:=decide_eq_false (by omega)
  rw [e1,e2,Bool.or_false]) (by rw [h1];simpa using h2) ⟨.str ⟨#[c]⟩,H,I.tok _,⟨_,rfl⟩,q⟩) hs
theorem wq (its:List Value) (n j:Nat) (u:Value):Obj.mapSeq (·.setIfInBounds j u) { cls:=.type "list",data:=.seq its.toArray n }={ cls:=.type "list",data:=.seq (its.set j u).toArray n }:=by
 simp [Obj.mapSeq]
theorem Inv.lst {pins:List (Addr × Obj)} {σ:St} {H:Hp} {s:Shared} {p:Addr} {xs:List V} (I:Inv X pins σ H s) (h:H p=some (.lst xs)) :
  ∃ (its:List Value) (n:Nat),Vals xs its∧s.heap.get? p=some { cls:=.type "list",data:=.seq its.toArray n }∧xs.length≤sizeLine:=by
 obtain ⟨z,its,n,r,e⟩:=I.hok p _ h
 exact ⟨its,n,r,e,z⟩
theorem Inv.G8 {pins:List (Addr × Obj)} {σ:St} {H:Hp} {s:Shared} {p:Addr} {xs ys:List V} {its its':List Value} {n n':Nat} {f:Obj→Obj} (I:Inv X pins σ H s) (h:H p=some (.lst xs))
  (ho:s.heap.get? p=some { cls:=.type "list",data:=.seq its.toArray n }) (hf:f { cls:=.type "list",data:=.seq its.toArray n }={ cls:=.type "list",data:=.seq its'.toArray n' }) (r:Vals ys its') (hz:ys.length≤sizeLine) (t:Nat) :
  Inv X pins σ (upd H p (.lst ys)) { s with heap:=s.heap.update p f,toks:=t }:=by
 have e:(s.heap.update p f).get? p=some { cls:=.type "list",data:=.seq its'.toArray n' }:=by
  rw [Heap.get?_update_self f ho (by rw [hf] <;> rfl),hf]
 refine I.write (x:=p) (e:=p) (by rw [h];trivial) (.inl rfl) (fun b u hb q=>(Heap.get?_update_other _ _ (Ne.symm hb)).trans q) ⟨_,e⟩ ?_
 exact ⟨hz,its',n',r,e⟩
def FY:V→V→V→Hp→(Hp→Prop)→Prop:=fun o i v H Q=>∃ p xs k j,o=.ref p∧i=.int k∧H p=some (.lst xs)∧Ah xs.length k=some j∧Q (upd H p (.lst (xs.set j v)))
theorem set_list:iK X FY:=by
 intro pins s σ H o i v ov iv u Q I ro ri rv h
 obtain ⟨p,xs,k,j,rfl,rfl,hp,hj,q⟩:=h
 cases ro
 obtain ⟨t,rfl⟩:=ri
 obtain ⟨its,n,r,ho,hz⟩:=I.lst hp
 obtain ⟨h1,h2,h3,h4⟩:=xQ hj
 have hl:=r.length
 have hn:=j_
 have I':Inv X pins σ (upd H p (.lst (xs.set j v))) { s with heap:=s.heap.update p (Obj.mapSeq (·.setIfInBounds j u)) } :=
  I.G8 hp ho (wq its n j u) (r.set rv j) (by rw [List.length_set];exact hz) s.toks
 by_cases h0:0≤k
 ·have hk:k.toNat=j:=by
   rw [seqIndex_of h0 h4] at h1
   exact Option.some.inj h1
  exact PySem.W.ki_setAt ho h0 (by omega) (by rw [List.size_toArray,← hl];exact h4) (by rw [hk];exact ⟨_,I',q⟩)
 ·have hk:(k + (its.toArray.size:Int)).toNat=j:=by
   rw [seqIndex_neg (by omega) h3] at h1
   rw [List.size_toArray,← hl]
   exact Option.some.inj h1
  exact PySem.W.ki_setBack ho (by omega) (by rw [List.size_toArray,← hl];exact h3) (by omega) (by rw [hk];exact ⟨_,I',q⟩)
theorem tw (lo hi:Option Int) (n:Nat):(sliceBounds lo hi none n).1=((HT.dB n 0 lo:Nat):Int)∧(sliceBounds lo hi none n).2.1=((HT.dB n n hi:Nat):Int)∧(sliceBounds lo hi none n).2.2=1:=by
 refine ⟨?_,?_,rfl⟩
 ·cases lo with
  | none=>simp [sliceBounds,HT.dB]
  | some i =>
   simp only [sliceBounds,HT.dB,Option.getD_none,show (1:Int) > 0 by decide,if_true]
   by_cases h:i < 0
   ·simp only [h,if_true] <;> omega
   ·simp only [h,if_false] <;> omega
 ·cases hi with
  | none=>simp [sliceBounds,HT.dB]
  | some i =>
   simp only [sliceBounds,HT.dB,Option.getD_none,show (1:Int) > 0 by decide,if_true]
   by_cases h:i < 0
   ·simp only [h,if_true] <;> omega
   ·simp only [h,if_false] <;> omega
theorem p8 (its:List Value) (lo hi:Option Int):slicePick its.toArray lo hi none=((its.drop (HT.dB its.length 0 lo)).take (HT.dB its.length its.length hi - HT.dB its.length 0 lo)).toArray:=by
 obtain ⟨h1,h2,h3⟩:=tw lo hi its.toArray.size
 unfold slicePick
 rw [h1,h2,h3]
 simp only [sliceRange_one,pick_run,List.size_toArray] <;> rfl
def Kg (K:PySem.W.Frag):V→Option Int→Option Int→Hp→VK→Prop:=fun x lo hi H Q=>∃ a xs,x=.ref a∧c8 K H a xs∧∀ p,H p=none→Q (.ref p) (upd H p (.lst (lQ xs lo hi)))
theorem tu:pJ X (Kg X.K):=by
 intro pins s σ H x v vl vu lo hi sl Q I rx hs pl pu h
 obtain ⟨a,xs,rfl,hx,q⟩:=h
 cases rx
 obtain ⟨its,r,ht,hz⟩:=I.list hx
 have hlen:=r.length
 refine ⟨"list",_,slot_list_getitem.lookup,ht.isList.typeIs,?_⟩
 refine wpAny_getItem_list_slice ht.isList hs pl pu .none (by simp) ?_ (by rw [List.size_toArray] <;> omega)
 rw [p8,← hlen]
 refine ⟨.ref s.heap.objs.size,_,I.laid (t':=s.toks) (o:=.lst (lQ xs lo hi)) (fun b ob q=>Heap.get?_push_of_some _ q) (Nat.le_refl _) ?_,rfl,q _ (I.hok.fresh (Nat.le_refl _))⟩
 exact ⟨Nat.le_trans (my xs lo hi) hz,_,0,(r.drop (HT.dB xs.length 0 lo)).take (HT.dB xs.length xs.length hi - HT.dB xs.length 0 lo),Heap.get?_push_size _ rfl⟩
def iG:V→Bool
 | .non=>true
 | .bl _=>true
 | .int _=>true
 | .str _=>true
 | _=>false
def C7:V→V→Bool
 | .non,.non=>true
 | .bl a,.bl b=>a == b
 | .bl a,.int b=>(if a then 1 else 0) == b
 | .int a,.bl b=>a == (if b then 1 else 0)
 | .int a,.int b=>a == b
 | .str a,.str b=>a == b
 | _,_=>false
theorem GI {A:Around} {s:Shared} {y x:V} {u v:Value} (ry:RelV y u) (rx:RelV x v) (fy:iG y=true) (fx:iG x=true):SeqAt.EqAt A s u v (C7 y x):=by
 cases y with
 | non =>
  cases ry
  cases x with
  | non=>cases rx;exact SeqAt.EqAt.same _
  | bl b=>cases rx;exact SeqAt.EqAt.none_bool b
  | int b=>obtain ⟨t,rfl⟩:=rx;exact SeqAt.EqAt.none_int b t
  | str b=>obtain ⟨t,rfl⟩:=rx;exact SeqAt.EqAt.none_str b t
  | _=>exact absurd (show false=true from fx) Bool.false_ne_true
 | bl a =>
  cases ry
  cases x with
  | non=>cases rx;exact SeqAt.EqAt.bool_none a
  | bl b=>cases rx;exact SeqAt.EqAt.bool_bool a b
  | int b=>obtain ⟨t,rfl⟩:=rx;exact SeqAt.EqAt.bool_int a b t
  | str b=>obtain ⟨t,rfl⟩:=rx;exact SeqAt.EqAt.bool_str a b t
  | _=>exact absurd (show false=true from fx) Bool.false_ne_true
 | int a =>
  obtain ⟨t',rfl⟩:=ry
  cases x with
  | non=>cases rx;exact SeqAt.EqAt.int_none a t'
  | bl b=>cases rx;exact SeqAt.EqAt.int_bool a t' b
  | int b=>obtain ⟨t,rfl⟩:=rx;exact SeqAt.EqAt.int_int a t' b t
  | str b=>obtain ⟨t,rfl⟩:=rx;exact SeqAt.EqAt.int_str a t' b t
  | _=>exact absurd (show false=true from fx) Bool.false_ne_true
 | str a =>
  obtain ⟨t',rfl⟩:=ry
  cases x with
  | non=>cases rx;exact SeqAt.EqAt.str_none a t'
  | bl b=>cases rx;exact SeqAt.EqAt.str_bool a t' b
  | int b=>obtain ⟨t,rfl⟩:=rx;exact SeqAt.EqAt.str_int a t' b t
  | str b=>obtain ⟨t,rfl⟩:=rx;exact SeqAt.EqAt.str_str a t' b t
  | _=>exact absurd (show false=true from fx) Bool.false_ne_true
 | _=>exact absurd (show false=true from fy) Bool.false_ne_true
def vZ (x:V) (u:Value):Bool:=match u with
 | .none=>C7 .non x
 | .bool b=>C7 (.bl b) x
 | .int i _=>C7 (.int i) x
 | .str z _=>C7 (.str z) x
 | _=>false
theorem AR {x y:V} {u:Value} (r:RelV y u) (f:iG y=true):vZ x u=C7 y x:=by
 cases y with
 | non=>cases r;rfl
 | bl b=>cases r;rfl
 | int i=>obtain ⟨t,rfl⟩:=r;rfl
 | str z=>obtain ⟨t,rfl⟩:=r;rfl
 | _=>exact absurd (show false=true from f) Bool.false_ne_true
theorem kI {x:V}:∀ {xs:List V} {us:List Value},Vals xs us→xs.all iG=true→us.any (vZ x)=xs.any fun y=>C7 y x
 | _,_,.nil,_=>rfl
 | y :: xs,u :: us,.cons r t,f=>by
  rw [List.all_cons,Bool.and_eq_true] at f
  rw [List.any_cons,List.any_cons,AR r f.1,kI t f.2]
theorem jh {A:Around} {s:Shared} {x:V} {v:Value} (rx:RelV x v) (fx:iG x=true):∀ {xs:List V} {us:List Value},Vals xs us→xs.all iG=true→∀ u∈us,SeqAt.EqAt A s u v (vZ x u)
 | _,_,.nil,_=>fun u hu=>by cases hu
 | y :: xs,u :: us,.cons r t,f=>fun u' hu=>by
  rw [List.all_cons,Bool.and_eq_true] at f
  rcases List.mem_cons.mp hu with rfl | hu
  ·rw [AR r f.1];exact GI r rx f.1 fx
  ·exact jh rx fx t f.2 u' hu
def Ii (x:V) (xs:List V):Bool:=xs.any fun y=>C7 y x
def M8 (K:PySem.W.Frag) (neg:Bool):R2:=fun x y H Q=>∃ p xs,y=.ref p∧(c8 K H p xs∨eL K H p xs)∧iG x=true∧xs.all iG=true∧Q (.bl (if neg then !Ii x xs else Ii x xs)) H
theorem zK:er X (compareOp .In) (M8 X.K false):=by
 intro pins s σ H x y v u Q I rx ry h
 obtain ⟨p,xs,rfl,hq,fx,fs,q⟩:=h
 cases ry
 rcases hq with hq | hq
 ·obtain ⟨its,r,pl,hz⟩:=I.list hq
  refine SeqAt.in_listAt (vZ x) pl.isList (fun w hw=>jh rx fx r fs w (by simpa using hw)) ⟨.bl _,H,I,rfl,?_⟩
  rw [show its.toArray.any (vZ x)=its.any (vZ x) by simp,kI r fs]
  exact q
 ·obtain ⟨its,r,pl,hz⟩:=I.tuple hq
  refine SeqAt.in_tupleAt (vZ x) pl (fun w hw=>jh rx fx r fs w (by simpa using hw)) ⟨.bl _,H,I,rfl,?_⟩
  rw [show its.toArray.any (vZ x)=its.any (vZ x) by simp,kI r fs]
  exact q
theorem sk:er X (compareOp .NotIn) (M8 X.K true):=by
 intro pins s σ H x y v u Q I rx ry h
 obtain ⟨p,xs,rfl,hq,fx,fs,q⟩:=h
 cases ry
 rcases hq with hq | hq
 ·obtain ⟨its,r,pl,hz⟩:=I.list hq
  refine SeqAt.notIn_listAt (vZ x) pl.isList (fun w hw=>jh rx fx r fs w (by simpa using hw)) ⟨.bl _,H,I,rfl,?_⟩
  rw [show its.toArray.any (vZ x)=its.any (vZ x) by simp,kI r fs]
  exact q
 ·obtain ⟨its,r,pl,hz⟩:=I.tuple hq
  refine SeqAt.notIn_tupleAt (vZ x) pl (fun w hw=>jh rx fx r fs w (by simpa using hw)) ⟨.bl _,H,I,rfl,?_⟩
  rw [show its.toArray.any (vZ x)=its.any (vZ x) by simp,kI r fs]
  exact q
theorem hX:bT X (.builtin "len") (fun xs H Q=>∃ p ys,xs=[.ref p]∧(c8 X.K H p ys∨eL X.K H p ys)∧Q (.int ys.length) H):=by
 intro pins s σ H xs us Q I r h
 obtain ⟨p,ys,rfl,hq,q⟩:=h
 obtain ⟨u,rfl,rx⟩:=vals1 r
 cases rx
 have hn:=j_
 rcases hq with hq | hq
 ·obtain ⟨its,r',pl,hz⟩:=I.list hq
  have hlen:=r'.length
  exact Calls.call_len_list pl.isList (by simp only [List.size_toArray] <;> omega) ⟨.int ys.length,H,I.tok _,⟨s.toks + 1,by rw [List.size_toArray,hlen]⟩,q⟩
 ·obtain ⟨its,r',pl,hz⟩:=I.tuple hq
  have hlen:=r'.length
  exact len_tuple pl (by simp only [List.size_toArray] <;> omega) ⟨.int ys.length,H,I.tok _,⟨s.toks + 1,by rw [List.size_toArray,hlen]⟩,q⟩
theorem kM:bT X (.builtin "len") (fun xs H Q=>∃ z,xs=[.str z]∧z.length≤sizeLine∧Q (.int z.length) H):=by
 intro pins s σ H xs us Q I r h
 obtain ⟨z,rfl,hz,q⟩:=h
 obtain ⟨u,rfl,t,rfl⟩:=vals1 r
 have hn:=j_
 exact len_str (by omega) ⟨.int z.length,H,I.tok _,⟨_,rfl⟩,q⟩
theorem bT.or {f:Value} {r r':List V→Hp→VK→Prop} (h:bT X f r) (h':bT X f r'):bT X f (fun xs H Q=>r xs H Q∨r' xs H Q):=by
 intro pins s σ H xs us Q I rs q
 rcases q with q | q
 ·exact h pins s σ H xs us Q I rs q
 ·exact h' pins s σ H xs us Q I rs q
theorem rp:bT X (.type "list") (fun xs H Q=>∃ p ys,xs=[.ref p]∧(c8 X.K H p ys∨eL X.K H p ys)∧∀ l,H l=none→Q (.ref l) (upd H l (.lst ys))):=by
 intro pins s σ H xs us Q I r h
 obtain ⟨p,ys,rfl,hq,q⟩:=h
 obtain ⟨u,rfl,rx⟩:=vals1 r
 cases rx
 have fin:∀ (its:List Value),Vals ys its→ys.length≤sizeLine→∀ (h':Heap) (c':Nat),(∀ b o',s.heap.get? b=some o'→h'.get? b=some o') →
   h'.get? s.heap.objs.size=some { cls:=.type "list",dict:=none,data:=.seq its.toArray c',slots:=#[] }→EP X pins σ Q (.ref s.heap.objs.size) { s with heap:=h' }:=fun its r' hz h' c' kp e =>
  ⟨.ref s.heap.objs.size,_,I.laid (t':=s.toks) kp (Nat.le_refl _) (show cu X.prog X.w _ h' _ (.lst ys) from ⟨hz,its,c',r',e⟩),rfl,q _ (I.hok.fresh (Nat.le_refl _))⟩
 rcases hq with hq | hq
 ·obtain ⟨its,r',pl,hz⟩:=I.list hq
  have hlen:=r'.length
  obtain ⟨o,ho,hc,n,hd⟩:=pl.isList
  exact call_list_seq p (.inl rfl) ho hc hd (fun h' c' kp e=>fin its r' hz h' c' kp e) (by simp only [List.size_toArray] <;> omega)
 ·obtain ⟨its,r',pl,hz⟩:=I.tuple hq
  have hlen:=r'.length
  obtain ⟨o,ho,hc,n,hd⟩:=pl
  exact call_list_seq p (.inr rfl) ho hc hd (fun h' c' kp e=>fin its r' hz h' c' kp e) (by simp only [List.size_toArray] <;> omega)
def Lb (K:PySem.W.Frag) (T:String) (x:V) (H:Hp):Prop:=match x with
 | .str _=>T="str"
 | .int _=>T="int"
 | .ref p=>(T="list"∧∃ xs,c8 K H p xs)∨(T="tuple"∧∃ o,K.lookup p=some o∧o.cls=.type "tuple"∧o.dict=none) ∨
   (T="dict"∧((∃ kvs,H p=some (.dK kvs))∨∃ kvs ep,H p=some (.dE kvs ep)))∨(T="set"∧∃ S n,H p=some (.set S n))
 | _=>False
theorem C1 {pins:List (Addr × Obj)} {σ:St} {H:Hp} {s:Shared} {T:String} {x:V} {v:Value} (I:Inv X pins σ H s) (r:RelV x v) (ty:Lb X.K T x H) :
  s.TypeIs v T∧∀ a,v=.ref a→∃ ob,s.heap.get? a=some ob∧ob.dict=none:=by
 cases x with
 | str z =>
  obtain ⟨t,rfl⟩:=r
  cases (show T="str" from ty)
  exact ⟨typeIs_str s z t,fun _ e=>nomatch e⟩
 | int i =>
  obtain ⟨t,rfl⟩:=r
  cases (show T="int" from ty)
  exact ⟨typeIs_int s i t,fun _ e=>nomatch e⟩
 | ref p =>
  cases r
  rcases ty with ⟨rfl,xs,hq⟩ | ⟨rfl,o,hk,hc,hd⟩ | ⟨rfl,hk⟩ | ⟨rfl,S,n,hk⟩
  ·obtain ⟨its,_,pl,_⟩:=I.list hq
   refine ⟨pl.isList.typeIs,fun a e=>?_⟩
   cases e
   obtain ⟨o,n,e,c,hd,_⟩:=pl
   exact ⟨o,e,hd⟩
  ·refine ⟨⟨o,I.kU p o hk,hc⟩,fun a e=>?_⟩
   cases e
   exact ⟨o,I.kU _ o hk,hd⟩
  ·have z:∃ o,s.heap.get? p=some o∧o.ExactDict:=by
    rcases hk with ⟨kvs,hk⟩ | ⟨kvs,ep,hk⟩
    ·obtain ⟨_,_,_,_,o,_,_,e,ex,_⟩:=I.hok p _ hk
     exact ⟨o,e,ex⟩
    ·obtain ⟨_,_,_,_,o,_,e,ex,_⟩:=I.hok p _ hk
     exact ⟨o,e,ex⟩
   obtain ⟨o,e,ex⟩:=z
   refine ⟨⟨o,e,ex.1⟩,fun a e2=>?_⟩
   cases e2
   exact ⟨o,e,ex.2.1⟩
  ·obtain ⟨o,_,_,_,e,ex,_⟩:=I.hok p _ hk
   refine ⟨⟨o,e,ex.1⟩,fun a e2=>?_⟩
   cases e2
   exact ⟨o,e,ex.2.1⟩
 | _=>exact False.elim ty
def Mu (K:PySem.W.Frag) (T:String) (r:V→List V→Hp→VK→Prop) (to:TE):TE:=fun σ H Q=>to σ H fun x H1=>Lb K T x H1∧r x [] H1 Q
def K7 (K:PySem.W.Frag) (T:String) (r:V→List V→Hp→VK→Prop) (to:TE) (t:TA):TE:=fun σ H Q=>to σ H fun x H1=>Lb K T x H1∧t σ H1 fun xs H2=>r x xs H2 Q
variable {o e:Expr} {es:List Expr} {to:TE} {t:TA} {name:Str} {apos cpos:Pos} {T id:String} {r:V→List V→Hp→VK→Prop}
theorem Hm (pa:PlainAttrs T) (slot:Slot T name id) (hty:typeOf (.builtin id)=pure (.type "method_descriptor")) (hm:mO X id r) (ho:PE X o to)
  (hbase:attributeBase o name X.env (eval o X.env)=eval o X.env:=by rfl) (hline:(apos.endLine == cpos.line)=true:=by rfl):PE X (.Call (.Attribute o name apos) [] [] cpos) (Mu X.K T r to):=by
 intro pins s σ H Q I h
 refine wpAny_Call_method0_late hbase hline (bM (ho pins s σ H _ I h) fun v s1 ⟨x,H1,I1,r1,ty,q1⟩=>?_)
 obtain ⟨h1,h2⟩:=C1 I1 r1 ty
 exact ⟨T,id,pa,slot,hty,h1,h2,Calls.callWith_builtin rfl (PySem.evalArgs_none (hm pins s1 σ H1 x [] v [] Q I1 r1 .nil q1))⟩
theorem oK (pa:PlainAttrs T) (slot:Slot T name id) (hty:typeOf (.builtin id)=pure (.type "method_descriptor")) (hm:mO X id r) (ho:PE X o to) (ha:PA X (e :: es) t)
  (hbase:attributeBase o name X.env (eval o X.env)=eval o X.env:=by rfl)
  (hfew:((backTo cpos (starEach (e :: es) X.env)).all (fun x=>!x.1) && (backToKw cpos (keywordEach [] X.env)).all (fun x=>x.1.isSome)
   && decide ((e :: es).length + ([]:List Keyword).length + (if ([]:List Keyword).isEmpty then 0 else 1) < 30))=true:=by rfl)
  (hline:(apos.endLine == cpos.line)=true:=by rfl) (hs:starEach (e :: es) X.env=(false,eval e X.env) :: starEach es X.env:=by rfl) (hplain:(backTo cpos (starEach es X.env)).any (·.1)=false:=by rfl) :
  PE X (.Call (.Attribute o name apos) (e :: es) [] cpos) (K7 X.K T r to t):=by
 intro pins s σ H Q I h
 refine wpAny_Call_method_late hbase hfew hline rfl (bM (ho pins s σ H _ I h) fun v s1 ⟨x,H1,I1,r1,ty,q1⟩=>?_)
 obtain ⟨h1,h2⟩:=C1 I1 r1 ty
 refine ⟨T,id,pa,slot,hty,h1,h2,?_⟩
 have hA:=ha cpos pins s1 σ H1 _ I1 q1
 rw [hs] at hA ⊢
 refine Calls.callWith_builtin (by show (false || (backTo cpos (starEach es X.env)).any (·.1))=false;rw [hplain] <;> rfl) (Calls.evalArgs_plain ?_)
 exact bM hA fun us s2 ⟨vs,H2,I2,r2,q2⟩=>hm pins s2 σ H2 x vs v us Q I2 r1 r2 q2
end
end L2
namespace L2
open PySem PySem.Spec PyProof.Rows
def MK (X:Cx) (id:String) (r:V→List V→Hp→VK→Prop):Prop :=
 ∀ (pins:List (Addr × Obj)) (s:Shared) (σ:St) (H:Hp) (x:V) (xs:List V) (v:Value) (us:List Value) (Q:VK),Inv X pins σ H s→RelV x v→Vals xs us→r x xs H Q →
  wpAny (model X.prog X.w) X.A (call (.builtin id) (v :: us)) (EP X pins σ Q) X.xe s
theorem Vals.one {x:V} {us:List Value} (r:Vals [x] us):∃ u,us=[u]∧RelV x u:=vals1 r
theorem Vals.two {x y:V} {us:List Value} (r:Vals [x,y] us):∃ u v,us=[u,v]∧RelV x u∧RelV y v:=vals2 r
theorem Vals.zero:∀ {us:List Value},Vals [] us→us=[]
 | _,.nil=>rfl
theorem Vals.dropLast {xs:List V} {us:List Value} (h:Vals xs us):Vals xs.dropLast us.dropLast:=by
 induction h with
 | nil=>exact .nil
 | cons r t ih =>
  cases t with
  | nil=>exact .nil
  | cons q t'=>exact .cons r ih
theorem Vals.eraseIdx:∀ {xs:List V} {us:List Value} (i:Nat),Vals xs us→Vals (xs.eraseIdx i) (us.eraseIdx i)
 | _,_,_,.nil=>.nil
 | _,_,0,.cons _ t=>t
 | _,_,i + 1,.cons r t=>.cons r (Vals.eraseIdx i t)
theorem v3 {α:Type} (l:List α):l.eraseIdx (l.length - 1)=l.dropLast:=by
 induction l with
 | nil=>rfl
 | cons a r ih =>
  cases r with
  | nil=>rfl
  | cons b r =>
   have e:(a :: b :: r).length - 1=((b :: r).length - 1) + 1:=by
    have h1:(a :: b :: r).length=r.length + 2:=rfl
    have h2:(b :: r).length=r.length + 1:=rfl
    omega
   rw [e,List.eraseIdx_cons_succ,ih]
   all_goals rfl
section
variable {X:Cx} {pins:List (Addr × Obj)} {σ:St} {H:Hp} {s:Shared} {l b:Addr} {xs ys zs:List V}
theorem Inv.DO {its its':List Value} {n:Nat} {f:Array Value→Array Value} {t':Nat} (I:Inv X pins σ H s) (hH:H l=some (.lst xs))
  (e:s.heap.get? l=some { cls:=.type "list",data:=.seq its.toArray n }) (hf:f its.toArray=its'.toArray) (hv:Vals ys its') (hz:ys.length≤sizeLine) :
  Inv X pins σ (upd H l (.lst ys)) { s with heap:=s.heap.update l (Obj.mapSeq f),toks:=t' }:=by
 have q:=PySem.IsL.update e f
 rw [hf] at q
 refine I.write (x:=l) (e:=l) (by rw [hH];exact trivial) (.inl rfl) (fun b' u hb hu=>(Heap.get?_update_other s.heap (Obj.mapSeq f) (Ne.symm hb)).trans hu) ⟨_,q⟩ ?_
 exact ⟨hz,its',_,hv,q⟩
theorem Inv.Bs (I:Inv X pins σ H s) (hH:H l=some (.lst xs)):xs.length≤sizeLine∧∃ (its:List Value) (n:Nat),Vals xs its∧xs.length=its.length∧s.heap.get? l=some { cls:=.type "list",data:=.seq its.toArray n }:=by
 obtain ⟨z,its,n,r,e⟩:=I.hok l _ hH
 exact ⟨z,its,n,r,r.length,e⟩
end
section
variable {X:Cx}
def yb:V→List V→Hp→VK→Prop:=fun x vs H Q=>∃ l xs y,x=.ref l∧vs=[y]∧H l=some (.lst xs)∧xs.length < sizeLine∧Q .non (upd H l (.lst (xs ++ [y])))
theorem fi:MK X "list.append" yb:=by
 intro pins s σ H x vs v us Q I rx rv h
 obtain ⟨l,xs,y,rfl,rfl,hH,hz,q⟩:=h
 cases rx
 obtain ⟨u,rfl,ru⟩:=rv.one
 obtain ⟨z,its,n,r,hl,e⟩:=I.Bs hH
 refine call_meets F.slot_list_append ⟨_,e,rfl⟩ F.entry_list_append (F.args_list_append_2 _ _) (PySem.list_append l its.toArray n u (by rw [List.size_toArray];omega)) ⟨e,?_⟩
 refine ⟨.non,_,I.DO (its':=its ++ [u]) hH e (by simp) (r.append (.cons ru .nil)) ?_,rfl,q⟩
 rw [List.length_append,List.length_singleton]
 omega
def Mo:V→List V→Hp→VK→Prop:=fun x vs H Q=>∃ l xs y,x=.ref l∧vs=[]∧H l=some (.lst xs)∧xs[xs.length - 1]?=some y∧Q y (upd H l (.lst xs.dropLast))
theorem G_:MK X "list.pop" Mo:=by
 intro pins s σ H x vs v us Q I rx rv h
 obtain ⟨l,xs,y,rfl,rfl,hH,hy,q⟩:=h
 cases rx
 have hus:=rv.zero
 subst hus
 obtain ⟨z,its,n,r,hl,e⟩:=I.Bs hH
 obtain ⟨u,hu,ru⟩:=r.get hy
 have hy':its.toArray[its.toArray.size - 1]?=some u:=by
  show its.toArray[its.length - 1]?=some u
  rw [← Array.getElem?_toList,← hl]
  exact hu
 refine call_meets F.slot_list_pop ⟨_,e,rfl⟩ F.entry_list_pop (F.args_list_pop_1 _) (MeetsSeq.list_pop_last l its.toArray n u hy' (by rw [List.size_toArray];omega)) ⟨e,?_⟩
 refine ⟨y,_,I.DO (its':=its.dropLast) hH e ?_ r.dropLast ?_,ru,q⟩
 ·show its.toArray.eraseIdxIfInBounds (its.toArray.size - 1)=its.dropLast.toArray
  rw [List.size_toArray,List.eraseIdxIfInBounds_toArray,v3]
 ·rw [List.length_dropLast]
  omega
end
section
variable {prog:Program} {w:World} {A:Around} {E:Value→Shared→Prop} {s:Shared}
end
section
variable {X:Cx}
end
end L2
namespace Att
open PySem PySem.W PySem.Calls PyProof.Rows
theorem mQ {P:Params} {h:Heap}:∀ (ns:List Int) (vs:List Value),WellAll P h vs (ns.map WData.int)→IntsAre vs ns:=by
 intro ns
 induction ns with
 | nil =>
  intro vs w
  rw [List.map_nil] at w
  cases w
  exact .nil
 | cons n ns ih =>
  intro vs w
  rw [List.map_cons] at w
  cases w with
  | cons a b =>
   cases a
   exact .cons _ _ (ih _ b)
theorem zU {l:OpenLaw} {n:Nat} (hn:l.most=some n) {P:Params} {h:Heap} {args:List WData} {vals:List Value}
  (hpre:l.row.toRowW.claim.pre args=true) (hwl:WellAll P h vals args) :
  ∃ a vs ns,vals=[Value.ref a]∧args=[WData.list (ns.map WData.int)]∧h.get? a=some { cls:=.type "list",data:=.seq vs.toArray }∧IntsAre vs ns∧ns.length≤n:=by
 have hsh:WShape.hasAll [] args [.list .int]=true:=(pre_splitW hpre).1
 have hc:l.pre.holds [] { args:=args }=true:=(pre_splitW hpre).2
 obtain ⟨d,r,rfl,h1,h2⟩:=hasAllW_cons hsh
 obtain rfl:=hasAllW_nil h2
 obtain ⟨xs,rfl,h3⟩:=hasW_list h1
 obtain ⟨ns,rfl⟩:=items_int h3
 have hlen:ns.length≤n:=by
  unfold OpenLaw.pre at hc
  have h4:(WTm.not (.lt (.lit (.int (n:Int))) (.len (.arg 0)))).holds [] { args:=[.list (ns.map .int)] }=true:=by
   have h4:=(holds_andW hc).1
   rw [hn] at h4
   exact h4
  have h5:=condW_of h4 (w_not (w_lt w_lit (w_len_list (w_arg rfl))))
  rw [List.length_map] at h5
  refine Nat.le_of_not_lt fun q=>?_
  have q':(n:Int) < ((ns.length:Nat):Int):=by omega
  first
   | (rw [decide_eq_true q'] at h5;exact absurd h5 (by decide))
   | (simp at h5;omega)
 cases hwl with
 | cons w1 w2 =>
  cases w2
  cases w1 with
  | list ho hall=>exact ⟨_,_,ns,rfl,rfl,ho,mQ ns _ hall,hlen⟩
theorem zP (l:OpenLaw) (args:List WData):l.row.toRowW.claim.post args (.bool true) args=true :=
 postW_of (r:=l.row.toRowW) (X:=(true == true))
  (show WShape.has [] (.bool true) .bool=true by first | rfl | decide | simp [WShape.has,WShape.arms,WShape.armsAll])
  (show (WTm.eq .res (.lit (.bool true))).value [] { args:=args,res:=some (.bool true),after:=args }=some (.bool (true == true)) from w_eq_bool (w_res rfl) w_lit) rfl
theorem tY {l:OpenLaw} {n:Nat} {q:Program} {loose:List Str} {XP:(Str→Option Value)→Heap→Prop} {YP:World→Heap→Prop} {d:DefRec}
  (hn:l.most=some n) (hdf:d.params.defaults=[])
  (call:∀ (w:World) (s₀ s₁:Shared) (mg mb:Str→Option Value) (fa:Addr) (o:Obj) (pm cd doc:Value) (a:Addr) (vs:List Value) (ns:List Int),
   Ground q loose [] XP w s₀ mg mb s₁.heap→YP w s₁.heap →
   s₁.heap.get? fa=some o→o.data=.func (docDef d.name d.params d.body d.scope pm cd doc)→s₁.heap.CodeRec cd d.name→mg d.name=some (.ref fa) →
   s₁.heap.get? a=some { cls:=.type "list",data:=.seq vs.toArray }→IntsAre vs ns→ns.length≤n→s₁.gens=#[] →
   codeAny (model l.prog w) callerA (.call (.ref fa) ⟨[.ref a],[]⟩) (fun r s'=>r=.ok (.ret (.bool true))∧OldK s₁.heap s'.heap∧s'.os=s₁.os∧AllBare s'.gens) s₁) :
  WalkO q loose XP YP l.row.toRowW d [] (fun f vs=>PySem.call f vs):=by
 intro w s₀ s₁ mg mb G Y fa o pm cd doc dV kV ho hd hcd hD hmg hg args vals as hpre hlay hrd hwl hlo
 obtain rfl:dV=.none:=Dflts.none hD hdf
 obtain rfl:kV=.none:=Dflts.noKw hD
 obtain ⟨a,vs,ns,rfl,rfl,hobj,hints,hlen⟩:=zU hn hpre hwl
 refine enter_call (codeAny_mono (call w s₀ s₁ mg mb fa o pm cd doc a vs ns G Y ho (fd_plain hd) hcd hmg hobj hints hlen hg) fun r s' hq=>?_)
 obtain ⟨rfl,h2,h3,h4⟩:=hq
 exact ⟨.inl ⟨.bool true,.bool true,[],rfl,fun _=>rfl,.bool true,zP l _,fun _=>⟨List.Pairwise.nil,fun _ hm=>(nomatch hm)⟩⟩,h2,h3,h4⟩
section
variable {prog:Program} {w:World} {A:Around} {E:Value→Shared→Prop} {s:Shared} {K:Frag}
end
end Att
namespace L2
open PySem PySem.Spec PyProof.Rows
theorem qT:∀ {vs:List Value} {ns:List Int},IntsAre vs ns→Vals (ns.map V.int) vs
 | _,_,.nil=>.nil
 | _,_,.cons n t h=>.cons ⟨t,rfl⟩ (qT h)
end L2
namespace L2
open PySem PySem.Spec PyProof.Rows
abbrev cf {K:PySem.W.Frag} {h:Heap} (_:K.In h):PySem.W.Frag:=K
end L2
namespace L2
open PySem PySem.Spec PyProof.Rows
def inClass (s:Stmt) (j:Nat):Stmt:=match s with
 | .ClassDef _ _ _ body _ _ _ _ _ _ _=>body.getD j (.Pass ⟨0,0,0,0⟩)
 | _=>.Pass ⟨0,0,0,0⟩
def cK (s:Stmt):Arguments:=match s with
 | .FunctionDef _ a _ _ _ _ _ _ _ _=>a
 | _=>{ posonlyargs:=[],args:=[],vararg:=none,kwonlyargs:=[],kw_defaults:=[],kwarg:=none,defaults:=[] }
def bO (s:Stmt):List Stmt:=match s with
 | .FunctionDef _ _ b _ _ _ _ _ _ _=>b
 | _=>[]
def ai (s:Stmt):Scope:=match s with
 | .FunctionDef _ _ _ _ _ _ sc _ _ _=>sc
 | _=>{ kind:=.function,names:=[],isGenerator:=false,isCoroutine:=false }
abbrev nK:pj:=fun _ _ _ _ _ _=>False
abbrev E0:XK:=fun _ _ _=>False
theorem Jx {X:Cx}:Passes nK X E0:=fun _ _ _ _ _ _ _ h=>h.elim
structure cq (K:PySem.W.Frag) (x qual:Str) (st:Stmt) (f:Addr) (fd:FuncData):Prop where
 ex:∃ (oc:Value) (od:Option Addr) (kV doc pm:Value) (an:Option Addr) (cdv ct:Value) (osl:Array (Option Value)),
  fd=PySem.W.fnOf x qual (cK st) (bO st) (ai st) .none kV doc pm an cdv ct∧K.lookup f=some ⟨oc,od,.func fd,osl⟩∧PySem.W.codeIn K cdv qual=true
 kp:PySem.W.keepIn K (.ref f)=true
section
variable {P:Program} {w:World} {K:PySem.W.Frag} {mg:Str→Option Value} {base:Heap}
theorem cq.ok {x qual:Str} {st:Stmt} {f:Addr} {fd:FuncData} {N ps:List Str} {k:Nat} {sp:Sp} (F:cq K x qual st f fd) (S:aw N ps (ai st)) (len:∀ vs H Q E,sp vs H Q E→vs.length=ps.length)
  (hbody:∀ (cdv:Value) (A:Around) (outer:List Env) (s:Shared) (H:Hp) (vs:List V) (Q:VK) (E:XK),bI k (A.deeper (envOfC qual (ai st) s.heap.objs.size f cdv))→sp vs H Q E →
   ∃ t,qg (rA nK P w K mg base N qual (ai st) f cdv A outer s H E).G' (bO st) t∧t { nx:=fun _ H'=>Q .non H',rt:=Q } (start N vs) H):aQ P w K mg base nK (k + 1) f fd ps sp:=by
 obtain ⟨oc,od,kV,doc,pm,an,cdv,ct,osl,rfl,lk,hcd⟩:=F.ex
 refine AV lk hcd S len fun A outer s H vs Q E hr hsp=>?_
 obtain ⟨t,h,q⟩:=hbody cdv A outer s H vs Q E hr hsp
 exact ⟨t,h.G',q⟩
theorem cq.binds {x qual:Str} {st:Stmt} {f:Addr} {fd:FuncData} {ps:List Str} (F:cq K x qual st f fd)
  (h:∀ (kV doc pm:Value) (an:Option Addr) (cdv ct:Value) (us:List Value),us.length=ps.length→bindArgs (PySem.W.fnOf x qual (cK st) (bO st) (ai st) .none kV doc pm an cdv ct) ⟨us,[]⟩=pure (ps.zip us)):Binds K fd ps []:=by
 obtain ⟨oc,od,kV,doc,pm,an,cdv,ct,osl,rfl,lk,hcd⟩:=F.ex
 exact .all (h kV doc pm an cdv ct)
theorem v7 {x qual:Str} {st:Stmt} {f:Addr} {oc:Value} {od an:Option Addr} {osl:Array (Option Value)} {kV doc pm cdv ct:Value} (l:K.lookup f=some ⟨oc,od,.func (PySem.W.fnOf x qual (cK st) (bO st) (ai st) .none kV doc pm an cdv ct),osl⟩)
  (c:PySem.W.codeIn K cdv qual=true) (k:PySem.W.keepIn K (.ref f)=true):cq K x qual st f (PySem.W.fnOf x qual (cK st) (bO st) (ai st) .none kV doc pm an cdv ct):=⟨⟨oc,od,kV,doc,pm,an,cdv,ct,osl,rfl,l,c⟩,k⟩
end
theorem a_ {n:Nat} (h:n≤1000):n < sizeLine:=Nat.lt_of_le_of_lt h (by decide)
section
variable {X:Cx}
theorem pv (i:Nat) {x:Str} {pos:Pos} (hN:X.N[i]?=some x:=by rfl) (hv:tP X.env.scope x:=by first | exact Or.inl rfl | exact Or.inr (Or.inl rfl) | exact Or.inr (Or.inr rfl)) (hd:(x == ("__debug__":Str))=false:=by decide)
  (hcd:(x == ("__classdict__":Str))=false:=by decide):PE X (.Name x pos) (zW i):=wG hN hv hd hcd
end
theorem Bg {c A B:Prop} [Decidable c] (h1:c→A) (h2:¬ c→B):if c then A else B:=by
 by_cases h:c
 ·rw [if_pos h]
  exact h1 h
 ·rw [if_neg h]
  exact h2 h
def bt (H H':Hp):Prop:=∀ b o,H b=some o→H' b=some o
theorem bt.trans {H H1 H2:Hp} (a:bt H H1) (b:bt H1 H2):bt H H2:=fun c o h=>b c o (a c o h)
theorem bt.free {H H':Hp} (e:bt H H') {l:Addr} (h:H' l=Option.none):H l=Option.none:=by
 cases q:H l with
 | none=>rfl
 | some o =>
  rw [e l o q] at h
  cases h
theorem bt.seq {K:PySem.W.Frag} {H H':Hp} {a:Addr} {xs:List V} (e:bt H H') (h:c8 K H a xs):c8 K H' a xs:=by
 rcases h with (h | ⟨o,h⟩) | h
 ·exact .inl (.inl (e _ _ h))
 ·exact .inl (.inr ⟨o,e _ _ h⟩)
 ·exact .inr h
end L2
namespace Ov
theorem uc {a b:Int} (h:b≠0):Int.gcd b (a % b)=Int.gcd a b:=by
 have e:a=b * (a / b) + a % b:=(Int.mul_ediv_add_emod a b).symm
 have d1:((Int.gcd b (a % b):Nat):Int) ∣ a:=by
  rw [e]
  exact Int.dvd_add (Int.dvd_trans (Int.gcd_dvd_left ..) (Int.dvd_mul_right ..)) (by rw [← e];exact Int.gcd_dvd_right ..)
 have d2:((Int.gcd a b:Nat):Int) ∣ a % b:=by
  have e2:a % b=a - b * (a / b):=by omega
  rw [e2]
  exact Int.dvd_sub (Int.gcd_dvd_left ..) (Int.dvd_trans (Int.gcd_dvd_right ..) (Int.dvd_mul_right ..))
 exact Nat.dvd_antisymm (Int.dvd_gcd d1 (Int.gcd_dvd_left ..)) (Int.dvd_gcd (Int.gcd_dvd_right ..) d2)
theorem xH {a:Int} (h:0≤a):((Int.gcd a 0:Nat):Int)=a:=by
 rw [Int.gcd_zero_right];omega
theorem DB (a b:Int):Int.gcd (if a < 0 then -a else a) (if b < 0 then -b else b)=Int.gcd a b:=by
 split <;> split <;> simp [Int.gcd_neg,Int.neg_gcd]
theorem AZ (a b:Int):Int.gcd (if a < 0 then -a else a) b=Int.gcd a b:=by
 split <;> simp [Int.gcd_neg,Int.neg_gcd]
theorem xI {t b:Int} (h:b≠0):0 < ((Int.gcd t b:Nat):Int):=by
 have:0 < Int.gcd t b:=Int.gcd_pos_of_ne_zero_right t h
 omega
theorem GL {t b:Int} (h:b≠0):Int.gcd t b≤b.natAbs:=Nat.le_of_dvd (by omega) (Int.ofNat_dvd.mp (by rw [Int.dvd_natAbs];exact Int.gcd_dvd_right ..))
theorem rX {t b:Int} (h:0 < b):t.fdiv ((Int.gcd t b:Nat):Int)=(Rat.divInt t b).num:=by
 rw [Rat.num_divInt,Int.sign_eq_one_of_pos h,Int.one_mul,Int.gcd_comm b t,Int.fdiv_eq_ediv_of_nonneg _ (Int.natCast_nonneg _)]
theorem den_pos {t b:Int} (h:0 < b):b.fdiv ((Int.gcd t b:Nat):Int)=((Rat.divInt t b).den:Int):=by
 rw [Rat.den_divInt,if_neg (by omega),Int.gcd_comm b t,Int.fdiv_eq_ediv_of_nonneg _ (Int.natCast_nonneg _)]
 rw [Int.natCast_ediv]
 congr 1
 omega
theorem xW {t b:Int} (h:b < 0):t.fdiv (-((Int.gcd t b:Nat):Int))=(Rat.divInt t b).num:=by
 have e:t.fdiv (-((Int.gcd t b:Nat):Int))=(-t).fdiv ((Int.gcd t b:Nat):Int):=by
  have:=Int.neg_fdiv_neg (a:=-t) (b:=((Int.gcd t b:Nat):Int))
  rw [← this];simp
 rw [e,Rat.num_divInt,Int.sign_eq_neg_one_of_neg h,Int.gcd_comm b t,Int.fdiv_eq_ediv_of_nonneg _ (Int.natCast_nonneg _)]
 congr 1
 omega
theorem Du {t b:Int} (h:b < 0):b.fdiv (-((Int.gcd t b:Nat):Int))=((Rat.divInt t b).den:Int):=by
 have e:b.fdiv (-((Int.gcd t b:Nat):Int))=(-b).fdiv ((Int.gcd t b:Nat):Int):=by
  have:=Int.neg_fdiv_neg (a:=-b) (b:=((Int.gcd t b:Nat):Int))
  rw [← this];simp
 rw [e,Rat.den_divInt,if_neg (by omega),Int.gcd_comm b t,Int.fdiv_eq_ediv_of_nonneg _ (Int.natCast_nonneg _)]
 rw [Int.natCast_ediv]
 congr 1
 omega
theorem xV (t b:Int):(Rat.divInt t b).num.natAbs≤t.natAbs:=by
 rcases Int.lt_trichotomy b 0 with h | h | h
 ·rw [← xW h]
  exact Int.natAbs_fdiv_le_natAbs ..
 ·subst h;simp
 ·rw [← rX h,Int.fdiv_eq_ediv_of_nonneg _ (Int.natCast_nonneg _)]
  exact Int.natAbs_ediv_le_natAbs ..
theorem rD {t b:Int} (h:b≠0):(((Rat.divInt t b).den:Int)).natAbs≤b.natAbs:=by
 rw [Rat.den_divInt,if_neg h]
 exact Nat.div_le_self ..
theorem jT (p:Rat):Rat.divInt p.num p.den=p:=Rat.num_divInt_den p
theorem d3 (p:Rat):(p.den:Int)≠0:=by have:=p.den_pos;omega
theorem i5 (p:Rat):(0:Int) < p.den:=by have:=p.den_pos;omega
theorem add_eq (p q:Rat):Rat.divInt (p.num * q.den + q.num * p.den) (p.den * q.den)=p + q:=by
 rw [← Rat.divInt_add_divInt _ _ (d3 p) (d3 q),jT,jT]
theorem sub_eq (p q:Rat):Rat.divInt (p.num * q.den - q.num * p.den) (p.den * q.den)=p - q:=by
 rw [← Rat.divInt_sub_divInt _ _ (d3 p) (d3 q),jT,jT]
theorem mul_eq (p:Rat) (m:Int):Rat.divInt (p.num * m) p.den=p * m:=by
 have:=Rat.divInt_mul_divInt p.num m (d₁:=p.den) (d₂:=1)
 rw [jT,Int.mul_one] at this
 rw [← this,Rat.divInt_eq_div]
 congr 1
 grind
theorem cast_eq (p:Rat):(p.num:Rat)=p * (p.den:Int):=by
 have h:((p.den:Int):Rat)≠0:=by
  intro e
  exact d3 p (by exact_mod_cast e)
 have e:=jT p
 rw [Rat.divInt_eq_div] at e
 grind
theorem i4 (p:Rat):((p.den:Int):Rat)≠0:=fun e=>d3 p (by exact_mod_cast e)
theorem IL (b p m:Rat) (v:Int):Rat.divInt (p.num * (m.den * b.den) + v * (m.num * b.den - b.num * m.den) * p.den) (p.den * (m.den * b.den))=p + (m - b) * v:=by
 have h:=i4 p
 have g:=i4 b
 have k:=i4 m
 simp only [Rat.divInt_eq_div,Rat.intCast_add,Rat.intCast_sub,Rat.intCast_mul,cast_eq p,cast_eq b,cast_eq m]
 generalize ((p.den:Int):Rat)=d at h ⊢
 generalize ((b.den:Int):Rat)=e at g ⊢
 generalize ((m.den:Int):Rat)=f at k ⊢
 generalize (v:Rat)=v
 grind
theorem uh {n:Int} (h:n≠0):(n:Rat)≠0:=fun e=>h (by exact_mod_cast e)
theorem Hy (g:Rat) (n:Int) (h:n≠0):Rat.divInt g.num (g.den * n)=g / n:=by
 have k:=i4 g
 have l:=uh h
 simp only [Rat.divInt_eq_div,Rat.intCast_mul,cast_eq g]
 generalize ((g.den:Int):Rat)=d at k ⊢
 generalize (n:Rat)=n at l ⊢
 grind
def rank (n:Nat) (f:Nat→Nat→Bool) (k:Nat):Nat:=(List.range n).countP fun j=>j != k && f j k
end Ov
namespace Ov
open PySem PySem.Spec PyProof.Rows L2
structure Bd (n:Nat) (x:Int):Prop where
 lt:x.natAbs < 2 ^ n
theorem Bd.bits {n:Nat} {x:Int} (h:Bd n x):Builtin.Int.intBits x≤n:=intBits_le_iff.mpr h.lt
theorem Bd.of {n:Nat} {x:Int} (h:Builtin.Int.intBits x≤n):Bd n x:=⟨intBits_le_iff.mp h⟩
theorem Bd.mono {m n:Nat} {x:Int} (h:Bd m x) (hmn:m≤n):Bd n x:=.of (Nat.le_trans h.bits hmn)
theorem Bd.neg {n:Nat} {x:Int} (h:Bd n x):Bd n (-x):=.of (intBits_neg_le h.bits)
theorem Bd.add {m n k:Nat} {x y:Int} (h:Bd m x) (g:Bd n y) (hk:max m n + 1≤k:=by decide):Bd k (x + y):=(Bd.of (intBits_add_le h.bits g.bits)).mono hk
theorem Bd.sub {m n k:Nat} {x y:Int} (h:Bd m x) (g:Bd n y) (hk:max m n + 1≤k:=by decide):Bd k (x - y):=(Bd.of (intBits_sub_le h.bits g.bits)).mono hk
theorem Bd.mul {m n k:Nat} {x y:Int} (h:Bd m x) (g:Bd n y) (hk:m + n≤k:=by decide):Bd k (x * y):=(Bd.of (intBits_mul_le h.bits g.bits)).mono hk
theorem Bd.le {n:Nat} {x y:Int} (g:Bd n y) (h:x.natAbs≤y.natAbs):Bd n x:=⟨Nat.lt_of_le_of_lt h g.lt⟩
theorem Bd.small {x:Int} (h1:-(2 ^ 64) < x) (h2:x < 2 ^ 64):Bd 64 x:=.of (intBits_le_64 h1 h2)
theorem Bd.log {n:Nat} {x:Int} (h:Bd n x) (hn:n≤9000) (h0:x≠0):x.natAbs.log2 < 9000 :=
 Nat.lt_of_lt_of_le ((Nat.log2_lt (by omega)).mpr h.lt) hn
section
variable {X:Cx}
def CM (i j:Int):Prop:=∃ m n,Bd m i∧Bd n j∧m + n≤134217728
theorem CM.of {m n:Nat} {i j:Int} (h:Bd m i) (g:Bd n j) (hk:m + n≤134217728:=by decide):CM i j:=⟨m,n,h,g,hk⟩
theorem cg:er X (binaryOp .Mult) (rI CM fun i j=>.int (i * j)):=K3 fun _ _ _ _ _ _ _ hc q=>by
 obtain ⟨m,n,h,g,hk⟩:=hc
 exact mul_int q (IntMulOk.of_le h.bits g.bits hk)
def CQ (_ j:Int):Prop:=j≠0∧Bd 9000 j
theorem fE:er X (binaryOp .FloorDiv) (rI CQ fun i j=>.int (i.fdiv j)):=K3 fun _ _ _ _ _ _ _ hc q =>
 floordiv_int hc.1 q (.inl (PyProof.noPylong_of_log2 (hc.2.log (Nat.le_refl _) hc.1)))
def Nw (f:Bool→Bool):R2:=fun x y H Q=>∃ (p q:Addr) (a b c d:Int),x=.ref p∧y=.ref q∧H p=some (.tup [.int a,.int b])∧H q=some (.tup [.int c,.int d])∧Q (.bl (f (decide (a=c∧b=d)))) H
def Kt (t u:TS):TS:=fun D σ H=>∃ M:L2.St→Hp→Prop,t { D with nx:=M } σ H∧∀ σ' H',M σ' H'→u D σ' H'
theorem Eo {st:Stmt} {rest:List Stmt} {t u:TS} (h1:PS X st t) (h2:qg X rest u):qg X (st :: rest) (Kt t u):=by
 intro pins s σ H D I h
 obtain ⟨M,h,k⟩:=h
 refine wpAny_execs_cons (bM (h1 pins s σ H { D with nx:=M } I h) fun f s1 q=>?_)
 cases f with
 | next =>
  obtain ⟨σ',H',I',q⟩:=q
  exact h2 pins s1 σ' H' D I' (k _ _ q)
 | ret v=>exact q
 | brk=>exact q
 | cont=>exact q
end
section
variable {X:Cx}
def FR:R2:=fun x y H Q=>∃ p xs i v,x=.ref p∧y=.int i∧H p=some (.lst xs)∧cU xs i=some v∧Q v H
def JY:R2:=fun x y H Q=>∃ p xs i v,x=.ref p∧y=.int i∧H p=some (.tup xs)∧cU xs i=some v∧Q v H
theorem fA:mW X FR:=fun value slice pins s σ H x y v u Q I rx ry ⟨p,xs,i,z,e1,e2,h,e3,q⟩ hs =>
 rL value slice pins s σ H x y v u Q I rx ry ⟨p,xs,i,z,e1,e2,c8.of h,e3,q⟩ hs
end
theorem de {α:Type} (x:α) (xs:List α):cU (x :: xs) 0=some x:=ba (j:=0) rfl
theorem eV {α:Type} (x y:α) (xs:List α):cU (x :: y :: xs) 1=some y:=ba (j:=1) rfl
theorem kJ {α:Type} (x y z:α) (xs:List α):cU (x :: y :: z :: xs) 2=some z:=ba (j:=2) rfl
theorem AB {α:Type} (x y z u:α) (xs:List α):cU (x :: y :: z :: u :: xs) 3=some u:=ba (j:=3) rfl
theorem ES (i j:Int):Cu (.int i) (.int j)=true:=rfl
theorem ER (i j:Bool):Cu (.bl i) (.bl j)=true:=rfl
theorem ET (i j:Str):Cu (.str i) (.str j)=true:=rfl
def pq (P:Program) (w:World) (K:PySem.W.Frag) (mg:Str→Option Value) (base:Heap) (k:Nat) (x:Str) (ps:List Str) (sp:Sp):Prop :=
 ∃ f fd,aQ P w K mg base nK k f fd ps sp∧Binds K fd ps []∧PySem.W.keepIn K (.ref f)=true∧mg x=some (.ref f)
theorem Hn {X:Cx} {k k':Nat} {x:Str} {ps:List Str} {sp:Sp} {p pos:Pos} {e:Expr} {es:List Expr} {t:TA} (C:pq X.prog X.w X.K X.mg X.base k x ps sp) (hr:bI k' X.A) (hk:k≤k') (hg:Gl X x) (ha:PA X (e :: es) t)
  (hdb:(x == ("__debug__":Str))=false:=by decide) (he:starEach (e :: es) X.env=(false,eval e X.env) :: starEach es X.env:=by rfl) (hpl:(backTo pos (starEach es X.env)).any (·.1)=false:=by rfl) :
  PE X (.Call (.Name x p) (e :: es) [] pos) (pe sp [] E0 t):=by
 obtain ⟨f,fd,F,b,kp,m⟩:=C
 exact xZ F (hr.mono hk) hg m kp b .nil Jx ha hdb he hpl
theorem eJ {N P:List Str} {sc:Scope} (a:sc.kind=.function:=by rfl) (b:sc.isCoroutine=false:=by rfl) (c:sc.isGenerator=false:=by rfl) (d:N.Nodup:=by decide +kernel) (e:N.take P.length=P:=by rfl) (f:∀ x∈P,sc.names.lookup x=some .local∨sc.names.lookup x=some .cell:=by decide +kernel) (g:∀ y∈sc.names,y.2≠.free:=by decide +kernel):aw N P sc:=⟨a,b,c,d,e,f,g⟩
def Def (K:PySem.W.Frag) (mg:Str→Option Value) (x:Str) (st:Stmt):Prop:=∃ f fd,cq K x x st f fd∧mg x=some (.ref f)
theorem GG {K:PySem.W.Frag} {h:Heap} {mg:Str→Option Value} {x:Str} {st:Stmt} (X:K.In h) (G:h.Ns mainGlobals mg) {f:Addr} {od an:Option Addr} {sl:Array (Option Value)} {oc kV dc pm cd ct:Value}
  (a:PySem.W.nsIn K mainGlobals x=some (some (.ref f))) (l:K.lookup f=some ⟨oc,od,.func (PySem.W.fnOf x x (cK st) (bO st) (ai st) .none kV dc pm an cd ct),sl⟩) (c:PySem.W.codeIn K cd x=true) (k:PySem.W.keepIn K (.ref f)=true) :
  Def K mg x st:=⟨f,_,v7 l c k,PySem.W.mg_of X G a⟩
theorem Def.AE {P:Program} {w:World} {K:PySem.W.Frag} {mg:Str→Option Value} {base:Heap} {x:Str} {st:Stmt} {k:Nat} {ps:List Str} {sp:Sp} (D:Def K mg x st)
  (h:∀ f fd,cq K x x st f fd→aQ P w K mg base nK k f fd ps sp)
  (hb:∀ (kV doc pm:Value) (an:Option Addr) (cdv ct:Value) (us:List Value),us.length=ps.length→bindArgs (PySem.W.fnOf x x (cK st) (bO st) (ai st) .none kV doc pm an cdv ct) ⟨us,[]⟩=pure (ps.zip us)) :
  pq P w K mg base k x ps sp:=by
 obtain ⟨f,fd,F,m⟩:=D
 exact ⟨f,fd,h f fd F,F.binds hb,F.kp,m⟩
theorem GX {K:PySem.W.Frag} {mg:Str→Option Value} {st:Stmt} {fa:Addr} {p:Str} (D:Def K mg "law" st) (hfa:mg "law"=some (.ref fa))
  (hb:∀ (kV doc pm:Value) (an:Option Addr) (cdv ct:Value) (u:Value),bindArgs (PySem.W.fnOf "law" "law" (cK st) (bO st) (ai st) .none kV doc pm an cdv ct) ⟨[u],[]⟩=pure [(p,u)]) :
  ∃ fd,cq K "law" "law" st fa fd∧∀ (s:Shared) (u:Value),BindsTo s fd ⟨[u],[]⟩ [(p,u)]:=by
 obtain ⟨f,fd,F,m⟩:=D
 have e:=m.symm.trans hfa
 cases e
 obtain ⟨oc,od,kV,doc,pm,an,cdv,ct,osl,rfl,lk,hcd⟩:=F.ex
 exact ⟨_,F,fun s u=>.of_eq (hb kV doc pm an cdv ct u)⟩
structure Ae (mg:Str→Option Value):Prop where
 abs:mg "abs"=none
 len:mg "len"=none
 isinstance:mg "isinstance"=none
 range:mg "range"=none
 int:mg "int"=none
 bool:mg "bool"=none
 tuple:mg "tuple"=none
 list:mg "list"=none
 sorted:mg "sorted"=none
 all:mg "all"=none
theorem _root_.L2.bt.tup {K:PySem.W.Frag} {H H':Hp} {a:Addr} {xs:List V} (e:bt H H') (h:eL K H a xs):eL K H' a xs:=by
 rcases h with (h | ⟨o,h⟩) | h
 ·exact .inl (.inl (e _ _ h))
 ·exact .inl (.inr ⟨o,e _ _ h⟩)
 ·exact .inr h
theorem _root_.L2.bt.new {H:Hp} {p:Addr} (h:H p=none) (o:HO):bt H (upd H p o):=fun b u q=>by rw [aG (bR q h)];exact q
theorem _root_.L2.bt.Im {H H':Hp} {p:Addr} (h:H p=none) (e:bt H H') (o:HO):bt H (upd H' p o):=fun b u q=>by rw [aG (bR q h)];exact e b u q
def Ic (K:PySem.W.Frag) (H:Hp) (a:Addr) (q:Rat):Prop:=eL K H a [.int q.num,.int q.den]
structure Sz (n:Nat) (q:Rat):Prop where
 num:Bd n q.num
 den:Bd n q.den
theorem Sz.mono {m n:Nat} {q:Rat} (h:Sz m q) (k:m≤n):Sz n q:=⟨h.num.mono k,h.den.mono k⟩
theorem ED (x y:Rat):(x.num=y.num∧(x.den:Int)=(y.den:Int))=(x=y):=propext
 ⟨fun h=>Rat.ext h.1 (by have:=h.2;omega),fun h=>by subst h;exact ⟨rfl,rfl⟩⟩
theorem i_ (c:Str→NameKind→Bool):∀ (names:List (Str × NameKind)) (y:Str),
  (names.map fun (x:Str × NameKind)=>if c x.1 x.2 then (x.1,NameKind.cell) else (x.1,x.2)).lookup y=(names.lookup y).map fun k=>if c y k then NameKind.cell else k
 | [],_=>rfl
 | (n,k) :: r,y=>by
  have ih:=i_ c r y
  cases hy:y == n with
  | true =>
   have e:y=n:=by simpa using hy
   subst e
   by_cases h:c y k=true <;> simp [List.lookup_cons,h]
  | false =>
   by_cases h:c n k=true <;> simp [List.lookup_cons,h,hy,ih]
theorem ju (sc:Scope) (env:Env) (y:Str):(relabel sc env).names.lookup y=(sc.names.lookup y).map fun k=>if (k == .free && env.scope.kind == .function && env.kindOf y == some .cell) then NameKind.cell else k:=by
 have h:=i_ (fun n k=>k == .free && env.scope.kind == .function && env.kindOf n == some .cell) sc.names y
 exact h
theorem j7 {env:Env}:∀ (names:List (Str × NameKind)) (acc:List (Str × Addr)),(∀ y∈names,y.2=.free→∃ c,env.cells.lookup y.1=some c)→(∀ y c,acc.lookup y=some c→env.cells.lookup y=some c) →
  ∃ cl,(forIn names acc fun (x:Str × NameKind) (r:List (Str × Addr))=>match x with
   | (name,kind)=>if (kind == NameKind.free)=true then (do let c ← cellOf env name;pure (ForInStep.yield ((name,c) :: r))) else (pure (ForInStep.yield r):Sem (ForInStep (List (Str × Addr)))))=(pure cl:Sem (List (Str × Addr))) ∧
   (∀ y c,cl.lookup y=some c→env.cells.lookup y=some c)∧(∀ y c,acc.lookup y=some c→∃ c,cl.lookup y=some c)∧∀ y∈names,y.2=.free→∃ c,cl.lookup y.1=some c
 | [],acc,_,ha=>⟨acc,rfl,ha,fun y c e=>⟨c,e⟩,fun y hy=>by cases hy⟩
 | (n,k) :: r,acc,hn,ha=>by
  by_cases hk:k=.free
  ·subst hk
   obtain ⟨c,hc⟩:=hn (n,.free) List.mem_cons_self rfl
   obtain ⟨cl,e,h1,h2,h3⟩:=j7 r ((n,c) :: acc) (fun y hy=>hn y (List.mem_cons_of_mem _ hy)) (fun y d e=>by
    rw [List.lookup_cons] at e
    cases hy:y == n with
    | true =>
     rw [hy] at e
     have e1:y=n:=by simpa using hy
     subst e1
     rw [hc]
     exact e
    | false=>rw [hy] at e;exact ha y d e)
   have self:∃ d,cl.lookup n=some d:=h2 n c (by simp [List.lookup_cons])
   refine ⟨cl,?_,h1,fun y d q=>?_,fun y hy hf=>?_⟩
   ·rw [List.forIn_cons]
    have ec:cellOf env n=pure c:=by unfold cellOf;rw [hc]
    simp only [beq_self_eq_true,if_true,ec,pure_bind]
    exact e
   ·by_cases hy:y=n
    ·subst hy;exact self
    ·exact h2 y d (by rw [List.lookup_cons];have:(y == n)=false:=by simpa using hy
                      rw [this];exact q)
   ·rcases List.mem_cons.mp hy with rfl | hy
    ·exact self
    ·exact h3 y hy hf
  ·obtain ⟨cl,e,h1,h2,h3⟩:=j7 r acc (fun y hy=>hn y (List.mem_cons_of_mem _ hy)) ha
   refine ⟨cl,?_,h1,h2,fun y hy hf=>?_⟩
   ·rw [List.forIn_cons]
    have hb:(k == NameKind.free)=false:=by simpa using hk
    simp only [hb,Bool.false_eq_true,if_false,pure_bind]
    exact e
   ·rcases List.mem_cons.mp hy with rfl | hy
    ·exact absurd hf hk
    ·exact h3 y hy hf
theorem fv {sc:Scope} {env:Env} (h:∀ y∈sc.names,y.2=.free→∃ c,env.cells.lookup y.1=some c) :
  ∃ cl,closureFor sc env=pure cl∧(∀ y c,cl.lookup y=some c→env.cells.lookup y=some c)∧∀ y∈sc.names,y.2=.free→∃ c,cl.lookup y.1=some c:=by
 obtain ⟨cl,e,h1,_,h3⟩:=j7 sc.names [] h (fun y c z=>by cases z)
 refine ⟨cl,?_,h1,h3⟩
 unfold closureFor
 have e':=congrArg (fun m=>m >>= fun r=>(pure r:Sem (List (Str × Addr)))) e
 simp only [pure_bind] at e'
 exact e'
abbrev bU (sc osc:Scope) (N:List Str) (x:Str) (ks:List (Str × Nat)):Prop :=
 sc.kind=.function∧(∀ y∈sc.names,y.2≠.cell)∧sc.names.lookup x=some .local∧(∀ y∈sc.names,y.2=.local→sc.names.lookup y.1=some .local) ∧
 (∀ y∈sc.names,y.2=.free→osc.names.lookup y.1=some .cell)∧(∀ p∈ks,N[p.2]?=some p.1∧sc.names.lookup p.1=some .free)∧(x :: ks.map (·.1)).Nodup
def dT (X:Cx) (sc:Scope) (cl:List (Str × Addr)) (C:Addr) (x:Str) (ks:List (Str × Nat)) (s₀:Shared) (H₀:Hp) (fp:List Addr) (pins:List (Addr × Obj)):Cx :=
 { X with N:=x :: ks.map (·.1),s₀:=s₀,H₀:=H₀,env:=compEnvC sc cl C X.env,outer:=X.stack,ex:=fp,fn:=fun _=>false,pn:=X.pn ++ pins,xe:=fun _ _=>False }
def cS (ks:List (Str × Nat)) (σ:L2.St):L2.St:=ks.map fun p=>(σ[p.2]?).getD none
section
variable {X:Cx} {pins:List (Addr × Obj)} {σ:L2.St} {H:Hp} {s:Shared} {sc:Scope} {cl:List (Str × Addr)} {x:Str} {ks:List (Str × Nat)} {fp:List Addr}
theorem get_map {α β:Type} (f:α→β) (l:List α) (i:Nat):(l.map f)[i]?=(l[i]?).map f:=List.getElem?_map
theorem om (I:Inv X pins σ H s) (ok:bU sc X.env.scope X.N x ks) (h1:∀ y c,cl.lookup y=some c→X.env.cells.lookup y=some c) (h2:∀ y∈sc.names,y.2=.free→∃ c,cl.lookup y.1=some c)
  (hfp:∀ b∈fp,iJ X pins H b∧∃ o,s.heap.get? b=some o) {h4:Heap} {m:Str→Option Value} {t':Nat} (hn:h4.Ns s.heap.objs.size m) (kp:∀ b o,s.heap.get? b=some o→h4.get? b=some o) :
  Inv (dT X sc cl s.heap.objs.size x ks s H fp pins) [] (none :: cS ks σ) H { s with heap:=h4,toks:=t' }:=by
 obtain ⟨kd,nc,lx,ll,fr,kk,nd⟩:=ok
 have fresh:H s.heap.objs.size=none:=I.hok.fresh (Nat.le_refl _)
 have lt:∀ b o,s.heap.get? b=some o→b≠s.heap.objs.size:=fun b o e=>Nat.ne_of_lt (Heap.lt_size e)
 have cellLt:∀ y c,X.env.cells.lookup y=some c→c≠s.heap.objs.size:=fun y c e=>by
  obtain ⟨v,o,ho,_⟩:=I.cell y c e
  exact lt c o ho
 have sub:∀ b∈iN X.stack,b=X.env.locals∨b∈X.fs:=fun b hb=>List.mem_cons.mp (I.ko b hb)
 have kof:∀ y,(compEnvC sc cl s.heap.objs.size X.env).kindOf y=(relabel sc X.env).names.lookup y:=fun y=>rfl
 have ok':(dT X sc cl s.heap.objs.size x ks s H fp pins).Ok:={
  mod:=I.ok.mod
  kind:=kd
  glob:=I.ok.glob
  blt:=I.ok.blt
  above:=Nat.le_refl _
  inj:=fun y z c e1 e2=>I.ok.inj y z c (h1 y c e1) (h1 z c e2)
  has:=fun y hy=>by
   rw [show (dT X sc cl s.heap.objs.size x ks s H fp pins).env.kindOf y=_ from kof y,ju] at hy
   cases e:sc.names.lookup y with
   | none=>rw [e] at hy;rcases hy with z | z <;> cases z
   | some k =>
    have hm:(y,k)∈sc.names:=by
     have:=List.lookup_eq_some_iff.mp e
     obtain ⟨l1,l2,q,_⟩:=this
     rw [q]
     simp
    by_cases hk:k=.free
    ·subst hk;exact h2 _ hm rfl
    ·have hb:(k == NameKind.free)=false:=by simpa using hk
     rw [e] at hy
     simp only [Option.map_some,hb,Bool.false_and,Bool.false_eq_true,if_false] at hy
     rcases hy with z | z
     ·exact absurd (Option.some.inj z) (nc _ hm)
     ·exact absurd (Option.some.inj z) hk
  cab:=fun _ _ z=>by cases z
  hd:=fun z=>I.ok.hd z
  frames:=I.ok.frames
  stk:=.inl rfl
  exf:=fun b hb=>⟨lt b _ (hfp b hb).2.choose_spec,fun y c e=>(hfp b hb).1.2.2.2.2.1 y c (h1 y c e)⟩
  bs:=fun b o e=>I.bs b o e
  bsz:=Nat.le_trans I.ok.bsz I.sz
  noex:=fun b o e hb=>by
   rcases (hfp b hb).1.2.2.2.1 with z | z
   ·exact I.ok.noex b o e z
   ·exact absurd (Nat.lt_of_lt_of_le (Heap.lt_size e) (Nat.le_trans I.ok.bsz z)) (Nat.lt_irrefl _)
  exfs:=fun b hb z=>by
   rcases sub b z with e | e
   ·exact (hfp b hb).1.2.1 e
   ·exact (hfp b hb).1.2.2.1 e
  lU:=I.stack
  frf:=I.tJ }
 obtain ⟨mX,hnX,hlX⟩:=I.loc
 refine ⟨ok',rfl,I.bare,Un.kept kp,⟨m,hn,fun i y v e1 e2 e3=>?_⟩,fun y c e=>?_,fresh,fun y c e=>I.freeC y c (h1 y c e),fun p hp=>?_,I.hok.kept kp,by simp [dT,cS]⟩
 ·cases i with
  | zero =>
   rw [List.getElem?_cons_zero] at e2
   cases e2
  | succ i =>
   have e1':(ks.map (·.1))[i]?=some y:=by simpa [dT] using e1
   rw [List.getElem?_cons_succ] at e2
   unfold cS at e2
   rw [List.getElem?_map] at e1' e2
   cases ep:ks[i]? with
   | none=>rw [ep] at e1';cases e1'
   | some p =>
    rw [ep] at e1' e2
    have ey:p.1=y:=Option.some.inj e1'
    have ev:(σ[p.2]?).getD none=some v:=Option.some.inj e2
    obtain ⟨kN,kf⟩:=kk p (List.mem_of_getElem? ep)
    have es:σ[p.2]?=some (some v):=by
     cases q:σ[p.2]? with
     | none=>rw [q] at ev;cases ev
     | some w=>rw [q] at ev;exact congrArg some ev
    have hm:(p.1,NameKind.free)∈sc.names:=by
     obtain ⟨l1,l2,q,_⟩:=List.lookup_eq_some_iff.mp kf
     rw [q]
     simp
    have oc:X.env.scope.names.lookup p.1=some .cell:=fr _ hm rfl
    obtain ⟨u,ru,lu⟩:=hlX p.2 p.1 v kN es (.inr (.inl oc))
    refine ⟨u,ru,.inr ⟨.inl ?_,?_⟩⟩
    ·rw [show (dT X sc cl s.heap.objs.size x ks s H fp pins).env.kindOf y=_ from kof y,ju,← ey,kf]
     have k1:X.env.kindOf p.1=some .cell:=oc
     simp [I.ok.kind,k1]
    ·obtain ⟨c,hc⟩:=h2 _ hm rfl
     have hc:cl.lookup p.1=some c:=hc
     rcases lu with ⟨z,_⟩ | ⟨_,c',hc',z⟩
     ·have z':X.env.scope.names.lookup p.1=some .local:=z
      rw [oc] at z';cases z'
     ·have:=h1 _ _ hc
      rw [hc'] at this
      cases this
      obtain ⟨o,ho,hd⟩:=z
      exact ⟨_,by rw [← ey];exact hc,o,kp _ _ ho,hd⟩
 ·obtain ⟨v,o,ho,hd⟩:=I.cell y c (h1 y c e)
  exact ⟨v,o,kp _ _ ho,hd⟩
 ·rw [List.append_nil] at hp
  obtain ⟨a1,a2,a3,a4,a5⟩:=I.pin p hp
  refine ⟨kp _ _ a1,a2,lt _ _ a1,fun z=>?_,a5⟩
  rcases sub p.1 z with e | e
  ·exact a3 e
  ·exact a4 e
end
section
variable {prog:Program} {w:World} {A:Around} {R:Result→Shared→Prop} {s:Shared}
theorem zu {elt iter:Expr} {x:Str} {px:Pos} {sc:Scope} {pos:Pos} {it acc:Value} {env:Env} (I:Nat→Shared→Prop)
  (turn:∀ n s,I n s→wpAny (model prog w) A (pyNext it) (fun r s₁=>match r with
   | none=>R (.ok .next) s₁
   | some v=>wpAny (model prog w) A (letOwnedTupleGo (.Name x px) it v) (fun _ s₂=>wpAny (model prog w) A (assign (.Name x px) env v) (fun _ s₃=>wpAny (model prog w) A (eval elt env) (fun y s₄ =>
     wpAny (model prog w) A (call (.builtin "list.append") [acc,y]) (fun _ s₅=>∃ m,m < n∧I m s₅) (fun _ _=>False) s₄) (fun _ _=>False) s₃) (fun _ _=>False) s₂) (fun _ _=>False) s₁) (fun _ _=>False) s)
  (n:Nat) (h:I n s):codeAny (model prog w) A (.compLoop (.ListComp elt [⟨.Name x px,iter,[],0⟩] sc pos) 0 it acc env) R s:=by
 refine codeAny_loop rfl I (fun n s hI=>?_) n h
 show wpAny _ _ ((compTurn (.ListComp elt [⟨.Name x px,iter,[],0⟩] sc pos) 0 it acc env).onRaise (fun x=>do noteFrame x env;theTreesLotGoes x)) _ _ s
 refine wpAny_noted ?_
 rw [compTurn_list1]
 have no:∀ (e:Value) (s':Shared),False→notedBy (model prog w) A env (fun e s'=>R (.error e) s') e s':=fun _ _ z=>z.elim
 refine wpAny_bind (wpAny_standAt (wpAny_bind (wpAny_mono (turn n s hI) (fun r s₁ h₁=>?_) no)))
 cases r with
 | none=>exact wpAny_pure h₁
 | some v =>
  refine wpAny_bind (wpAny_mono h₁ (fun _ s₂ h₂=>?_) no)
  exact wpAny_bind (wpAny_mono h₂ (fun _ s₃ h₃=>wpAny_bind (wpAny_bind (wpAny_mono h₃ (fun y s₄ h₄=>wpAny_bind (wpAny_mono h₄
   (fun _ s₅ h₅=>wpAny_pure (wpAny_pure ⟨rfl,h₅⟩)) no)) no))) no)
end
def K9 (wi:TI) (ks:List (Str × Nat)) (te:TE):TE:=fun σ H Q=>wi σ H fun J H1=>∀ D,H1 D=none→∃ W:Nat→Nat→Hp→Prop,(∃ m,W 0 m (upd H1 D (.lst []))) ∧
 ∀ i m H2,W i m H2→(J.stop i H2∧Q (.ref D) H2)∨(J.go i H2∧∀ v H3,J.yld i H2 v H3→te (some v :: cS ks σ) H3 fun y H4=>∃ ys,H4 D=some (.lst ys)∧ys.length < sizeLine∧∃ m',m' < m∧W (i + 1) m' (upd H4 D (.lst (ys ++ [y]))))
section
variable {X:Cx}
theorem uW {elt iter:Expr} {x:Str} {px:Pos} {sc:Scope} {pos:Pos} {te:TE} {ks:List (Str × Nat)} {cl:List (Str × Addr)} {pins:List (Addr × Obj)} {σ:L2.St} {H:Hp} {s:Shared} {it:Addr} {fp:List Addr} {tn:Nat→Heap→Prop} {J:It} {Q:VK}
  {RR:Value→Addr→Result→Shared→Prop} {E:Value→Shared→Prop}
  (hc:X.calm=true) (ok:bU sc X.env.scope X.N x ks) (h1:∀ y c,cl.lookup y=some c→X.env.cells.lookup y=some c) (h2:∀ y∈sc.names,y.2=.free→∃ c,cl.lookup y.1=some c)
  (he:∀ cl C s₀ H₀ fp pins,PE (dT X sc cl C x ks s₀ H₀ fp pins) elt te)
  (I:Inv X pins σ H s) (T:Turn X.prog X.w X.K (.Name x px) J fp it tn) (st:tn 0 s.heap) (f:∀ b∈fp,iJ X pins H b)
  (hw:∀ D,H D=none→∃ W:Nat→Nat→Hp→Prop,(∃ m,W 0 m (upd H D (.lst [])))∧∀ i m H2,W i m H2→(J.stop i H2∧Q (.ref D) H2) ∨
   (J.go i H2∧∀ v H3,J.yld i H2 v H3→te (some v :: cS ks σ) H3 fun y H4=>∃ ys,H4 D=some (.lst ys)∧ys.length < sizeLine∧∃ m',m' < m∧W (i + 1) m' (upd H4 D (.lst (ys ++ [y])))))
  (hR:∀ (D C:Addr) (s':Shared) (H':Hp) (m:Str→Option Value),Inv X pins σ H' s'→Q (.ref D) H'→s'.heap.Ns C m→H' C=none→C≠X.env.locals→X.s₀.heap.objs.size≤C→(∀ y c,X.env.cells.lookup y=some c→c≠C)→(∀ p∈X.pn ++ pins,p.1≠C)→RR (.ref D) C (.ok .next) s') :
  wpAny (model X.prog X.w) X.A (newList []) (fun acc s₃=>wpAny (model X.prog X.w) X.A (newFunctionEnv sc X.env.globals cl [] X.env.qual none .none (some X.env)) (fun cenv s₄ =>
   codeAny (model X.prog X.w) X.A (.compStart (.ListComp elt [⟨.Name x px,iter,[],0⟩] sc pos) 0 (.ref it) acc { cenv with scope:=relabel sc X.env }) (RR acc cenv.locals) s₄) E s₃) E s:=by
 have okk:=ok
 obtain ⟨kd,nc,lx,ll,fr,kk,nd⟩:=okk
 have hD0:H s.heap.objs.size=none:=I.hok.fresh (Nat.le_refl _)
 obtain ⟨W,⟨m0,w0⟩,turn⟩:=hw s.heap.objs.size hD0
 refine wpAny_newObj_type ?_
 have I3:Inv X pins σ (upd H s.heap.objs.size (.lst [])) { s with heap:=s.heap.push { cls:=.type "list",dict:=none,data:=.seq ([]:List Value).toArray } } :=
  I.laid (t':=s.toks) (fun b u e=>Heap.get?_push_of_some _ e) (Nat.le_refl _) (show cu X.prog X.w _ _ _ (.lst []) from ⟨Nat.zero_le _,[],0,.nil,Heap.get?_push_size _ rfl⟩)
 have st3:tn 0 (s.heap.push { cls:=.type "list",dict:=none,data:=.seq ([]:List Value).toArray }):=T.keep 0 _ _ st fun b hb o e=>Heap.get?_push_of_some _ e
 generalize hD:s.heap.objs.size=D at *
 generalize hH:upd H D (.lst [])=H3 at *
 generalize hs3:({ s with heap:=s.heap.push { cls:=.type "list",dict:=none,data:=.seq ([]:List Value).toArray } }:Shared)=s3 at *
 have e3:s.heap.push { cls:=.type "list",dict:=none,data:=.seq ([]:List Value).toArray }=s3.heap:=by rw [← hs3]
 rw [e3] at st3
 have fD:∀ b∈fp,b≠D:=fun b hb z=>by
  obtain ⟨o,ho,_⟩:=T.obj 0 _ st b hb
  have:=Heap.lt_size ho
  rw [z,← hD] at this
  exact Nat.lt_irrefl _ this
 have f3:∀ b∈fp,iJ X pins H3 b:=fun b hb=>⟨by rw [← hH,aG (fD b hb)];exact (f b hb).1,(f b hb).2⟩
 have g3:∀ b∈fp,∃ o,s3.heap.get? b=some o:=fun b hb=>by
  obtain ⟨o,ho,_⟩:=T.obj 0 _ st3 b hb
  exact ⟨o,ho⟩
 refine wpAny_newFunctionEnv nc (by intro y hy;simp at hy) (fun h₁ hns hsb=>?_) kd
 have kp:∀ b o,s3.heap.get? b=some o→h₁.get? b=some o:=fun b o e=>hsb.extBut b o (Nat.ne_of_lt (Heap.lt_size e)) (Heap.get?_push_of_some _ e)
 have J0:=om (fp:=fp) (cl:=cl) (t':=s3.toks + ([]:List (Str × Value)).length) I3 ok h1 h2 (fun b hb=>⟨f3 b hb,g3 b hb⟩) hns kp
 have st4:tn 0 h₁:=T.keep 0 _ _ st3 fun b hb o e=>kp b o e
 have ltC:∀ b o,s3.heap.get? b=some o→b≠s3.heap.objs.size:=fun b o e=>Nat.ne_of_lt (Heap.lt_size e)
 have cC:∀ y c,X.env.cells.lookup y=some c→c≠s3.heap.objs.size:=fun y c e=>by
  obtain ⟨v,o,ho,_⟩:=I3.cell y c e
  exact ltC c o ho
 have pC:∀ p∈X.pn ++ pins,p.1≠s3.heap.objs.size:=fun p hp=>ltC _ _ (I3.pin p hp).1
 have lC:s3.heap.objs.size≠X.env.locals:=Nat.ne_of_gt I3.lt
 have fX:∀ {H':Hp},(∀ b∈fp,H' b=none)→∀ b∈fp,iJ (dT X sc cl s3.heap.objs.size x ks s3 H3 fp pins) [] H' b:=fun hn b hb=>by
  obtain ⟨o,ho⟩:=g3 b hb
  obtain ⟨_,q1,q2,q3,q4,q5⟩:=f b hb
  refine ⟨hn b hb,ltC b o ho,fun z=>?_,.inl hb,fun y c e=>q4 y c (h1 y c e),fun p hp=>q5 p (by simpa [dT] using hp)⟩
  rcases List.mem_cons.mp (I3.ko b z) with e | e
  ·exact q1 e
  ·exact q2 e
 have back:∀ {o:Option V} {H':Hp} {s':Shared},Inv (dT X sc cl s3.heap.objs.size x ks s3 H3 fp pins) [] (o :: cS ks σ) H' s'→Inv X pins σ H' s':=fun {o H' s'} J=>by
  obtain ⟨hh,g,d,t,os'⟩:=s'
  obtain rfl:os'=s3.os:=J.os
  exact I3.call (h':=hh) (g':=g) (d':=d) (t':=t) (ch:=fp) J.base J.hok J.bare fun b hb=>⟨(f b hb).2.2.2.1,(f b hb).2.1,(f b hb).2.2.2.2.1,(f b hb).2.2.2.2.2⟩
 have lookX:(relabel sc X.env).names.lookup x=some .local:=lookup_relabel_local lx
 have loop:∀ s',(∃ (i:Nat) (o:Option V) (H':Hp),Inv (dT X sc cl s3.heap.objs.size x ks s3 H3 fp pins) [] (o :: cS ks σ) H' s'∧tn i s'.heap∧(∀ b∈fp,H' b=none)∧W i m0 H') →
   codeAny (model X.prog X.w) X.A (.compLoop (.ListComp elt [⟨.Name x px,iter,[],0⟩] sc pos) 0 (.ref it) (.ref D) (compEnvC sc cl s3.heap.objs.size X.env)) (RR (.ref D) s3.heap.objs.size) s':=by
  intro s' hs'
  refine zu (fun n s'=>∃ (i:Nat) (o:Option V) (H':Hp),Inv (dT X sc cl s3.heap.objs.size x ks s3 H3 fp pins) [] (o :: cS ks σ) H' s'∧tn i s'.heap∧(∀ b∈fp,H' b=none)∧W i n H') ?_ m0 hs'
  rintro n s5 ⟨i,o,H5,J5,t5,n5,w5⟩
  rcases turn i n H5 w5 with ⟨stop,hq⟩ | ⟨go,step⟩
  ·refine bM (T.done (dT X sc cl s3.heap.objs.size x ks s3 H3 fp pins) rfl rfl rfl hc i [] s5 _ H5 _ J5 (fX n5) t5 stop) fun r s6 ⟨hr,J6⟩=>?_
   subst hr
   obtain ⟨m,hm,_⟩:=J6.loc
   exact hR D _ s6 H5 m (back J6) hq hm J6.free lC I3.sz cC pC
  ·refine bM (T.item (dT X sc cl s3.heap.objs.size x ks s3 H3 fp pins) rfl rfl rfl hc i [] s5 _ H5 _ J5 (fX n5) t5 go) fun r s6 ⟨u,hr,h6⟩=>?_
   subst hr
   refine bM h6 fun _ s7 ⟨v,H7,J7,r7,y7,t7,n7⟩=>?_
   have J7':=J7.pinned (fX n7) (T.obj _ _ t7)
   refine wpAny_assign_Name (eG (X:=dT X sc cl s3.heap.objs.size x ks s3 H3 fp pins) (i:=0) J7' nd rfl (.inl lookX) r7 (fun s8 J8=>?_) (.inr lookX))
   refine bM (he cl s3.heap.objs.size s3 H3 fp pins _ s8 _ H7 _ J8 (step v H7 y7)) fun y s9 ⟨vy,H9,J9,r9,ys,hys,hz,m',hm,w'⟩=>?_
   refine bM (fi (X:=dT X sc cl s3.heap.objs.size x ks s3 H3 fp pins) _ s9 _ H9 (.ref D) [vy] (.ref D) [y] (fun _ H'=>H'=upd H9 D (.lst (ys ++ [vy]))) J9 rfl (.cons r9 .nil) ⟨D,ys,vy,rfl,rfl,hys,hz,rfl⟩) fun _ s10 ⟨_,H10,J10,_,eH⟩=>?_
   subst eH
   refine ⟨m',hm,i + 1,_,_,J10.eI,?_,?_,w'⟩
   ·exact T.keep _ _ _ t7 fun b hb o e=>(J10.pin (b,o) (List.mem_append_right _ (List.mem_append_right _ (bL hb e)))).1
   ·intro b hb
    obtain ⟨o,e,d⟩:=T.obj _ _ t7 b hb
    exact (J10.pin (b,o) (List.mem_append_right _ (List.mem_append_right _ (bL hb e)))).2.1
 have l0:=loop _ ⟨0,none,H3,J0,st4,fun b hb=>(f3 b hb).1,w0⟩
 exact codeAny_compStart_list l0 (T.self _ 0 _ _ _ st4 l0)
theorem jj {sc osc:Scope} {N:List Str} {x:Str} {ks:List (Str × Nat)} (ok:bU sc osc N x ks) {pins:List (Addr × Obj)} {σ:L2.St} {H:Hp} {s:Shared} (I:Inv X pins σ H s) (ho:X.env.scope=osc):∀ y∈sc.names,y.2=.free→∃ c,X.env.cells.lookup y.1=some c:=fun y hy hf =>
 I.ok.has y.1 (.inl (by show X.env.scope.names.lookup y.1=some .cell;rw [ho];exact ok.2.2.2.2.1 y hy hf))
theorem Jz {elt iter:Expr} {x:Str} {px:Pos} {sc:Scope} {pos:Pos} {wi:TI} {te:TE} (osc:Scope) (N:List Str) (ks:List (Str × Nat)) (hc:X.calm=true) (ho:X.env.scope=osc) (hN:X.N=N) (hi:PI X (.Name x px) iter wi)
  (he:∀ cl C s₀ H₀ fp pins,PE (dT X sc cl C x ks s₀ H₀ fp pins) elt te) (ok:bU sc osc N x ks:=by decide +kernel) (hs:∀ x,foldedSetIterable iter X.env x=pure x:=by intro _;rfl) :
  PE X (.ListComp elt [⟨.Name x px,iter,[],0⟩] sc pos) (K9 wi ks te):=by
 intro pins s σ H Q I hw
 obtain ⟨cl,hcl,h1,h2⟩:=fv (jj ok I ho)
 have ok':bU sc X.env.scope X.N x ks:=by rw [ho,hN];exact ok
 rw [eval_ListComp]
 refine wpAny_comprehension_free (use:=none) rfl hs hcl ok.1 ok.2.2.2.1 (bM (hi pins s σ H _ I hw) fun v s1 h3=>bM h3 fun itv s2 h4=>?_)
 obtain ⟨it,fp,tn,J,H2,rfl,I2,T,st2,f2,hR⟩:=h4
 refine uW (RR:=fun acc C=>compPost (model X.prog X.w) X.A X.xe none (EP X pins σ Q) acc C) hc ok' h1 h2 he I2 T st2 f2 hR ?_
 intro D C s' H' m J' q hn hC cl' cs cc cp
 refine ⟨m,hn,fun h' hsb=>⟨.ref D,H',?_,rfl,q⟩⟩
 exact J'.turned (t':=s'.toks) (it:=C) (fun b o ne e=>hsb.extBut b o ne e) hC cl' (.inr cs) cc cp
def HW (wi:TI) (ks:List (Str × Nat)) (te:TE) (i:Nat):TS:=fun D σ H=>K9 wi ks te σ H fun v H1=>D.nx (σ.set i (some v)) H1
theorem FH {elt iter:Expr} {x y:Str} {px py:Pos} {sc:Scope} {pos spos:Pos} {wi:TI} {te:TE} {i:Nat} (osc:Scope) (N:List Str) (ks:List (Str × Nat)) (hc:X.calm=true) (ho:X.env.scope=osc) (hN:X.N=N) (hnd:X.N.Nodup) (hy:X.N[i]?=some y) (hl:Loc X.env.scope y)
  (hi:PI X (.Name x px) iter wi) (he:∀ cl C s₀ H₀ fp pins,PE (dT X sc cl C x ks s₀ H₀ fp pins) elt te) (ok:bU sc osc N x ks:=by decide +kernel) (hs:∀ x,foldedSetIterable iter X.env x=pure x:=by intro _;rfl)
  (hsw:swapsWith (.ListComp elt [⟨.Name x px,iter,[],0⟩] sc pos) (some (.Name y py)) spos.line X.env=pure true:=by rfl) (hf:X.fn y=true∨X.env.scope.names.lookup y=some .local:=by first | exact .inl rfl | exact .inr rfl | assumption) :
  PS X (.Assign [.Name y py] (.ListComp elt [⟨.Name x px,iter,[],0⟩] sc pos) spos) (HW wi ks te i):=by
 intro pins s σ H Dn I hw
 obtain ⟨cl,hcl,h1,h2⟩:=fv (jj ok I ho)
 have ok':bU sc X.env.scope X.N x ks:=by rw [ho,hN];exact ok
 rw [exec_Assign_Name_used _ _ _ _ hsw]
 refine wpAny_bind (wpAny_standAt (wpAny_bind ?_))
 show wpAny _ X.A (do let _ ← comprehension (.ListComp elt [⟨.Name x px,iter,[],0⟩] sc pos) sc X.env _ (newList []) false (eval iter X.env) (some (assign (.Name y py) X.env))) _ _ s
 refine wpAny_bind (wpAny_mono (wpAny_comprehension_free (use:=some (assign (.Name y py) X.env)) (Q:=fun _ s'=>SP X pins Dn .next s') rfl hs hcl ok.1 ok.2.2.2.1
  (bM (hi pins s σ H _ I hw) fun v s1 h3=>bM h3 fun itv s2 h4=>?_)) (fun _ s' hq=>wpAny_pure (wpAny_pure hq)) fun _ _ e=>e)
 obtain ⟨it,fp,tn,J,H2,rfl,I2,T,st2,f2,hR⟩:=h4
 refine uW (Q:=fun v H1=>Dn.nx (σ.set i (some v)) H1) (RR:=fun acc C=>compPost (model X.prog X.w) X.A X.xe (some (assign (.Name y py) X.env)) (fun _ s'=>SP X pins Dn .next s') acc C) hc ok' h1 h2 he I2 T st2 f2 hR ?_
 intro D C s' H' m J' q hn hC cl' cs cc cp
 show wpAny _ X.A (assign (.Name y py) X.env (.ref D)) _ _ _
 refine wpAny_assign_Name (mw J' hnd hy hl (v:=.ref D) rfl (fun s'' J'' ⟨a,hsb,ha⟩=>?_) hf)
 refine ⟨m,hn.sameBut hsb (fun z=>?_),fun h' hsb'=>⟨_,H',?_,q⟩⟩
 ·rcases ha with e | e
  ·exact cl' (z.trans e)
  ·exact cc _ _ e z.symm
 ·exact J''.turned (t':=s''.toks) (it:=C) (fun b o ne e=>hsb'.extBut b o ne e) hC cl' (.inr cs) cc cp
end
theorem DL {K:PySem.W.Frag} {a D:Addr} {xs:List V} {H:Hp} {te:TE} {ks:List (Str × Nat)} {σ:L2.St} {q:Hp→Prop} (Pv:Nat→Hp→Prop) (h0:Pv 0 (upd H D (.lst []))) (hl:∀ i H,i≤xs.length→Pv i H→c8 K H a xs)
  (hs:∀ i x H (R:VK),xs[i]?=some x→Pv i H→(∀ y H4 ys,H4 D=some (.lst ys)→ys.length < sizeLine→Pv (i + 1) (upd H4 D (.lst (ys ++ [y])))→R y H4)→te (some x :: cS ks σ) H R) (hd:∀ H,Pv xs.length H→q H) :
  ∃ W:Nat→Nat→Hp→Prop,(∃ m,W 0 m (upd H D (.lst [])))∧∀ i m H2,W i m H2→((Dg K a).stop i H2∧q H2) ∨
   ((Dg K a).go i H2∧∀ v H3,(Dg K a).yld i H2 v H3→te (some v :: cS ks σ) H3 fun y H4=>∃ ys,H4 D=some (.lst ys)∧ys.length < sizeLine∧∃ m',m' < m∧W (i + 1) m' (upd H4 D (.lst (ys ++ [y])))):=by
 refine ⟨fun i m H=>m=xs.length - i∧i≤xs.length∧Pv i H,⟨xs.length,by simp,Nat.zero_le _,h0⟩,?_⟩
 rintro i m H2 ⟨rfl,hi,p⟩
 have hq:=hl i H2 hi p
 by_cases hlt:i < xs.length
 ·refine .inr ⟨⟨xs,xs[i],hq,by simp [hlt]⟩,fun v H3 y=>?_⟩
  obtain ⟨e,y⟩:=y
  subst e
  exact hs i v _ _ (y xs hq) p fun y H4 ys e1 e2 e3=>⟨ys,e1,e2,xs.length - (i + 1),by omega,rfl,hlt,e3⟩
 ·have e:i=xs.length:=by omega
  subst e
  exact .inl ⟨⟨xs,hq,Nat.le_refl _⟩,hd H2 p⟩
theorem Bo {lo:Int} {n:Nat} {D:Addr} {H:Hp} {te:TE} {ks:List (Str × Nat)} {σ:L2.St} {q:Hp→Prop} (Pv:Nat→Hp→Prop) (h0:Pv 0 (upd H D (.lst [])))
  (hs:∀ i H (R:VK),i < n→Pv i H→(∀ y H4 ys,H4 D=some (.lst ys)→ys.length < sizeLine→Pv (i + 1) (upd H4 D (.lst (ys ++ [y])))→R y H4)→te (some (.int (lo + i)) :: cS ks σ) H R) (hd:∀ H,Pv n H→q H) :
  ∃ W:Nat→Nat→Hp→Prop,(∃ m,W 0 m (upd H D (.lst [])))∧∀ i m H2,W i m H2→((Ao lo n).stop i H2∧q H2) ∨
   ((Ao lo n).go i H2∧∀ v H3,(Ao lo n).yld i H2 v H3→te (some v :: cS ks σ) H3 fun y H4=>∃ ys,H4 D=some (.lst ys)∧ys.length < sizeLine∧∃ m',m' < m∧W (i + 1) m' (upd H4 D (.lst (ys ++ [y])))):=by
 refine ⟨fun i m H=>m=n - i∧i≤n∧Pv i H,⟨n,by simp,Nat.zero_le _,h0⟩,?_⟩
 rintro i m H2 ⟨rfl,hi,p⟩
 by_cases hlt:i < n
 ·refine .inr ⟨hlt,fun v H3 y=>?_⟩
  obtain ⟨e,y⟩:=y
  subst e y
  exact hs i _ _ hlt p fun y H4 ys e1 e2 e3=>⟨ys,e1,e2,n - (i + 1),by omega,rfl,hlt,e3⟩
 ·have e:i=n:=by omega
  subst e
  exact .inl ⟨Nat.le_refl _,hd H2 p⟩
def one (c:Nat):Str:=⟨#[c]⟩
theorem qD:∀ (cs:List Nat) (acc:Array Nat),(cs.map one).foldl (fun acc (p:Str)=>acc ++ (Str.ofString "").cps ++ p.cps) acc=acc ++ cs.toArray
 | [],acc=>by simp
 | c :: cs,acc=>by
  have e:(Str.ofString "").cps=#[]:=by decide +kernel
  rw [List.map_cons,List.foldl_cons,qD cs]
  rw [e]
  show (acc ++ #[] ++ #[c]) ++ cs.toArray=_
  simp
theorem join_ones (cs:List Nat):Txt.join (Str.ofString "") (cs.map one)=⟨cs.toArray⟩:=by
 unfold Txt.join Builtin.Str.glued
 cases cs with
 | nil=>rfl
 | cons c cs =>
  simp only [List.map_cons,List.drop_succ_cons,List.drop_zero,List.headD_cons]
  rw [qD]
  show (⟨#[c] ++ cs.toArray⟩:Str)=_
  simp
theorem iB:∀ {ys:List Str} {us:List Value},Vals (ys.map V.str) us→StrsAre us ys
 | [],_,.nil=>.nil
 | y :: ys,_,.cons r rr=>by
  obtain ⟨t,rfl⟩:=r
  exact .cons y t (iB rr)
section
variable {X:Cx}
def rJoin (K:PySem.W.Frag):V→List V→Hp→VK→Prop:=fun x vs H Q=>∃ z p ys,x=.str z∧vs=[.ref p]∧c8 K H p (ys.map V.str)∧(ys.map (·.length)).sum + ys.length * z.length≤16777216∧Q (.str (Txt.join z ys)) H
theorem DU:mO X "str.join" (rJoin X.K):=by
 intro pins s σ H x vs v us Q I rx rv h
 obtain ⟨z,p,ys,rfl,rfl,hp,hz,q⟩:=h
 obtain ⟨t,rfl⟩:=rx
 obtain ⟨u,rfl,ru⟩:=vals1 rv
 cases ru
 obtain ⟨its,r,pl,_⟩:=I.list hp
 exact join_list pl.isList (by simpa using iB r) hz fun t' k=>⟨.str _,H,I.tok _,⟨_,rfl⟩,q⟩
end
def rq:Expr→Option V
 | .Constant (.int i) _ _=>some (.int i)
 | .Constant (.str x) _ _=>some (.str x)
 | .Constant (.bool b) _ _=>some (.bl b)
 | _=>none
theorem oJ {X:Cx}:∀ {es:List Expr} (vs:List V),es.map rq=vs.map some→PA X es (fun _ H Q=>Q vs H)
 | [],[],_=>fun _ _ _ _ H Q I h=>Calls.spliced_nil ⟨[],H,I,.nil,h⟩
 | [],_ :: _,h=>by cases h
 | _ :: _,[],h=>by cases h
 | e :: es,v :: vs,h=>by
  rw [List.map_cons,List.map_cons] at h
  injection h with h1 h2
  have ih:=oJ (X:=X) (es:=es) vs h2
  have hs:starEach (e :: es) X.env=(false,eval e X.env) :: starEach es X.env:=by
   cases e <;> first | rfl | cases h1
  have he:PE X e (tC v):=by
   cases e with
   | Constant c j pos =>
    cases c with
    | int i=>cases h1;exact aJ
    | str x=>cases h1;exact l5
    | bool b=>cases h1;exact uJ
    | _=>cases h1
   | _=>cases h1
  exact fun pos pins s σ H Q I hq=>aR he ih hs pos pins s σ H Q I hq
end Ov
namespace Ov
open PySem PySem.Spec PyProof.Rows
open L2 (V HO Hp Inv Cx St VK TE TT TA TS TG m3 TI TO iM Ends tP Loc Gl Rd RelV Vals er tV bT mW pJ mO iK R2 zW tC CY K' yL tB CS Kx E1 yF E3 yI K8 E7 CU xf vn F5 pe K7 xa E4 oa Dy xG DA Dz EY tK HV xM Lv xN Fn E5 yK yG Ks HU yH E6 xb nH yJ K_ upd E0 bI cJ)
structure QE (X:Cx) (e:Expr) (t:TE):Prop where
 run:L2.PE X e t
structure QT (X:Cx) (e:Expr) (t:TT):Prop where
 run:L2.PT X e t
structure QW (X:Cx) (e:Expr) (t:TT):Prop where
 run:L2.PW X e t
structure QA (X:Cx) (es:List Expr) (t:TA):Prop where
 run:L2.PA X es t
structure QS (X:Cx) (st:Stmt) (t:TS):Prop where
 run:L2.PS X st t
structure QB (X:Cx) (st:List Stmt) (t:TS):Prop where
 run:L2.qg X st t
structure QG (X:Cx) (e:Expr) (t:TG):Prop where
 run:L2.PG X e t
structure KS (X:Cx) (es:List Expr) (t:m3):Prop where
 run:L2.Fh X es t
structure QI (X:Cx) (tg e:Expr) (t:TI):Prop where
 run:L2.PI X tg e t
structure QO (X:Cx) (e:Option Expr) (t:TO):Prop where
 run:L2.PO X e t
section
variable {X:Cx} {a b c e o:Expr} {es rest:List Expr} {ta tb te tc to:TE} {tA tB':TT} {t:TA} {pos px p p2 apos cpos:Pos} {x:Str} {i j:Nat}
theorem pv (i:Nat) {x:Str} {pos:Pos} (hN:X.N[i]?=some x:=by rfl) (hv:tP X.env.scope x:=by first | exact Or.inl rfl | exact Or.inr (Or.inl rfl) | exact Or.inr (Or.inr rfl)) (hd:(x == ("__debug__":Str))=false:=by decide)
  (hcd:(x == ("__classdict__":Str))=false:=by decide):QE X (.Name x pos) (zW i):=⟨L2.wG hN hv hd hcd⟩
theorem aJ {i:Int} {j pos}:QE X (.Constant (.int i) j pos) (tC (.int i)):=⟨L2.aJ⟩
theorem uJ {b:Bool} {j pos}:QE X (.Constant (.bool b) j pos) (tC (.bl b)):=⟨L2.uJ⟩
theorem wC {j pos}:QE X (.Constant .none j pos) (tC .non):=⟨L2.wC⟩
theorem l5 {x:Str} {j pos}:QE X (.Constant (.str x) j pos) (tC (.str x)):=⟨L2.l5⟩
theorem m9 {v:V} {u:Value} (hg:Gl X x) (hm:X.mg x=some u) (r:RelV v u) (hd:(x == ("__debug__":Str))=false:=by decide):QE X (.Name x pos) (tC v):=⟨L2.m9 hg hm r hd⟩
theorem sv {v:V} {u:Value} (hg:Gl X x) (hm:X.mg x=none) (hv:bootBuiltins x=some u) (r:RelV v u) (hn:x≠"__name__":=by decide) (hd:(x == ("__debug__":Str))=false:=by decide):QE X (.Name x pos) (tC v):=⟨L2.sv hg hm hv r hn hd⟩
theorem bh {op:Operator} {r:R2} (ho:er X (binaryOp op) r) (ha:QE X a ta) (hb:QE X b tb):QE X (.BinOp a op b pos) (CY r ta tb):=⟨L2.bh ho ha.run hb.run⟩
theorem x4 {op:UnaryOp} {r:V→Hp→VK→Prop} (ho:tV X (unaryOp op) r) (ha:QE X a ta):QE X (.UnaryOp op a pos) (K' r ta):=⟨L2.x4 ho ha.run⟩
theorem m8 {op:CmpOp} {r:R2} (ho:er X (compareOp op) r) (ha:QE X a ta) (hb:QE X b tb) (hm:behindInMarks op b=false):QE X (.Compare a [op] [b] pos) (CY r ta tb):=⟨L2.m8 ho ha.run hb.run hm⟩
theorem cY {op:CmpOp} {r:R2} (ho:er X (compareOp op) r) (ha:QE X a ta) (hb:QE X b tb) (hm:behindInMarks op b=false):QT X (.Compare a [op] [b] pos) (yL (CY r ta tb)):=⟨L2.cY ho ha.run hb.run hm⟩
theorem wF {op} (h:QE X a ta):QE X (.BoolOp op [a] pos) ta:=⟨L2.wF h.run⟩
theorem wB (ha:QE X a ta) (hb:QE X (.BoolOp .And (b :: rest) pos) tb):QE X (.BoolOp .And (a :: b :: rest) pos) (yF ta tb):=⟨L2.wB ha.run hb.run⟩
theorem B0 (ha:QE X a ta) (hb:QE X (.BoolOp .Or (b :: rest) pos) tb):QE X (.BoolOp .Or (a :: b :: rest) pos) (E3 ta tb):=⟨L2.B0 ha.run hb.run⟩
theorem wD (ha:QE X a ta):QE X (.UnaryOp .Not a pos) (yI ta):=⟨L2.wD ha.run⟩
theorem wK (ha:QT X a tA):QT X (.UnaryOp .Not a pos) (E1 tA):=⟨L2.wK ha.run⟩
theorem ni (ha:QT X a tA):QW X (.BoolOp .And [a] pos) tA:=⟨L2.ni ha.run⟩
theorem sH (ha:QT X a tA):QW X (.BoolOp .Or [a] pos) tA:=⟨L2.sH ha.run⟩
theorem sG (ha:QT X a tA) (hb:QW X (.BoolOp .And (b :: rest) pos) tB'):QW X (.BoolOp .And (a :: b :: rest) pos) (CS tA tB'):=⟨L2.sG ha.run hb.run⟩
theorem x9 (ha:QT X a tA) (hb:QW X (.BoolOp .Or (b :: rest) pos) tB'):QW X (.BoolOp .Or (a :: b :: rest) pos) (Kx tA tB'):=⟨L2.x9 ha.run hb.run⟩
theorem FJ (h:QW X e tA):QT X e tA:=⟨h.run.pt⟩
theorem wL (h:QE X e te) (he:∀ whole,isTrue e X.env whole=(do let v ← whole;standAt e.pos;holding [v] (truthy v)):=by intro _;rfl):QT X e (tB te):=⟨L2.wL h.run he⟩
theorem oM (hc:QT X c tA) (ha:QE X a ta) (hb:QE X b tb):QE X (.IfExp c a b pos) (K8 tA ta tb):=⟨L2.oM hc.run ha.run hb.run⟩
theorem bB:QA X [] xf:=⟨L2.bB⟩
theorem aR (ha:QE X e te) (hr:QA X es t) (hs:starEach (e :: es) X.env=(false,eval e X.env) :: starEach es X.env:=by rfl):QA X (e :: es) (vn te t):=⟨L2.aR ha.run hr.run hs⟩
theorem BU {es:List Expr} (vs:List V) (h:es.map rq=vs.map some):QA X es (fun _ H Q=>Q vs H):=⟨oJ vs h⟩
theorem oN {x1} (h:QA X es t):QE X (.Tuple es x1 pos) (E7 t):=⟨L2.oN h.run⟩
theorem jl (h:QA X es t):QE X (.List es pos) (CU t):=⟨L2.jl h.run⟩
theorem bS {r:R2} (hr:mW X r) (ha:QE X a ta) (hb:QE X b tb) (hs:cJ b):QE X (.Subscript a b pos) (CY r ta tb):=⟨L2.bS hr ha.run hb.run hs⟩
theorem m_:QO X none nH:=⟨L2.m_⟩
theorem jL (h:QE X e te):QO X (some e) (yJ te):=⟨L2.jL h.run⟩
theorem jm {lo hi:Option Expr} {tl th:TO} {r:V→Option Int→Option Int→Hp→VK→Prop} (hr:pJ X r) (he:QE X e te) (hl:QO X lo tl) (hu:QO X hi th):QE X (.Subscript e (.Slice lo hi none p2) pos) (K_ r te tl th):=⟨L2.jm hr he.run hl.run hu.run⟩
theorem dg {id:String} {r:List V→Hp→VK→Prop} (hc:bT X (.builtin id) r) (hg:Gl X x) (hm:X.mg x=none) (hv:bootBuiltins x=some (.builtin id)) (ha:QA X (e :: es) t) (hn:x≠"__name__":=by decide) (hdb:(x == ("__debug__":Str))=false:=by decide)
  (he:starEach (e :: es) X.env=(false,eval e X.env) :: starEach es X.env:=by rfl) (hpl:(backTo pos (starEach es X.env)).any (·.1)=false:=by rfl):QE X (.Call (.Name x p) (e :: es) [] pos) (F5 r t):=⟨L2.dg hc hg hm hv ha.run hn hdb he hpl⟩
theorem l4 {T:String} {r:List V→Hp→VK→Prop} (hc:bT X (.type T) r) (hg:Gl X x) (hm:X.mg x=none) (hv:bootBuiltins x=some (.type T)) (ha:QA X (e :: es) t) (hn:x≠"__name__":=by decide) (hdb:(x == ("__debug__":Str))=false:=by decide)
  (he:starEach (e :: es) X.env=(false,eval e X.env) :: starEach es X.env:=by rfl) (hpl:(backTo pos (starEach es X.env)).any (·.1)=false:=by rfl):QE X (.Call (.Name x p) (e :: es) [] pos) (F5 r t):=⟨L2.l4 hc hg hm hv ha.run hn hdb he hpl⟩
theorem uK {k k':Nat} {ps:List Str} {sp:L2.Sp} (C:pq X.prog X.w X.K X.mg X.base k x ps sp) (hr:bI k' X.A) (hk:k≤k') (hg:Gl X x) (ha:QA X (e :: es) t)
  (hdb:(x == ("__debug__":Str))=false:=by decide) (he:starEach (e :: es) X.env=(false,eval e X.env) :: starEach es X.env:=by rfl) (hpl:(backTo pos (starEach es X.env)).any (·.1)=false:=by rfl) :
  QE X (.Call (.Name x p) (e :: es) [] pos) (pe sp [] E0 t):=⟨Hn C hr hk hg ha.run hdb he hpl⟩
theorem oK {name:Str} {T id:String} {r:V→List V→Hp→VK→Prop} (pa:PlainAttrs T) (slot:Slot T name id) (hty:typeOf (.builtin id)=pure (.type "method_descriptor")) (hm:mO X id r) (ho:QE X o to) (ha:QA X (e :: es) t)
  (hbase:attributeBase o name X.env (eval o X.env)=eval o X.env:=by rfl)
  (hfew:((backTo cpos (starEach (e :: es) X.env)).all (fun x=>!x.1) && (backToKw cpos (keywordEach [] X.env)).all (fun x=>x.1.isSome)
   && decide ((e :: es).length + ([]:List Keyword).length + (if ([]:List Keyword).isEmpty then 0 else 1) < 30))=true:=by rfl)
  (hline:(apos.endLine == cpos.line)=true:=by rfl) (hs:starEach (e :: es) X.env=(false,eval e X.env) :: starEach es X.env:=by rfl) (hplain:(backTo cpos (starEach es X.env)).any (·.1)=false:=by rfl) :
  QE X (.Call (.Attribute o name apos) (e :: es) [] cpos) (K7 X.K T r to t):=⟨L2.oK pa slot hty hm ho.run ha.run hbase hfew hline hs hplain⟩
end
section
variable {X:Cx} {st:Stmt} {rest:List Stmt} {t u:TS} {e tg:Expr} {es:List Expr} {te:TE} {pos:Pos} {g:TG}
theorem eY:QB X [] yH:=⟨L2.eY⟩
theorem aW (h1:QS X st t) (h2:QB X rest u):QB X (st :: rest) (E6 t u):=⟨L2.aW h1.run h2.run⟩
theorem bC (h1:QS X st t):QB X [st] t:=⟨L2.bC h1.run⟩
theorem uN (h1:QS X st t) (h2:QB X rest u):QB X (st :: rest) (Kt t u):=⟨Eo h1.run h2.run⟩
theorem l8 {sts:List Stmt}:QB X sts xb:=⟨L2.l8⟩
theorem jM (he:QE X e te) (hs:swapsWith e none pos.line X.env=pure false:=by rfl):QS X (.Expr e pos) (yG te):=⟨L2.jM he.run hs⟩
theorem c9 (he:QE X e te):QS X (.Return (some e) pos) (E5 te):=⟨L2.c9 he.run⟩
theorem sE:QS X (.Return none pos) yK:=⟨L2.sE⟩
theorem k7 {c:Expr} {a b:List Stmt} {tc:TT} (hc:QT X c tc) (ha:QB X a t) (hb:QB X b u):QS X (.If c a b pos) (EY tc t u):=⟨L2.k7 hc.run ha.run hb.run⟩
theorem jq {c:Expr} {body:List Stmt} {tc:TT} {tb:TS} (hp:PassesOwn (model X.prog X.w) X.A X.env X.xe) (hc:QT X c tc) (hb:QB X body tb):QS X (.While c body [] pos) (tK tc tb):=⟨L2.jq hp hc.run hb.run⟩
theorem jK {i:Nat} {x:Str} (hN:X.N.Nodup) (hi:X.N[i]?=some x) (hx:Loc X.env.scope x) (hf:X.fn x=true∨X.env.scope.names.lookup x=some .local:=by first | exact .inl rfl | exact .inr rfl | assumption):QG X (.Name x pos) (oa i):=⟨L2.jK hN hi hx hf⟩
theorem sy:KS X [] Dy:=⟨L2.sy⟩
theorem oO {e:Expr} {es:List Expr} {t:TG} {u:m3} (h1:QG X e t) (h2:KS X es u)
  (hs:(assignEach (e :: es) X.env).map (·.2)=assign e X.env :: (assignEach es X.env).map (·.2):=by rfl):KS X (e :: es) (xG t u):=⟨L2.oO h1.run h2.run hs⟩
theorem wH {k:Nat} {t:m3} {n:Nat} (hc:X.calm=true) (h:KS X es t)
  (hn:(assignEach es X.env).length=n:=by rfl) (hst:(assignEach es X.env).findIdx? (·.1)=none:=by rfl):QG X (.Tuple es k pos) (DA X.K n t):=⟨L2.wH hc h.run hn hst⟩
theorem sx {o i:Expr} {to ti:TE} {t:iM} (ho:QE X o to) (hi:QE X i ti) (hs:iK X t)
  (ha:∀ v,assign (.Subscript o i pos) X.env v=(do
   let ov ← holding [v] (eval o X.env)
   let iv ← holding [v,ov] (eval i X.env)
   standAt pos
   holding [v,ov,iv] (setItem ov iv v)
   release [v,ov,iv] []):=by intro _;rfl):QG X (.Subscript o i pos) (Dz to ti t):=⟨L2.sx ho.run hi.run hs ha⟩
theorem sD {tg e:Expr} (he:QE X e te) (hg:QG X tg g) (hs:swapsWithSole [tg] e pos.line X.env=pure false:=by rfl) (hw:swappedStores [tg] e X.env=pure none:=by rfl)
  (h1:(assignEach [tg] X.env).map (·.2)=[assign tg X.env]:=by rfl):QS X (.Assign [tg] e pos) (xa te g):=⟨L2.sD he.run hg.run hs hw h1⟩
theorem cy {i:Nat} {x:Str} {pos':Pos} (hN:X.N.Nodup) (hi:X.N[i]?=some x) (hx:Loc X.env.scope x) (he:QE X e te) (hs:swapsWith e (some (.Name x pos')) pos.line X.env=pure false:=by rfl) (hf:X.fn x=true∨X.env.scope.names.lookup x=some .local:=by first | exact .inl rfl | exact .inr rfl | assumption) :
  QS X (.Assign [.Name x pos'] e pos) (xa te (oa i)):=⟨L2.cy hN hi hx he.run hs hf⟩
theorem l7 {i j:Nat} {x y:Str} {a b:Expr} {ta:TA} {px py pt:Pos} {kt k2 pt2} (hc:X.calm=true) (hN:X.N.Nodup) (hi:X.N[i]?=some x) (hj:X.N[j]?=some y) (hij:i≠j)
  (hx:X.env.scope.names.lookup x=some .local) (hy:X.env.scope.names.lookup y=some .local) (ha:QA X [a,b] ta)
  (hw:swappedStores [.Tuple [.Name x px,.Name y py] kt pt] (.Tuple [a,b] k2 pt2) X.env=pure (some [x,y]))
  (hs:swapsWithSole [.Tuple [.Name x px,.Name y py] kt pt] (.Tuple [a,b] k2 pt2) pos.line X.env=pure false:=by rfl) :
  QS X (.Assign [.Tuple [.Name x px,.Name y py] kt pt] (.Tuple [a,b] k2 pt2) pos) (E4 i j ta):=⟨L2.l7 hc hN hi hj hij hx hy ha.run hw hs⟩
theorem k4 {l:Expr} {tl:TE} (hl:QE X l tl):QI X tg l (xM X.K tl):=⟨L2.k4 hl.run⟩
theorem fj {a:Expr} {ta:TA} {p pos:Pos} (hg:Gl X "range") (hm:X.mg "range"=none) (ha:QA X [a] ta) (hs:starEach [a] X.env=[(false,eval a X.env)]:=by rfl):QI X tg (.Call (.Name "range" p) [a] [] pos) (xN ta):=⟨L2.fj hg hm ha.run hs⟩
theorem l6 {iter:Expr} {body:List Stmt} {wi:TI} {g:TG} {tb:TS} {pos:Pos} (hp:PassesOwn (model X.prog X.w) X.A X.env X.xe) (hc:X.calm=true) (hi:QI X tg iter wi) (hg:QG X tg g) (hb:QB X body tb)
  (hs:∀ x,foldedSetIterable iter X.env x=pure x:=by intro _;rfl):QS X (.For tg iter body [] pos) (HV wi g tb):=⟨L2.l6 hp hc hi.run hg.run hb.run hs⟩
theorem Ec {elt iter:Expr} {x:Str} {px:Pos} {sc:Scope} {pos:Pos} {wi:TI} (osc:Scope) (N:List Str) (ks:List (Str × Nat)) (hc:X.calm=true) (ho:X.env.scope=osc) (hN:X.N=N) (hi:QI X (.Name x px) iter wi)
  (he:∀ cl C s₀ H₀ fp pins,QE (dT X sc cl C x ks s₀ H₀ fp pins) elt te) (ok:bU sc osc N x ks:=by decide +kernel) (hs:∀ x,foldedSetIterable iter X.env x=pure x:=by intro _;rfl) :
  QE X (.ListComp elt [⟨.Name x px,iter,[],0⟩] sc pos) (K9 wi ks te):=⟨Jz osc N ks hc ho hN hi.run (fun cl C s₀ H₀ fp pins=>(he cl C s₀ H₀ fp pins).run) ok hs⟩
theorem Em {elt iter:Expr} {x y:Str} {px py:Pos} {sc:Scope} {pos spos:Pos} {wi:TI} {i:Nat} (osc:Scope) (N:List Str) (ks:List (Str × Nat)) (hc:X.calm=true) (ho:X.env.scope=osc) (hN:X.N=N) (hnd:X.N.Nodup) (hy:X.N[i]?=some y) (hl:Loc X.env.scope y)
  (hi:QI X (.Name x px) iter wi) (he:∀ cl C s₀ H₀ fp pins,QE (dT X sc cl C x ks s₀ H₀ fp pins) elt te) (ok:bU sc osc N x ks:=by decide +kernel) (hs:∀ x,foldedSetIterable iter X.env x=pure x:=by intro _;rfl)
  (hsw:swapsWith (.ListComp elt [⟨.Name x px,iter,[],0⟩] sc pos) (some (.Name y py)) spos.line X.env=pure true:=by rfl) (hf:X.fn y=true∨X.env.scope.names.lookup y=some .local:=by first | exact .inl rfl | exact .inr rfl | assumption) :
  QS X (.Assign [.Name y py] (.ListComp elt [⟨.Name x px,iter,[],0⟩] sc pos) spos) (HW wi ks te i):=⟨FH osc N ks hc ho hN hnd hy hl hi.run (fun cl C s₀ H₀ fp pins=>(he cl C s₀ H₀ fp pins).run) ok hs hsw hf⟩
end
end Ov
namespace Ov
open PySem PySem.Spec PyProof.Rows
open L2 (V HO Hp Inv Cx VK TE TA Vals RelV er bT c8 R2 upd EP vals1 intsAre_of Gl)
section
variable {X:Cx}
end
end Ov
namespace Ov
open PySem PySem.Spec PyProof.Rows
open L2 (V HO Hp Inv Cx VK TE TA Vals RelV er bT c8 eL R2 upd bt)
inductive Py where
 | non | bl (b:Bool) | int (i:Int) | str (x:Str) | tup (xs:List Py) | lst (xs:List Py)
mutual
def At (K:PySem.W.Frag) (H:Hp):Py→V→Prop
 | .non,v=>v=.non
 | .bl b,v=>v=.bl b
 | .int i,v=>v=.int i
 | .str x,v=>v=.str x
 | .tup xs,v=>∃ a vs,v=.ref a∧eL K H a vs∧pz K H xs vs
 | .lst xs,v=>∃ a vs,v=.ref a∧c8 K H a vs∧pz K H xs vs
def pz (K:PySem.W.Frag) (H:Hp):List Py→List V→Prop
 | [],vs=>vs=[]
 | x :: xs,vs=>∃ v us,vs=v :: us∧At K H x v∧pz K H xs us
end
mutual
def jG:Py→Py→Bool
 | .non,.non=>true
 | .bl a,.bl b=>a == b
 | .int a,.int b=>a == b
 | .bl a,.int b=>(if a then 1 else 0) == b
 | .int a,.bl b=>a == (if b then 1 else 0)
 | .str a,.str b=>a == b
 | .tup xs,.tup ys=>i6 xs ys
 | .lst xs,.lst ys=>i6 xs ys
 | _,_=>false
def i6:List Py→List Py→Bool
 | [],[]=>true
 | x :: xs,y :: ys=>jG x y && i6 xs ys
 | _,_=>false
end
mutual
def dep:Py→Nat
 | .tup xs=>dU xs + 1
 | .lst xs=>dU xs + 1
 | _=>0
def dU:List Py→Nat
 | []=>0
 | x :: xs=>max (dep x) (dU xs)
end
mutual
theorem t_:∀ x:Py,jG x x=true
 | .non=>rfl
 | .bl b=>by simp [jG]
 | .int b=>by simp [jG]
 | .str b=>by simp [jG]
 | .tup xs=>by simpa [jG] using lS xs
 | .lst xs=>by simpa [jG] using lS xs
theorem lS:∀ xs:List Py,i6 xs xs=true
 | []=>rfl
 | x :: xs=>by simp [i6,t_ x,lS xs]
end
mutual
theorem At.same {K:PySem.W.Frag} {H H':Hp} (e:bt H H'):∀ {x:Py} {v:V},At K H x v→At K H' x v
 | .non,_,h=>h
 | .bl _,_,h=>h
 | .int _,_,h=>h
 | .str _,_,h=>h
 | .tup xs,_,⟨a,vs,e1,h,k⟩=>⟨a,vs,e1,e.tup h,pz.same e k⟩
 | .lst xs,_,⟨a,vs,e1,h,k⟩=>⟨a,vs,e1,e.seq h,pz.same e k⟩
theorem pz.same {K:PySem.W.Frag} {H H':Hp} (e:bt H H'):∀ {xs:List Py} {vs:List V},pz K H xs vs→pz K H' xs vs
 | [],_,h=>h
 | _ :: _,_,⟨v,us,e1,h,k⟩=>⟨v,us,e1,At.same e h,pz.same e k⟩
end
theorem pz.length {K:PySem.W.Frag} {H:Hp}:∀ {xs:List Py} {vs:List V},pz K H xs vs→xs.length=vs.length
 | [],_,h=>by cases h;rfl
 | _ :: xs,_,⟨v,us,e1,_,k⟩=>by subst e1;simp [pz.length k]
def y4 (xs ys:List Py) (j:Nat):Bool:=match xs[j]?,ys[j]? with
 | some x,some y=>jG x y
 | _,_=>false
theorem hE:∀ (xs ys:List Py),((List.range (min xs.length ys.length)).all (y4 xs ys) && (xs.length == ys.length))=i6 xs ys
 | [],[]=>rfl
 | [],_ :: _=>by simp [i6]
 | _ :: _,[]=>by simp [i6]
 | x :: xs,y :: ys=>by
  have ih:=hE xs ys
  rw [List.length_cons,List.length_cons,Nat.succ_min_succ,List.range_succ_eq_map,List.all_cons,List.all_map]
  have e1:(y4 (x :: xs) (y :: ys) ∘ Nat.succ)=y4 xs ys:=by
   funext j
   simp [y4]
  have e2:(xs.length + 1 == ys.length + 1)=(xs.length == ys.length):=by
   rw [Bool.eq_iff_iff]
   simp
  rw [e1,e2,Bool.and_assoc,ih]
  simp [y4,i6]
section
variable {X:Cx} {pins:List (Addr × Obj)} {σ:L2.St} {H:Hp} {s:Shared}
mutual
theorem At.one (I:Inv X pins σ H s):∀ {x y:Py} {v:V},At X.K H x v→At X.K H y v→jG x y=true
 | .non,y,v,h,k=>by cases h;cases y <;> simp_all [At,jG]
 | .bl b,y,v,h,k=>by cases h;cases y <;> simp_all [At,jG]
 | .int b,y,v,h,k=>by cases h;cases y <;> simp_all [At,jG]
 | .str b,y,v,h,k=>by cases h;cases y <;> simp_all [At,jG]
 | .tup xs,y,v,h,k=>by
  obtain ⟨a,vs,rfl,h1,h2⟩:=h
  cases y with
  | tup ys =>
   obtain ⟨b,us,e,k1,k2⟩:=k
   cases e
   cases I.zY h1 k1
   simpa [jG] using pz.one I h2 k2
  | lst ys =>
   obtain ⟨b,us,e,k1,k2⟩:=k
   cases e
   obtain ⟨_,_,⟨o,e1,c1,_⟩,_⟩:=I.tuple h1
   obtain ⟨_,_,⟨o',n,e2,c2,_⟩,_⟩:=I.list k1
   rw [e1] at e2;cases e2;exact absurd (Value.type.inj (c1.symm.trans c2)) (by decide)
  | _=>cases k
 | .lst xs,y,v,h,k=>by
  obtain ⟨a,vs,rfl,h1,h2⟩:=h
  cases y with
  | lst ys =>
   obtain ⟨b,us,e,k1,k2⟩:=k
   cases e
   cases I.oA h1 k1
   simpa [jG] using pz.one I h2 k2
  | tup ys =>
   obtain ⟨b,us,e,k1,k2⟩:=k
   cases e
   obtain ⟨_,_,⟨o,e1,c1,_⟩,_⟩:=I.tuple k1
   obtain ⟨_,_,⟨o',n,e2,c2,_⟩,_⟩:=I.list h1
   rw [e1] at e2;cases e2;exact absurd (Value.type.inj (c1.symm.trans c2)) (by decide)
  | _=>cases k
theorem pz.one (I:Inv X pins σ H s):∀ {xs ys:List Py} {vs:List V},pz X.K H xs vs→pz X.K H ys vs→i6 xs ys=true
 | [],ys,vs,h,k=>by
  cases h
  cases ys with
  | nil=>rfl
  | cons y ys=>obtain ⟨_,_,e,_⟩:=k;cases e
 | x :: xs,ys,vs,h,k=>by
  obtain ⟨v,us,rfl,h1,h2⟩:=h
  cases ys with
  | nil=>cases k
  | cons y ys =>
   obtain ⟨v',us',e,k1,k2⟩:=k
   cases e
   simp [i6,At.one I h1 k1,pz.one I h2 k2]
end
mutual
theorem Lo (I:Inv X pins σ H s):∀ (x y:Py) {v v':V} {u u':Value} {A:Around},At X.K H x v→At X.K H y v'→RelV v u→RelV v' u'→A.units + dep x < cLine→SeqAt.EqAt A s u u' (jG x y)
 | .non,y,v,v',u,u',A,h,k,r,r',hu=>by
  cases h;cases r
  cases y with
  | non=>cases k;cases r';exact SeqAt.EqAt.same _
  | bl b=>cases k;cases r';exact SeqAt.EqAt.none_bool _
  | int b=>cases k;obtain ⟨t,rfl⟩:=r';exact SeqAt.EqAt.none_int _ _
  | str b=>cases k;obtain ⟨t,rfl⟩:=r';exact SeqAt.EqAt.none_str _ _
  | tup ys=>obtain ⟨a,vs,rfl,h1,h2⟩:=k;cases r';obtain ⟨_,_,p,_⟩:=I.tuple h1;exact SeqAt.EqAt.none_tuple p (by simpa [dep] using hu)
  | lst ys=>obtain ⟨a,vs,rfl,h1,h2⟩:=k;cases r';obtain ⟨_,_,p,_⟩:=I.list h1;exact SeqAt.EqAt.none_list p.isList (by simpa [dep] using hu)
 | .bl x,y,v,v',u,u',A,h,k,r,r',hu=>by
  cases h;cases r
  cases y with
  | non=>cases k;cases r';exact SeqAt.EqAt.bool_none _
  | bl b=>cases k;cases r';exact SeqAt.EqAt.bool_bool _ _
  | int b=>cases k;obtain ⟨t,rfl⟩:=r';exact SeqAt.EqAt.bool_int _ _ _
  | str b=>cases k;obtain ⟨t,rfl⟩:=r';exact SeqAt.EqAt.bool_str _ _ _
  | tup ys=>obtain ⟨a,vs,rfl,h1,h2⟩:=k;cases r';obtain ⟨_,_,p,_⟩:=I.tuple h1;exact SeqAt.EqAt.bool_tuple _ p (by simpa [dep] using hu)
  | lst ys=>obtain ⟨a,vs,rfl,h1,h2⟩:=k;cases r';obtain ⟨_,_,p,_⟩:=I.list h1;exact SeqAt.EqAt.bool_list _ p.isList (by simpa [dep] using hu)
 | .int x,y,v,v',u,u',A,h,k,r,r',hu=>by
  cases h;obtain ⟨t0,rfl⟩:=r
  cases y with
  | non=>cases k;cases r';exact SeqAt.EqAt.int_none _ _
  | bl b=>cases k;cases r';exact SeqAt.EqAt.int_bool _ _ _
  | int b=>cases k;obtain ⟨t,rfl⟩:=r';exact SeqAt.EqAt.int_int _ _ _ _
  | str b=>cases k;obtain ⟨t,rfl⟩:=r';exact SeqAt.EqAt.int_str _ _ _ _
  | tup ys=>obtain ⟨a,vs,rfl,h1,h2⟩:=k;cases r';obtain ⟨_,_,p,_⟩:=I.tuple h1;exact SeqAt.EqAt.int_tuple _ _ p (by simpa [dep] using hu)
  | lst ys=>obtain ⟨a,vs,rfl,h1,h2⟩:=k;cases r';obtain ⟨_,_,p,_⟩:=I.list h1;exact SeqAt.EqAt.int_list _ _ p.isList (by simpa [dep] using hu)
 | .str x,y,v,v',u,u',A,h,k,r,r',hu=>by
  cases h;obtain ⟨t0,rfl⟩:=r
  cases y with
  | non=>cases k;cases r';exact SeqAt.EqAt.str_none _ _
  | bl b=>cases k;cases r';exact SeqAt.EqAt.str_bool _ _ _
  | int b=>cases k;obtain ⟨t,rfl⟩:=r';exact SeqAt.EqAt.str_int _ _ _ _
  | str b=>cases k;obtain ⟨t,rfl⟩:=r';exact SeqAt.EqAt.str_str _ _ _ _
  | tup ys=>obtain ⟨a,vs,rfl,h1,h2⟩:=k;cases r';obtain ⟨_,_,p,_⟩:=I.tuple h1;exact SeqAt.EqAt.str_tuple _ _ p (by simpa [dep] using hu)
  | lst ys=>obtain ⟨a,vs,rfl,h1,h2⟩:=k;cases r';obtain ⟨_,_,p,_⟩:=I.list h1;exact SeqAt.EqAt.str_list _ _ p.isList (by simpa [dep] using hu)
 | .tup xs,y,v,v',u,u',A,h,k,r,r',hu=>by
  have h0:=h
  obtain ⟨a,vs,rfl,h1,h2⟩:=h
  cases r
  obtain ⟨is,r1,p1,_⟩:=I.tuple h1
  have hu0:A.units < cLine:=by omega
  have hu1:A.in1.units + dU xs < cLine:=by
   have e:dep (.tup xs)=dU xs + 1:=by rw [dep]
   rw [e] at hu
   show A.units + 1 + dU xs < cLine
   omega
  cases y with
  | non=>cases k;cases r';exact SeqAt.EqAt.tuple_none p1 hu0
  | bl b=>cases k;cases r';exact SeqAt.EqAt.tuple_bool _ p1 hu0
  | int b=>cases k;obtain ⟨t,rfl⟩:=r';exact SeqAt.EqAt.tuple_int _ _ p1 hu0
  | str b=>cases k;obtain ⟨t,rfl⟩:=r';exact SeqAt.EqAt.tuple_str _ _ p1 hu0
  | lst ys=>obtain ⟨b,us,rfl,k1,k2⟩:=k;cases r';obtain ⟨_,_,p,_⟩:=I.list k1;exact SeqAt.EqAt.tuple_list p1 p.isList hu0
  | tup ys =>
   have k0:=k
   obtain ⟨b,us,rfl,k1,k2⟩:=k
   cases r'
   by_cases hab:a=b
   ·subst hab
    rw [At.one I h0 k0]
    exact SeqAt.EqAt.same _
   ·obtain ⟨js,r2,p2,_⟩:=I.tuple k1
    refine SeqAt.EqAt.of_refs hab ?_
    have key:=SeqAt.RcAt.tuples (e:=y4 xs ys) p1 p2 hu0 fun j q1 q2=>n8 I xs ys h2 k2 r1 r2 hu1 j (by simpa using q1) (by simpa using q2)
    have e1:is.length=xs.length:=by rw [← r1.length,h2.length]
    have e2:js.length=ys.length:=by rw [← r2.length,k2.length]
    simp only [List.size_toArray] at key
    rw [e1,e2,hE] at key
    simpa [jG] using key
 | .lst xs,y,v,v',u,u',A,h,k,r,r',hu=>by
  have h0:=h
  obtain ⟨a,vs,rfl,h1,h2⟩:=h
  cases r
  obtain ⟨is,r1,p1,_⟩:=I.list h1
  have hu0:A.units < cLine:=by omega
  have hu1:A.in1.units + dU xs < cLine:=by
   have e:dep (.lst xs)=dU xs + 1:=by rw [dep]
   rw [e] at hu
   show A.units + 1 + dU xs < cLine
   omega
  cases y with
  | non=>cases k;cases r';exact SeqAt.EqAt.list_none p1.isList hu0
  | bl b=>cases k;cases r';exact SeqAt.EqAt.list_bool _ p1.isList hu0
  | int b=>cases k;obtain ⟨t,rfl⟩:=r';exact SeqAt.EqAt.list_int _ _ p1.isList hu0
  | str b=>cases k;obtain ⟨t,rfl⟩:=r';exact SeqAt.EqAt.list_str _ _ p1.isList hu0
  | tup ys=>obtain ⟨b,us,rfl,k1,k2⟩:=k;cases r';obtain ⟨_,_,p,_⟩:=I.tuple k1;exact SeqAt.EqAt.list_tuple p1.isList p hu0
  | lst ys =>
   have k0:=k
   obtain ⟨b,us,rfl,k1,k2⟩:=k
   cases r'
   by_cases hab:a=b
   ·subst hab
    rw [At.one I h0 k0]
    exact SeqAt.EqAt.same _
   ·obtain ⟨js,r2,p2,_⟩:=I.list k1
    refine SeqAt.EqAt.of_refs hab ?_
    have e1:is.length=xs.length:=by rw [← r1.length,h2.length]
    have e2:js.length=ys.length:=by rw [← r2.length,k2.length]
    have ae:=hE xs ys
    by_cases hl:xs.length=ys.length
    ·have key:=SeqAt.RcAt.lists (e:=y4 xs ys) p1.isList p2.isList (by simp only [List.size_toArray];omega) hu0 fun j q1 q2=>n8 I xs ys h2 k2 r1 r2 hu1 j (by simpa using q1) (by simpa using q2)
     simp only [List.size_toArray] at key
     rw [hl,Nat.min_self] at ae
     have e3:(ys.length == ys.length)=true:=by simp
     rw [e3,Bool.and_true] at ae
     rw [e1,hl,ae] at key
     simpa [jG] using key
    ·have key:=SeqAt.RcAt.lists_lengths p1.isList p2.isList (A:=A) (by simp only [List.size_toArray];rw [e1,e2];simpa using hl) hu0
     have e3:i6 xs ys=false:=by
      rw [← ae]
      have:(xs.length == ys.length)=false:=by simpa using hl
      rw [this,Bool.and_false]
     simpa [jG,e3] using key
theorem n8 (I:Inv X pins σ H s):∀ (xs ys:List Py) {vs us:List V} {is js:List Value} {A:Around},pz X.K H xs vs→pz X.K H ys us→Vals vs is→Vals us js→A.units + dU xs < cLine→∀ j (h1:j < is.length) (h2:j < js.length),SeqAt.EqAt A s is[j] js[j] (y4 xs ys j)
 | [],ys,vs,us,is,js,A,h,k,r,r',hu,j,h1,h2=>by
  cases h;cases r;exact absurd h1 (Nat.not_lt_zero _)
 | x :: xs,[],vs,us,is,js,A,h,k,r,r',hu,j,h1,h2=>by
  cases k;cases r';exact absurd h2 (Nat.not_lt_zero _)
 | x :: xs,y :: ys,vs,us,is,js,A,h,k,r,r',hu,j,h1,h2=>by
  obtain ⟨v,vs',rfl,a1,a2⟩:=h
  obtain ⟨v',us',rfl,b1,b2⟩:=k
  cases r with
  | cons q1 q2 =>
   cases r' with
   | cons z1 z2 =>
    have e:dU (x :: xs)=max (dep x) (dU xs):=by rw [dU]
    rw [e] at hu
    cases j with
    | zero=>exact Lo I x y a1 b1 q1 z1 (by omega)
    | succ j =>
     have:=n8 I xs ys a2 b2 q2 z2 (A:=A) (by omega) j (by simpa using h1) (by simpa using h2)
     simpa [y4] using this
end
theorem Mr (I:Inv X pins σ H s) (x y:Py) {v v':V} {u u':Value} {A:Around} (h:At X.K H x v) (k:At X.K H y v') (r:RelV v u) (r':RelV v' u') (hu:A.units + dep x < cLine):SeqAt.RcAt A s u u' (jG x y):=by
 have hu0:A.units < cLine:=by omega
 cases x with
 | non =>
  cases h;cases r
  cases y with
  | non=>cases k;cases r';exact SeqAt.RcAt.none_none
  | bl b=>cases k;cases r';exact SeqAt.RcAt.none_bool _
  | int b=>cases k;obtain ⟨t,rfl⟩:=r';exact SeqAt.RcAt.none_int _ _
  | str b=>cases k;obtain ⟨t,rfl⟩:=r';exact SeqAt.RcAt.none_str _ _
  | tup ys=>obtain ⟨b,us,rfl,k1,k2⟩:=k;cases r';obtain ⟨js,r2,p2,_⟩:=I.tuple k1;exact SeqAt.RcAt.none_tuple p2 hu0
  | lst ys=>obtain ⟨b,us,rfl,k1,k2⟩:=k;cases r';obtain ⟨js,r2,p2,_⟩:=I.list k1;exact SeqAt.RcAt.none_list p2.isList hu0
 | bl i =>
  cases h;cases r
  cases y with
  | non=>cases k;cases r';exact SeqAt.RcAt.bool_none _
  | bl b=>cases k;cases r';exact SeqAt.RcAt.bool_bool _ _
  | int b=>cases k;obtain ⟨t,rfl⟩:=r';exact SeqAt.RcAt.bool_int _ _ _
  | str b=>cases k;obtain ⟨t,rfl⟩:=r';exact SeqAt.RcAt.bool_str _ _ _
  | tup ys=>obtain ⟨b,us,rfl,k1,k2⟩:=k;cases r';obtain ⟨js,r2,p2,_⟩:=I.tuple k1;exact SeqAt.RcAt.bool_tuple _ p2 hu0
  | lst ys=>obtain ⟨b,us,rfl,k1,k2⟩:=k;cases r';obtain ⟨js,r2,p2,_⟩:=I.list k1;exact SeqAt.RcAt.bool_list _ p2.isList hu0
 | int i =>
  cases h;obtain ⟨t0,rfl⟩:=r
  cases y with
  | non=>cases k;cases r';exact SeqAt.RcAt.int_none _ _
  | bl b=>cases k;cases r';exact SeqAt.RcAt.int_bool _ _ _
  | int b=>cases k;obtain ⟨t,rfl⟩:=r';exact SeqAt.RcAt.int_int _ _ _ _
  | str b=>cases k;obtain ⟨t,rfl⟩:=r';exact SeqAt.RcAt.int_str _ _ _ _
  | tup ys=>obtain ⟨b,us,rfl,k1,k2⟩:=k;cases r';obtain ⟨js,r2,p2,_⟩:=I.tuple k1;exact SeqAt.RcAt.int_tuple _ _ p2 hu0
  | lst ys=>obtain ⟨b,us,rfl,k1,k2⟩:=k;cases r';obtain ⟨js,r2,p2,_⟩:=I.list k1;exact SeqAt.RcAt.int_list _ _ p2.isList hu0
 | str i =>
  cases h;obtain ⟨t0,rfl⟩:=r
  cases y with
  | non=>cases k;cases r';exact SeqAt.RcAt.str_none _ _
  | bl b=>cases k;cases r';exact SeqAt.RcAt.str_bool _ _ _
  | int b=>cases k;obtain ⟨t,rfl⟩:=r';exact SeqAt.RcAt.str_int _ _ _ _
  | str b=>cases k;obtain ⟨t,rfl⟩:=r';exact SeqAt.RcAt.str_str _ _ _ _
  | tup ys=>obtain ⟨b,us,rfl,k1,k2⟩:=k;cases r';obtain ⟨js,r2,p2,_⟩:=I.tuple k1;exact SeqAt.RcAt.str_tuple _ _ p2 hu0
  | lst ys=>obtain ⟨b,us,rfl,k1,k2⟩:=k;cases r';obtain ⟨js,r2,p2,_⟩:=I.list k1;exact SeqAt.RcAt.str_list _ _ p2.isList hu0
 | tup xs =>
  obtain ⟨a,vs,rfl,h1,h2⟩:=h
  cases r
  obtain ⟨is,r1,p1,_⟩:=I.tuple h1
  have hu1:A.in1.units + dU xs < cLine:=by
   have e:dep (.tup xs)=dU xs + 1:=by rw [dep]
   rw [e] at hu
   show A.units + 1 + dU xs < cLine
   omega
  cases y with
  | non=>cases k;cases r';exact SeqAt.RcAt.tuple_none p1 hu0
  | bl b=>cases k;cases r';exact SeqAt.RcAt.tuple_bool _ p1 hu0
  | int b=>cases k;obtain ⟨t,rfl⟩:=r';exact SeqAt.RcAt.tuple_int _ _ p1 hu0
  | str b=>cases k;obtain ⟨t,rfl⟩:=r';exact SeqAt.RcAt.tuple_str _ _ p1 hu0
  | tup ys =>
   obtain ⟨b,us,rfl,k1,k2⟩:=k;cases r';obtain ⟨js,r2,p2,_⟩:=I.tuple k1
   have e1:is.length=xs.length:=by rw [← r1.length,h2.length]
   have e2:js.length=ys.length:=by rw [← r2.length,k2.length]
   have ae:=hE xs ys
   have key:=SeqAt.RcAt.tuples (e:=y4 xs ys) p1 p2 hu0 fun j q1 q2=>n8 I xs ys h2 k2 r1 r2 hu1 j (by simpa using q1) (by simpa using q2)
   simp only [List.size_toArray] at key
   rw [e1,e2,ae] at key
   simpa [jG] using key
  | lst ys=>obtain ⟨b,us,rfl,k1,k2⟩:=k;cases r';obtain ⟨js,r2,p2,_⟩:=I.list k1;exact SeqAt.RcAt.tuple_list p1 p2.isList hu0
 | lst xs =>
  obtain ⟨a,vs,rfl,h1,h2⟩:=h
  cases r
  obtain ⟨is,r1,p1,_⟩:=I.list h1
  have hu1:A.in1.units + dU xs < cLine:=by
   have e:dep (.lst xs)=dU xs + 1:=by rw [dep]
   rw [e] at hu
   show A.units + 1 + dU xs < cLine
   omega
  cases y with
  | non=>cases k;cases r';exact SeqAt.RcAt.list_none p1.isList hu0
  | bl b=>cases k;cases r';exact SeqAt.RcAt.list_bool _ p1.isList hu0
  | int b=>cases k;obtain ⟨t,rfl⟩:=r';exact SeqAt.RcAt.list_int _ _ p1.isList hu0
  | str b=>cases k;obtain ⟨t,rfl⟩:=r';exact SeqAt.RcAt.list_str _ _ p1.isList hu0
  | tup ys=>obtain ⟨b,us,rfl,k1,k2⟩:=k;cases r';obtain ⟨js,r2,p2,_⟩:=I.tuple k1;exact SeqAt.RcAt.list_tuple p1.isList p2 hu0
  | lst ys =>
   obtain ⟨b,us,rfl,k1,k2⟩:=k;cases r';obtain ⟨js,r2,p2,_⟩:=I.list k1
   have e1:is.length=xs.length:=by rw [← r1.length,h2.length]
   have e2:js.length=ys.length:=by rw [← r2.length,k2.length]
   have ae:=hE xs ys
   by_cases hl:xs.length=ys.length
   ·have key:=SeqAt.RcAt.lists (e:=y4 xs ys) p1.isList p2.isList (by simp only [List.size_toArray];omega) hu0 fun j q1 q2=>n8 I xs ys h2 k2 r1 r2 hu1 j (by simpa using q1) (by simpa using q2)
    simp only [List.size_toArray] at key
    rw [hl,Nat.min_self] at ae
    have e3:(ys.length == ys.length)=true:=by simp
    rw [e3,Bool.and_true] at ae
    rw [e1,hl,ae] at key
    simpa [jG] using key
   ·have key:=SeqAt.RcAt.lists_lengths p1.isList p2.isList (A:=A) (by simp only [List.size_toArray];rw [e1,e2];simpa using hl) hu0
    have e3:i6 xs ys=false:=by
     rw [← ae]
     have:(xs.length == ys.length)=false:=by simpa using hl
     rw [this,Bool.and_false]
    simpa [jG,e3] using key
theorem Km (I:Inv X pins σ H s) (x y:Py) {v v':V} {u u':Value} {A:Around} (h:At X.K H x v) (k:At X.K H y v') (r:RelV v u) (r':RelV v' u') (hu:A.units + dep x < cLine):SeqAt.RcNeAt A s u u' (!jG x y):=by
 have hu0:A.units < cLine:=by omega
 cases x with
 | non =>
  cases h;cases r
  cases y with
  | non=>cases k;cases r';exact SeqAt.RcNeAt.none_none
  | bl b=>cases k;cases r';exact SeqAt.RcNeAt.none_bool _
  | int b=>cases k;obtain ⟨t,rfl⟩:=r';exact SeqAt.RcNeAt.none_int _ _
  | str b=>cases k;obtain ⟨t,rfl⟩:=r';exact SeqAt.RcNeAt.none_str _ _
  | tup ys=>obtain ⟨b,us,rfl,k1,k2⟩:=k;cases r';obtain ⟨js,r2,p2,_⟩:=I.tuple k1;exact SeqAt.RcNeAt.none_tuple p2 hu0
  | lst ys=>obtain ⟨b,us,rfl,k1,k2⟩:=k;cases r';obtain ⟨js,r2,p2,_⟩:=I.list k1;exact SeqAt.RcNeAt.none_list p2.isList hu0
 | bl i =>
  cases h;cases r
  cases y with
  | non=>cases k;cases r';exact SeqAt.RcNeAt.bool_none _
  | bl b=>cases k;cases r';exact SeqAt.RcNeAt.bool_bool _ _
  | int b=>cases k;obtain ⟨t,rfl⟩:=r';exact SeqAt.RcNeAt.bool_int _ _ _
  | str b=>cases k;obtain ⟨t,rfl⟩:=r';exact SeqAt.RcNeAt.bool_str _ _ _
  | tup ys=>obtain ⟨b,us,rfl,k1,k2⟩:=k;cases r';obtain ⟨js,r2,p2,_⟩:=I.tuple k1;exact SeqAt.RcNeAt.bool_tuple _ p2 hu0
  | lst ys=>obtain ⟨b,us,rfl,k1,k2⟩:=k;cases r';obtain ⟨js,r2,p2,_⟩:=I.list k1;exact SeqAt.RcNeAt.bool_list _ p2.isList hu0
 | int i =>
  cases h;obtain ⟨t0,rfl⟩:=r
  cases y with
  | non=>cases k;cases r';exact SeqAt.RcNeAt.int_none _ _
  | bl b=>cases k;cases r';exact SeqAt.RcNeAt.int_bool _ _ _
  | int b=>cases k;obtain ⟨t,rfl⟩:=r';exact SeqAt.RcNeAt.int_int _ _ _ _
  | str b=>cases k;obtain ⟨t,rfl⟩:=r';exact SeqAt.RcNeAt.int_str _ _ _ _
  | tup ys=>obtain ⟨b,us,rfl,k1,k2⟩:=k;cases r';obtain ⟨js,r2,p2,_⟩:=I.tuple k1;exact SeqAt.RcNeAt.int_tuple _ _ p2 hu0
  | lst ys=>obtain ⟨b,us,rfl,k1,k2⟩:=k;cases r';obtain ⟨js,r2,p2,_⟩:=I.list k1;exact SeqAt.RcNeAt.int_list _ _ p2.isList hu0
 | str i =>
  cases h;obtain ⟨t0,rfl⟩:=r
  cases y with
  | non=>cases k;cases r';exact SeqAt.RcNeAt.str_none _ _
  | bl b=>cases k;cases r';exact SeqAt.RcNeAt.str_bool _ _ _
  | int b=>cases k;obtain ⟨t,rfl⟩:=r';exact SeqAt.RcNeAt.str_int _ _ _ _
  | str b=>cases k;obtain ⟨t,rfl⟩:=r';exact SeqAt.RcNeAt.str_str _ _ _ _
  | tup ys=>obtain ⟨b,us,rfl,k1,k2⟩:=k;cases r';obtain ⟨js,r2,p2,_⟩:=I.tuple k1;exact SeqAt.RcNeAt.str_tuple _ _ p2 hu0
  | lst ys=>obtain ⟨b,us,rfl,k1,k2⟩:=k;cases r';obtain ⟨js,r2,p2,_⟩:=I.list k1;exact SeqAt.RcNeAt.str_list _ _ p2.isList hu0
 | tup xs =>
  obtain ⟨a,vs,rfl,h1,h2⟩:=h
  cases r
  obtain ⟨is,r1,p1,_⟩:=I.tuple h1
  have hu1:A.in1.units + dU xs < cLine:=by
   have e:dep (.tup xs)=dU xs + 1:=by rw [dep]
   rw [e] at hu
   show A.units + 1 + dU xs < cLine
   omega
  cases y with
  | non=>cases k;cases r';exact SeqAt.RcNeAt.tuple_none p1 hu0
  | bl b=>cases k;cases r';exact SeqAt.RcNeAt.tuple_bool _ p1 hu0
  | int b=>cases k;obtain ⟨t,rfl⟩:=r';exact SeqAt.RcNeAt.tuple_int _ _ p1 hu0
  | str b=>cases k;obtain ⟨t,rfl⟩:=r';exact SeqAt.RcNeAt.tuple_str _ _ p1 hu0
  | tup ys =>
   obtain ⟨b,us,rfl,k1,k2⟩:=k;cases r';obtain ⟨js,r2,p2,_⟩:=I.tuple k1
   have e1:is.length=xs.length:=by rw [← r1.length,h2.length]
   have e2:js.length=ys.length:=by rw [← r2.length,k2.length]
   have ae:=hE xs ys
   have key:=SeqAt.RcNeAt.tuples (e:=y4 xs ys) p1 p2 hu0 fun j q1 q2=>n8 I xs ys h2 k2 r1 r2 hu1 j (by simpa using q1) (by simpa using q2)
   simp only [List.size_toArray] at key
   rw [e1,e2,ae] at key
   simpa [jG] using key
  | lst ys=>obtain ⟨b,us,rfl,k1,k2⟩:=k;cases r';obtain ⟨js,r2,p2,_⟩:=I.list k1;exact SeqAt.RcNeAt.tuple_list p1 p2.isList hu0
 | lst xs =>
  obtain ⟨a,vs,rfl,h1,h2⟩:=h
  cases r
  obtain ⟨is,r1,p1,_⟩:=I.list h1
  have hu1:A.in1.units + dU xs < cLine:=by
   have e:dep (.lst xs)=dU xs + 1:=by rw [dep]
   rw [e] at hu
   show A.units + 1 + dU xs < cLine
   omega
  cases y with
  | non=>cases k;cases r';exact SeqAt.RcNeAt.list_none p1.isList hu0
  | bl b=>cases k;cases r';exact SeqAt.RcNeAt.list_bool _ p1.isList hu0
  | int b=>cases k;obtain ⟨t,rfl⟩:=r';exact SeqAt.RcNeAt.list_int _ _ p1.isList hu0
  | str b=>cases k;obtain ⟨t,rfl⟩:=r';exact SeqAt.RcNeAt.list_str _ _ p1.isList hu0
  | tup ys=>obtain ⟨b,us,rfl,k1,k2⟩:=k;cases r';obtain ⟨js,r2,p2,_⟩:=I.tuple k1;exact SeqAt.RcNeAt.list_tuple p1.isList p2 hu0
  | lst ys =>
   obtain ⟨b,us,rfl,k1,k2⟩:=k;cases r';obtain ⟨js,r2,p2,_⟩:=I.list k1
   have e1:is.length=xs.length:=by rw [← r1.length,h2.length]
   have e2:js.length=ys.length:=by rw [← r2.length,k2.length]
   have ae:=hE xs ys
   by_cases hl:xs.length=ys.length
   ·have key:=SeqAt.RcNeAt.lists (e:=y4 xs ys) p1.isList p2.isList (by simp only [List.size_toArray];omega) hu0 fun j q1 q2=>n8 I xs ys h2 k2 r1 r2 hu1 j (by simpa using q1) (by simpa using q2)
    simp only [List.size_toArray] at key
    rw [hl,Nat.min_self] at ae
    have e3:(ys.length == ys.length)=true:=by simp
    rw [e3,Bool.and_true] at ae
    rw [e1,hl,ae] at key
    simpa [jG] using key
   ·have key:=SeqAt.RcNeAt.lists_lengths p1.isList p2.isList (A:=A) (by simp only [List.size_toArray];rw [e1,e2];simpa using hl) hu0
    have e3:i6 xs ys=false:=by
     rw [← ae]
     have:(xs.length == ys.length)=false:=by simpa using hl
     rw [this,Bool.and_false]
    simpa [jG,e3] using key
def rP (K:PySem.W.Frag) (f:Bool→Bool):R2:=fun v v' H Q=>∃ x y:Py,At K H x v∧At K H y v'∧dep x≤60∧Q (.bl (f (jG x y))) H
theorem He (hu:X.A.units + 61 < cLine):er X (compareOp .Eq) (rP X.K id):=by
 intro pins s σ H x y v u Q I rx ry h
 obtain ⟨a,b,h1,h2,d,q⟩:=h
 exact Mr I a b h1 h2 rx ry (by omega) X.prog X.w X.xe _ ⟨.bl _,H,I,rfl,q⟩
theorem Hi (hu:X.A.units + 61 < cLine):er X (compareOp .NotEq) (rP X.K not):=by
 intro pins s σ H x y v u Q I rx ry h
 obtain ⟨a,b,h1,h2,d,q⟩:=h
 exact Km I a b h1 h2 rx ry (by omega) X.prog X.w X.xe _ ⟨.bl _,H,I,rfl,q⟩
end
end Ov
namespace Ov
open PySem PySem.Spec PySem.Calls PyProof.Rows PySem.W Builtin.Getset_descriptor
section
variable {prog:Program} {w:World} {A:Around} {E:Value→Shared→Prop} {s:Shared} {K:Frag} {x D:Addr}
structure IC (K:Frag) (D:Addr):Prop where
 cls:(clsIn K D).isSome=true
 ga:findIn K (.ref D) "__getattribute__"=some (some (.builtin "BaseException.__getattribute__"))
 gt:findIn K (.ref D) "__getattr__"=some none
 ca:findIn K (.ref D) "__class__"=some (some (.builtin "object.__class__"))
 get:specialIn K (.builtin "object.__class__") "__get__"=some (some (.builtin "getset_descriptor.__get__"))
 tk:takesIn K (.builtin "object.__class__")=some true
 obj:mroIn K D (.type "object")=some true
 bex:subIn K (.ref D) (.type "BaseException")=some true
end
end Ov
namespace Ov
open PySem PySem.Spec PyProof.Rows L2
structure xj (P:Program) (w:World) (outer:List Env) (H:Hp) (s:Shared) (ea:Addr) (cls:Value) (H':Hp) (s':Shared):Prop where
 os:s'.os=s.os
 bare:AllBare s'.gens
 un:Un (iN outer) [] H H' s.heap s'.heap
 hok:ku P w H' s'.heap
 fl:∃ B t,Heap.FlyingW B outer ea cls (.ref t) s'.heap∧∀ b o,s'.heap.get? b=some o→(H' b≠none∨∃ o₀,s.heap.get? b=some o₀)→b ∉ iN outer→B.get? b=some o
def dt (P:Program) (w:World):pj:=fun outer H s E e s'=>∃ ea cls H',e=.ref ea∧xj P w outer H s ea cls H' s'∧E cls none H'
theorem DZ {P:Program} {w:World} {H:Hp} {h:Heap} {a:Addr} {o:HO} (x:cu P w H h a o):∃ ob,h.get? a=Option.some ob:=by
 have lt:=x.lt
 cases o with
 | lst xs=>obtain ⟨_,_,_,_,e⟩:=x;exact ⟨_,e⟩
 | tup xs=>obtain ⟨_,_,_,ob,e,_⟩:=x;exact ⟨_,e⟩
 | dK kvs=>obtain ⟨_,_,_,_,o,_,_,e,_⟩:=x;exact ⟨_,e⟩
 | dE kvs ep=>obtain ⟨_,_,_,_,o,_,e,_⟩:=x;exact ⟨_,e⟩
 | set S n=>obtain ⟨o,_,_,_,e,_⟩:=x;exact ⟨_,e⟩
 | ins C dx fs=>obtain ⟨_,_,_,e,_⟩:=x;exact ⟨_,e⟩
 | own y=>exact x
 | xd fs=>obtain ⟨_,⟨_,_,_,e,_⟩,_⟩:=x;exact ⟨_,e⟩
 | Io lo hi=>obtain ⟨_,_,_,e⟩:=x;exact ⟨_,e⟩
 | pK ob u=>obtain ⟨e,_⟩:=x;exact ⟨_,e⟩
 | tbl ps=>exact ⟨_,x⟩
 | met f y=>exact ⟨_,x⟩
 | ext φ=>obtain ⟨_,e,_⟩:=x;exact e
section
variable {X:Cx} {pins:List (Addr × Obj)} {σ:L2.St} {H H':Hp} {s:Shared} {ea t:Addr} {cls:Value} {B h1 h2:Heap}
theorem i7 (I:Inv X pins σ H s) (un:Un (iN X.stack) [] H H' s.heap h1) {b:Addr} (hb:b∈iN X.stack):H' b=none∧∃ o,h1.get? b=some o∧∀ vs,o.data≠.fields vs:=by
 obtain ⟨_,o,ho,hn⟩:=I.stack.mem hb
 have n:=I.tJ b hb
 obtain ⟨sl,e⟩:=un.any ho n (by simp)
 exact ⟨un.free b o ho n (by simp),_,e,hn⟩
theorem xK (I:Inv X pins σ H s) (un:Un (iN X.stack) [] H H' s.heap h1) (cov:∀ b o,h1.get? b=some o→(H' b≠none∨∃ o₀,s.heap.get? b=some o₀)→b ∉ iN X.stack→B.get? b=some o)
  (hB:B.StaysIn h2) (up:h1.UpToSlots h2):Un (iN X.stack) [] H H' s.heap h2 where
 keep:=fun b o e n hb hx=>hB b o (cov b o (un.keep b o e n hb hx) (.inr ⟨o,e⟩) hb)
 slot:=fun b o e n hb hx=>by
  obtain ⟨sl,e1⟩:=un.slot b o e n hb hx
  obtain ⟨_,o',e2,hn⟩:=i7 I un hb
  rw [e1] at e2;cases e2
  obtain ⟨sl',e3⟩:=up b _ e1 hn
  exact ⟨sl',e3⟩
 free:=un.free
 there:=fun b o e hx=>by
  obtain ⟨o',e1⟩:=un.there b o e hx
  by_cases hb:b∈iN X.stack
  ·obtain ⟨_,o2,e2,hn⟩:=i7 I un hb
   obtain ⟨sl',e3⟩:=up b _ e2 hn
   exact ⟨_,e3⟩
  ·exact ⟨o',hB b o' (cov b o' e1 (.inr ⟨o,e⟩) hb)⟩
 tups:=un.tups
 frzs:=un.frzs
 tbls:=un.tbls
theorem xJ (I:Inv X pins σ H s) (un:Un (iN X.stack) [] H H' s.heap h1) (cov:∀ b o,h1.get? b=some o→(H' b≠none∨∃ o₀,s.heap.get? b=some o₀)→b ∉ iN X.stack→B.get? b=some o)
  (hB:B.StaysIn h2) (ok:ku X.prog X.w H' h1):ku X.prog X.w H' h2:=fun a o e=>by
 have nf:∀ b u,H' b=some u→b ∉ iN X.stack:=fun b u q hb=>by
  have:=(i7 I un hb).1
  rw [q] at this;cases this
 refine (ok a o e).o_ (fun b u hb q=>?_) (fun _ q=>q) fun _ _ q=>q
 rcases hb with rfl | hb
 ·exact hB _ _ (cov _ _ q (.inl (by rw [e];exact fun z=>nomatch z)) (nf _ _ e))
 ·exact hB _ _ (cov _ _ q (.inl (by rw [hb];exact fun z=>nomatch z)) (nf _ _ hb))
theorem AF (un:Un (iN X.stack) [] H H' s.heap h1) (ok:ku X.prog X.w H' h1) (cov:∀ b o,h1.get? b=some o→(H' b≠none∨∃ o₀,s.heap.get? b=some o₀)→b ∉ iN X.stack→B.get? b=some o) (hB:B.StaysIn h2) :
  ∀ b o,h2.get? b=some o→(H' b≠none∨∃ o₀,s.heap.get? b=some o₀)→b ∉ iN X.stack→B.get? b=some o:=fun b o e hb nb=>by
 have:∃ o1,h1.get? b=some o1:=by
  rcases hb with z | ⟨o₀,z⟩
  ·cases q:H' b with
   | none=>exact absurd q z
   | some u=>exact DZ (ok b u q)
  ·exact un.there b o₀ z (by simp)
 obtain ⟨o1,e1⟩:=this
 have c:=cov b o1 e1 hb nb
 have:=hB b o1 c
 rw [e] at this;cases this
 exact c
theorem xE {s2:Shared} (I:Inv X pins σ H s) (hst:X.stack=X.env :: X.outer) (hfr:X.env.frame=some X.env.locals) (hex:X.ex=[]) (os:s2.os=s.os) (bare:AllBare s2.gens) (un:Un (iN X.stack) [] H H' s.heap s2.heap)
  (ok:ku X.prog X.w H' s2.heap) (cov:∀ b o,s2.heap.get? b=some o→(H' b≠none∨∃ o₀,s.heap.get? b=some o₀)→b ∉ iN X.stack→B.get? b=some o) (fl:Heap.FlyingW B X.outer ea cls (.ref t) s2.heap) :
  xj X.prog X.w X.outer X.H₀ X.s₀ ea cls H' s2:=by
 have nst:∀ b o,X.s₀.heap.get? b=some o→b ∉ X.fs→b ∉ iN X.stack:=fun b o e nb hb=>by
  rcases List.mem_cons.mp (I.ko b hb) with z | z
  ·have:=Nat.lt_of_lt_of_le (Heap.lt_size e) I.ok.above
   rw [z] at this
   exact Nat.lt_irrefl _ this
  ·exact nb z
 have sub:∀ b,b∈X.fs→b∈iN X.stack:=fun b hb=>by rw [hst];unfold iN;rw [List.filterMap_cons,hfr];exact List.mem_cons_of_mem _ hb
 have nx:∀ b:Addr,b ∉ X.ex:=fun b=>by rw [hex];simp
 refine ⟨os.trans I.os,bare,⟨fun b o e n hb _=>?_,fun b o e n hb _=>?_,fun b o e n _=>?_,fun b o e _=>?_,fun b xs q=>un.tups b xs (I.base.tups b xs q),fun b o xs q=>un.frzs b o xs (I.base.frzs b o xs q),fun b ps q=>?_⟩,ok,B,t,fl,fun b o e hb nb=>?_⟩
 ·exact un.keep b o (I.base.keep b o e n hb (nx b)) (I.base.free b o e n (nx b)) (nst b o e hb) (by simp)
 ·obtain ⟨sl,e1⟩:=I.base.slot b o e n hb (nx b)
  obtain ⟨sl',e2⟩:=un.slot b _ e1 (I.base.free b o e n (nx b)) (sub b hb) (by simp)
  exact ⟨sl',e2⟩
 ·obtain ⟨o',e1⟩:=I.base.there b o e (nx b)
  exact un.free b o' e1 (I.base.free b o e n (nx b)) (by simp)
 ·obtain ⟨o',e1⟩:=I.base.there b o e (nx b)
  exact un.there b o' e1 (by simp)
 ·obtain ⟨m1,e1⟩:=I.base.tbls b ps q
  obtain ⟨m2,e2⟩:=un.tbls b _ e1
  exact ⟨m1 ++ m2,by rw [e2,Array.append_assoc]⟩
 ·rcases hb with z | ⟨o₀,z⟩
  ·exact cov b o e (.inl z) fun hb=>z (i7 I un hb).1
  ·obtain ⟨o1,e1⟩:=I.base.there b o₀ z (nx b)
   exact cov b o e (.inr ⟨o1,e1⟩) (nst b o₀ z nb)
theorem zl {E:XK} {e:Value} {s':Shared} {R:Value→Shared→Prop} (I:Inv X pins σ H s) (hst:X.stack=X.env :: X.outer) (hfr:X.env.frame=some X.env.locals) (hex:X.ex=[]) (h:dt X.prog X.w X.stack H s E e s') :
  wpAny (model X.prog X.w) X.A (leaving X.env e) (fun _ s''=>dt X.prog X.w X.outer X.H₀ X.s₀ E e s'') R s':=by
 obtain ⟨ea,cls,H',rfl,F,q⟩:=h
 obtain ⟨B,t,fl,cov⟩:=F.fl
 refine wpAny_leaves_onW (by rw [I.ok.frames,hst]) hfr (hst ▸ fl) fun h2 fl2 up=>?_
 exact ⟨ea,cls,H',rfl,xE (s2:={ s' with heap:=h2 }) I hst hfr hex F.os F.bare (xK I F.un cov fl2.1 up) (xJ I F.un cov fl2.1 F.hok) (AF F.un F.hok cov fl2.1) fl2,q⟩
theorem leave_new {E:XK} {e C:Addr} {args:List Value} {h':Heap} {R:Value→Shared→Prop} (I:Inv X pins σ H s) (hst:X.stack=X.env :: X.outer) (hfr:X.env.frame=some X.env.locals) (hex:X.ex=[])
  (hx:Heap.MadeExcOf s.heap h' e (.ref C) args) (q:E (.ref C) none H) :
  wpAny (model X.prog X.w) X.A (leaving X.env (.ref e)) (fun _ s''=>dt X.prog X.w X.outer X.H₀ X.s₀ E (.ref e) s'') R { s with heap:=h' }:=by
 have hin:∀ env∈X.env :: X.outer,∀ a,env.frame=some a→a∈iN X.stack:=fun env he a ha=>by rw [hst];exact List.mem_filterMap.mpr ⟨env,he,ha⟩
 have cov:∀ b o,s.heap.get? b=some o→(H b≠none∨∃ o₀,s.heap.get? b=some o₀)→b ∉ iN X.stack→(PySem.W.hideAll s.heap (iN X.stack)).get? b=some o:=fun b o e _ nb=>PySem.W.hideAll_get _ e nb
 refine wpAny_leaves_madeW (base:=PySem.W.hideAll s.heap (iN X.stack)) (by rw [I.ok.frames,hst]) hfr (fun b o z=>PySem.W.of_hideAll _ z) (PySem.W.funFrames_hide (hst ▸ I.stack) hin) hx fun h2 t fl _ _ up=>?_
 have up2:s.heap.UpToSlots h2:=(Heap.UpToSlots.of_keeps hx.keeps).trans up
 exact ⟨e,.ref C,H,rfl,xE (s2:={ s with heap:=h2 }) I hst hfr hex rfl I.bare (xK I Un.refl cov fl.1 up2) (xJ I Un.refl cov fl.1 I.hok) (AF Un.refl I.hok cov fl.1) fl,q⟩
end
abbrev Lk:List Value:=[.type "ValueError",.type "Exception",.type "BaseException",.type "object"]
structure Own (K:PySem.W.Frag) (mg:Str→Option Value) (x:Str) (C:Addr):Prop where
 mg:mg x=some (.ref C)
 own:PySem.W.excIn K C Lk "ValueError.__new__"=true
 xc:IC K C
theorem D_ {K:PySem.W.Frag} {h:Heap} {C:Addr} {bmB:List Value} {newId:String} (X:K.In h) (q:PySem.W.excIn K C bmB newId=true) :
  ∃ bm N nm qn bs hd sn sub ab col dd k0 k1 k2 k3 k5 mN,h.get? C=some (excClassObj nm qn C N bs bm hd sn sub ab col dd k0 k1 k2 k3 k5 newId)∧h.Ns N mN∧mN "__init__"=none∧OwnTail h bmB bm:=by
 unfold PySem.W.excIn at q
 split at q
 ·next dd cd sl ho =>
  split at q
  ·next C' bm k0 k1 k2 k3 n k5 hm hs =>
   simp only [beq_iff_eq,Bool.and_eq_true,Bool.not_eq_true'] at q
   obtain ⟨⟨⟨⟨⟨rfl,rfl⟩,e3⟩,e4⟩,e5⟩,e6⟩:=q
   cases cd with
   | mk nm bs mro ns qn hd sn sub ab col del =>
    have hm:mro=.ref C' :: bm:=hm
    have e3:del=false:=e3
    subst hm;subst e3
    have hsl:sl=#[k0,k1,k2,k3,some (.builtin n),k5]:=Array.toList_inj.mp hs
    subst hsl
    exact ⟨bm,ns,nm,qn,bs,hd,sn,sub,ab,col,dd,k0,k1,k2,k3,k5,_,X _ _ ho,.of_isNs (PySem.W.isNs_of_in X e5),PySem.W.nsMap_none_of_in X e5 e6,PySem.W.tail_of_in X e4⟩
  ·cases q
 ·cases q
def HX (C:Addr) (E:XK) (t:TA):TS:=fun _ σ H=>t σ H fun vs H1=>vs.length≤sizeLine∧E (.ref C) none H1
def Throws (X:Cx) (E:XK):Prop:=∀ (pins:List (Addr × Obj)) (σ:L2.St) (H:Hp) (s:Shared) (e C:Addr) (args:List Value) (h':Heap),Inv X pins σ H s→Heap.MadeExcOf s.heap h' e (.ref C) args→E (.ref C) none H→X.xe (.ref e) { s with heap:=h' }
theorem zQ {X:Cx} {E:XK} {x:Str} {C:Addr} {e:Expr} {es:List Expr} {np cpos pos:Pos} {t:TA} (O:Own X.K X.mg x C) (hc:X.calm=true) (hx:Throws X E) (hg:Gl X x) (ha:PA X (e :: es) t)
  (hd:(x == ("__debug__":Str))=false:=by decide) (he:starEach (e :: es) X.env=(false,eval e X.env) :: starEach es X.env:=by rfl) (hpl:(backTo cpos (starEach es X.env)).any (·.1)=false:=by rfl) :
  PS X (.Raise (some (.Call (.Name x np) (e :: es) [] cpos)) none pos) (HX C E t):=by
 intro pins s σ H D I h
 obtain ⟨bm,N,nm,qn,bs,hd',sn,sub,ab,col,dd,k0,k1,k2,k3,k5,mN,hC,hN,hni,T⟩:=D_ I.mod.kin O.own
 have hplain:(backTo cpos (starEach (e :: es) X.env)).any (·.1)=false:=by
  rw [he]
  show (false || (backTo cpos (starEach es X.env)).any (·.1))=false
  rw [hpl];rfl
 refine wpAny_Raise_call_subT (C:=C) (N:=N) (nm:=nm) (q:=qn) (bs:=bs) (hdct:=hd') (sn:=sn) (sub:=sub) (ab:=ab) (col:=col) (dd:=dd) (k0:=k0) (k1:=k1) (k2:=k2) (k3:=k3) (k5:=k5) PySem.F.excBase_ValueError (T.hasType (by decide +kernel)) (I.ok.hd hc) hplain hni ?_
 refine kW I hg O.mg ⟨rfl,?_⟩ hd
 have key:=bM (ha cpos pins s σ H _ I h) (Q':=fun us s1=>us.length≤sizeLine∧s1.heap.get? C=some (excClassObj nm qn C N bs bm hd' sn sub ab col dd k0 k1 k2 k3 k5 "ValueError.__new__")∧s1.heap.Ns N mN∧OwnTail s1.heap Lk bm ∧
  ∀ h' e,Heap.MadeExcOf s1.heap h' e (.ref C) us→X.xe (.ref e) { s1 with heap:=h' }) fun us s1 ⟨vs,H1,I1,r,z,q⟩ =>
   ⟨by rw [← r.length];exact z,I1.bk _ _ hC,hN.keeps I1.bk,T.keeps I1.bk,fun h' ea hm=>hx pins σ H1 s1 ea C us h' I1 hm q⟩
 rw [he] at key ⊢
 exact PySem.Calls.evalArgs_plain (bM key fun _ _ z=>⟨rfl,z⟩)
section
variable {P:Program} {w:World} {K:PySem.W.Frag} {mg:Str→Option Value} {base:Heap} {N:List Str} {qual:Str} {scope:Scope} {f:Addr} {cd:Value} {A:Around} {outer:List Env} {s:Shared} {H:Hp} {E:XK}
abbrev Ag (P:Program) (w:World) (K:PySem.W.Frag) (mg:Str→Option Value) (base:Heap) (N:List Str) (qual:Str) (scope:Scope) (f:Addr) (cd:Value) (A:Around) (outer:List Env) (s:Shared) (H:Hp) (E:XK):Cx:=rA (dt P w) P w K mg base N qual scope f cd A outer s H E
theorem cv:Throws (Ag P w K mg base N qual scope f cd A outer s H E) E:=fun pins σ H1 s1 e C args h' I hm q =>
 leave_new (X:=Ag P w K mg base N qual scope f cd A outer s H E) I rfl rfl rfl hm q
theorem vX:Passes (dt P w) (Ag P w K mg base N qual scope f cd A outer s H E) E:=fun pins σ H1 s1 e s' I h =>
 zl (X:=Ag P w K mg base N qual scope f cd A outer s H E) I rfl rfl rfl h
theorem dH:PassesOwn (model P w) (Ag P w K mg base N qual scope f cd A outer s H E).A (Ag P w K mg base N qual scope f cd A outer s H E).env (Ag P w K mg base N qual scope f cd A outer s H E).xe:=PassesOwn.leaving
theorem Nv {x qual:Str} {st:Stmt} {f:Addr} {fd:FuncData} {N ps:List Str} {k:Nat} {sp:Sp} (F:cq K x qual st f fd) (S:aw N ps (ai st)) (len:∀ vs H Q E,sp vs H Q E→vs.length=ps.length)
  (hbody:∀ (cdv:Value) (A:Around) (outer:List Env) (s:Shared) (H:Hp) (vs:List V) (Q:VK) (E:XK),bI k (A.deeper (envOfC qual (ai st) s.heap.objs.size f cdv))→sp vs H Q E →
   ∃ t,QB (Ag P w K mg base N qual (ai st) f cdv A outer s H E) (bO st) t∧t { nx:=fun _ H'=>Q .non H',rt:=Q } (start N vs) H):aQ P w K mg base (dt P w) (k + 1) f fd ps sp:=by
 obtain ⟨oc,od,kV,doc,pm,an,cdv,ct,osl,rfl,lk,hcd⟩:=F.ex
 refine AV lk hcd S len fun A outer s H vs Q E hr hsp=>?_
 obtain ⟨t,h,q⟩:=hbody cdv A outer s H vs Q E hr hsp
 exact ⟨t,h.run,q⟩
end
def Ak (P:Program) (w:World) (K:PySem.W.Frag) (mg:Str→Option Value) (base:Heap) (k:Nat) (x:Str) (ps:List Str) (sp:Sp):Prop :=
 ∃ f fd,aQ P w K mg base (dt P w) k f fd ps sp∧Binds K fd ps []∧PySem.W.keepIn K (.ref f)=true∧mg x=some (.ref f)
theorem Eb {X:Cx} {k k':Nat} {x:Str} {ps:List Str} {sp:Sp} {p pos:Pos} {e:Expr} {es:List Expr} {t:TA} {E:XK} (C:Ak X.prog X.w X.K X.mg X.base k x ps sp) (hx:Passes (dt X.prog X.w) X E) (hr:bI k' X.A) (hk:k≤k') (hg:Gl X x) (ha:PA X (e :: es) t)
  (hdb:(x == ("__debug__":Str))=false:=by decide) (he:starEach (e :: es) X.env=(false,eval e X.env) :: starEach es X.env:=by rfl) (hpl:(backTo pos (starEach es X.env)).any (·.1)=false:=by rfl) :
  PE X (.Call (.Name x p) (e :: es) [] pos) (pe sp [] E t):=by
 obtain ⟨f,fd,F,b,kp,m⟩:=C
 exact xZ F (hr.mono hk) hg m kp b .nil hx ha hdb he hpl
theorem Def.Ll {P:Program} {w:World} {K:PySem.W.Frag} {mg:Str→Option Value} {base:Heap} {x:Str} {st:Stmt} {k:Nat} {ps:List Str} {sp:Sp} (D:Def K mg x st)
  (h:∀ f fd,cq K x x st f fd→aQ P w K mg base (dt P w) k f fd ps sp)
  (hb:∀ (kV doc pm:Value) (an:Option Addr) (cdv ct:Value) (us:List Value),us.length=ps.length→bindArgs (PySem.W.fnOf x x (cK st) (bO st) (ai st) .none kV doc pm an cdv ct) ⟨us,[]⟩=pure (ps.zip us)) :
  Ak P w K mg base k x ps sp:=by
 obtain ⟨f,fd,F,m⟩:=D
 exact ⟨f,fd,h f fd F,F.binds hb,F.kp,m⟩
section
variable {X:Cx} {pins pn:List (Addr × Obj)} {σ:L2.St} {H H':Hp} {s:Shared}
theorem xj.new {ea:Addr} {cls:Value} {s':Shared} (I:Inv X pins σ H s) (F:xj X.prog X.w X.stack H s ea cls H' s'):H' ea=none∧s.heap.get? ea=none:=by
 obtain ⟨B,t,fl,cov⟩:=F.fl
 obtain ⟨oe,vs,he,_,hd,_⟩:=fl.first
 have nf:ea ∉ iN X.stack:=fun hb=>by
  obtain ⟨_,o,ho,hn⟩:=i7 I F.un hb
  rw [he] at ho;cases ho
  exact hn vs hd
 have no:¬ (H' ea≠none∨∃ o₀,s.heap.get? ea=some o₀):=fun z=>by
  have:=cov ea oe he z nf
  rw [fl.2.1] at this;cases this
 refine ⟨?_,?_⟩
 ·cases q:H' ea with
  | none=>rfl
  | some u=>exact absurd (.inl (by rw [q];exact fun z=>nomatch z)) no
 ·cases q:s.heap.get? ea with
  | none=>rfl
  | some u=>exact absurd (.inr ⟨u,q⟩) no
end
end Ov
namespace Ov
open PySem PySem.Spec PyProof.Rows
open L2 (V HO Hp Inv Cx St VK TE TT TA TS Ends Loc Gl RelV Vals er bT pe upd E0 bI XK Passes)
section
variable {X:Cx} {e:Expr} {es:List Expr} {t:TA} {x:Str} {np cpos pos p:Pos}
end
open PySem.W in
def C4 (K:Frag) (D:Addr):Bool:=(clsIn K D).isSome && findIn K (.ref D) "__getattribute__" == some (some (.builtin "BaseException.__getattribute__")) && findIn K (.ref D) "__getattr__" == some none &&
 findIn K (.ref D) "__class__" == some (some (.builtin "object.__class__")) && specialIn K (.builtin "object.__class__") "__get__" == some (some (.builtin "getset_descriptor.__get__")) && takesIn K (.builtin "object.__class__") == some true &&
 mroIn K D (.type "object") == some true && subIn K (.ref D) (.type "BaseException") == some true
theorem Fd {K:PySem.W.Frag} {D:Addr} (h:C4 K D=true):IC K D:=by
 simp only [C4,Bool.and_eq_true,beq_iff_eq] at h
 obtain ⟨⟨⟨⟨⟨⟨⟨a,b⟩,c⟩,d⟩,e⟩,f⟩,g⟩,i⟩:=h
 exact ⟨a,b,c,d,e,f,g,i⟩
open L2 (xa CU vn xf zW tC F5 oa)
theorem _root_.L2.bI.aS {k:Nat} {A:Around} (r:bI k A):A.units + 61 < cLine:=by have:=r.un;omega
end Ov
namespace Ov
open PySem PySem.Spec PyProof.Rows L2
def dG (P:Addr) (h:Heap):Prop:=∃ ps:Array Value,h.get? P=some { cls:=.none,data:=.fields ps }∧TriplesOk ps.toList
def p_ (K:PySem.W.Frag) (c P:Addr):Prop:=c≠P∧∃ (o:Obj) (vs:Array Value) (file:Str) (tf:Tok) (flags:Int) (tg:Tok) (inF:Bool) (text:Int) (tt:Tok),
 K.lookup c=some o∧o.cls=.type "code"∧o.data=.fields vs∧vs[11]?=some (.ref P)∧vs.getD 18 .none=.str file tf∧vs.getD 7 .none=.int flags tg∧vs.getD 9 .none=.bool inF∧vs.getD 10 .none=.int text tt
def BMain (mg:Str→Option Value) (h:Heap):Prop:=∃ bm ob,mg "__builtins__"=some (.ref bm)∧bm≠builtinsNs∧h.get? bm=some ob∧ob.cls=.type "module"∧ob.dict=some builtinsNs∧ob.data=.plain
theorem p_.at {K:PySem.W.Frag} {h:Heap} {c P:Addr} {ps:Array Value} (Z:p_ K c P) (X:K.In h) (hp:h.get? P=some { cls:=.none,data:=.fields ps }) (tr:TriplesOk ps.toList):h.IsCode c P ps∧h.TableAt c P ps:=by
 obtain ⟨ne,o,vs,file,tf,flags,tg,inF,text,tt,lk,hc,hd,h11,h18,h7,h9,h10⟩:=Z
 have e11:vs.getD 11 .none=.ref P:=by
  rw [Array.getD_eq_getD_getElem?,h11];rfl
 exact ⟨⟨o,vs,file,tf,flags,tg,inF,text,tt,_,X _ _ lk,hd,e11,h18,h7,h9,h10,hp,rfl,tr,ne⟩,⟨o,vs,X _ _ lk,hc,hd,h11⟩,hp⟩
section
variable {X:Cx} {pins:List (Addr × Obj)} {σ:L2.St} {H:Hp} {s:Shared} {c P:Addr}
theorem DI {s':Shared} (I:Inv X pins σ H s) (hP:H P=some (.ext (dG P))) (os:s'.os=s.os) (bare:AllBare s'.gens) (k:∀ b o,b≠P→s.heap.get? b=some o→s'.heap.get? b=some o) (t:dG P s'.heap):Inv X pins σ H s':=by
 have nP:∀ b,H b=none→b≠P:=fun b n z=>by rw [z,hP] at n;cases n
 have hok:ku X.prog X.w H s'.heap:=fun b u e=>by
  by_cases hb:b=P
  ·subst hb
   rw [hP] at e;cases e
   obtain ⟨ps,hp,_⟩:=id t
   exact ⟨t,⟨_,hp⟩,((I.hok b _ hP)).2.2⟩
  ·refine (I.hok b u e).o_ (fun d v hd q=>k d v ?_ q) (fun _ q=>q) fun _ _ q=>q
   rcases hd with rfl | hd
   ·exact hb
   ·intro z
    rw [z,hP] at hd;cases hd
 have un:Un (iN X.stack) [] H H s.heap s'.heap:=⟨fun b o e n _ _=>k b o (nP b n) e,fun b o e n _ _=>⟨o.slots,k b o (nP b n) e⟩,fun _ _ _ n _=>n,fun b o e _=>by
  by_cases hb:b=P
  ·subst hb
   obtain ⟨ps,hp,_⟩:=t
   exact ⟨_,hp⟩
  ·exact ⟨o,k b o hb e⟩,fun _ _ q=>q,fun _ _ _ q=>q,fun _ ps q=>⟨#[],by rw [q];simp⟩⟩
 exact I.IM os un hok bare fun b z=>absurd z (by simp)
theorem A3 {M:Model} {A:Around} {E:Value→Shared→Prop} {env:Env} {pos:Pos} {q:Str} {sc:Scope} {Q:Value→Shared→Prop} {s:Shared} (hc:env.code=.ref c) (Z:p_ X.K c P) (kin:X.K.In s.heap) (t:dG P s.heap)
  (h:∀ code h' tk,(∀ b o,b≠P→s.heap.get? b=some o→h'.get? b=some o)→s.heap.objs.size≤h'.objs.size→dG P h'→Q code { s with heap:=h',toks:=tk }):wpAny M A (genexprCode env pos q sc) Q E s:=by
 obtain ⟨ps,hp,tr⟩:=t
 obtain ⟨ic,ta⟩:=Z.at kin hp tr
 cases hf:codeAmong pos ps.toList with
 | some c'=>exact wpAny_genexprCode_hit hc ic hf (h c' s.heap s.toks (fun _ _ _ e=>e) (Nat.le_refl _) ⟨ps,hp,tr⟩)
 | none =>
  refine wpAny_genexprCodeX hc ic ta hf fun c' h' tk ext l1 l2 ic' _ ta' _=>h _ h' tk (fun b o nb e=>ext b o nb e) (Nat.le_of_lt (Nat.lt_of_le_of_lt l1 l2)) ⟨_,ta'.2,?_⟩
  obtain ⟨_,_,_,_,_,_,_,_,_,_,_,_,_,_,_,_,_,hop,hpd,tr',_⟩:=ic'
  exact tr'
theorem Ax {α:Type} (B:List α) (q:α→Bool):((List.range B.length).all fun j=>(B[j]?).elim true q)=B.all q:=by
 rw [Bool.eq_iff_iff,List.all_eq_true,List.all_eq_true]
 refine ⟨fun h b hb=>?_,fun h j hj=>?_⟩
 ·obtain ⟨j,hj,rfl⟩:=List.getElem_of_mem hb
  have:=h j (List.mem_range.mpr hj)
  rwa [List.getElem?_eq_getElem hj] at this
 ·have hj:=List.mem_range.mp hj
  rw [List.getElem?_eq_getElem hj]
  exact h _ (List.getElem_mem hj)
def dw (tx:Str) (ch:Nat):Bool:=!(Builtin.Str.occurrences tx ⟨#[ch]⟩ 0 tx.length 1).isEmpty
def CP (P:Addr) (tx:Str) (ti:TE):TE:=fun σ H Q=>ti σ H fun v H1=>∃ y:Str,v=.str y∧H1 P=some (.ext (dG P))∧Q (.bl (y.cps.toList.all (dw tx))) H1
theorem Cb {prog:Program} {w:World} {env:Env} {scope:Scope} {x g:Str} {tx y:Str} {tt:Tok} {C:Addr} {code:Value} {fp wr:List Addr} {href:Heap} {D U:Nat} {p1 p2 p3:Pos} {mg:Str→Option Value} (sck:scope.kind=.function) (hx:scope.names.lookup x=some .local) (hg:scope.names.lookup g=some .globalImplicit)
  (ns:href.Ns env.globals mg) (hm:mg g=some (.str tx tt)) (h1:env.globals∈fp) (h2:env.globals ∉ wr) (hmk:behindInMarks .In (.Name g p2)=false) (hdx:(x == ("__debug__":Str))=false) (hdg:(g == ("__debug__":Str))=false) :
  QuietGenD prog w (genEnv scope [] C code builtinsNs env) x [] (.Compare (.Name x p1) [.In] [.Name g p2] p3) fp wr (SignAt y) (fun _=>true) (fun i v=>∃ ch,y.cps[i]?=some ch∧v=.bool (dw tx ch)) href D U where
 tests:=fun A' E' i v s₂ m₂ _ _ _ _ _ _ _=>wpAny_pure ⟨rfl,_,_,rfl,fun _ _ e=>e⟩
 elt:=fun A' E' i v s₂ m₂ _ _ _ hP _ hn hmx hk=>by
  obtain ⟨ch,u,hch,rfl⟩:=hP
  refine wpAny_Compare1 (wpAny_Name (wpAny_loadName_local (show (genEnv scope [] C code builtinsNs env).scope.kind=.function from sck) (show (genEnv scope [] C code builtinsNs env).kindOf x=some .local from hx) hn hmx ?_) hdx) hmk
  refine Calls.Name_function_global (show (genEnv scope [] C code builtinsNs env).scope.kind=.function from sck) (show (genEnv scope [] C code builtinsNs env).kindOf g=some .globalImplicit from hg) (Calls.loadGlobal_global (ns.at' fun o e=>hk _ h1 h2 o e) hm ?_) hdg
  exact in_str ⟨⟨ch,hch,rfl⟩,_,_,rfl,fun _ _ e=>e⟩
theorem zN {x g:Str} {p px p1 p2 p3 gpos cpos:Pos} {iter:Expr} {ti:TE} {scope:Scope} {tx:Str} {tt:Tok} (hcalm:X.calm=true) (Bm:BMain X.mg X.base) (hcode:X.env.code=.ref c) (Z:p_ X.K c P) (hdep:X.A.depth < recursionLimit)
  (hgl:Gl X "all") (hma:X.mg "all"=none) (hsg:X.mg g=some (.str tx tt)) (hi:PE X iter ti) (sck:scope.kind=.function) (hco:scope.isCoroutine=false) (hclos:closureFor scope X.env=pure []) (hcell:∀ y∈scope.names,y.2≠.cell)
  (h0:scope.names.lookup (".0":Str)=some NameKind.local) (hx:scope.names.lookup x=some .local) (hsc:scope.names.lookup g=some .globalImplicit) (hmk:behindInMarks .In (.Name g p2)=false) (hs:∀ x,genFold iter X.env x=pure x)
  (hst:starEach [.GeneratorExp (.Compare (.Name x p1) [.In] [.Name g p2] p3) [⟨.Name x px,iter,[],0⟩] scope gpos] X.env=[(false,eval (.GeneratorExp (.Compare (.Name x p1) [.In] [.Name g p2] p3) [⟨.Name x px,iter,[],0⟩] scope gpos) X.env)])
  (hdx:(x == ("__debug__":Str))=false) (hdg:(g == ("__debug__":Str))=false) :
  PE X (.Call (.Name "all" p) [.GeneratorExp (.Compare (.Name x p1) [.In] [.Name g p2] p3) [⟨.Name x px,iter,[],0⟩] scope gpos] [] cpos) (CP P tx ti):=by
 intro pins s σ H Q I h
 refine wpAny_Call_Name_kw (lW I hgl hma PyProof.Rows.Boot.«all» ?_)
 refine PyProof.Rows.callWith_builtin1 ?_ hst rfl
 rw [hst]
 show wpAny _ _ (spliced ((false,eval (.GeneratorExp (.Compare (.Name x p1) [.In] [.Name g p2] p3) [⟨.Name x px,iter,[],0⟩] scope gpos) X.env) :: [])) _ _ s
 refine Calls.spliced_cons ?_
 refine wpAny_GeneratorExp_walksQD (I.ok.hd hcalm) hco hclos hcell h0 hx sck hdep ?_ hs
 refine bM (hi pins s σ H _ I h) fun xv s1 ⟨v,H1,I1,r1,y,ev,hP,q⟩=>?_
 subst ev
 obtain ⟨ty,rfl⟩:=r1
 have t1:dG P s1.heap:=(I1.hok P _ hP).1
 have ltP:P < s1.heap.objs.size:=I1.hok.lt hP
 refine wpAny_pyIter_str fun o St W st0=>?_
 have k1:∀ b ob,s1.heap.get? b=some ob→(s1.heap.push o).get? b=some ob:=fun b ob e=>Heap.get?_push_of_some _ e
 refine ⟨I1.nolimit.keeps k1,?_⟩
 have t2:dG P (s1.heap.push o):=let ⟨ps,hp,tr⟩:=t1;⟨ps,k1 _ _ hp,tr⟩
 refine A3 (X:=X) (s:={ s1 with heap:=s1.heap.push o }) hcode Z (I1.kU.keeps k1) t2 fun code h' tk k sz t'=>?_
 have kk:∀ b ob,b≠P→s1.heap.get? b=some ob→h'.get? b=some ob:=fun b ob nb e=>k b ob nb (k1 b ob e)
 have nsP:∀ (b:Addr) (m:Str→Option Value),s1.heap.Ns b m→b≠P:=fun b m hn z=>by
  obtain ⟨ob,es,ep,ho,hd,_⟩:=hn
  obtain ⟨ps,hp,_⟩:=t1
  rw [z,hp] at ho;cases ho;cases hd
 have nsK:∀ (b:Addr) (m:Str→Option Value),s1.heap.Ns b m→h'.Ns b m:=fun b m hn=>hn.at' fun ob e=>kk b ob (nsP b m hn) e
 have nsG:s1.heap.Ns X.env.globals X.mg:=by rw [I1.ok.glob];exact I1.mod.glob.keeps I1.bk
 have nl:h'.NoLimit:=let ⟨mc,h1,h2⟩:=I1.nolimit;⟨mc,nsK _ _ h1,h2⟩
 have ltC:cStatics < s1.heap.objs.size:=let ⟨mc,h1,_⟩:=I1.nolimit;h1.lt
 have szI:s1.heap.objs.size < h'.objs.size:=Nat.lt_of_lt_of_le (by rw [Heap.size_push];exact Nat.lt_succ_self _) sz
 obtain ⟨bm,ob,b1,b2,b3,b4,b5,b6⟩:=Bm
 have b3':=I1.bk _ _ b3
 have nbm:bm≠P:=fun z=>by
  obtain ⟨ps,hp,_⟩:=t1
  rw [z,hp] at b3'
  rw [← Option.some.inj b3'] at b6;cases b6
 refine wpAny_builtinsFor (nsK _ _ nsG) b1 b2 (kk _ _ nbm b3') b4 b5 b6 ?_
 refine ⟨s1.heap.objs.size,[s1.heap.objs.size],[s1.heap.objs.size],y.cps.size,SignAt y,St,fun _=>true,fun i v=>∃ ch,y.cps[i]?=some ch∧v=.bool (dw tx ch),rfl,W,
  (W X.A (I.ok.hd hcalm)).frame _ _ _ st0 fun b hb o' e=>k b o' (by rw [List.mem_singleton.mp hb];exact Nat.ne_of_gt ltP) e,fun b hb=>by rw [List.mem_singleton.mp hb];exact szI,nl,
  fun hb=>Nat.ne_of_lt ltC (List.mem_singleton.mp hb),fun href kh=>Cb sck hx hsc ((nsK _ _ nsG).keeps kh) hsg (List.mem_range.mpr (nsK _ _ nsG).lt) (fun hb=>Nat.ne_of_lt nsG.lt (List.mem_singleton.mp hb)) hmk hdx hdg,fun a h5 tk5 gs hgs ltA szA k5 WS G=>?_⟩
 refine Calls.spliced_nil ?_
 have pall:passing (fun _=>true) y.cps.size 0=List.range y.cps.size:=by simp [passing]
 have WS:=WS.in4_1
 refine call_all_walkS (WS.self 0 _ _ _ G ⟨a,_,_,_,_,_,_,(fun j=>(y.cps.toList[j]?).elim true (dw tx)),rfl,WS,G,fun j v s Q E hv hQ=>?_,fun s' hm=>?_⟩)
 ·obtain ⟨i,hi,ch,hch,rfl⟩:=hv
  rw [pall] at hi
  have hji:i=j:=by
   obtain ⟨hj,e⟩:=List.getElem?_eq_some_iff.mp hi
   simpa using e.symm
  subst hji
  have e:y.cps.toList[i]?=some ch:=by simpa using hch
  simp only [e,Option.elim] at hQ
  exact wpAny_truthy_bool hQ
 ·have nwr:∀ b,b < s1.heap.objs.size→b ∉ h'.objs.size :: [s1.heap.objs.size]:=fun b hb hm=>by
   rcases List.mem_cons.mp hm with z | z
   ·omega
   ·have:=List.mem_singleton.mp z
    omega
  refine ⟨.bl _,H1,DI I1 hP hm.os ((I1.bare.push hgs).movedS hm) (fun b o' nb e=>hm.heap b o' (nwr b (Heap.lt_size e)) (k5 b o' (kk b o' nb e))) ?_,rfl,?_⟩
  ·obtain ⟨ps,hp,tr⟩:=t'
   exact ⟨ps,hm.heap P _ (nwr P ltP) (k5 P _ hp),tr⟩
  ·rw [pall]
   have e:y.cps.size=y.cps.toList.length:=by simp
   have z:=Ax y.cps.toList (dw tx)
   rw [List.length_range,e,z]
   exact q
end
section
variable {X:Cx} {c P:Addr}
theorem BW {x g:Str} {p px p1 p2 p3 gpos cpos:Pos} {iter:Expr} {ti:TE} {scope:Scope} {tx:Str} {tt:Tok} {k:Nat} (hcalm:X.calm=true) (Bm:BMain X.mg X.base) (hcode:X.env.code=.ref c) (Z:p_ X.K c P) (hr:bI k X.A)
  (hgl:Gl X "all") (hma:X.mg "all"=none) (hsg:X.mg g=some (.str tx tt)) (hi:QE X iter ti) (sck:scope.kind=.function:=by rfl) (hco:scope.isCoroutine=false:=by rfl) (hclos:closureFor scope X.env=pure []:=by rfl) (hcell:∀ y∈scope.names,y.2≠.cell:=by decide)
  (h0:scope.names.lookup (".0":Str)=some NameKind.local:=by rfl) (hx:scope.names.lookup x=some .local:=by rfl) (hsc:scope.names.lookup g=some .globalImplicit:=by rfl) (hmk:behindInMarks .In (.Name g p2)=false:=by with_unfolding_all rfl) (hs:∀ x,genFold iter X.env x=pure x:=by intro _;rfl)
  (hst:starEach [.GeneratorExp (.Compare (.Name x p1) [.In] [.Name g p2] p3) [⟨.Name x px,iter,[],0⟩] scope gpos] X.env=[(false,eval (.GeneratorExp (.Compare (.Name x p1) [.In] [.Name g p2] p3) [⟨.Name x px,iter,[],0⟩] scope gpos) X.env)]:=by rfl)
  (hdx:(x == ("__debug__":Str))=false:=by decide) (hdg:(g == ("__debug__":Str))=false:=by decide) :
  QE X (.Call (.Name "all" p) [.GeneratorExp (.Compare (.Name x p1) [.In] [.Name g p2] p3) [⟨.Name x px,iter,[],0⟩] scope gpos] [] cpos) (CP P tx ti) :=
 ⟨zN hcalm Bm hcode Z (by have:=hr.dp;omega) hgl hma hsg hi.run sck hco hclos hcell h0 hx hsc hmk hs hst hdx hdg⟩
end
structure Df (K:PySem.W.Frag) (mg:Str→Option Value) (x:Str) (st:Stmt) (P:Addr) (f:Addr) (fd:FuncData) (c:Addr):Prop where
 fn:cq K x x st f fd
 mg:mg x=some (.ref f)
 code:fd.code=.ref c
 tab:p_ K c P
 out:K.lookup P=none
def vK (K:PySem.W.Frag) (mg:Str→Option Value) (x:Str) (st:Stmt) (P:Addr):Prop:=∃ f fd c,Df K mg x st P f fd c
section
variable {P:Program} {w:World} {K:PySem.W.Frag} {mg:Str→Option Value} {base:Heap}
theorem Nu {x:Str} {st:Stmt} {T f c:Addr} {fd:FuncData} {N ps:List Str} {k:Nat} {sp:Sp} (F:Df K mg x st T f fd c) (S:aw N ps (ai st)) (len:∀ vs H Q E,sp vs H Q E→vs.length=ps.length)
  (hbody:∀ (A:Around) (outer:List Env) (s:Shared) (H:Hp) (vs:List V) (Q:VK) (E:XK),bI k (A.deeper (envOfC x (ai st) s.heap.objs.size f (.ref c)))→sp vs H Q E →
   ∃ t,QB (rA nK P w K mg base N x (ai st) f (.ref c) A outer s H E).G' (bO st) t∧t { nx:=fun _ H'=>Q .non H',rt:=Q } (start N vs) H):aQ P w K mg base nK (k + 1) f fd ps sp:=by
 obtain ⟨oc,od,kV,doc,pm,an,cdv,ct,osl,rfl,lk,hcd⟩:=F.fn.ex
 obtain rfl:cdv=.ref c:=F.code
 refine AV lk hcd S len fun A outer s H vs Q E hr hsp=>?_
 obtain ⟨t,h,q⟩:=hbody A outer s H vs Q E hr hsp
 exact ⟨t,h.run.G',q⟩
theorem vK.AE {x:Str} {st:Stmt} {T:Addr} {k:Nat} {ps:List Str} {sp:Sp} (D:vK K mg x st T)
  (h:∀ f fd c,Df K mg x st T f fd c→aQ P w K mg base nK k f fd ps sp)
  (hb:∀ (kV doc pm:Value) (an:Option Addr) (cdv ct:Value) (us:List Value),us.length=ps.length→bindArgs (PySem.W.fnOf x x (cK st) (bO st) (ai st) .none kV doc pm an cdv ct) ⟨us,[]⟩=pure (ps.zip us)) :
  pq P w K mg base k x ps sp:=by
 obtain ⟨f,fd,c,F⟩:=D
 exact ⟨f,fd,h f fd c F,F.fn.binds hb,F.fn.kp,F.mg⟩
end
def codeB (vs:Array Value):Bool:=(match vs.getD 18 .none with | .str _ _=>true | _=>false) && (match vs.getD 7 .none with | .int _ _=>true | _=>false) && (match vs.getD 9 .none with | .bool _=>true | _=>false) && (match vs.getD 10 .none with | .int _ _=>true | _=>false)
theorem Dt {K:PySem.W.Frag} {h:Heap} {mg:Str→Option Value} {x:Str} {st:Stmt} (X:K.In h) (G:h.Ns mainGlobals mg) {f c T:Addr} {od an od':Option Addr} {sl sl':Array (Option Value)} {vs:Array Value} {oc kV dc pm ct:Value}
  (a:PySem.W.nsIn K mainGlobals x=some (some (.ref f))) (l:K.lookup f=some ⟨oc,od,.func (PySem.W.fnOf x x (cK st) (bO st) (ai st) .none kV dc pm an (.ref c) ct),sl⟩) (cc:PySem.W.codeIn K (.ref c) x=true) (k:PySem.W.keepIn K (.ref f)=true)
  (t:K.lookup c=some ⟨.type "code",od',.fields vs,sl'⟩) (p:vs[11]?=some (.ref T)) (b:codeB vs=true) (ne:c≠T) (out:K.lookup T=none):vK K mg x st T:=by
 refine ⟨f,_,c,v7 l cc k,PySem.W.mg_of X G a,rfl,⟨ne,?_⟩,out⟩
 simp only [codeB,Bool.and_eq_true] at b
 obtain ⟨⟨⟨b1,b2⟩,b3⟩,b4⟩:=b
 cases e1:vs.getD 18 .none with
 | str file tf =>
  cases e2:vs.getD 7 .none with
  | int fl tg =>
   cases e3:vs.getD 9 .none with
   | bool inF =>
    cases e4:vs.getD 10 .none with
    | int text tt=>exact ⟨_,vs,file,tf,fl,tg,inF,text,tt,t,rfl,rfl,p,e1,e2,e3,e4⟩
    | _=>rw [e4] at b4;cases b4
   | _=>rw [e3] at b3;cases b3
  | _=>rw [e2] at b2;cases b2
 | _=>rw [e1] at b1;cases b1
def IA (K:PySem.W.Frag) (mg:Str→Option Value) (names:List Str) (T:Addr):Prop:=∃ x∈names,∃ st,vK K mg x st T
theorem zj {P:Program} {w:World} {K:PySem.W.Frag} {mg mb:Str→Option Value} {k:Nat} {fa a:Addr} {fd:FuncData} {x:Str} {sp:Sp} {s₁:Shared} {vs:List Value} {ns:List Int} {tabs:List Addr}
  (KX:K.In s₁.heap) (hns:s₁.heap.Ns mainGlobals mg) (hb:s₁.heap.Ns builtinsNs mb) (hbb:∀ x:Str,x≠"__name__"→mb x=bootBuiltins x) (hlim:s₁.heap.NoLimit) (hg:s₁.gens=#[])
  (ha:s₁.heap.get? a=some { cls:=.type "list",data:=.seq vs.toArray }) (hi:IntsAre vs ns) (hl:ns.length≤sizeLine) (hr:bI k callerA) (hbm:BMain mg s₁.heap)
  (htab:∀ T∈tabs,isCodeTable s₁.heap T∧s₁.heap.get? T=some { cls:=.none,data:=.fields #[] }∧K.lookup T=none)
  (F:∀ base:Heap,K.In base→base.Ns mainGlobals mg→BMain mg base→aQ P w K mg base nK k fa fd [x] sp) (hbind:∀ (s:Shared) (u:Value),BindsTo s fd ⟨[u],[]⟩ [(x,u)])
  (hsp:∀ H:Hp,(∀ T∈tabs,H T=some (.ext (dG T)))→c8 K H a (ns.map V.int)→(∀ b,H b≠none→b=a∨b∈tabs)→(∀ u,H a=some u→∃ o xs,u=.pK o (.lst xs))→sp [.ref a] H (fun v H'=>v=.bl true∧bt H H') fun _ _ _=>False) :
  codeAny (model P w) callerA (.call (.ref fa) ⟨[.ref a],[]⟩) (fun r s'=>r=.ok (.ret (.bool true))∧OldK s₁.heap s'.heap∧s'.os=s₁.os∧AllBare s'.gens) s₁:=by
 have rv:=qT hi
 have lenV:=hi.length
 have naT:∀ T∈tabs,T≠a:=fun T hT z=>by
  have:=(htab T hT).2.1
  rw [z,ha] at this
  have h1:=congrArg Obj.cls (Option.some.inj this)
  cases h1
 have core:∀ H:Hp,(∀ T∈tabs,H T=some (.ext (dG T)))→c8 K H a (ns.map V.int)→ku P w H s₁.heap→(∀ b,H b≠none→b=a∨b∈tabs)→(∀ u,H a=some u→K.lookup a=none∧∃ o xs,u=.pK o (.lst xs)) →
   codeAny (model P w) callerA (.call (.ref fa) ⟨[.ref a],[]⟩) (fun r s'=>r=.ok (.ret (.bool true))∧OldK s₁.heap s'.heap∧s'.os=s₁.os∧AllBare s'.gens) s₁:=by
  intro H hT hS hok hA hK
  have base_of:∀ {b:Addr} {o:Obj},s₁.heap.get? b=some o→H b=none→(pL s₁.heap H).get? b=some o:=fun e n=>A7 e n
  have no:∀ {b:Addr} {o:Obj},s₁.heap.get? b=some o→(∀ xs n,o.data≠.seq xs n)→(∀ xs,o.data≠.fields xs)→H b=none:=fun {b o} e d1 d2=>by
   cases q:H b with
   | none=>rfl
   | some u =>
    rcases hA b (by rw [q];simp) with rfl | hb
    ·rw [ha] at e;cases e;exact absurd rfl (d1 _ _)
    ·rw [(htab b hb).2.1] at e;cases e;exact absurd rfl (d2 _)
  have nsK:∀ {b:Addr} {m:Str→Option Value},s₁.heap.Ns b m→(pL s₁.heap H).Ns b m:=fun {b m} ⟨o,es,ep,e,d,r⟩=>⟨o,es,ep,base_of e (no e (fun _ _ z=>by rw [d] at z;cases z) fun _ z=>by rw [d] at z;cases z),d,r⟩
  have hKb:K.In (pL s₁.heap H):=fun b o e=>base_of (KX b o e) (by
   cases q:H b with
   | none=>rfl
   | some u =>
    rcases hA b (by rw [q];simp) with rfl | hb
    ·have:=(hK u q).1
     exact absurd (this.symm.trans e) (fun z=>nomatch z)
    ·have:=(htab b hb).2.2
     exact absurd (this.symm.trans e) (fun z=>nomatch z))
  have hM:Mod K mg (pL s₁.heap H):=⟨hKb,nsK hns,⟨mb,nsK hb,hbb⟩,let ⟨mc,h1,h2⟩:=hlim;⟨mc,nsK h1,h2⟩⟩
  have hbm':BMain mg (pL s₁.heap H):=by
   obtain ⟨bm,ob,b1,b2,b3,b4,b5,b6⟩:=hbm
   exact ⟨bm,ob,b1,b2,base_of b3 (no b3 (fun _ _ z=>by rw [b6] at z;cases z) fun _ z=>by rw [b6] at z;cases z),b4,b5,b6⟩
  have e0:vL P w K mg (pL s₁.heap H) callerA [] s₁ H:=⟨rfl,hM,fun b o e=>D0 e,Nat.le_of_eq (zd _ _),trivial,fun b hb=>absurd (show b∈([]:List Addr) from hb) (by simp),hok,.of_eq hg⟩
  refine codeAny_mono ((F _ hKb (nsK hns) hbm').run callerA [] s₁ H ⟨[.ref a],[]⟩ [.ref a] [.ref a] _ _ hr e0 (hbind s₁ (.ref a)) (.cons rfl .nil) (hsp H hT hS hA fun u z=>(hK u z).2)) fun r s' h=>?_
  cases r with
  | error e=>exact False.elim h
  | ok fl =>
   cases fl with
   | next=>exact False.elim h
   | brk=>exact False.elim h
   | cont=>exact False.elim h
   | ret u =>
    obtain ⟨v,H',os,bare,un,hok',r',rfl,same⟩:=h
    obtain rfl:u=Value.bool true:=r'
    refine ⟨rfl,⟨fun b o e=>?_,fun b o e=>?_⟩,os,bare⟩
    ·cases q:H b with
     | none=>exact .inl (un.keep b o e q (by intro z;exact absurd (show b∈([]:List Addr) from z) (by simp)) (by simp))
     | some u =>
      have q':=same b u q
      rcases hA b (by rw [q];simp) with rfl | hb'
      ·obtain ⟨_,ob,xs,rfl⟩:=hK u q
       obtain ⟨e1,_⟩:=hok _ _ q
       obtain ⟨e2,_⟩:=hok' _ _ q'
       rw [e] at e1;cases e1
       exact .inl e2
      ·have hz:=hT b hb'
       rw [q] at hz;cases hz
       obtain ⟨⟨ps,hp,_⟩,_⟩:=hok' _ _ q'
       obtain ⟨t1,t2,_⟩:=htab b hb'
       rw [t2] at e;cases e
       exact .inr (.inl ⟨t1,rfl,#[],ps,rfl,by rw [hp];simp⟩)
    ·exact un.there b o e (by simp)
 have hTt:∀ T∈tabs,∀ H:Hp,cu P w H s₁.heap T (.ext (dG T)):=fun T hT H=>by
  have:=(htab T hT).2.1
  exact ⟨⟨#[],this,trivial⟩,⟨_,this⟩,fun h1 h2 ⟨ps,hp,tr⟩ kk=>⟨ps,kk _ hp,tr⟩⟩
 cases hk:K.lookup a with
 | some o =>
  have e:=KX a o hk
  rw [ha] at e
  cases e
  refine core (fun b=>if b∈tabs then some (.ext (dG b)) else none) (fun T hT=>if_pos hT) (.inr ⟨_,vs.toArray,_,hk,rfl,rfl,rfl,by rw [List.size_toArray,lenV];exact hl,by simpa using rv⟩) (fun b u z=>?_) (fun b z=>?_) fun u z=>?_
  ·by_cases hb:b∈tabs
   ·have z':=(if_pos hb).symm.trans z
    cases z'
    exact hTt b hb _
   ·have z':=(if_neg hb).symm.trans z
    cases z'
  ·by_cases hb:b∈tabs
   ·exact .inr hb
   ·exact absurd (if_neg hb) z
  ·have hb:a ∉ tabs:=fun hb=>naT a hb rfl
   have z':=(if_neg hb).symm.trans z
   cases z'
 | none =>
  refine core (fun b=>if b=a then some (.pK { cls:=.type "list",data:=.seq vs.toArray } (.lst (ns.map V.int))) else if b∈tabs then some (.ext (dG b)) else none) (fun T hT=>?_) (.inl (.inr ⟨{ cls:=.type "list",data:=.seq vs.toArray },if_pos rfl⟩)) (fun b u z=>?_) (fun b z=>?_) fun u z=>?_
  ·show (if T=a then _ else _)=_
   rw [if_neg (naT T hT),if_pos hT]
  ·by_cases hb:b=a
   ·have z':=(if_pos hb).symm.trans z
    cases z'
    subst hb
    exact ⟨ha,by rw [List.length_map];exact hl,vs,_,rv,ha⟩
   ·have z:=(if_neg hb).symm.trans z
    by_cases hb:b∈tabs
    ·have z':=(if_pos hb).symm.trans z
     cases z'
     exact hTt b hb _
    ·have z':=(if_neg hb).symm.trans z
     cases z'
  ·by_cases hb:b=a
   ·exact .inl hb
   ·by_cases hb':b∈tabs
    ·exact .inr hb'
    ·exact absurd ((if_neg hb).trans (if_neg hb')) z
  ·have z':=(if_pos rfl).symm.trans z
   cases z'
   exact ⟨hk,_,_,rfl⟩
theorem HY {p:Program} {loose:List Str} {mean:ExcName→Option Value} {mg mb:Str→Option Value} {h:Heap} {K:PySem.W.Frag} {x:Str} {st:Stmt} {T:Addr} (Tp:Top p loose mean mg mb h) (KX:K.In h) (hx:∃ d∈recsOf p,d.name=x) (D:vK K mg x st T) :
  isCodeTable h T∧h.get? T=some { cls:=.none,data:=.fields #[] }∧K.lookup T=none:=by
 obtain ⟨f,fd,c,F⟩:=D
 obtain ⟨d,hd,rfl⟩:=hx
 obtain ⟨a',o',fd',c',P',h1,h2,h3,h4,h5,h6⟩:=Tp.tab d hd
 rw [F.mg] at h1;cases h1
 obtain ⟨oc,od,kV,doc,pm,an,cdv,ct,osl,rfl,lk,_⟩:=F.fn.ex
 have:=KX _ _ lk
 rw [h2] at this;cases this
 have e3:fd'=_:=(Data.func.inj h3).symm
 subst e3
 have e4:=F.code.symm.trans h4
 cases e4
 obtain ⟨_,oo,vs,_,_,_,_,_,_,_,lk',_,hd',h11,_⟩:=F.tab
 obtain ⟨⟨o2,vs2,g1,g2,g3,g4⟩,g5⟩:=id h6
 rw [KX _ _ lk'] at g1;cases g1
 rw [hd'] at g3;cases g3
 rw [h11] at g4;cases g4
 exact ⟨h6.isCodeTable,g5,F.out⟩
theorem C3 {l:PySem.W.OpenLaw} {n k:Nat} {q:Program} {loose:List Str} {XP:(Str→Option Value)→Heap→Prop} {YP:World→Heap→Prop} {d:DefRec} {K:Params→PySem.W.Frag} {sp:List Addr→PySem.W.Frag→Sp} {x:Str} (names:List Str)
  (hn:l.most=some n) (hn2:n≤sizeLine) (hdf:d.params.defaults=[]) (hr:bI k callerA) (hY:∀ (w:World) (h:Heap),YP w h→(K w.params).In h) (hnm:∀ x∈names,∃ d∈recsOf q,d.name=x)
  (F:∀ (w:World) (mg:Str→Option Value) (fa:Addr) (h:Heap),(K w.params).In h→h.Ns mainGlobals mg→mg d.name=some (.ref fa) →
   ∃ (fd:FuncData) (tabs:List Addr),(∀ (s:Shared) (u:Value),BindsTo s fd ⟨[u],[]⟩ [(x,u)])∧(∀ T∈tabs,IA (K w.params) mg names T) ∧
    ∀ base:Heap,(K w.params).In base→base.Ns mainGlobals mg→BMain mg base→aQ l.prog w (K w.params) mg base nK k fa fd [x] (sp tabs (K w.params)))
  (hsp:∀ (tabs:List Addr) (K:PySem.W.Frag) (H:Hp) (a:Addr) (ns:List Int),ns.length≤n→(∀ T∈tabs,H T=some (.ext (dG T)))→c8 K H a (ns.map V.int)→(∀ b,H b≠none→b=a∨b∈tabs)→(∀ u,H a=some u→∃ o xs,u=.pK o (.lst xs))→sp tabs K [.ref a] H (fun v H'=>v=.bl true∧bt H H') fun _ _ _=>False) :
  PySem.W.WalkO q loose XP YP l.row.toRowW d [] (fun f vs=>PySem.call f vs):=by
 refine Att.tY hn hdf fun w s₀ s₁ mg mb fa o pm cd doc a vs ns G Y ho hd hcd hmg hobj hints hlen hg=>?_
 have KX:=hY w _ Y
 obtain ⟨fd,tabs,hb,ht,hF⟩:=F w mg fa _ KX G.T.g hmg
 refine zj KX G.T.g G.T.b G.T.builtins G.T.nolimit hg hobj hints (Nat.le_trans hlen hn2) hr G.T.bmain (fun T hT=>?_) hF hb (fun H hT hS hA hK=>hsp tabs _ H a ns hlen hT hS hA hK)
 obtain ⟨x,hx,st,D⟩:=ht T hT
 exact HY G.T KX (hnm x hx) D
def Be (s:Str):Value→Bool
 | .str y _=>y == s
 | _=>false
def Bb (i:Int):Value→Bool
 | .int j _=>j == i
 | _=>false
theorem yZ {K:PySem.W.Frag} {h:Heap} {mg:Str→Option Value} {x s:Str} {u:Value} (X:K.In h) (G:h.Ns mainGlobals mg) (e:PySem.W.nsIn K mainGlobals x=some (some u)) (hu:Be s u=true):∃ t,mg x=some (.str s t):=by
 cases u with
 | str y t =>
  have:y=s:=by simpa [Be] using hu
  subst this
  exact ⟨t,PySem.W.mg_of X G e⟩
 | _=>cases hu
theorem const_int {K:PySem.W.Frag} {h:Heap} {mg:Str→Option Value} {x:Str} {i:Int} {u:Value} (X:K.In h) (G:h.Ns mainGlobals mg) (e:PySem.W.nsIn K mainGlobals x=some (some u)) (hu:Bb i u=true):∃ t,mg x=some (.int i t):=by
 cases u with
 | int y t =>
  have:y=i:=by simpa [Bb] using hu
  subst this
  exact ⟨t,PySem.W.mg_of X G e⟩
 | _=>cases hu
section
variable {X:Cx} {tg:Expr}
end
section
variable {prog:Program} {w:World} {A:Around} {R:Result→Shared→Prop} {s:Shared}
theorem we {elt iter cnd:Expr} {x:Str} {px:Pos} {sc:Scope} {pos:Pos} {it acc:Value} {env:Env} (I:Nat→Shared→Prop)
  (turn:∀ n s,I n s→wpAny (model prog w) A (pyNext it) (fun r s₁=>match r with
   | none=>R (.ok .next) s₁
   | some v=>wpAny (model prog w) A (letOwnedTupleGo (.Name x px) it v) (fun _ s₂=>wpAny (model prog w) A (assign (.Name x px) env v) (fun _ s₃=>wpAny (model prog w) A (isTrue cnd env (eval cnd env)) (fun ok s₃=>if ok=true then wpAny (model prog w) A (eval elt env) (fun y s₄ =>
     wpAny (model prog w) A (call (.builtin "list.append") [acc,y]) (fun _ s₅=>∃ m,m < n∧I m s₅) (fun _ _=>False) s₄) (fun _ _=>False) s₃ else ∃ m,m < n∧I m s₃) (fun _ _=>False) s₃) (fun _ _=>False) s₂) (fun _ _=>False) s₁) (fun _ _=>False) s)
  (n:Nat) (h:I n s):codeAny (model prog w) A (.compLoop (.ListComp elt [⟨.Name x px,iter,[cnd],0⟩] sc pos) 0 it acc env) R s:=by
 refine codeAny_loop rfl I (fun n s hI=>?_) n h
 show wpAny _ _ ((compTurn (.ListComp elt [⟨.Name x px,iter,[cnd],0⟩] sc pos) 0 it acc env).onRaise (fun x=>do noteFrame x env;theTreesLotGoes x)) _ _ s
 refine wpAny_noted ?_
 rw [compTurn_list]
 have no:∀ (e:Value) (s':Shared),False→notedBy (model prog w) A env (fun e s'=>R (.error e) s') e s':=fun _ _ z=>z.elim
 refine wpAny_bind (wpAny_standAt (wpAny_bind (wpAny_mono (turn n s hI) (fun r s₁ h₁=>?_) no)))
 cases r with
 | none=>exact wpAny_pure h₁
 | some v =>
  refine wpAny_bind (wpAny_mono h₁ (fun _ s₂ h₂=>?_) no)
  refine wpAny_bind (wpAny_mono h₂ (fun _ s₃ h₃=>wpAny_bind (wpAny_mono (wpAny_tests_one h₃) (fun ok s₃' h₃'=>?_) no)) no)
  cases ok with
  | false=>exact wpAny_pure ⟨rfl,h₃'⟩
  | true =>
   exact wpAny_bind (wpAny_bind (wpAny_mono h₃' (fun y s₄ h₄=>wpAny_bind (wpAny_mono h₄ (fun _ s₅ h₅=>wpAny_pure (wpAny_pure ⟨rfl,h₅⟩)) no)) no))
end
def EZ (wi:TI) (ks:List (Str × Nat)) (tc:TT) (te:TE):TE:=fun σ H Q=>wi σ H fun J H1=>∀ D,H1 D=none→∃ W:Nat→Nat→Hp→Prop,(∃ m,W 0 m (upd H1 D (.lst []))) ∧
 ∀ i m H2,W i m H2→(J.stop i H2∧Q (.ref D) H2)∨(J.go i H2∧∀ v H3,J.yld i H2 v H3→tc (some v :: cS ks σ) H3 fun b H4=>if b=true then te (some v :: cS ks σ) H4 fun y H5=>∃ ys,H5 D=some (.lst ys)∧ys.length < sizeLine∧∃ m',m' < m∧W (i + 1) m' (upd H5 D (.lst (ys ++ [y]))) else ∃ m',m' < m∧W (i + 1) m' H4)
section
variable {X:Cx}
theorem qM {elt iter cnd:Expr} {x:Str} {px:Pos} {sc:Scope} {pos:Pos} {te:TE} {tc:TT} {ks:List (Str × Nat)} {cl:List (Str × Addr)} {pins:List (Addr × Obj)} {σ:L2.St} {H:Hp} {s:Shared} {it:Addr} {fp:List Addr} {tn:Nat→Heap→Prop} {J:It} {Q:VK}
  {RR:Value→Addr→Result→Shared→Prop} {E:Value→Shared→Prop}
  (hc:X.calm=true) (ok:bU sc X.env.scope X.N x ks) (h1:∀ y c,cl.lookup y=some c→X.env.cells.lookup y=some c) (h2:∀ y∈sc.names,y.2=.free→∃ c,cl.lookup y.1=some c)
  (he:∀ cl C s₀ H₀ fp pins,PE (dT X sc cl C x ks s₀ H₀ fp pins) elt te) (hcn:∀ cl C s₀ H₀ fp pins,PT (dT X sc cl C x ks s₀ H₀ fp pins) cnd tc)
  (I:Inv X pins σ H s) (T:Turn X.prog X.w X.K (.Name x px) J fp it tn) (st:tn 0 s.heap) (f:∀ b∈fp,iJ X pins H b)
  (hw:∀ D,H D=none→∃ W:Nat→Nat→Hp→Prop,(∃ m,W 0 m (upd H D (.lst [])))∧∀ i m H2,W i m H2→(J.stop i H2∧Q (.ref D) H2) ∨
   (J.go i H2∧∀ v H3,J.yld i H2 v H3→tc (some v :: cS ks σ) H3 fun b H4=>if b=true then te (some v :: cS ks σ) H4 fun y H5=>∃ ys,H5 D=some (.lst ys)∧ys.length < sizeLine∧∃ m',m' < m∧W (i + 1) m' (upd H5 D (.lst (ys ++ [y]))) else ∃ m',m' < m∧W (i + 1) m' H4))
  (hR:∀ (D C:Addr) (s':Shared) (H':Hp) (m:Str→Option Value),Inv X pins σ H' s'→Q (.ref D) H'→s'.heap.Ns C m→H' C=none→C≠X.env.locals→X.s₀.heap.objs.size≤C→(∀ y c,X.env.cells.lookup y=some c→c≠C)→(∀ p∈X.pn ++ pins,p.1≠C)→RR (.ref D) C (.ok .next) s') :
  wpAny (model X.prog X.w) X.A (newList []) (fun acc s₃=>wpAny (model X.prog X.w) X.A (newFunctionEnv sc X.env.globals cl [] X.env.qual none .none (some X.env)) (fun cenv s₄ =>
   codeAny (model X.prog X.w) X.A (.compStart (.ListComp elt [⟨.Name x px,iter,[cnd],0⟩] sc pos) 0 (.ref it) acc { cenv with scope:=relabel sc X.env }) (RR acc cenv.locals) s₄) E s₃) E s:=by
 have okk:=ok
 obtain ⟨kd,nc,lx,ll,fr,kk,nd⟩:=okk
 have hD0:H s.heap.objs.size=none:=I.hok.fresh (Nat.le_refl _)
 obtain ⟨W,⟨m0,w0⟩,turn⟩:=hw s.heap.objs.size hD0
 refine wpAny_newObj_type ?_
 have I3:Inv X pins σ (upd H s.heap.objs.size (.lst [])) { s with heap:=s.heap.push { cls:=.type "list",dict:=none,data:=.seq ([]:List Value).toArray } } :=
  I.laid (t':=s.toks) (fun b u e=>Heap.get?_push_of_some _ e) (Nat.le_refl _) (show cu X.prog X.w _ _ _ (.lst []) from ⟨Nat.zero_le _,[],0,.nil,Heap.get?_push_size _ rfl⟩)
 have st3:tn 0 (s.heap.push { cls:=.type "list",dict:=none,data:=.seq ([]:List Value).toArray }):=T.keep 0 _ _ st fun b hb o e=>Heap.get?_push_of_some _ e
 generalize hD:s.heap.objs.size=D at *
 generalize hH:upd H D (.lst [])=H3 at *
 generalize hs3:({ s with heap:=s.heap.push { cls:=.type "list",dict:=none,data:=.seq ([]:List Value).toArray } }:Shared)=s3 at *
 have e3:s.heap.push { cls:=.type "list",dict:=none,data:=.seq ([]:List Value).toArray }=s3.heap:=by rw [← hs3]
 rw [e3] at st3
 have fD:∀ b∈fp,b≠D:=fun b hb z=>by
  obtain ⟨o,ho,_⟩:=T.obj 0 _ st b hb
  have:=Heap.lt_size ho
  rw [z,← hD] at this
  exact Nat.lt_irrefl _ this
 have f3:∀ b∈fp,iJ X pins H3 b:=fun b hb=>⟨by rw [← hH,aG (fD b hb)];exact (f b hb).1,(f b hb).2⟩
 have g3:∀ b∈fp,∃ o,s3.heap.get? b=some o:=fun b hb=>by
  obtain ⟨o,ho,_⟩:=T.obj 0 _ st3 b hb
  exact ⟨o,ho⟩
 refine wpAny_newFunctionEnv nc (by intro y hy;simp at hy) (fun h₁ hns hsb=>?_) kd
 have kp:∀ b o,s3.heap.get? b=some o→h₁.get? b=some o:=fun b o e=>hsb.extBut b o (Nat.ne_of_lt (Heap.lt_size e)) (Heap.get?_push_of_some _ e)
 have J0:=om (fp:=fp) (cl:=cl) (t':=s3.toks + ([]:List (Str × Value)).length) I3 ok h1 h2 (fun b hb=>⟨f3 b hb,g3 b hb⟩) hns kp
 have st4:tn 0 h₁:=T.keep 0 _ _ st3 fun b hb o e=>kp b o e
 have ltC:∀ b o,s3.heap.get? b=some o→b≠s3.heap.objs.size:=fun b o e=>Nat.ne_of_lt (Heap.lt_size e)
 have cC:∀ y c,X.env.cells.lookup y=some c→c≠s3.heap.objs.size:=fun y c e=>by
  obtain ⟨v,o,ho,_⟩:=I3.cell y c e
  exact ltC c o ho
 have pC:∀ p∈X.pn ++ pins,p.1≠s3.heap.objs.size:=fun p hp=>ltC _ _ (I3.pin p hp).1
 have lC:s3.heap.objs.size≠X.env.locals:=Nat.ne_of_gt I3.lt
 have fX:∀ {H':Hp},(∀ b∈fp,H' b=none)→∀ b∈fp,iJ (dT X sc cl s3.heap.objs.size x ks s3 H3 fp pins) [] H' b:=fun hn b hb=>by
  obtain ⟨o,ho⟩:=g3 b hb
  obtain ⟨_,q1,q2,q3,q4,q5⟩:=f b hb
  refine ⟨hn b hb,ltC b o ho,fun z=>?_,.inl hb,fun y c e=>q4 y c (h1 y c e),fun p hp=>q5 p (by simpa [dT] using hp)⟩
  rcases List.mem_cons.mp (I3.ko b z) with e | e
  ·exact q1 e
  ·exact q2 e
 have back:∀ {o:Option V} {H':Hp} {s':Shared},Inv (dT X sc cl s3.heap.objs.size x ks s3 H3 fp pins) [] (o :: cS ks σ) H' s'→Inv X pins σ H' s':=fun {o H' s'} J=>by
  obtain ⟨hh,g,d,t,os'⟩:=s'
  obtain rfl:os'=s3.os:=J.os
  exact I3.call (h':=hh) (g':=g) (d':=d) (t':=t) (ch:=fp) J.base J.hok J.bare fun b hb=>⟨(f b hb).2.2.2.1,(f b hb).2.1,(f b hb).2.2.2.2.1,(f b hb).2.2.2.2.2⟩
 have lookX:(relabel sc X.env).names.lookup x=some .local:=lookup_relabel_local lx
 have loop:∀ s',(∃ (i:Nat) (o:Option V) (H':Hp),Inv (dT X sc cl s3.heap.objs.size x ks s3 H3 fp pins) [] (o :: cS ks σ) H' s'∧tn i s'.heap∧(∀ b∈fp,H' b=none)∧W i m0 H') →
   codeAny (model X.prog X.w) X.A (.compLoop (.ListComp elt [⟨.Name x px,iter,[cnd],0⟩] sc pos) 0 (.ref it) (.ref D) (compEnvC sc cl s3.heap.objs.size X.env)) (RR (.ref D) s3.heap.objs.size) s':=by
  intro s' hs'
  refine we (fun n s'=>∃ (i:Nat) (o:Option V) (H':Hp),Inv (dT X sc cl s3.heap.objs.size x ks s3 H3 fp pins) [] (o :: cS ks σ) H' s'∧tn i s'.heap∧(∀ b∈fp,H' b=none)∧W i n H') ?_ m0 hs'
  rintro n s5 ⟨i,o,H5,J5,t5,n5,w5⟩
  rcases turn i n H5 w5 with ⟨stop,hq⟩ | ⟨go,step⟩
  ·refine bM (T.done (dT X sc cl s3.heap.objs.size x ks s3 H3 fp pins) rfl rfl rfl hc i [] s5 _ H5 _ J5 (fX n5) t5 stop) fun r s6 ⟨hr,J6⟩=>?_
   subst hr
   obtain ⟨m,hm,_⟩:=J6.loc
   exact hR D _ s6 H5 m (back J6) hq hm J6.free lC I3.sz cC pC
  ·refine bM (T.item (dT X sc cl s3.heap.objs.size x ks s3 H3 fp pins) rfl rfl rfl hc i [] s5 _ H5 _ J5 (fX n5) t5 go) fun r s6 ⟨u,hr,h6⟩=>?_
   subst hr
   refine bM h6 fun _ s7 ⟨v,H7,J7,r7,y7,t7,n7⟩=>?_
   have J7':=J7.pinned (fX n7) (T.obj _ _ t7)
   refine wpAny_assign_Name (eG (X:=dT X sc cl s3.heap.objs.size x ks s3 H3 fp pins) (i:=0) J7' nd rfl (.inl lookX) r7 (fun s8 J8=>?_) (.inr lookX))
   refine bM (hcn cl s3.heap.objs.size s3 H3 fp pins _ s8 _ H7 _ J8 (step v H7 y7)) fun ok s8' ⟨H8,J8',q8⟩=>?_
   cases ok with
   | false =>
    simp only [Bool.false_eq_true,if_false] at q8 ⊢
    obtain ⟨m',hm,w'⟩:=q8
    refine ⟨m',hm,i + 1,_,_,J8'.eI,?_,?_,w'⟩
    ·exact T.keep _ _ _ t7 fun b hb o e=>(J8'.pin (b,o) (List.mem_append_right _ (List.mem_append_right _ (bL hb e)))).1
    ·intro b hb
     obtain ⟨o,e,d⟩:=T.obj _ _ t7 b hb
     exact (J8'.pin (b,o) (List.mem_append_right _ (List.mem_append_right _ (bL hb e)))).2.1
   | true =>
    simp only [if_true] at q8 ⊢
    refine bM (he cl s3.heap.objs.size s3 H3 fp pins _ s8' _ H8 _ J8' q8) fun y s9 ⟨vy,H9,J9,r9,ys,hys,hz,m',hm,w'⟩=>?_
    refine bM (fi (X:=dT X sc cl s3.heap.objs.size x ks s3 H3 fp pins) _ s9 _ H9 (.ref D) [vy] (.ref D) [y] (fun _ H'=>H'=upd H9 D (.lst (ys ++ [vy]))) J9 rfl (.cons r9 .nil) ⟨D,ys,vy,rfl,rfl,hys,hz,rfl⟩) fun _ s10 ⟨_,H10,J10,_,eH⟩=>?_
    subst eH
    refine ⟨m',hm,i + 1,_,_,J10.eI,?_,?_,w'⟩
    ·exact T.keep _ _ _ t7 fun b hb o e=>(J10.pin (b,o) (List.mem_append_right _ (List.mem_append_right _ (bL hb e)))).1
    ·intro b hb
     obtain ⟨o,e,d⟩:=T.obj _ _ t7 b hb
     exact (J10.pin (b,o) (List.mem_append_right _ (List.mem_append_right _ (bL hb e)))).2.1
 have l0:=loop _ ⟨0,none,H3,J0,st4,fun b hb=>(f3 b hb).1,w0⟩
 exact codeAny_compStart_list l0 (T.self _ 0 _ _ _ st4 l0)
theorem Hr {elt iter cnd:Expr} {x:Str} {px:Pos} {sc:Scope} {pos:Pos} {wi:TI} {te:TE} {tc:TT} (osc:Scope) (N:List Str) (ks:List (Str × Nat)) (hc:X.calm=true) (ho:X.env.scope=osc) (hN:X.N=N) (hi:PI X (.Name x px) iter wi)
  (he:∀ cl C s₀ H₀ fp pins,PE (dT X sc cl C x ks s₀ H₀ fp pins) elt te) (hcn:∀ cl C s₀ H₀ fp pins,PT (dT X sc cl C x ks s₀ H₀ fp pins) cnd tc) (ok:bU sc osc N x ks:=by decide +kernel) (hs:∀ x,foldedSetIterable iter X.env x=pure x:=by intro _;rfl) :
  PE X (.ListComp elt [⟨.Name x px,iter,[cnd],0⟩] sc pos) (EZ wi ks tc te):=by
 intro pins s σ H Q I hw
 obtain ⟨cl,hcl,h1,h2⟩:=fv (jj ok I ho)
 have ok':bU sc X.env.scope X.N x ks:=by rw [ho,hN];exact ok
 rw [eval_ListComp]
 refine wpAny_comprehension_free (use:=none) rfl hs hcl ok.1 ok.2.2.2.1 (bM (hi pins s σ H _ I hw) fun v s1 h3=>bM h3 fun itv s2 h4=>?_)
 obtain ⟨it,fp,tn,J,H2,rfl,I2,T,st2,f2,hR⟩:=h4
 refine qM (RR:=fun acc C=>compPost (model X.prog X.w) X.A X.xe none (EP X pins σ Q) acc C) hc ok' h1 h2 he hcn I2 T st2 f2 hR ?_
 intro D C s' H' m J' q hn hC cl' cs cc cp
 refine ⟨m,hn,fun h' hsb=>⟨.ref D,H',?_,rfl,q⟩⟩
 exact J'.turned (t':=s'.toks) (it:=C) (fun b o ne e=>hsb.extBut b o ne e) hC cl' (.inr cs) cc cp
def Ku (wi:TI) (ks:List (Str × Nat)) (tc:TT) (te:TE) (i:Nat):TS:=fun D σ H=>EZ wi ks tc te σ H fun v H1=>D.nx (σ.set i (some v)) H1
theorem B3 {elt iter cnd:Expr} {x y:Str} {px py:Pos} {sc:Scope} {pos spos:Pos} {wi:TI} {te:TE} {tc:TT} {i:Nat} (osc:Scope) (N:List Str) (ks:List (Str × Nat)) (hc:X.calm=true) (ho:X.env.scope=osc) (hN:X.N=N) (hnd:X.N.Nodup) (hy:X.N[i]?=some y) (hl:Loc X.env.scope y)
  (hi:PI X (.Name x px) iter wi) (he:∀ cl C s₀ H₀ fp pins,PE (dT X sc cl C x ks s₀ H₀ fp pins) elt te) (hcn:∀ cl C s₀ H₀ fp pins,PT (dT X sc cl C x ks s₀ H₀ fp pins) cnd tc) (ok:bU sc osc N x ks:=by decide +kernel) (hs:∀ x,foldedSetIterable iter X.env x=pure x:=by intro _;rfl)
  (hsw:swapsWith (.ListComp elt [⟨.Name x px,iter,[cnd],0⟩] sc pos) (some (.Name y py)) spos.line X.env=pure true:=by rfl) (hf:X.fn y=true∨X.env.scope.names.lookup y=some .local:=by first | exact .inl rfl | exact .inr rfl | assumption) :
  PS X (.Assign [.Name y py] (.ListComp elt [⟨.Name x px,iter,[cnd],0⟩] sc pos) spos) (Ku wi ks tc te i):=by
 intro pins s σ H Dn I hw
 obtain ⟨cl,hcl,h1,h2⟩:=fv (jj ok I ho)
 have ok':bU sc X.env.scope X.N x ks:=by rw [ho,hN];exact ok
 rw [exec_Assign_Name_used _ _ _ _ hsw]
 refine wpAny_bind (wpAny_standAt (wpAny_bind ?_))
 show wpAny _ X.A (do let _ ← comprehension (.ListComp elt [⟨.Name x px,iter,[cnd],0⟩] sc pos) sc X.env _ (newList []) false (eval iter X.env) (some (assign (.Name y py) X.env))) _ _ s
 refine wpAny_bind (wpAny_mono (wpAny_comprehension_free (use:=some (assign (.Name y py) X.env)) (Q:=fun _ s'=>SP X pins Dn .next s') rfl hs hcl ok.1 ok.2.2.2.1
  (bM (hi pins s σ H _ I hw) fun v s1 h3=>bM h3 fun itv s2 h4=>?_)) (fun _ s' hq=>wpAny_pure (wpAny_pure hq)) fun _ _ e=>e)
 obtain ⟨it,fp,tn,J,H2,rfl,I2,T,st2,f2,hR⟩:=h4
 refine qM (Q:=fun v H1=>Dn.nx (σ.set i (some v)) H1) (RR:=fun acc C=>compPost (model X.prog X.w) X.A X.xe (some (assign (.Name y py) X.env)) (fun _ s'=>SP X pins Dn .next s') acc C) hc ok' h1 h2 he hcn I2 T st2 f2 hR ?_
 intro D C s' H' m J' q hn hC cl' cs cc cp
 show wpAny _ X.A (assign (.Name y py) X.env (.ref D)) _ _ _
 refine wpAny_assign_Name (mw J' hnd hy hl (v:=.ref D) rfl (fun s'' J'' ⟨a,hsb,ha⟩=>?_) hf)
 refine ⟨m,hn.sameBut hsb (fun z=>?_),fun h' hsb'=>⟨_,H',?_,q⟩⟩
 ·rcases ha with e | e
  ·exact cl' (z.trans e)
  ·exact cc _ _ e z.symm
 ·exact J''.turned (t':=s''.toks) (it:=C) (fun b o ne e=>hsb'.extBut b o ne e) hC cl' (.inr cs) cc cp
end
end Ov
namespace Ov
open PySem PySem.Spec PyProof.Rows
open L2 (V HO Hp Inv Cx VK XK TE TT TA TS TG m3 TI TO iM Ends tP Loc Gl Rd RelV Vals er tV bT mW pJ mO iK R2 upd aA aG c8 eL Sp pj It bt)
inductive PV where
 | non | bl (b:Bool) | int (i:Int) | str (x:Str) | ref (a:Addr) | ty (n:String) | tup (xs:List PV) | fl (xs:List PV)
inductive HQ where
 | lst (xs:List PV) | ins (C:Addr) (fs:List (Str × PV)) | dct (kvs:List (Str × PV)) (ep:Nat) | tab | dtp (hs:List Str→Int) (ks:List (List Str))
def nO (hs:List Str→Int) (a:Addr) (xs:List (List Str × Addr × Value)) (h:Heap):Prop:=(a == sysModules)=false∧xs.length≤sizeLine∧(xs.map (·.1)).Nodup∧∃ o es ep,h.get? a=some o∧o.ExactDict∧o.data=.dict es ep∧es.toList=xs.map fun x=>(⟨hs x.1,.ref x.2.1,x.2.2⟩:DictEntry)
abbrev Hq:=Addr→Option HQ
def put (J:Hq) (a:Addr) (o:HQ):Hq:=fun b=>if b=a then some o else J b
theorem au {J:Hq} {a:Addr} {o:HQ}:put J a o a=some o:=by unfold put;rw [if_pos rfl]
theorem ak {J:Hq} {a b:Addr} {o:HQ} (h:b≠a):put J a o b=J b:=by unfold put;rw [if_neg h]
theorem eZ {J:Hq} {a:Addr} {o u:HQ}:put (put J a o) a u=put J a u:=by
 funext b;unfold put;split <;> rfl
theorem B7 {J:Hq} {a b:Addr} {o u:HQ} (h:a≠b):put (put J a o) b u=put (put J b u) a o:=by
 funext c;unfold put
 by_cases h1:c=b <;> by_cases h2:c=a <;> simp [h1,h2]
 ·exact absurd (h2.symm.trans h1) h
 ·intro z;exact absurd z.symm h
 ·intro z;exact absurd z h
theorem wO {J:Hq} {a:Addr} {o:HQ} (h:J a=some o):put J a o=J:=by
 funext b;unfold put
 by_cases e:b=a
 ·subst e;rw [if_pos rfl,h]
 ·rw [if_neg e]
def An (K:PySem.W.Frag) (J:Hq) (H:Hp) (a:Addr) (vs:List V):Prop:=(J a=none∧Rd H a (.lst vs))∨∃ (o:Obj) (its:Array Value) (n:Nat),K.lookup a=some o∧o.cls=.type "list"∧o.dict=none∧o.data=.seq its n∧its.size≤sizeLine∧Vals vs its.toList
theorem An.sq {K:PySem.W.Frag} {J:Hq} {H:Hp} {a:Addr} {vs:List V} (h:An K J H a vs):c8 K H a vs:=by
 rcases h with h | h
 ·exact .inl h.2
 ·exact .inr h
section
variable (K:PySem.W.Frag)
mutual
def bV (J:Hq) (H:Hp):PV→V→Prop
 | .non,v=>v=.non
 | .bl b,v=>v=.bl b
 | .int i,v=>v=.int i
 | .str x,v=>v=.str x
 | .ref a,v=>v=.ref a
 | .ty n,v=>v=.ty n
 | .tup xs,v=>∃ a vs,v=.ref a∧eL K H a vs∧aL J H xs vs
 | .fl xs,v=>∃ a vs,v=.ref a∧An K J H a vs∧aL J H xs vs
def aL (J:Hq) (H:Hp):List PV→List V→Prop
 | [],vs=>vs=[]
 | x :: xs,vs=>∃ v us,vs=v :: us∧bV J H x v∧aL J H xs us
end
def j3 {κ:Type} (J:Hq) (H:Hp) (fs:List (κ × PV)) (gs:List (κ × V)):Prop:=fs.map (·.1)=gs.map (·.1)∧aL K J H (fs.map (·.2)) (gs.map (·.2))
def Au (J:Hq) (H:Hp) (a:Addr):HQ→Prop
 | .lst xs=>∃ vs,H a=some (.lst vs)∧aL K J H xs vs
 | .ins C fs=>∃ dx gs,H a=some (.ins C dx gs)∧j3 K J H fs gs
 | .dct kvs ep=>∃ gs,H a=some (.dE gs ep)∧j3 K J H kvs gs
 | .tab=>H a=some (.ext (dG a))
 | .dtp hs ks=>∃ xs:List (List Str × Addr × Value),xs.map (·.1)=ks∧H a=some (.ext (nO hs a xs))∧∀ x∈xs,eL K H x.2.1 (x.1.map V.str)
def Rep (J:Hq) (H:Hp):Prop:=∀ a o,J a=some o→Au K J H a o
structure Ext (J:Hq) (H:Hp) (J':Hq) (H':Hp):Prop where
 tup:∀ a vs,eL K H a vs→eL K H' a vs
 ll:∀ a o,J a=none→H a=some o→((∃ vs,o=.lst vs)∨∃ ob vs,o=.pK ob (.lst vs))→J' a=none∧H' a=some o
end
section
variable {K:PySem.W.Frag} {J J' J'':Hq} {H H' H'':Hp}
theorem Ext.fl (e:Ext K J H J' H') (a:Addr) (vs:List V) (n:J a=none) (h:Rd H a (.lst vs)):J' a=none∧Rd H' a (.lst vs):=by
 rcases h with h | ⟨o,h⟩
 ·obtain ⟨a,b⟩:=e.ll a _ n h (.inl ⟨_,rfl⟩);exact ⟨a,.inl b⟩
 ·obtain ⟨a,b⟩:=e.ll a _ n h (.inr ⟨_,_,rfl⟩);exact ⟨a,.inr ⟨o,b⟩⟩
theorem Ext.flat (e:Ext K J H J' H') {a:Addr} {vs:List V} (h:An K J H a vs):An K J' H' a vs:=by
 rcases h with h | h
 ·exact .inl (e.fl a vs h.1 h.2)
 ·exact .inr h
mutual
theorem Ext.rep (e:Ext K J H J' H'):∀ {x:PV} {v:V},bV K J H x v→bV K J' H' x v
 | .non,_,h=>h
 | .bl _,_,h=>h
 | .int _,_,h=>h
 | .str _,_,h=>h
 | .ref _,_,h=>h
 | .ty _,_,h=>h
 | .tup xs,_,⟨a,vs,e1,h,k⟩=>⟨a,vs,e1,e.tup _ _ h,Ext.iP e k⟩
 | .fl xs,_,⟨a,vs,e1,h,k⟩=>⟨a,vs,e1,e.flat h,Ext.iP e k⟩
theorem Ext.iP (e:Ext K J H J' H'):∀ {xs:List PV} {vs:List V},aL K J H xs vs→aL K J' H' xs vs
 | [],_,h=>h
 | _ :: _,_,⟨v,us,e1,h,k⟩=>⟨v,us,e1,Ext.rep e h,Ext.iP e k⟩
end
theorem Ext.refl:Ext K J H J H:=⟨fun _ _ h=>h,fun _ _ n h _=>⟨n,h⟩⟩
theorem Ext.trans (a:Ext K J H J' H') (b:Ext K J' H' J'' H''):Ext K J H J'' H'' :=
 ⟨fun c vs h=>b.tup c vs (a.tup c vs h),fun c o n h z=>b.ll c o (a.ll c o n h z).1 (a.ll c o n h z).2 z⟩
theorem Ext.uV {κ:Type} (e:Ext K J H J' H') {fs:List (κ × PV)} {gs:List (κ × V)} (h:j3 K J H fs gs):j3 K J' H' fs gs:=⟨h.1,e.iP h.2⟩
theorem Ext.same (s:bt H H'):Ext K J H J H':=⟨fun a vs h=>s.tup h,fun a o n h _=>⟨n,s _ _ h⟩⟩
theorem Au.same (s:bt H H') {a:Addr} {o:HQ} (h:Au K J H a o):Au K J H' a o:=by
 have e:=Ext.same (K:=K) (J:=J) s
 cases o with
 | lst xs=>obtain ⟨vs,h1,h2⟩:=h;exact ⟨vs,s _ _ h1,e.iP h2⟩
 | ins C fs=>obtain ⟨dx,gs,h1,h2⟩:=h;exact ⟨dx,gs,s _ _ h1,e.uV h2⟩
 | dct kvs ep=>obtain ⟨gs,h1,h2⟩:=h;exact ⟨gs,s _ _ h1,e.uV h2⟩
 | tab=>exact s _ _ (show H a=some (.ext (dG a)) from h)
 | dtp hs ks=>obtain ⟨xs,h0,h1,h2⟩:=h;exact ⟨xs,h0,s _ _ h1,fun x hx=>s.tup (h2 x hx)⟩
theorem Rep.same (s:bt H H') (h:Rep K J H):Rep K J H':=fun a o q=>(h a o q).same s
theorem Ext.less (h:∀ a,J' a=J a∨J' a=none):Ext K J H J' H:=⟨fun _ _ h=>h,fun a o n z _=>⟨(h a).elim (fun e=>e.trans n) (fun e=>e),z⟩⟩
theorem Rep.less (h:∀ a,J' a=J a∨J' a=none) (r:Rep K J H):Rep K J' H:=fun a o q=>by
 have e:J a=some o:=by
  rcases h a with e | e
  ·rw [← e];exact q
  ·rw [e] at q;cases q
 have x:=Ext.less (K:=K) (H:=H) h
 have z:=r a o e
 cases o with
 | lst xs=>obtain ⟨vs,h1,h2⟩:=z;exact ⟨vs,h1,x.iP h2⟩
 | ins C fs=>obtain ⟨dx,gs,h1,h2⟩:=z;exact ⟨dx,gs,h1,x.uV h2⟩
 | dct kvs ep=>obtain ⟨gs,h1,h2⟩:=z;exact ⟨gs,h1,x.uV h2⟩
 | tab=>exact z
 | dtp hs ks=>exact z
theorem aL.length:∀ {xs:List PV} {vs:List V},aL K J H xs vs→xs.length=vs.length
 | [],_,h=>by cases h;rfl
 | _ :: xs,_,⟨v,us,e1,_,k⟩=>by subst e1;simp [aL.length k]
theorem aL.get:∀ {xs:List PV} {vs:List V} {i:Nat} {x:PV},aL K J H xs vs→xs[i]?=some x→∃ v,vs[i]?=some v∧bV K J H x v
 | [],_,i,x,h,e=>by simp at e
 | y :: xs,_,0,x,⟨v,us,e1,h,k⟩,e=>by subst e1;simp at e;subst e;exact ⟨v,rfl,h⟩
 | y :: xs,_,i + 1,x,⟨v,us,e1,h,k⟩,e=>by
  subst e1
  obtain ⟨w,h1,h2⟩:=aL.get (i:=i) (x:=x) k (by simpa using e)
  exact ⟨w,by simpa using h1,h2⟩
theorem aL.get':∀ {xs:List PV} {vs:List V} {i:Nat} {v:V},aL K J H xs vs→vs[i]?=some v→∃ x,xs[i]?=some x∧bV K J H x v
 | [],_,i,x,h,e=>by cases h;simp at e
 | y :: xs,_,0,x,⟨v,us,e1,h,k⟩,e=>by subst e1;simp at e;subst e;exact ⟨y,rfl,h⟩
 | y :: xs,_,i + 1,x,⟨v,us,e1,h,k⟩,e=>by
  subst e1
  obtain ⟨w,h1,h2⟩:=aL.get' (i:=i) (v:=x) k (by simpa using e)
  exact ⟨w,by simpa using h1,h2⟩
theorem aL.append:∀ {xs ys:List PV} {vs us:List V},aL K J H xs vs→aL K J H ys us→aL K J H (xs ++ ys) (vs ++ us)
 | [],_,_,_,h,k=>by cases h;exact k
 | x :: xs,ys,_,us,⟨v,ws,e1,h,h'⟩,k=>by subst e1;exact ⟨v,ws ++ us,rfl,h,aL.append h' k⟩
theorem aL.drop:∀ (n:Nat) {xs:List PV} {vs:List V},aL K J H xs vs→aL K J H (xs.drop n) (vs.drop n)
 | 0,_,_,h=>h
 | n + 1,[],_,h=>by cases h;rfl
 | n + 1,x :: xs,_,⟨v,ws,e1,h,h'⟩=>by subst e1;exact aL.drop n h'
theorem aL.take:∀ (n:Nat) {xs:List PV} {vs:List V},aL K J H xs vs→aL K J H (xs.take n) (vs.take n)
 | 0,_,_,h=>rfl
 | n + 1,[],_,h=>by cases h;rfl
 | n + 1,x :: xs,_,⟨v,ws,e1,h,h'⟩=>by subst e1;exact ⟨v,_,rfl,h,aL.take n h'⟩
theorem aL.erase:∀ (n:Nat) {xs:List PV} {vs:List V},aL K J H xs vs→aL K J H (xs.eraseIdx n) (vs.eraseIdx n)
 | n,[],_,h=>by cases h;rfl
 | 0,y :: xs,_,⟨w,ws,e1,h,h'⟩=>by subst e1;exact h'
 | n + 1,y :: xs,_,⟨w,ws,e1,h,h'⟩=>by subst e1;exact ⟨w,_,rfl,h,aL.erase n h'⟩
theorem j3.look {κ:Type} [BEq κ] [LawfulBEq κ] {f:κ}:∀ {fs:List (κ × PV)} {gs:List (κ × V)} {x:PV},j3 K J H fs gs→fs.lookup f=some x→∃ v,gs.lookup f=some v∧bV K J H x v
 | [],_,_,_,e=>by cases e
 | (k,y) :: fs,[],x,h,e=>by cases h.1
 | (k,y) :: fs,(k',w) :: gs,x,h,e=>by
  obtain ⟨h1,v,us,h2,h3,h4⟩:=h
  simp only [List.map_cons,List.cons.injEq] at h1 h2
  obtain ⟨rfl,h1⟩:=h1
  obtain ⟨rfl,rfl⟩:=h2
  rw [List.lookup_cons] at e ⊢
  cases hk:f == k with
  | true=>rw [hk] at e;cases e;exact ⟨w,rfl,h3⟩
  | false=>rw [hk] at e;exact j3.look ⟨h1,h4⟩ e
theorem j3.none {κ:Type} [BEq κ] [LawfulBEq κ] {f:κ}:∀ {fs:List (κ × PV)} {gs:List (κ × V)},j3 K J H fs gs→fs.lookup f=none→gs.lookup f=none
 | [],[],_,_=>rfl
 | [],_ :: _,h,e=>by cases h.1
 | (k,y) :: fs,[],h,e=>by cases h.1
 | (k,y) :: fs,(k',w) :: gs,h,e=>by
  obtain ⟨h1,v,us,h2,h3,h4⟩:=h
  simp only [List.map_cons,List.cons.injEq] at h1 h2
  obtain ⟨rfl,h1⟩:=h1
  obtain ⟨rfl,rfl⟩:=h2
  rw [List.lookup_cons] at e ⊢
  cases hk:f == k with
  | true=>rw [hk] at e;cases e
  | false=>rw [hk] at e;exact j3.none ⟨h1,h4⟩ e
end
section
variable {K:PySem.W.Frag} {J J':Hq} {H H':Hp} {p:Addr}
theorem DX {a p:Addr} {o:HQ} (r:Rep K J H) (h:J a=some o) (n:H p=none):a≠p:=by
 intro e;subst e
 have:=r _ _ h
 cases o with
 | lst xs=>obtain ⟨vs,h1,_⟩:=this;rw [n] at h1;cases h1
 | ins C fs=>obtain ⟨dx,gs,h1,_⟩:=this;rw [n] at h1;cases h1
 | dct kvs ep=>obtain ⟨gs,h1,_⟩:=this;rw [n] at h1;cases h1
 | tab=>have h1:H a=some (.ext (dG a)):=this;rw [n] at h1;cases h1
 | dtp hs ks=>obtain ⟨xs,_,h1,_⟩:=this;rw [n] at h1;cases h1
theorem Rep.free (r:Rep K J H) (n:H p=none):J p=none:=by
 cases e:J p with
 | none=>rfl
 | some o=>exact absurd rfl (DX r e n)
theorem Ext.laid {o:HO} {u:HQ} (n:H p=none):Ext K J H (put J p u) (upd H p o):=by
 refine ⟨fun a vs h=>(bt.new n o).tup h,fun a o' z h _=>⟨?_,bt.new n o _ _ h⟩⟩
 have ne:a≠p:=by intro e;subst e;rw [n] at h;cases h
 rw [ak ne];exact z
theorem Rep.vp {J':Hq} {H':Hp} (e:Ext K J H J' H') (r:Rep K J H) (p:Addr) (q:∀ a,a≠p→J' a=J a) (s:∀ a o,a≠p→J a≠none→H a=some o→H' a=some o) (h:∀ u,J' p=some u→Au K J' H' p u):Rep K J' H':=fun a o z=>by
 by_cases ep:a=p
 ·subst ep;exact h o z
 ·rw [q a ep] at z
  have t:=r a o z
  have jn:J a≠none:=by rw [z];exact fun y=>nomatch y
  cases o with
  | lst xs=>obtain ⟨vs,h1,h2⟩:=t;exact ⟨vs,s _ _ ep jn h1,e.iP h2⟩
  | ins C fs=>obtain ⟨dx,gs,h1,h2⟩:=t;exact ⟨dx,gs,s _ _ ep jn h1,e.uV h2⟩
  | dct kvs eq=>obtain ⟨gs,h1,h2⟩:=t;exact ⟨gs,s _ _ ep jn h1,e.uV h2⟩
  | tab=>exact s _ _ ep jn (show H a=some (.ext (dG a)) from t)
  | dtp hs ks=>obtain ⟨xs,h0,h1,h2⟩:=t;exact ⟨xs,h0,s _ _ ep jn h1,fun x hx=>e.tup _ _ (h2 x hx)⟩
theorem Rep.Bi {xs:List PV} {vs:List V} (r:Rep K J H) (n:H p=none) (h:aL K J H xs vs):Rep K (put J p (.lst xs)) (upd H p (.lst vs)):=by
 have e:=Ext.laid (K:=K) (J:=J) (o:=.lst vs) (u:=.lst xs) n
 refine r.vp e p (fun a ne=>ak ne) (fun a o ne _ z=>by rw [aG ne];exact z) fun u z=>?_
 rw [au] at z;cases z
 exact ⟨vs,aA,e.iP h⟩
theorem Ext.wrote {xs ys:List PV} {ws vs:List V} (h:J p=some (.lst xs)) (k:H p=some (.lst ws)):Ext K J H (put J p (.lst ys)) (upd H p (.lst vs)):=by
 have sm:∀ a u,(∀ l,u≠HO.lst l)∨a≠p→Rd H a u→Rd (upd H p (.lst vs)) a u:=fun a u d z=>by
  have ne:a≠p:=by
   rcases d with d | d
   ·intro e;subst e
    rcases z with z | ⟨o,z⟩
    ·rw [k] at z;cases z;exact d _ rfl
    ·rw [k] at z;cases z
   ·exact d
  rcases z with z | ⟨o,z⟩
  ·exact .inl (by rw [aG ne];exact z)
  ·exact .inr ⟨o,by rw [aG ne];exact z⟩
 refine ⟨fun a vs' z=>?_,fun a o z q _=>?_⟩
 ·rcases z with z | z
  ·exact .inl (sm a _ (.inl fun l e=>nomatch e) z)
  ·exact .inr z
 ·have ne:a≠p:=by intro e;subst e;rw [h] at z;cases z
  exact ⟨by rw [ak ne];exact z,by rw [aG ne];exact q⟩
theorem Rep.wrote {xs ys:List PV} {ws vs:List V} (r:Rep K J H) (h:J p=some (.lst xs)) (k:H p=some (.lst ws)) (q:aL K J H ys vs):Rep K (put J p (.lst ys)) (upd H p (.lst vs)):=by
 have e:=Ext.wrote (K:=K) (ys:=ys) (vs:=vs) h k
 refine r.vp e p (fun a ne=>ak ne) (fun a o ne _ z=>by rw [aG ne];exact z) fun u z=>?_
 rw [au] at z;cases z
 exact ⟨vs,aA,e.iP q⟩
end
abbrev Sr:=List (Option PV)
abbrev cQ:=Sr→Hq→(PV→Hq→Prop)→Prop
abbrev j5:=Sr→Hq→(Bool→Hq→Prop)→Prop
abbrev mZ:=Sr→Hq→(List PV→Hq→Prop)→Prop
structure En where
 nx:Sr→Hq→Prop
 rt:PV→Hq→Prop
 bk:Sr→Hq→Prop:=fun _ _=>False
 ct:Sr→Hq→Prop:=fun _ _=>False
abbrev gI:=En→Sr→Hq→Prop
structure j4 (K:PySem.W.Frag) (J:Hq) (H:Hp) (τ:Sr) (σ:L2.St):Prop where
 len:τ.length=σ.length
 get:∀ (i:Nat) (x:PV),τ[i]?=some (some x)→∃ v,σ[i]?=some (some v)∧bV K J H x v
theorem j4.ext {K:PySem.W.Frag} {J J':Hq} {H H':Hp} {τ:Sr} {σ:L2.St} (r:j4 K J H τ σ) (e:Ext K J H J' H'):j4 K J' H' τ σ :=
 ⟨r.len,fun i x h=>let ⟨v,a,b⟩:=r.get i x h;⟨v,a,e.rep b⟩⟩
theorem j4.set {K:PySem.W.Frag} {J:Hq} {H:Hp} {τ:Sr} {σ:L2.St} (r:j4 K J H τ σ) {x:PV} {v:V} (i:Nat) (h:bV K J H x v):j4 K J H (τ.set i (some x)) (σ.set i (some v)):=by
 refine ⟨by rw [List.length_set,List.length_set,r.len],fun j y e=>?_⟩
 by_cases hj:i=j
 ·subst hj
  by_cases hl:i < τ.length
  ·rw [List.getElem?_set_self hl] at e
   cases e
   exact ⟨v,List.getElem?_set_self (by rw [← r.len];exact hl),h⟩
  ·rw [List.getElem?_eq_none (by rw [List.length_set];omega)] at e
   cases e
 ·rw [List.getElem?_set_ne hj] at e ⊢
  exact r.get j y e
abbrev G2:=Hq × Hp
structure tO (K:PySem.W.Frag) (G:G2) (τ:Sr) (J:Hq) (σ:L2.St) (H:Hp):Prop where
 sl:j4 K J H τ σ
 hp:Rep K J H
 ext:Ext K G.1 G.2 J H
section
variable (K:PySem.W.Frag) (G:G2)
def LE (t:cQ):TE:=fun σ H Q=>∃ τ J Q2,tO K G τ J σ H∧t τ J Q2∧∀ x J' v H',bV K J' H' x v→Rep K J' H'→Ext K J H J' H'→Q2 x J'→Q v H'
def LT (t:j5):TT:=fun σ H Q=>∃ τ J Q2,tO K G τ J σ H∧t τ J Q2∧∀ b J' H',Rep K J' H'→Ext K J H J' H'→Q2 b J'→Q b H'
def LA (t:mZ):TA:=fun σ H Q=>∃ τ J Q2,tO K G τ J σ H∧t τ J Q2∧∀ xs J' vs H',aL K J' H' xs vs→Rep K J' H'→Ext K J H J' H'→Q2 xs J'→Q vs H'
structure Goes (J:Hq) (H:Hp) (D2:En) (D:Ends):Prop where
 nx:∀ τ J' σ H',j4 K J' H' τ σ→Rep K J' H'→Ext K J H J' H'→D2.nx τ J'→D.nx σ H'
 rt:∀ x J' v H',bV K J' H' x v→Rep K J' H'→Ext K J H J' H'→D2.rt x J'→D.rt v H'
 bk:∀ τ J' σ H',j4 K J' H' τ σ→Rep K J' H'→Ext K J H J' H'→D2.bk τ J'→D.bk σ H'
 ct:∀ τ J' σ H',j4 K J' H' τ σ→Rep K J' H'→Ext K J H J' H'→D2.ct τ J'→D.ct σ H'
def LS (t:gI):TS:=fun D σ H=>∃ τ J D2,tO K G τ J σ H∧t D2 τ J∧Goes K J H D2 D
end
theorem Goes.ext {K:PySem.W.Frag} {J J':Hq} {H H':Hp} {D2:En} {D:Ends} (g:Goes K J H D2 D) (e:Ext K J H J' H'):Goes K J' H' D2 D :=
 ⟨fun τ J1 σ H1 a b c=>g.nx τ J1 σ H1 a b (e.trans c),fun x J1 v H1 a b c=>g.rt x J1 v H1 a b (e.trans c),fun τ J1 σ H1 a b c=>g.bk τ J1 σ H1 a b (e.trans c),fun τ J1 σ H1 a b c=>g.ct τ J1 σ H1 a b (e.trans c)⟩
theorem tO.go {K:PySem.W.Frag} {G:G2} {τ:Sr} {J J':Hq} {σ:L2.St} {H H':Hp} (a:tO K G τ J σ H) (r:Rep K J' H') (e:Ext K J H J' H'):tO K G τ J' σ H':=⟨a.sl.ext e,r,a.ext.trans e⟩
structure RE (X:Cx) (G:G2) (e:Expr) (t:cQ):Prop where
 run:L2.PE X e (LE X.K G t)
structure RT (X:Cx) (G:G2) (e:Expr) (t:j5):Prop where
 run:L2.PT X e (LT X.K G t)
structure RW (X:Cx) (G:G2) (e:Expr) (t:j5):Prop where
 run:L2.PW X e (LT X.K G t)
structure RA (X:Cx) (G:G2) (es:List Expr) (t:mZ):Prop where
 run:L2.PA X es (LA X.K G t)
structure RS (X:Cx) (G:G2) (st:Stmt) (t:gI):Prop where
 run:L2.PS X st (LS X.K G t)
structure RB (X:Cx) (G:G2) (st:List Stmt) (t:gI):Prop where
 run:L2.qg X st (LS X.K G t)
theorem jJ {X:Cx} {e:Expr} {t t':TE} (h:L2.PE X e t) (k:∀ σ H Q,t' σ H Q→t σ H Q):L2.PE X e t':=fun pins s σ H Q I q=>h pins s σ H Q I (k _ _ _ q)
theorem K5 {X:Cx} {e:Expr} {t t':TT} (h:L2.PT X e t) (k:∀ σ H Q,t' σ H Q→t σ H Q):L2.PT X e t':=fun pins s σ H Q I q=>h pins s σ H Q I (k _ _ _ q)
theorem M3 {X:Cx} {e:Expr} {t t':TT} (h:L2.PW X e t) (k:∀ σ H Q,t' σ H Q→t σ H Q):L2.PW X e t':=fun wh pins s σ H Q I q=>h wh pins s σ H Q I (k _ _ _ q)
theorem L_ {X:Cx} {e:List Expr} {t t':TA} (h:L2.PA X e t) (k:∀ σ H Q,t' σ H Q→t σ H Q):L2.PA X e t':=fun pos pins s σ H Q I q=>h pos pins s σ H Q I (k _ _ _ q)
theorem wJ {X:Cx} {e:Stmt} {t t':TS} (h:L2.PS X e t) (k:∀ D σ H,t' D σ H→t D σ H):L2.PS X e t':=fun pins s σ H D I q=>h pins s σ H D I (k _ _ _ q)
theorem Ma {X:Cx} {e:List Stmt} {t t':TS} (h:L2.qg X e t) (k:∀ D σ H,t' D σ H→t D σ H):L2.qg X e t':=fun pins s σ H D I q=>h pins s σ H D I (k _ _ _ q)
end Ov
namespace Ov
open PySem PySem.Spec PyProof.Rows
open L2 (V HO Hp Inv Cx VK XK TE TT TA TS TG m3 TI TO iM Ends tP Loc Gl Rd RelV Vals er tV bT mW pJ mO iK R2 upd aA aG c8 eL Sp pj It bt cJ bI Passes mL aE Meth Mk Binds aQ cq aw cU fu)
section
variable {X:Cx} {G:G2} {a b c e o:Expr} {es rest:List Expr} {ta tb te tc to:cQ} {tA tB':j5} {t:mZ} {pos px p p2 apos cpos:Pos} {x:Str} {i j:Nat}
def iu (i:Nat):cQ:=fun τ J Q=>∃ x,τ[i]?=some (some x)∧Q x J
theorem rv (i:Nat) {x:Str} {pos:Pos} (hN:X.N[i]?=some x:=by rfl) (hv:tP X.env.scope x:=by first | exact Or.inl rfl | exact Or.inr (Or.inl rfl) | exact Or.inr (Or.inr rfl)) (hd:(x == ("__debug__":Str))=false:=by decide)
  (hcd:(x == ("__classdict__":Str))=false:=by decide):RE X G (.Name x pos) (iu i) :=
 ⟨jJ (L2.wG hN hv hd hcd) fun σ H Q ⟨τ,J,Q2,a2,⟨y,ey,q⟩,k⟩=>let ⟨v,e1,r⟩:=a2.sl.get i y ey;⟨v,e1,k y J v H r a2.hp .refl q⟩⟩
def rC (x:PV):cQ:=fun _ J Q=>Q x J
theorem ag {i:Int} {j pos}:RE X G (.Constant (.int i) j pos) (rC (.int i)):=⟨jJ L2.aJ fun σ H Q ⟨τ,J,Q2,a2,q,k⟩=>k (.int i) J _ H rfl a2.hp .refl q⟩
theorem gT {b:Bool} {j pos}:RE X G (.Constant (.bool b) j pos) (rC (.bl b)):=⟨jJ L2.uJ fun σ H Q ⟨τ,J,Q2,a2,q,k⟩=>k (.bl b) J _ H rfl a2.hp .refl q⟩
theorem ma {j pos}:RE X G (.Constant .none j pos) (rC .non):=⟨jJ L2.wC fun σ H Q ⟨τ,J,Q2,a2,q,k⟩=>k .non J _ H rfl a2.hp .refl q⟩
theorem bJ {x:Str} {j pos}:RE X G (.Constant (.str x) j pos) (rC (.str x)):=⟨jJ L2.l5 fun σ H Q ⟨τ,J,Q2,a2,q,k⟩=>k (.str x) J _ H rfl a2.hp .refl q⟩
theorem e8 {v:V} {u:Value} (y:PV) (hg:Gl X x) (hm:X.mg x=some u) (r:RelV v u) (hr:∀ J H,bV X.K J H y v) (hd:(x == ("__debug__":Str))=false:=by decide):RE X G (.Name x pos) (rC y) :=
 ⟨jJ (L2.m9 hg hm r hd) fun σ H Q ⟨τ,J,Q2,a2,q,k⟩=>k y J v H (hr J H) a2.hp .refl q⟩
theorem mI {n:String} (hg:Gl X x) (hm:X.mg x=none) (hv:bootBuiltins x=some (.type n)) (hn:x≠"__name__":=by decide) (hd:(x == ("__debug__":Str))=false:=by decide):RE X G (.Name x pos) (rC (.ty n)) :=
 ⟨jJ (L2.sv (v:=.ty n) hg hm hv rfl hn hd) fun σ H Q ⟨τ,J,Q2,a2,q,k⟩=>k (.ty n) J _ H rfl a2.hp .refl q⟩
abbrev kA:=PV→PV→Hq→(PV→Hq→Prop)→Prop
abbrev Iw:=PV→Hq→(PV→Hq→Prop)→Prop
abbrev xo:=List PV→Hq→(PV→Hq→Prop)→Prop
def Kn (K:PySem.W.Frag) (J:Hq) (H:Hp) (Q2:PV→Hq→Prop) (Q:VK):Prop:=∀ z J' u H',bV K J' H' z u→Rep K J' H'→Ext K J H J' H'→Q2 z J'→Q u H'
def LR (K:PySem.W.Frag) (r:R2) (q:kA):Prop:=∀ J H x y v w Q2 Q,bV K J H x v→bV K J H y w→Rep K J H→q x y J Q2→Kn K J H Q2 Q→r v w H Q
def Nf (K:PySem.W.Frag) (r:V→Hp→VK→Prop) (q:Iw):Prop:=∀ J H x v Q2 Q,bV K J H x v→Rep K J H→q x J Q2→Kn K J H Q2 Q→r v H Q
def MJ (K:PySem.W.Frag) (r:List V→Hp→VK→Prop) (q:xo):Prop:=∀ J H xs vs Q2 Q,aL K J H xs vs→Rep K J H→q xs J Q2→Kn K J H Q2 Q→r vs H Q
def lJ (X:Cx) (f:Value→Value→Sem Value) (q:kA):Prop:=∃ r,er X f r∧LR X.K r q
def MN (X:Cx) (f:Value→Sem Value) (q:Iw):Prop:=∃ r,tV X f r∧Nf X.K r q
def Ld (X:Cx) (q:kA):Prop:=∃ r,mW X r∧LR X.K r q
def Ge (X:Cx) (f:Value) (q:xo):Prop:=∃ r,bT X f r∧MJ X.K r q
def pZ (q:kA) (ta tb:cQ):cQ:=fun τ J Q=>ta τ J fun x J1=>tb τ J1 fun y J2=>q x y J2 Q
def M' (q:Iw) (ta:cQ):cQ:=fun τ J Q=>ta τ J fun x J1=>q x J1 Q
theorem m7 {r:R2} {q:kA} (lr:LR X.K r q):∀ σ H Q,LE X.K G (pZ q ta tb) σ H Q→L2.CY r (LE X.K G ta) (LE X.K G tb) σ H Q:=fun σ H Q ⟨τ,J,Q2,a2,h,k⟩ =>
 ⟨τ,J,_,a2,h,fun x J1 v H1 rx r1 e1 q1=>⟨τ,J1,_,a2.go r1 e1,q1,fun y J2 w H2 ry r2 e2 q2 =>
  lr J2 H2 x y v w Q2 Q (e2.rep rx) ry r2 q2 fun z J' u H' rz rr ee qq=>k z J' u H' rz rr ((e1.trans e2).trans ee) qq⟩⟩
theorem aX {op:Operator} {q:kA} (ho:lJ X (binaryOp op) q) (ha:RE X G a ta) (hb:RE X G b tb):RE X G (.BinOp a op b pos) (pZ q ta tb):=by
 obtain ⟨r,h,lr⟩:=ho
 exact ⟨jJ (L2.bh h ha.run hb.run) (m7 lr)⟩
theorem uU {op:UnaryOp} {q:Iw} (ho:MN X (unaryOp op) q) (ha:RE X G a ta):RE X G (.UnaryOp op a pos) (M' q ta):=by
 obtain ⟨r,h,lr⟩:=ho
 exact ⟨jJ (L2.x4 h ha.run) fun σ H Q ⟨τ,J,Q2,a2,h,k⟩=>⟨τ,J,_,a2,h,fun x J1 v H1 rx r1 e1 q1 =>
  lr J1 H1 x v Q2 Q rx r1 q1 fun z J' u H' rz rr ee qq=>k z J' u H' rz rr (e1.trans ee) qq⟩⟩
theorem ar {q:kA} (hr:Ld X q) (ha:RE X G a ta) (hb:RE X G b tb) (hs:cJ b):RE X G (.Subscript a b pos) (pZ q ta tb):=by
 obtain ⟨r,h,lr⟩:=hr
 exact ⟨jJ (L2.bS h ha.run hb.run hs) (m7 lr)⟩
theorem gx {op:CmpOp} {q:kA} (ho:lJ X (compareOp op) q) (ha:RE X G a ta) (hb:RE X G b tb) (hm:behindInMarks op b=false):RE X G (.Compare a [op] [b] pos) (pZ q ta tb):=by
 obtain ⟨r,h,lr⟩:=ho
 exact ⟨jJ (L2.m8 h ha.run hb.run hm) (m7 lr)⟩
def rB (t:cQ):j5:=fun τ J Q=>t τ J fun x J1=>∃ k,x=.bl k∧Q k J1
theorem aF {op:CmpOp} {q:kA} (ho:lJ X (compareOp op) q) (ha:RE X G a ta) (hb:RE X G b tb) (hm:behindInMarks op b=false):RT X G (.Compare a [op] [b] pos) (rB (pZ q ta tb)):=by
 obtain ⟨r,h,lr⟩:=ho
 refine ⟨K5 (L2.cY h ha.run hb.run hm) fun σ H Q ⟨τ,J,Q2,a2,h,k⟩=>?_⟩
 refine m7 lr σ H _ ⟨τ,J,_,a2,h,fun z J' u H' rz rr ee qq=>?_⟩
 obtain ⟨b,rfl,q⟩:=qq
 exact ⟨b,rz,k b J' H' rr ee q⟩
theorem bX (h:RE X G e te) (he:∀ whole,isTrue e X.env whole=(do let v ← whole;standAt e.pos;holding [v] (truthy v)):=by intro _;rfl):RT X G e (rB te) :=
 ⟨K5 (L2.wL h.run he) fun σ H Q ⟨τ,J,Q2,a2,h,k⟩=>⟨τ,J,_,a2,h,fun z J' u H' rz rr ee ⟨b,eb,q⟩=>by subst eb;exact ⟨b,rz,k b J' H' rr ee q⟩⟩⟩
def tM (J:Hq):PV→Option Bool
 | .non=>some false
 | .bl b=>some b
 | .int i=>some (i != 0)
 | .tup xs=>some (!xs.isEmpty)
 | .fl xs=>some (!xs.isEmpty)
 | .ref a=>match J a with
  | some (.lst xs)=>some (!xs.isEmpty)
  | some (.dct kvs _)=>some (!kvs.isEmpty)
  | _=>none
 | _=>none
theorem fN {α β:Type} {xs:List α} {ys:List β} (h:xs.length=ys.length):xs.isEmpty=ys.isEmpty:=by cases xs <;> cases ys <;> simp_all
theorem E9 {K:PySem.W.Frag} {J:Hq} {H:Hp} {x:PV} {v:V} {k:Bool} (r:bV K J H x v) (hp:Rep K J H) (h:tM J x=some k):L2.Gp K v H k:=by
 cases x with
 | non=>cases r;cases h;rfl
 | bl b=>cases r;cases h;rfl
 | int i=>cases r;cases h;rfl
 | str s=>cases h
 | ty n=>cases h
 | tup xs=>obtain ⟨a,vs,rfl,h1,h2⟩:=r;cases h;exact .inr (.inl ⟨vs,h1,by rw [fN h2.length]⟩)
 | fl xs=>obtain ⟨a,vs,rfl,h1,h2⟩:=r;cases h;exact .inl ⟨vs,h1.sq,by rw [fN h2.length]⟩
 | ref a =>
  cases r
  unfold tM at h
  dsimp only at h
  cases e:J a with
  | none=>rw [e] at h;cases h
  | some o =>
   rw [e] at h
   have z:=hp a o e
   cases o with
   | lst xs=>obtain ⟨vs,h1,h2⟩:=z;cases h;exact .inl ⟨vs,.inl (.inl h1),by rw [fN h2.length]⟩
   | ins C fs=>cases h
   | tab=>cases h
   | dtp hs ks=>cases h
   | dct kvs ep =>
    obtain ⟨gs,h1,h2⟩:=z;cases h
    refine .inr (.inr ⟨gs,ep,h1,?_⟩)
    have:=congrArg List.length h2.1
    simp only [List.length_map] at this
    rw [fN this]
def Kh (te:cQ):j5:=fun τ J Q=>te τ J fun x J1=>∃ k,tM J1 x=some k∧Q k J1
theorem HI (h:RE X G e te) (he:∀ whole,isTrue e X.env whole=(do let v ← whole;standAt e.pos;holding [v] (truthy v)):=by intro _;rfl):RT X G e (Kh te) :=
 ⟨K5 (L2.B4 h.run he) fun σ H Q ⟨τ,J,Q2,a2,h,k⟩=>⟨τ,J,_,a2,h,fun z J' u H' rz rr ee ⟨b,eb,q⟩=>⟨b,E9 rz rr eb,k b J' H' rr ee q⟩⟩⟩
def Hz (t u:j5):j5:=fun τ J Q=>t τ J fun c J1=>if c=true then u τ J1 Q else Q false J1
def Mn (t u:j5):j5:=fun τ J Q=>t τ J fun c J1=>if c=true then Q true J1 else u τ J1 Q
def J_ (t:j5):j5:=fun τ J Q=>t τ J fun c J1=>Q (!c) J1
theorem c_ (ha:RT X G a tA):RT X G (.UnaryOp .Not a pos) (J_ tA):=⟨K5 (L2.wK ha.run) fun σ H Q ⟨τ,J,Q2,a2,h,k⟩=>⟨τ,J,_,a2,h,fun b J' H' rr ee q=>k _ J' H' rr ee q⟩⟩
theorem e_ (ha:RT X G a tA):RW X G (.BoolOp .And [a] pos) tA:=⟨L2.ni ha.run⟩
theorem eS (ha:RT X G a tA):RW X G (.BoolOp .Or [a] pos) tA:=⟨L2.sH ha.run⟩
theorem AA {σ:L2.St} {H:Hp} {Q:Bool→Hp→Prop}:LT X.K G (Hz tA tB') σ H Q→L2.CS (LT X.K G tA) (LT X.K G tB') σ H Q:=fun ⟨τ,J,Q2,a2,h,k⟩ =>
 ⟨τ,J,_,a2,h,fun b J' H' rr ee q=>by
  cases b with
  | true=>simp only [if_true] at q ⊢;exact ⟨τ,J',Q2,a2.go rr ee,q,fun b J2 H2 r2 e2 q2=>k b J2 H2 r2 (ee.trans e2) q2⟩
  | false=>simp only [Bool.false_eq_true,if_false] at q ⊢;exact k _ J' H' rr ee q⟩
theorem D9 {σ:L2.St} {H:Hp} {Q:Bool→Hp→Prop}:LT X.K G (Mn tA tB') σ H Q→L2.Kx (LT X.K G tA) (LT X.K G tB') σ H Q:=fun ⟨τ,J,Q2,a2,h,k⟩ =>
 ⟨τ,J,_,a2,h,fun b J' H' rr ee q=>by
  cases b with
  | false=>simp only [Bool.false_eq_true,if_false] at q ⊢;exact ⟨τ,J',Q2,a2.go rr ee,q,fun b J2 H2 r2 e2 q2=>k b J2 H2 r2 (ee.trans e2) q2⟩
  | true=>simp only [if_true] at q ⊢;exact k _ J' H' rr ee q⟩
theorem gA (ha:RT X G a tA) (hb:RW X G (.BoolOp .And (b :: rest) pos) tB'):RW X G (.BoolOp .And (a :: b :: rest) pos) (Hz tA tB'):=⟨M3 (L2.sG ha.run hb.run) fun σ H Q h=>AA h⟩
theorem fR (ha:RT X G a tA) (hb:RW X G (.BoolOp .Or (b :: rest) pos) tB'):RW X G (.BoolOp .Or (a :: b :: rest) pos) (Mn tA tB'):=⟨M3 (L2.x9 ha.run hb.run) fun σ H Q h=>D9 h⟩
theorem dh (h:RW X G e tA):RT X G e tA:=⟨h.run.pt⟩
def FP (ta tb:cQ):cQ:=fun τ J Q=>ta τ J fun x J1=>∃ c,x=.bl c∧if c=true then tb τ J1 Q else Q (.bl false) J1
def Ka (ta tb:cQ):cQ:=fun τ J Q=>ta τ J fun x J1=>∃ c,x=.bl c∧if c=true then Q (.bl true) J1 else tb τ J1 Q
def FV (ta:cQ):cQ:=fun τ J Q=>ta τ J fun x J1=>∃ c,x=.bl c∧Q (.bl (!c)) J1
theorem sM {op} (h:RE X G a ta):RE X G (.BoolOp op [a] pos) ta:=⟨L2.wF h.run⟩
theorem wR (ha:RE X G a ta) (hb:RE X G (.BoolOp .And (b :: rest) pos) tb):RE X G (.BoolOp .And (a :: b :: rest) pos) (FP ta tb):=⟨jJ (L2.wB ha.run hb.run) fun σ H Q ⟨τ,J,Q2,a2,h,k⟩ =>
 ⟨τ,J,_,a2,h,fun x J' v H' rx rr ee ⟨c,ec,q⟩=>by
  subst ec
  refine ⟨c,rx,?_⟩
  cases c with
  | true=>simp only [if_true] at q ⊢;exact ⟨τ,J',Q2,a2.go rr ee,q,fun z J2 u H2 rz r2 e2 q2=>k z J2 u H2 rz r2 (ee.trans e2) q2⟩
  | false=>simp only [Bool.false_eq_true,if_false] at q ⊢;exact k (.bl false) J' _ H' rfl rr ee q⟩⟩
theorem Kl (ha:RE X G a ta) (hb:RE X G (.BoolOp .Or (b :: rest) pos) tb):RE X G (.BoolOp .Or (a :: b :: rest) pos) (Ka ta tb):=⟨jJ (L2.B0 ha.run hb.run) fun σ H Q ⟨τ,J,Q2,a2,h,k⟩ =>
 ⟨τ,J,_,a2,h,fun x J' v H' rx rr ee ⟨c,ec,q⟩=>by
  subst ec
  refine ⟨c,rx,?_⟩
  cases c with
  | false=>simp only [Bool.false_eq_true,if_false] at q ⊢;exact ⟨τ,J',Q2,a2.go rr ee,q,fun z J2 u H2 rz r2 e2 q2=>k z J2 u H2 rz r2 (ee.trans e2) q2⟩
  | true=>simp only [if_true] at q ⊢;exact k (.bl true) J' _ H' rfl rr ee q⟩⟩
theorem HE (ha:RE X G a ta):RE X G (.UnaryOp .Not a pos) (FV ta):=⟨jJ (L2.wD ha.run) fun σ H Q ⟨τ,J,Q2,a2,h,k⟩ =>
 ⟨τ,J,_,a2,h,fun x J' v H' rx rr ee ⟨c,ec,q⟩=>by subst ec;exact ⟨c,rx,k (.bl (!c)) J' _ H' rfl rr ee q⟩⟩⟩
def M7 (t:j5) (ta tb:cQ):cQ:=fun τ J Q=>t τ J fun c J1=>if c=true then ta τ J1 Q else tb τ J1 Q
theorem Kk (hc:RT X G c tA) (ha:RE X G a ta) (hb:RE X G b tb):RE X G (.IfExp c a b pos) (M7 tA ta tb):=⟨jJ (L2.oM hc.run ha.run hb.run) fun σ H Q ⟨τ,J,Q2,a2,h,k⟩ =>
 ⟨τ,J,_,a2,h,fun c J' H' rr ee q=>by
  cases c with
  | true=>simp only [if_true] at q ⊢;exact ⟨τ,J',Q2,a2.go rr ee,q,fun z J2 u H2 rz r2 e2 q2=>k z J2 u H2 rz r2 (ee.trans e2) q2⟩
  | false=>simp only [Bool.false_eq_true,if_false] at q ⊢;exact ⟨τ,J',Q2,a2.go rr ee,q,fun z J2 u H2 rz r2 e2 q2=>k z J2 u H2 rz r2 (ee.trans e2) q2⟩⟩⟩
def sL:mZ:=fun _ J Q=>Q [] J
def k8 (ta:cQ) (tr:mZ):mZ:=fun τ J Q=>ta τ J fun x J1=>tr τ J1 fun xs J2=>Q (x :: xs) J2
theorem ah:RA X G [] sL:=⟨L_ L2.bB fun σ H Q ⟨τ,J,Q2,a2,h,k⟩=>k [] J [] H rfl a2.hp .refl h⟩
theorem af (ha:RE X G e te) (hr:RA X G es t) (hs:starEach (e :: es) X.env=(false,eval e X.env) :: starEach es X.env:=by rfl):RA X G (e :: es) (k8 te t) :=
 ⟨L_ (L2.aR ha.run hr.run hs) fun σ H Q ⟨τ,J,Q2,a2,h,k⟩=>⟨τ,J,_,a2,h,fun x J' v H' rx rr ee q=>⟨τ,J',_,a2.go rr ee,q,fun xs J2 vs H2 rs r2 e2 q2=>k (x :: xs) J2 (v :: vs) H2 ⟨v,vs,rfl,e2.rep rx,rs⟩ r2 (ee.trans e2) q2⟩⟩⟩
def vP:V→PV
 | .non=>.non | .bl b=>.bl b | .int i=>.int i | .str x=>.str x | _=>.non
theorem oS {K:PySem.W.Frag} {J:Hq} {H:Hp}:∀ {es:List Expr} {vs:List V},es.map rq=vs.map some→aL K J H (vs.map vP) vs
 | [],[],_=>rfl
 | [],_ :: _,h=>by cases h
 | _ :: _,[],h=>by cases h
 | e :: es,v :: vs,h=>by
  rw [List.map_cons,List.map_cons] at h
  injection h with h1 h2
  refine ⟨v,vs,rfl,?_,oS h2⟩
  cases e with
  | Constant c j pos =>
   cases c with
   | int i=>cases h1;rfl
   | str x=>cases h1;rfl
   | bool b=>cases h1;rfl
   | _=>cases h1
  | _=>cases h1
theorem wQ {es:List Expr} (vs:List V) (h:es.map rq=vs.map some) (xs:List PV) (hx:vs.map vP=xs):RA X G es (fun _ J Q=>Q xs J) :=
 ⟨L_ (oJ vs h) fun σ H Q ⟨τ,J,Q2,a2,q,k⟩=>k _ J _ H (by rw [← hx];exact oS h) a2.hp .refl q⟩
def Ki (t:mZ):cQ:=fun τ J Q=>t τ J fun xs J1=>xs.length≤sizeLine∧Q (.tup xs) J1
theorem cA {x1} (h:RA X G es t):RE X G (.Tuple es x1 pos) (Ki t):=⟨jJ (L2.oN h.run) fun σ H Q ⟨τ,J,Q2,a2,h,k⟩=>⟨τ,J,_,a2,h,fun xs J' vs H' rs rr ee ⟨hl,q⟩ =>
 ⟨by rw [← rs.length];exact hl,fun p hp=>by
  have sm:=bt.new hp (.tup vs)
  have e2:=Ext.same (K:=X.K) (J:=J') sm
  exact k (.tup xs) J' (.ref p) _ ⟨p,vs,rfl,.inl (.inl aA),e2.iP rs⟩ (rr.same sm) (ee.trans e2) q⟩⟩⟩
def JZ (t:mZ):cQ:=fun τ J Q=>t τ J fun xs J1=>xs.length≤sizeLine∧∀ p,J1 p=none→Q (.ref p) (put J1 p (.lst xs))
theorem oR (h:RA X G es t):RE X G (.List es pos) (JZ t):=⟨jJ (L2.jl h.run) fun σ H Q ⟨τ,J,Q2,a2,h,k⟩=>⟨τ,J,_,a2,h,fun xs J' vs H' rs rr ee ⟨hl,q⟩ =>
 ⟨by rw [← rs.length];exact hl,fun p hp=>k (.ref p) _ (.ref p) _ rfl (rr.Bi hp rs) (ee.trans (.laid hp)) (q p (rr.free hp))⟩⟩⟩
def M6 (t:mZ):cQ:=fun τ J Q=>t τ J fun xs J1=>xs.length≤sizeLine∧Q (.fl xs) J1
theorem wx {K:PySem.W.Frag} {J:Hq} {H:Hp} {xs:List PV} {vs:List V} {p:Addr} (rr:Rep K J H) (rs:aL K J H xs vs) (hp:H p=none):bV K J (upd H p (.lst vs)) (.fl xs) (.ref p)∧Rep K J (upd H p (.lst vs))∧Ext K J H J (upd H p (.lst vs)):=by
 have sm:=bt.new hp (.lst vs)
 have e2:=Ext.same (K:=K) (J:=J) sm
 exact ⟨⟨p,vs,rfl,.inl ⟨rr.free hp,.inl aA⟩,e2.iP rs⟩,rr.same sm,e2⟩
theorem uS (h:RA X G es t):RE X G (.List es pos) (M6 t):=⟨jJ (L2.jl h.run) fun σ H Q ⟨τ,J,Q2,a2,h,k⟩=>⟨τ,J,_,a2,h,fun xs J' vs H' rs rr ee ⟨hl,q⟩ =>
 ⟨by rw [← rs.length];exact hl,fun p hp=>let ⟨x1,x2,x3⟩:=wx rr rs hp;k (.fl xs) _ (.ref p) _ x1 x2 (ee.trans x3) q⟩⟩⟩
abbrev Ie:=Sr→Hq→(Option Int→Hq→Prop)→Prop
def LO (K:PySem.W.Frag) (G:G2) (t:Ie):TO:=fun σ H Q=>∃ τ J Q2,tO K G τ J σ H∧t τ J Q2∧∀ b J' H',Rep K J' H'→Ext K J H J' H'→Q2 b J'→Q b H'
structure RO (X:Cx) (G:G2) (e:Option Expr) (t:Ie):Prop where
 run:L2.PO X e (LO X.K G t)
theorem M0 {X:Cx} {e:Option Expr} {t t':TO} (h:L2.PO X e t) (k:∀ σ H Q,t' σ H Q→t σ H Q):L2.PO X e t':=fun pins s σ H Q I q=>h pins s σ H Q I (k _ _ _ q)
def yd:Ie:=fun _ J Q=>Q none J
def FW (t:cQ):Ie:=fun τ J Q=>t τ J fun x J1=>∃ i,x=.int i∧Q (some i) J1
theorem nj:RO X G none yd:=⟨M0 L2.m_ fun σ H Q ⟨τ,J,Q2,a2,h,k⟩=>k none J H a2.hp .refl h⟩
theorem nq (h:RE X G e te):RO X G (some e) (FW te):=⟨M0 (L2.jL h.run) fun σ H Q ⟨τ,J,Q2,a2,h,k⟩=>⟨τ,J,_,a2,h,fun x J' v H' rx rr ee ⟨i,ei,q⟩=>by subst ei;exact ⟨i,rx,k _ J' H' rr ee q⟩⟩⟩
abbrev yW:=PV→Option Int→Option Int→Hq→(PV→Hq→Prop)→Prop
def Lh (X:Cx) (q:yW):Prop:=∃ r,pJ X r∧∀ J H x lo hi v Q2 Q,bV X.K J H x v→Rep X.K J H→q x lo hi J Q2→Kn X.K J H Q2 Q→r v lo hi H Q
def M_ (q:yW) (te:cQ) (tl th:Ie):cQ:=fun τ J Q=>te τ J fun x J1=>tl τ J1 fun l J2=>th τ J2 fun u J3=>q x l u J3 Q
theorem k9 {lo hi:Option Expr} {tl th:Ie} {q:yW} (hr:Lh X q) (he:RE X G e te) (hl:RO X G lo tl) (hu:RO X G hi th):RE X G (.Subscript e (.Slice lo hi none p2) pos) (M_ q te tl th):=by
 obtain ⟨r,h,lr⟩:=hr
 exact ⟨jJ (L2.jm h he.run hl.run hu.run) fun σ H Q ⟨τ,J,Q2,a2,h,k⟩=>⟨τ,J,_,a2,h,fun x J' v H' rx rr ee q1=>⟨τ,J',_,a2.go rr ee,q1,fun l J2 H2 r2 e2 q2 =>
  ⟨τ,J2,_,a2.go r2 (ee.trans e2),q2,fun u J3 H3 r3 e3 q3=>lr J3 H3 x l u v Q2 Q ((e2.trans e3).rep rx) r3 q3 fun z J4 w H4 rz r4 e4 q4=>k z J4 w H4 rz r4 (((ee.trans e2).trans e3).trans e4) q4⟩⟩⟩⟩
def K6 (q:xo) (t:mZ):cQ:=fun τ J Q=>t τ J fun xs J1=>q xs J1 Q
theorem xr {r:List V→Hp→VK→Prop} {q:xo} (lr:MJ X.K r q):∀ σ H Q,LE X.K G (K6 q t) σ H Q→L2.F5 r (LA X.K G t) σ H Q:=fun σ H Q ⟨τ,J,Q2,a2,h,k⟩ =>
 ⟨τ,J,_,a2,h,fun xs J1 vs H1 rs r1 e1 q1=>lr J1 H1 xs vs Q2 Q rs r1 q1 fun z J' u H' rz rr ee qq=>k z J' u H' rz rr (e1.trans ee) qq⟩
theorem aP {id:String} {q:xo} (hc:Ge X (.builtin id) q) (hg:Gl X x) (hm:X.mg x=none) (hv:bootBuiltins x=some (.builtin id)) (ha:RA X G (e :: es) t) (hn:x≠"__name__":=by decide) (hdb:(x == ("__debug__":Str))=false:=by decide)
  (he:starEach (e :: es) X.env=(false,eval e X.env) :: starEach es X.env:=by rfl) (hpl:(backTo pos (starEach es X.env)).any (·.1)=false:=by rfl):RE X G (.Call (.Name x p) (e :: es) [] pos) (K6 q t):=by
 obtain ⟨r,h,lr⟩:=hc
 exact ⟨jJ (L2.dg h hg hm hv ha.run hn hdb he hpl) (xr lr)⟩
theorem jN {T:String} {q:xo} (hc:Ge X (.type T) q) (hg:Gl X x) (hm:X.mg x=none) (hv:bootBuiltins x=some (.type T)) (ha:RA X G (e :: es) t) (hn:x≠"__name__":=by decide) (hdb:(x == ("__debug__":Str))=false:=by decide)
  (he:starEach (e :: es) X.env=(false,eval e X.env) :: starEach es X.env:=by rfl) (hpl:(backTo pos (starEach es X.env)).any (·.1)=false:=by rfl):RE X G (.Call (.Name x p) (e :: es) [] pos) (K6 q t):=by
 obtain ⟨r,h,lr⟩:=hc
 exact ⟨jJ (L2.l4 h hg hm hv ha.run hn hdb he hpl) (xr lr)⟩
abbrev Af:=PV→List PV→Hq→(PV→Hq→Prop)→Prop
def Ff (X:Cx) (T id:String) (q:Af):Prop:=∃ r,mO X id r∧∀ J H x xs v vs Q2 Q,bV X.K J H x v→aL X.K J H xs vs→Rep X.K J H→q x xs J Q2→Kn X.K J H Q2 Q→r v vs H Q
def Iq (T:String) (J:Hq):PV→Prop
 | .str _=>T="str"
 | .fl _=>T="list"
 | .ref a=>(T="list"∧∃ xs,J a=some (.lst xs))∨(T="dict"∧∃ kvs ep,J a=some (.dct kvs ep))
 | _=>False
theorem yN {K:PySem.W.Frag} {T:String} {J:Hq} {H:Hp} {x:PV} {v:V} (r:bV K J H x v) (hp:Rep K J H) (h:Iq T J x):L2.Lb K T v H:=by
 cases x with
 | str s=>cases r;exact h
 | fl xs=>obtain ⟨a,vs,rfl,h1,h2⟩:=r;exact .inl ⟨h,vs,h1.sq⟩
 | ref a =>
  cases r
  rcases h with ⟨h,xs,e⟩ | ⟨h,kvs,ep,e⟩
  ·obtain ⟨vs,h1,_⟩:=hp _ _ e;exact .inl ⟨h,vs,.inl (.inl h1)⟩
  ·obtain ⟨gs,h1,_⟩:=hp _ _ e;exact .inr (.inr (.inl ⟨h,.inr ⟨gs,ep,h1⟩⟩))
 | _=>cases h
def Mg (T:String) (q:Af) (to:cQ) (t:mZ):cQ:=fun τ J Q=>to τ J fun x J1=>Iq T J1 x∧t τ J1 fun xs J2=>q x xs J2 Q
def JR (T:String) (q:Af) (to:cQ):cQ:=fun τ J Q=>to τ J fun x J1=>Iq T J1 x∧q x [] J1 Q
theorem mH {name:Str} {T id:String} {q:Af} (pa:PlainAttrs T) (slot:Slot T name id) (hty:typeOf (.builtin id)=pure (.type "method_descriptor")) (hm:Ff X T id q) (ho:RE X G o to) (ha:RA X G (e :: es) t)
  (hbase:attributeBase o name X.env (eval o X.env)=eval o X.env:=by rfl)
  (hfew:((backTo cpos (starEach (e :: es) X.env)).all (fun x=>!x.1) && (backToKw cpos (keywordEach [] X.env)).all (fun x=>x.1.isSome)
   && decide ((e :: es).length + ([]:List Keyword).length + (if ([]:List Keyword).isEmpty then 0 else 1) < 30))=true:=by rfl)
  (hline:(apos.endLine == cpos.line)=true:=by rfl) (hs:starEach (e :: es) X.env=(false,eval e X.env) :: starEach es X.env:=by rfl) (hplain:(backTo cpos (starEach es X.env)).any (·.1)=false:=by rfl) :
  RE X G (.Call (.Attribute o name apos) (e :: es) [] cpos) (Mg T q to t):=by
 obtain ⟨r,h,lr⟩:=hm
 exact ⟨jJ (L2.oK pa slot hty h ho.run ha.run hbase hfew hline hs hplain) fun σ H Q ⟨τ,J,Q2,a2,h,k⟩=>⟨τ,J,_,a2,h,fun x J1 v H1 rx r1 e1 ⟨ty,q1⟩=>⟨yN rx r1 ty,τ,J1,_,a2.go r1 e1,q1,fun xs J2 vs H2 rs r2 e2 q2 =>
  lr J2 H2 x xs v vs Q2 Q (e2.rep rx) rs r2 q2 fun z J' u H' rz rr ee qq=>k z J' u H' rz rr ((e1.trans e2).trans ee) qq⟩⟩⟩
theorem HD {name:Str} {T id:String} {q:Af} (pa:PlainAttrs T) (slot:Slot T name id) (hty:typeOf (.builtin id)=pure (.type "method_descriptor")) (hm:Ff X T id q) (ho:RE X G o to)
  (hbase:attributeBase o name X.env (eval o X.env)=eval o X.env:=by rfl) (hline:(apos.endLine == cpos.line)=true:=by rfl):RE X G (.Call (.Attribute o name apos) [] [] cpos) (JR T q to):=by
 obtain ⟨r,h,lr⟩:=hm
 exact ⟨jJ (L2.Hm pa slot hty h ho.run hbase hline) fun σ H Q ⟨τ,J,Q2,a2,h,k⟩=>⟨τ,J,_,a2,h,fun x J1 v H1 rx r1 e1 ⟨ty,q1⟩=>⟨yN rx r1 ty,
  lr J1 H1 x [] v [] Q2 Q rx rfl r1 q1 fun z J' u H' rz rr ee qq=>k z J' u H' rz rr (e1.trans ee) qq⟩⟩⟩
end
end Ov
namespace Ov
open PySem PySem.Spec PyProof.Rows
open L2 (V HO Hp Inv Cx VK XK TE TT TA TS TG m3 TI TO iM Ends tP Loc Gl Rd RelV Vals er tV bT mW pJ mO iK R2 upd aA aG c8 eL Sp pj It bt cJ bI Passes mL aE Meth Mk Binds aQ cq aw cU fu dW)
abbrev cT:=List PV→Hq→(PV→Hq→Prop)→(Addr→Hq→Prop)→Prop
def Gg (K:PySem.W.Frag) (J:Hq) (H:Hp) (E2:Addr→Hq→Prop) (E:XK):Prop:=∀ c J' H',Rep K J' H'→Ext K J H J' H'→E2 c J'→E (.ref c) none H'
def d7 (K:PySem.W.Frag) (sp:cT):Sp:=fun vs H Q E=>∃ xs J Q2 E2,aL K J H xs vs∧Rep K J H∧sp xs J Q2 E2∧Kn K J H Q2 Q∧Gg K J H E2 E
theorem Gg.ext {K:PySem.W.Frag} {J J':Hq} {H H':Hp} {E2:Addr→Hq→Prop} {E:XK} (k:Gg K J H E2 E) (e:Ext K J H J' H'):Gg K J' H' E2 E:=fun c J1 H1 r x q=>k c J1 H1 r (e.trans x) q
theorem _root_.L2.aQ.Nk {P:Program} {w:World} {K:PySem.W.Frag} {mg:Str→Option Value} {base:Heap} {k:Nat} {f:Addr} {fd:FuncData} {ps:List Str} {sp:Sp} (F:aQ P w K mg base L2.nK k f fd ps sp):aQ P w K mg base (dt P w) k f fd ps sp :=
 ⟨F.len,fun A outer s H args us vs Q E hr he hb hv hs=>codeAny_mono (F.run A outer s H args us vs Q E hr he hb hv hs) fun r s' q=>by
  cases r with
  | error e=>exact False.elim q
  | ok fl=>cases fl <;> exact q⟩
theorem _root_.L2.aQ.KQ {P:Program} {w:World} {K:PySem.W.Frag} {mg:Str→Option Value} {base:Heap} {k:Nat} {f:Addr} {fd:FuncData} {ps:List Str} {sp:Sp} (F:aQ P w K mg base (dt P w) k f fd ps sp):aQ P w K mg base L2.nK k f fd ps (fun vs H Q _=>sp vs H Q L2.E0) :=
 ⟨fun vs H Q E q=>F.len vs H Q _ q,fun A outer s H args us vs Q E hr he hb hv hs=>codeAny_mono (F.run A outer s H args us vs Q _ hr he hb hv hs) fun r s' q=>by
  cases r with
  | error e=>obtain ⟨_,_,_,_,_,z⟩:=q;exact z.elim
  | ok fl=>cases fl <;> exact q⟩
def bG (P:Program) (w:World) (K:PySem.W.Frag) (mg:Str→Option Value) (base:Heap) (k:Nat) (x:Str) (ps:List Str) (sp:cT):Prop:=Ak P w K mg base k x ps (d7 K sp)
theorem _root_.Ov.pq.lift {P:Program} {w:World} {K:PySem.W.Frag} {mg:Str→Option Value} {base:Heap} {k:Nat} {x:Str} {ps:List Str} {sp:Sp} (C:pq P w K mg base k x ps sp) {sp':cT}
  (h:∀ xs J vs H Q2 E2 Q E,aL K J H xs vs→Rep K J H→sp' xs J Q2 E2→Kn K J H Q2 Q→sp vs H Q E):bG P w K mg base k x ps sp':=by
 obtain ⟨f,fd,F,r⟩:=C
 exact ⟨f,fd,(F.Nk).imp fun vs H Q E ⟨xs,J,Q2,E2,a,b,c,d,_⟩=>h xs J vs H Q2 E2 Q E a b c d,r⟩
theorem Ak.lift {P:Program} {w:World} {K:PySem.W.Frag} {mg:Str→Option Value} {base:Heap} {k:Nat} {x:Str} {ps:List Str} {sp:Sp} (C:Ak P w K mg base k x ps sp) {sp':cT}
  (h:∀ xs J vs H Q2 E2 Q E,aL K J H xs vs→Rep K J H→sp' xs J Q2 E2→Kn K J H Q2 Q→Gg K J H E2 E→sp vs H Q E):bG P w K mg base k x ps sp':=by
 obtain ⟨f,fd,F,r⟩:=C
 exact ⟨f,fd,F.imp fun vs H Q E ⟨xs,J,Q2,E2,a,b,c,d,e⟩=>h xs J vs H Q2 E2 Q E a b c d e,r⟩
section
variable {X:Cx} {G:G2} {a b c e o value:Expr} {es rest:List Expr} {ta tb te tc to tv:cQ} {tA tB':j5} {t:mZ} {pos px p p2 apos cpos pos':Pos} {x:Str} {i j:Nat} {E:XK} {E2:Addr→Hq→Prop}
structure C5 (X:Cx) (G:G2) (E2:Addr→Hq→Prop) (E:XK):Prop where
 pass:Passes (dt X.prog X.w) X E
 kn:Gg X.K G.1 G.2 E2 E
def yc (sp:cT) (E2:Addr→Hq→Prop) (t:mZ):cQ:=fun τ J Q=>t τ J fun xs J1=>sp xs J1 Q E2
theorem a8 {k k':Nat} {ps:List Str} {sp:cT} (C:bG X.prog X.w X.K X.mg X.base k x ps sp) (B:C5 X G E2 E) (hr:bI k' X.A) (hk:k≤k') (hg:Gl X x) (ha:RA X G (e :: es) t)
  (hdb:(x == ("__debug__":Str))=false:=by decide) (he:starEach (e :: es) X.env=(false,eval e X.env) :: starEach es X.env:=by rfl) (hpl:(backTo pos (starEach es X.env)).any (·.1)=false:=by rfl) :
  RE X G (.Call (.Name x p) (e :: es) [] pos) (yc sp E2 t) :=
 ⟨jJ (Eb C B.pass hr hk hg ha.run hdb he hpl) fun σ H Q ⟨τ,J,Q2,a2,h,k⟩=>⟨τ,J,_,a2,h,fun xs J1 vs H1 rs r1 e1 q1=>by
  simp only [List.append_nil]
  exact ⟨xs,J1,Q2,E2,rs,r1,q1,fun z J' u H' rz rr ee qq=>k z J' u H' rz rr (e1.trans ee) qq,B.kn.ext (a2.ext.trans e1)⟩⟩⟩
def JS (C:Addr) (ta:cQ) (f:Str):cQ:=fun τ J Q=>ta τ J fun x J1=>∃ a fs v,x=.ref a∧J1 a=some (.ins C fs)∧fs.lookup f=some v∧Q v J1
theorem aY {C:Addr} {f:Str} (cl:mL X.K C) (na:aE X.K C f) (he:RE X G e ta) (hb:attributeBase e f X.env (eval e X.env)=eval e X.env:=by rfl):RE X G (.Attribute e f pos) (JS C ta f) :=
 ⟨jJ (L2.Ho he.run hb) fun σ H Q ⟨τ,J,Q2,a2,h,k⟩=>⟨τ,J,_,a2,h,fun x J1 v H1 rx r1 e1 ⟨a,fs,y,ex,ja,lk,q⟩=>by
  subst ex;cases rx
  obtain ⟨dx,gs,ha,rf⟩:=r1 _ _ ja
  obtain ⟨w,lw,rw'⟩:=rf.look lk
  exact ⟨a,C,dx,gs,w,rfl,ha,cl,na,lw,k y J1 w H1 rw' r1 e1 q⟩⟩⟩
structure c7 (P:Program) (w:World) (K:PySem.W.Frag) (mg:Str→Option Value) (base:Heap) (C:Addr) (k:Nat) (m:Str) (ps:List Str) (sp:cT):Prop where
 cl:mL K C
 ex:∃ f fd,Meth K C m f∧aQ P w K mg base (dt P w) k f fd ps (d7 K sp)∧Binds K fd ps []
theorem c7.imp {P:Program} {w:World} {K:PySem.W.Frag} {mg:Str→Option Value} {base:Heap} {C:Addr} {k:Nat} {m:Str} {ps:List Str} {sp sp':cT} (M:c7 P w K mg base C k m ps sp) (h:∀ xs J Q E,sp' xs J Q E→sp xs J Q E):c7 P w K mg base C k m ps sp':=by
 obtain ⟨cl,f,fd,hm,F,r⟩:=M
 exact ⟨cl,f,fd,hm,F.imp fun vs H Q E ⟨xs,J,Q2,E2,a,b,c,d⟩=>⟨xs,J,Q2,E2,a,b,h _ _ _ _ c,d⟩,r⟩
def Ce (C:Addr) (m:Str) (sp:cT) (E2:Addr→Hq→Prop) (ta:cQ) (t:mZ):cQ:=fun τ J Q=>ta τ J fun x J1=>∃ a fs,x=.ref a∧J1 a=some (.ins C fs)∧fs.lookup m=none∧t τ J1 fun xs J2=>sp (x :: xs) J2 Q E2
theorem ux {C:Addr} {m:Str} {sp:cT} (B:C5 X G E2 E):∀ σ H Q,LE X.K G (Ce C m sp E2 to t) σ H Q→L2.CW C m (d7 X.K sp) [] E (LE X.K G to) (LA X.K G t) σ H Q:=fun σ H Q ⟨τ,J,Q2,a2,h,k⟩ =>
 ⟨τ,J,_,a2,h,fun x J1 v H1 rx r1 e1 ⟨a,fs,ex,ja,lk,q⟩=>by
  subst ex;cases rx
  obtain ⟨dx,gs,ha,rf⟩:=r1 _ _ ja
  refine ⟨a,dx,gs,rfl,ha,rf.none lk,τ,J1,_,a2.go r1 e1,q,fun xs J2 vs H2 rs r2 e2 q2=>?_⟩
  simp only [List.append_nil]
  exact ⟨.ref a :: xs,J2,Q2,E2,⟨.ref a,vs,rfl,rfl,rs⟩,r2,q2,fun z J' u H' rz rr ee qq=>k z J' u H' rz rr ((e1.trans e2).trans ee) qq,B.kn.ext ((a2.ext.trans e1).trans e2)⟩⟩
theorem bD {C:Addr} {m:Str} {k k':Nat} {ps:List Str} {sp:cT} {pl:Sem Bool} (M:c7 X.prog X.w X.K X.mg X.base C k m ps sp) (B:C5 X G E2 E) (hr:bI k' X.A) (hk:k≤k') (ho:RE X G o to) (ha:RA X G (e :: es) t)
  (hst:starEach (e :: es) X.env=(false,eval e X.env) :: starEach es X.env:=by rfl) (hpl:(backTo pos (starEach es X.env)).any (·.1)=false:=by rfl)
  (ht:eval (.Call (.Attribute o m apos) (e :: es) [] pos) X.env=(do
   let ov ← eval o X.env
   standAt apos.atName
   let (f,first) ← holding [ov] (getMethod ov m pl)
   callWith pos f first (backTo pos (starEach (e :: es) X.env)) (backToKw pos (keywordEach [] X.env))):=by rfl) :
  RE X G (.Call (.Attribute o m apos) (e :: es) [] pos) (Ce C m sp E2 to t):=by
 obtain ⟨cl,f,fd,hm,F,b⟩:=M
 exact ⟨jJ (L2.Ee (pl:=pl) ho.run cl hm F (hr.mono hk) b .nil B.pass ha.run hst hpl ht) (ux B)⟩
theorem gU {C:Addr} {m:Str} {k k':Nat} {ps:List Str} {sp:cT} {pl:Sem Bool} (M:c7 X.prog X.w X.K X.mg X.base C k m ps sp) (B:C5 X G E2 E) (hr:bI k' X.A) (hk:k≤k') (ho:RE X G o to)
  (ht:eval (.Call (.Attribute o m apos) [] [] pos) X.env=(do
   let ov ← eval o X.env
   standAt apos.atName
   let (f,first) ← holding [ov] (getMethod ov m pl)
   callWith pos f first (backTo pos (starEach [] X.env)) (backToKw pos (keywordEach [] X.env))):=by rfl) :
  RE X G (.Call (.Attribute o m apos) [] [] pos) (Ce C m sp E2 to sL):=by
 obtain ⟨cl,f,fd,hm,F,b⟩:=M
 refine ⟨jJ (L2.BZ (pl:=pl) ho.run cl hm F (hr.mono hk) b .nil B.pass ht) fun σ H Q h=>?_⟩
 have z:=ux B σ H Q h
 obtain ⟨τ,J,Q2,a2,h1,k1⟩:=z
 refine ⟨τ,J,Q2,a2,h1,fun x J1 v H1 rx r1 e1 q1=>?_⟩
 obtain ⟨a,dx,fs,h2,h3,h4,τ',J',Q',a2',h5,k5⟩:=k1 x J1 v H1 rx r1 e1 q1
 exact ⟨a,dx,fs,h2,h3,h4,k5 [] J' [] H1 rfl a2'.hp .refl h5⟩
structure yU (P:Program) (w:World) (K:PySem.W.Frag) (mg:Str→Option Value) (base:Heap) (C:Addr) (k:Nat) (x:Str) (ps:List Str) (sp:cT):Prop where
 m:mg x=some (.ref C)
 ex:∃ f fd,Mk K C f∧aQ P w K mg base (dt P w) k f fd ps (d7 K sp)∧Binds K fd ps []
def EA (C:Addr) (sp:cT) (E2:Addr→Hq→Prop) (t:mZ):cQ:=fun τ J Q=>t τ J fun xs J1=>∀ a,J1 a=none→sp (.ref a :: xs) (put J1 a (.ins C [])) (fun v J2=>v=.non∧Q (.ref a) J2) E2
theorem uu {C:Addr} {sp:cT} (B:C5 X G E2 E):∀ σ H Q,LE X.K G (EA C sp E2 t) σ H Q→L2.CV C (d7 X.K sp) [] E (LA X.K G t) σ H Q:=fun σ H Q ⟨τ,J,Q2,a2,h,k⟩ =>
 ⟨τ,J,_,a2,h,fun xs J1 vs H1 rs r1 e1 q1 x dx hx hdx ne=>by
  have s1:=bt.new hdx (.own x)
  have hx':upd H1 dx (.own x) x=none:=by rw [aG (Ne.symm ne)];exact hx
  have r2:=r1.same s1
  have e2:Ext X.K J1 H1 (put J1 x (.ins C [])) (upd (upd H1 dx (.own x)) x (.ins C dx [])):=(Ext.same s1).trans (.laid hx')
  have r3:Rep X.K (put J1 x (.ins C [])) (upd (upd H1 dx (.own x)) x (.ins C dx [])):=r2.vp (.laid hx') x (fun a ne=>ak ne) (fun a o ne _ z=>by rw [aG ne];exact z) fun u z=>by
   rw [au] at z;cases z
   exact ⟨dx,[],aA,rfl,rfl⟩
  simp only [List.append_nil]
  refine ⟨.ref x :: xs,_,_,E2,⟨.ref x,vs,rfl,rfl,e2.iP rs⟩,r3,q1 x (r1.free hx),fun z J' u H' rz rr ee ⟨ez,qq⟩=>?_,B.kn.ext ((a2.ext.trans e1).trans e2)⟩
  subst ez
  exact ⟨rz,k (.ref x) J' (.ref x) H' rfl rr ((e1.trans e2).trans ee) qq⟩⟩
theorem EE {C:Addr} {k k':Nat} {ps:List Str} {sp:cT} (M:yU X.prog X.w X.K X.mg X.base C k x ps sp) (B:C5 X G E2 E) (hr:bI k' X.A) (hk:k + 1≤k') (hg:Gl X x) (ha:RA X G (e :: es) t)
  (hdb:(x == ("__debug__":Str))=false:=by decide) (he:starEach (e :: es) X.env=(false,eval e X.env) :: starEach es X.env:=by rfl) (hpl:(backTo pos (starEach es X.env)).any (·.1)=false:=by rfl) :
  RE X G (.Call (.Name x p) (e :: es) [] pos) (EA C sp E2 t):=by
 obtain ⟨hm,f,fd,mk,F,b⟩:=M
 exact ⟨jJ (L2.Ed mk F (hr.mono hk) hg hm b .nil B.pass ha.run hdb he hpl) (uu B)⟩
theorem uT {C:Addr} {k k':Nat} {ps:List Str} {sp:cT} (M:yU X.prog X.w X.K X.mg X.base C k x ps sp) (B:C5 X G E2 E) (hr:bI k' X.A) (hk:k + 1≤k') (hg:Gl X x)
  (hdb:(x == ("__debug__":Str))=false:=by decide):RE X G (.Call (.Name x p) [] [] pos) (EA C sp E2 sL):=by
 obtain ⟨hm,f,fd,mk,F,b⟩:=M
 refine ⟨jJ (L2.BY mk F (hr.mono hk) hg hm b .nil B.pass hdb) fun σ H Q h=>?_⟩
 obtain ⟨τ,J,Q2,a2,h1,k1⟩:=uu (t:=sL) B σ H Q h
 exact k1 [] J [] H rfl a2.hp .refl h1
end
section
variable {X:Cx} {G:G2} {st:Stmt} {rest:List Stmt} {t u:gI} {e tg o value:Expr} {es:List Expr} {te ta tv:cQ} {tc:j5} {pos pos':Pos}
def mG:gI:=fun D τ J=>D.nx τ J
def cb (t u:gI):gI:=fun D τ J=>t { D with nx:=u D } τ J
theorem aO:RB X G [] mG:=⟨Ma L2.eY fun D σ H ⟨τ,J,D2,a2,h,g⟩=>g.nx τ J σ H a2.sl a2.hp .refl h⟩
theorem aj (h1:RS X G st t) (h2:RB X G rest u):RB X G (st :: rest) (cb t u):=⟨Ma (L2.aW h1.run h2.run) fun D σ H ⟨τ,J,D2,a2,h,g⟩=>⟨τ,J,{ D2 with nx:=u D2 },a2,h,
 { nx:=fun τ' J' σ' H' rs rr ee q=>⟨τ',J',D2,⟨rs,rr,a2.ext.trans ee⟩,q,g.ext ee⟩,rt:=g.rt,bk:=g.bk,ct:=g.ct }⟩⟩
theorem aq (h1:RS X G st t):RB X G [st] t:=⟨L2.bC h1.run⟩
def Cc (t u:gI):gI:=fun D τ J=>∃ M:Sr→Hq→Prop,t { D with nx:=M } τ J∧∀ τ' J',M τ' J'→u D τ' J'
theorem dN (h1:RS X G st t) (h2:RB X G rest u):RB X G (st :: rest) (Cc t u):=⟨Ma (L2.aW h1.run h2.run) fun D σ H ⟨τ,J,D2,a2,⟨M,h,hm⟩,g⟩=>⟨τ,J,{ D2 with nx:=M },a2,h,
 { nx:=fun τ' J' σ' H' rs rr ee q=>⟨τ',J',D2,⟨rs,rr,a2.ext.trans ee⟩,hm _ _ q,g.ext ee⟩,rt:=g.rt,bk:=g.bk,ct:=g.ct }⟩⟩
def Mh:gI:=fun D τ J=>D.bk τ J
def Mi:gI:=fun D τ J=>D.ct τ J
def Cd (te:cQ):gI:=fun D τ J=>te τ J fun _ J1=>D.nx τ J1
theorem bx (he:RE X G e te) (hs:swapsWith e none pos.line X.env=pure false:=by rfl):RS X G (.Expr e pos) (Cd te):=⟨wJ (L2.jM he.run hs) fun D σ H ⟨τ,J,D2,a2,h,g⟩ =>
 ⟨τ,J,_,a2,h,fun x J' v H' rx rr ee q=>g.nx τ J' σ H' (a2.sl.ext ee) rr ee q⟩⟩
def Kd (te:cQ):gI:=fun D τ J=>te τ J D.rt
theorem aI (he:RE X G e te):RS X G (.Return (some e) pos) (Kd te):=⟨wJ (L2.c9 he.run) fun D σ H ⟨τ,J,D2,a2,h,g⟩=>⟨τ,J,_,a2,h,fun x J' v H' rx rr ee q=>g.rt x J' v H' rx rr ee q⟩⟩
def FX:gI:=fun D _ J=>D.rt .non J
theorem EI:RS X G (.Return none pos) FX:=⟨wJ L2.sE fun D σ H ⟨τ,J,D2,a2,h,g⟩=>g.rt .non J .non H rfl a2.hp .refl h⟩
def pX (c:j5) (t u:gI):gI:=fun D τ J=>c τ J fun b J1=>if b=true then t D τ J1 else u D τ J1
theorem a7 {c:Expr} {a b:List Stmt} (hc:RT X G c tc) (ha:RB X G a t) (hb:RB X G b u):RS X G (.If c a b pos) (pX tc t u):=⟨wJ (L2.k7 hc.run ha.run hb.run) fun D σ H ⟨τ,J,D2,a2,h,g⟩ =>
 ⟨τ,J,_,a2,h,fun c J' H' rr ee q=>by
  cases c with
  | true=>simp only [if_true] at q ⊢;exact ⟨τ,J',D2,a2.go rr ee,q,g.ext ee⟩
  | false=>simp only [Bool.false_eq_true,if_false] at q ⊢;exact ⟨τ,J',D2,a2.go rr ee,q,g.ext ee⟩⟩⟩
abbrev vS:=PV→Sr→Hq→(Sr→Hq→Prop)→Prop
abbrev tU:=List PV→Sr→Hq→(Sr→Hq→Prop)→Prop
def LG (K:PySem.W.Frag) (G:G2) (t:vS):TG:=fun v σ H Q=>∃ x τ J Q2,bV K J H x v∧tO K G τ J σ H∧t x τ J Q2∧∀ τ' J' σ' H',j4 K J' H' τ' σ'→Rep K J' H'→Ext K J H J' H'→Q2 τ' J'→Q σ' H'
def Nc (K:PySem.W.Frag) (G:G2) (t:tU):m3:=fun vs σ H Q=>∃ xs τ J Q2,aL K J H xs vs∧tO K G τ J σ H∧t xs τ J Q2∧∀ τ' J' σ' H',j4 K J' H' τ' σ'→Rep K J' H'→Ext K J H J' H'→Q2 τ' J'→Q σ' H'
structure RG (X:Cx) (G:G2) (e:Expr) (t:vS):Prop where
 run:L2.PG X e (LG X.K G t)
structure KU (X:Cx) (G:G2) (es:List Expr) (t:tU):Prop where
 run:L2.Fh X es (Nc X.K G t)
theorem Mb {X:Cx} {e:Expr} {t t':TG} (h:L2.PG X e t) (k:∀ v σ H Q,t' v σ H Q→t v σ H Q):L2.PG X e t':=fun pins s σ H v u Q I r q=>h pins s σ H v u Q I r (k _ _ _ _ q)
theorem JA {X:Cx} {e:List Expr} {t t':m3} (h:L2.Fh X e t) (k:∀ v σ H Q,t' v σ H Q→t v σ H Q):L2.Fh X e t':=fun pins s σ H v u Q I r q=>h pins s σ H v u Q I r (k _ _ _ _ q)
def C9 (i:Nat):vS:=fun x τ J Q=>Q (τ.set i (some x)) J
theorem cM {i:Nat} {x:Str} (hN:X.N.Nodup) (hi:X.N[i]?=some x) (hx:Loc X.env.scope x) (hf:X.fn x=true∨X.env.scope.names.lookup x=some .local:=by first | exact .inl rfl | exact .inr rfl | assumption):RG X G (.Name x pos) (C9 i) :=
 ⟨Mb (L2.jK hN hi hx hf) fun v σ H Q ⟨x,τ,J,Q2,rx,a2,q,k⟩=>k _ J _ H (a2.sl.set i rx) a2.hp .refl q⟩
def MQ:tU:=fun vs τ J Q=>vs=[]∧Q τ J
def MP (t:vS) (u:tU):tU:=fun vs τ J Q=>∃ v r,vs=v :: r∧t v τ J fun τ' J'=>u r τ' J' Q
theorem sP:KU X G [] MQ:=⟨JA L2.sy fun vs σ H Q ⟨xs,τ,J,Q2,rs,a2,⟨e,q⟩,k⟩=>by subst e;exact ⟨rs,k τ J σ H a2.sl a2.hp .refl q⟩⟩
theorem fH {e:Expr} {es:List Expr} {t:vS} {u:tU} (h1:RG X G e t) (h2:KU X G es u)
  (hs:(assignEach (e :: es) X.env).map (·.2)=assign e X.env :: (assignEach es X.env).map (·.2):=by rfl):KU X G (e :: es) (MP t u):=⟨JA (L2.oO h1.run h2.run hs) fun vs σ H Q ⟨xs,τ,J,Q2,rs,a2,⟨y,r,e,q⟩,k⟩=>by
 subst e
 obtain ⟨v,us,rfl,rv,ru⟩:=rs
 exact ⟨v,us,rfl,y,τ,J,_,rv,a2,q,fun τ' J' σ' H' rs' rr ee q'=>⟨r,τ',J',Q2,ee.iP ru,⟨rs',rr,a2.ext.trans ee⟩,q',fun τ2 J2 σ2 H2 rs2 rr2 ee2 q2=>k τ2 J2 σ2 H2 rs2 rr2 (ee.trans ee2) q2⟩⟩⟩
def MR (n:Nat) (t:tU):vS:=fun x τ J Q=>∃ xs,x=.tup xs∧xs.length=n∧t xs τ J Q
theorem wU {k:Nat} {t:tU} {n:Nat} (hc:X.calm=true) (h:KU X G es t)
  (hn:(assignEach es X.env).length=n:=by rfl) (hst:(assignEach es X.env).findIdx? (·.1)=none:=by rfl):RG X G (.Tuple es k pos) (MR n t):=⟨Mb (L2.wH hc h.run hn hst) fun v σ H Q ⟨x,τ,J,Q2,rx,a2,⟨xs,e,l,q⟩,k⟩=>by
 subst e
 obtain ⟨a,vs,rfl,h1,h2⟩:=rx
 exact ⟨a,vs,rfl,h1,by rw [← h2.length];exact l,xs,τ,J,Q2,h2,a2,q,k⟩⟩
def oQ (te:cQ) (g:vS):gI:=fun D τ J=>te τ J fun x J1=>g x τ J1 D.nx
theorem wV {tg e:Expr} {g:vS} (he:RE X G e te) (hg:RG X G tg g) (hs:swapsWithSole [tg] e pos.line X.env=pure false:=by rfl) (hw:swappedStores [tg] e X.env=pure none:=by rfl)
  (h1:(assignEach [tg] X.env).map (·.2)=[assign tg X.env]:=by rfl):RS X G (.Assign [tg] e pos) (oQ te g):=⟨wJ (L2.sD he.run hg.run hs hw h1) fun D σ H ⟨τ,J,D2,a2,h,g⟩ =>
 ⟨τ,J,_,a2,h,fun x J' v H' rx rr ee q=>⟨x,τ,J',_,rx,a2.go rr ee,q,fun τ' J2 σ' H2 rs r2 e2 q2=>g.nx τ' J2 σ' H2 rs r2 (ee.trans e2) q2⟩⟩⟩
theorem aT {i:Nat} {x:Str} {pos':Pos} (hN:X.N.Nodup) (hi:X.N[i]?=some x) (hx:Loc X.env.scope x) (he:RE X G e te) (hs:swapsWith e (some (.Name x pos')) pos.line X.env=pure false:=by rfl) (hf:X.fn x=true∨X.env.scope.names.lookup x=some .local:=by first | exact .inl rfl | exact .inr rfl | assumption) :
  RS X G (.Assign [.Name x pos'] e pos) (oQ te (C9 i)):=⟨wJ (L2.cy hN hi hx he.run hs hf) fun D σ H ⟨τ,J,D2,a2,h,g⟩ =>
 ⟨τ,J,_,a2,h,fun x J' v H' rx rr ee q=>g.nx _ J' _ H' ((a2.sl.ext ee).set i rx) rr ee q⟩⟩
def Kb (i j:Nat) (ta:mZ):gI:=fun D τ J=>ta τ J fun vs J1=>∃ v w,vs=[v,w]∧D.nx ((τ.set i (some v)).set j (some w)) J1
theorem HH {i j:Nat} {x y:Str} {a b:Expr} {ta:mZ} {px py pt:Pos} {kt k2 pt2} (hc:X.calm=true) (hN:X.N.Nodup) (hi:X.N[i]?=some x) (hj:X.N[j]?=some y) (hij:i≠j)
  (hx:X.env.scope.names.lookup x=some .local) (hy:X.env.scope.names.lookup y=some .local) (ha:RA X G [a,b] ta)
  (hw:swappedStores [.Tuple [.Name x px,.Name y py] kt pt] (.Tuple [a,b] k2 pt2) X.env=pure (some [x,y]))
  (hs:swapsWithSole [.Tuple [.Name x px,.Name y py] kt pt] (.Tuple [a,b] k2 pt2) pos.line X.env=pure false:=by rfl) :
  RS X G (.Assign [.Tuple [.Name x px,.Name y py] kt pt] (.Tuple [a,b] k2 pt2) pos) (Kb i j ta):=⟨wJ (L2.l7 hc hN hi hj hij hx hy ha.run hw hs) fun D σ H ⟨τ,J,D2,a2,h,g⟩ =>
 ⟨τ,J,_,a2,h,fun xs J' vs H' rs rr ee ⟨v,w,e,q⟩=>by
  subst e
  obtain ⟨v',us,rfl,rv,w',us',rfl,rw',e'⟩:=rs
  cases e'
  exact ⟨v',w',rfl,g.nx _ J' _ H' (((a2.sl.ext ee).set i rv).set j rw') rr ee q⟩⟩⟩
def l_ (f:Str) (v:PV):List (Str × PV)→List (Str × PV)
 | []=>[(f,v)]
 | (g,w) :: r=>if g=f then (g,v) :: r else (g,w) :: l_ f v r
theorem uO {K:PySem.W.Frag} {J:Hq} {H:Hp} {f:Str} {y:PV} {v:V} (r:bV K J H y v):∀ {fs:List (Str × PV)} {gs:List (Str × V)},j3 K J H fs gs→j3 K J H (l_ f y fs) (dW f v gs)
 | [],[],_=>⟨rfl,v,[],rfl,r,rfl⟩
 | [],_ :: _,h=>by cases h.1
 | _ :: _,[],h=>by cases h.1
 | (k,y') :: fs,(k',w) :: gs,h=>by
  obtain ⟨h1,v',us,h2,h3,h4⟩:=h
  simp only [List.map_cons,List.cons.injEq] at h1 h2
  obtain ⟨rfl,h1⟩:=h1
  obtain ⟨rfl,rfl⟩:=h2
  unfold l_ L2.dW
  by_cases hk:k=f
  ·rw [if_pos hk,if_pos hk]
   exact ⟨by simp only [List.map_cons,h1],v,_,rfl,r,h4⟩
  ·rw [if_neg hk,if_neg hk]
   obtain ⟨z1,z2⟩:=uO (f:=f) r (⟨h1,h4⟩:j3 K J H fs gs)
   exact ⟨by simp only [List.map_cons,z1],w,_,rfl,h3,z2⟩
def FQ (C:Addr) (ta tv:cQ) (f:Str):gI:=fun D τ J=>tv τ J fun y J1=>ta τ J1 fun x J2=>∃ a fs,x=.ref a∧J2 a=some (.ins C fs)∧fs.length < 1000∧D.nx τ (put J2 a (.ins C (l_ f y fs)))
theorem Ext.Ia {K:PySem.W.Frag} {J:Hq} {H:Hp} {p C dx:Addr} {fs gs:List (Str × PV)} {fs' gs':List (Str × V)} (h:J p=some (.ins C fs)) (k:H p=some (.ins C dx fs')):Ext K J H (put J p (.ins C gs)) (upd H p (.ins C dx gs')):=by
 have sm:∀ a u,a≠p→Rd H a u→Rd (upd H p (.ins C dx gs')) a u:=fun a u ne z=>by
  rcases z with z | ⟨o,z⟩
  ·exact .inl (by rw [aG ne];exact z)
  ·exact .inr ⟨o,by rw [aG ne];exact z⟩
 have nn:∀ a u,(∀ c d l,u≠HO.ins c d l)→Rd H a u→a≠p:=fun a u d z e=>by
  subst e
  rcases z with z | ⟨o,z⟩
  ·rw [k] at z;cases z;exact d _ _ _ rfl
  ·rw [k] at z;cases z
 refine ⟨fun a vs' z=>?_,fun a o z q _=>?_⟩
 ·rcases z with z | z
  ·exact .inl (sm a _ (nn a (.tup vs') (fun _ _ _ e=>nomatch e) z) z)
  ·exact .inr z
 ·have ne:a≠p:=by intro e;subst e;rw [h] at z;cases z
  exact ⟨by rw [ak ne];exact z,by rw [aG ne];exact q⟩
theorem gy {C:Addr} {f:Str} (cl:mL X.K C) (na:aE X.K C f) (ha:RE X G o ta) (hv:RE X G value tv) (hs:swapsWith value (some (.Attribute o f pos')) pos.line X.env=pure false:=by rfl):RS X G (.Assign [.Attribute o f pos'] value pos) (FQ C ta tv f) :=
 ⟨wJ (L2.Ht ha.run hv.run hs) fun D σ H ⟨τ,J,D2,a2,h,g⟩=>⟨τ,J,_,a2,h,fun y J1 v H1 ry r1 e1 q1=>⟨τ,J1,_,a2.go r1 e1,q1,fun x J2 w H2 rx r2 e2 ⟨a,fs,ex,ja,hl,q2⟩=>by
  subst ex;cases rx
  obtain ⟨dx,gs,h2,rf⟩:=r2 _ _ ja
  have ll:gs.length=fs.length:=by have:=congrArg List.length rf.1;simpa using this.symm
  have e3:=Ext.Ia (K:=X.K) (gs:=l_ f y fs) (gs':=dW f v gs) ja h2
  refine ⟨a,C,dx,gs,rfl,h2,cl,na,by omega,g.nx τ _ σ _ (((a2.sl.ext e1).ext e2).ext e3) ?_ ((e1.trans e2).trans e3) q2⟩
  refine r2.vp e3 a (fun b ne=>ak ne) (fun b o ne _ z=>by rw [aG ne];exact z) fun u z=>?_
  rw [au] at z;cases z
  exact ⟨dx,_,aA,e3.uV (uO (e2.rep ry) rf)⟩⟩⟩⟩
def HC (c:j5) (tb:gI):gI:=fun D τ J=>∃ W:Nat→Sr→Hq→Prop,(∃ m,W m τ J)∧∀ m τ J,W m τ J →
 c τ J fun b J1=>if b=true then ∃ N:Sr→Hq→Prop,(∀ τ' J',N τ' J'→∃ m',m' < m∧W m' τ' J')∧tb { D with nx:=N,ct:=N,bk:=D.nx } τ J1 else D.nx τ J1
theorem oU {c:Expr} {body:List Stmt} {tb:gI} (hp:PassesOwn (model X.prog X.w) X.A X.env X.xe) (hc:RT X G c tc) (hb:RB X G body tb):RS X G (.While c body [] pos) (HC tc tb):=⟨wJ (L2.jq hp hc.run hb.run) fun D σ H ⟨τ,J,D2,a2,⟨W,⟨m0,w0⟩,h⟩,g⟩=>by
 refine ⟨fun m σ' H'=>∃ τ' J',tO X.K G τ' J' σ' H'∧Ext X.K J H J' H'∧W m τ' J',⟨m0,τ,J,a2,.refl,w0⟩,fun m σ1 H1 ⟨τ1,J1,a1,e1,w1⟩=>?_⟩
 refine ⟨τ1,J1,_,a1,h m τ1 J1 w1,fun b J2 H2 r2 e2 q=>?_⟩
 cases b with
 | false=>simp only [Bool.false_eq_true,if_false] at q ⊢;exact g.nx τ1 J2 σ1 H2 (a1.sl.ext e2) r2 (e1.trans e2) q
 | true =>
  simp only [if_true] at q ⊢
  obtain ⟨N,hN,q⟩:=q
  refine ⟨fun σ' H'=>∃ τ' J',tO X.K G τ' J' σ' H'∧Ext X.K J H J' H'∧N τ' J',fun σ' H' ⟨τ',J',a',e',n'⟩=>let ⟨m',lt,w'⟩:=hN τ' J' n';⟨m',lt,τ',J',a',e',w'⟩,τ1,J2,{ D2 with nx:=N,ct:=N,bk:=D2.nx },a1.go r2 e2,q,?_⟩
  have ge:=g.ext (e1.trans e2)
  exact { nx:=fun τ' J' σ' H' rs rr ee q=>⟨τ',J',⟨rs,rr,(a1.ext.trans e2).trans ee⟩,(e1.trans e2).trans ee,q⟩,rt:=ge.rt,bk:=ge.nx,ct:=fun τ' J' σ' H' rs rr ee q=>⟨τ',J',⟨rs,rr,(a1.ext.trans e2).trans ee⟩,(e1.trans e2).trans ee,q⟩ }⟩
structure vM where
 xs:List PV
 ok:Hq→Prop
structure qa (K:PySem.W.Frag) (it:vM) (I:It) (J:Hq) (H:Hp):Prop where
 go:∀ J' H',Ext K J H J' H'→Rep K J' H'→it.ok J'→∀ i,i < it.xs.length→I.go i H'
 yl:∀ J' H',Ext K J H J' H'→Rep K J' H'→it.ok J'→∀ i,i < it.xs.length→∀ v H2,I.yld i H' v H2→∃ x,it.xs[i]?=some x∧bV K J' H2 x v∧Rep K J' H2∧Ext K J' H' J' H2
 stop:∀ J' H',Ext K J H J' H'→Rep K J' H'→it.ok J'→I.stop it.xs.length H'
abbrev qh:=Sr→Hq→(vM→Hq→Prop)→Prop
def LI (K:PySem.W.Frag) (G:G2) (t:qh):TI:=fun σ H R=>∃ τ J R2,tO K G τ J σ H∧t τ J R2∧∀ it J' I H',qa K it I J' H'→Rep K J' H'→Ext K J H J' H'→R2 it J'→R I H'
structure RI (X:Cx) (G:G2) (tg e:Expr) (t:qh):Prop where
 run:L2.PI X tg e (LI X.K G t)
theorem K4 {X:Cx} {tg e:Expr} {t t':TI} (h:L2.PI X tg e t) (k:∀ σ H Q,t' σ H Q→t σ H Q):L2.PI X tg e t':=fun pins s σ H Q I q=>h pins s σ H Q I (k _ _ _ q)
def JT (wi:qh) (g:vS) (tb:gI):gI:=fun D τ J=>wi τ J fun it J1=>∃ Pv:Nat→Sr→Hq→Prop,Pv 0 τ J1∧(∀ i τ J,Pv i τ J→it.ok J) ∧
 (∀ i x τ J,it.xs[i]?=some x→Pv i τ J→g x τ J fun τ2 J2=>tb { D with nx:=Pv (i + 1),ct:=Pv (i + 1),bk:=D.nx } τ2 J2)∧∀ τ J,Pv it.xs.length τ J→D.nx τ J
theorem jv {iter:Expr} {body:List Stmt} {wi:qh} {g:vS} {tb:gI} {pos:Pos} (hp:PassesOwn (model X.prog X.w) X.A X.env X.xe) (hc:X.calm=true) (hi:RI X G tg iter wi) (hg:RG X G tg g) (hb:RB X G body tb)
  (hs:∀ x,foldedSetIterable iter X.env x=pure x:=by intro _;rfl):RS X G (.For tg iter body [] pos) (JT wi g tb):=⟨wJ (L2.l6 hp hc hi.run hg.run hb.run hs) fun D σ H ⟨τ,J,D2,a2,h,g⟩=>by
 refine ⟨τ,J,_,a2,h,fun it J1 I H1 ir r1 e1 ⟨Pv,p0,pok,step,fin⟩=>?_⟩
 refine ⟨fun i m σ' H'=>m=it.xs.length - i∧i≤it.xs.length∧∃ τ' J',tO X.K G τ' J' σ' H'∧Ext X.K J1 H1 J' H'∧Pv i τ' J',⟨_,rfl,Nat.zero_le _,τ,J1,a2.go r1 e1,.refl,p0⟩,?_⟩
 rintro i m σ2 H2 ⟨rfl,hil,τ2,J2,a3,e3,p3⟩
 by_cases hlt:i < it.xs.length
 ·refine .inr ⟨ir.go J2 H2 e3 a3.hp (pok _ _ _ p3) i hlt,fun σ' H'=>∃ τ' J',tO X.K G τ' J' σ' H'∧Ext X.K J1 H1 J' H'∧Pv (i + 1) τ' J',fun σ' H' z=>⟨_,by omega,rfl,hlt,z⟩,fun v H4 y=>?_⟩
  obtain ⟨x,ex,rx,r4,e4⟩:=ir.yl J2 H2 e3 a3.hp (pok _ _ _ p3) i hlt v H4 y
  refine ⟨x,τ2,J2,_,rx,a3.go r4 e4,step i x τ2 J2 ex p3,fun τ5 J5 σ5 H5 rs5 r5 e5 q5=>?_⟩
  have ae:=(a3.ext.trans e4).trans e5
  have ge:=g.ext (((e1.trans e3).trans e4).trans e5)
  refine ⟨τ5,J5,{ D2 with nx:=Pv (i + 1),ct:=Pv (i + 1),bk:=D2.nx },⟨rs5,r5,ae⟩,q5,?_⟩
  exact { nx:=fun τ' J' σ' H' rs rr ee q=>⟨τ',J',⟨rs,rr,ae.trans ee⟩,((e3.trans e4).trans e5).trans ee,q⟩,rt:=ge.rt,bk:=ge.nx,ct:=fun τ' J' σ' H' rs rr ee q=>⟨τ',J',⟨rs,rr,ae.trans ee⟩,((e3.trans e4).trans e5).trans ee,q⟩ }
 ·have ei:i=it.xs.length:=by omega
  subst ei
  exact .inl ⟨ir.stop J2 H2 e3 a3.hp (pok _ _ _ p3),g.nx τ2 J2 σ2 H2 a3.sl a3.hp (e1.trans e3) (fin _ _ p3)⟩⟩
def K1 (J:Hq):PV→Option vM
 | .fl xs=>some ⟨xs,fun _=>True⟩
 | .ref a=>match J a with
  | some (.lst xs)=>some ⟨xs,fun J'=>J' a=some (.lst xs)⟩
  | _=>none
 | _=>none
def MT (te:cQ):qh:=fun τ J R=>te τ J fun x J1=>∃ it,K1 J1 x=some it∧R it J1
theorem qa.list {K:PySem.W.Frag} {it:vM} {a:Addr} {J:Hq} {H:Hp} (h:∀ J' H',Ext K J H J' H'→Rep K J' H'→it.ok J'→∃ vs,c8 K H' a vs∧aL K J' H' it.xs vs):qa K it (L2.Dg K a) J H where
 go:=fun J' H' e r o i hi=>by
  obtain ⟨vs,s,rs⟩:=h J' H' e r o
  exact ⟨vs,vs[i]'(by rw [← rs.length];exact hi),s,by simp⟩
 yl:=fun J' H' e r o i hi v H2 y=>by
  obtain ⟨vs,s,rs⟩:=h J' H' e r o
  obtain ⟨e1,y⟩:=y
  subst e1
  obtain ⟨x,ex,rx⟩:=rs.get' (y vs s)
  exact ⟨x,ex,rx,r,.refl⟩
 stop:=fun J' H' e r o=>by
  obtain ⟨vs,s,rs⟩:=h J' H' e r o
  exact ⟨vs,s,by rw [rs.length];exact Nat.le_refl _⟩
theorem fQ {l:Expr} {tl:cQ} (hl:RE X G l tl):RI X G tg l (MT tl):=⟨K4 (L2.k4 hl.run) fun σ H R ⟨τ,J,R2,a2,h,k⟩=>⟨τ,J,_,a2,h,fun x J1 v H1 rx r1 e1 ⟨it,ei,q⟩=>by
 cases x with
 | fl xs =>
  obtain ⟨a,vs,rfl,h1,h2⟩:=rx
  cases ei
  refine ⟨a,rfl,⟨vs,h1.sq⟩,k _ J1 _ H1 (.list fun J' H' e r _=>⟨vs,(e.flat h1).sq,e.iP h2⟩) r1 e1 q⟩
 | ref a =>
  cases rx
  unfold K1 at ei
  dsimp only at ei
  cases ej:J1 a with
  | none=>rw [ej] at ei;cases ei
  | some o =>
   rw [ej] at ei
   cases o with
   | lst xs =>
    cases ei
    obtain ⟨vs,h1,h2⟩:=r1 _ _ ej
    refine ⟨a,rfl,⟨vs,.inl (.inl h1)⟩,k _ J1 _ H1 (.list fun J' H' e r o=>?_) r1 e1 q⟩
    obtain ⟨vs',h1',h2'⟩:=r _ _ o
    exact ⟨vs',.inl (.inl h1'),h2'⟩
   | _=>cases ei
 | _=>cases ei⟩⟩
def Nn (te:cQ):qh:=fun τ J R=>te τ J fun x J1=>∃ xs,x=.tup xs∧R ⟨xs,fun _=>True⟩ J1
def rH (lo:Int) (n:Nat):List PV:=(List.range n).map fun (i:Nat)=>PV.int (lo + (i:Int))
theorem kT (lo:Int) (n:Nat):(rH lo n).length=n:=by simp [rH]
theorem ui (lo:Int) (n i:Nat) (x:PV):(rH lo n)[i]?=some x↔i < n∧x=.int (lo + i):=by
 unfold rH
 rw [List.getElem?_map]
 by_cases h:i < n
 ·rw [List.getElem?_range h];simp [h,eq_comm]
 ·rw [List.getElem?_eq_none (by simpa using h)];simp [h]
theorem qa.Io {K:PySem.W.Frag} {J:Hq} {H:Hp} (lo:Int) (n:Nat):qa K ⟨rH lo n,fun _=>True⟩ (L2.Ao lo n) J H where
 go:=fun J' H' e r o i hi=>by
  show i < n
  simpa [kT] using hi
 yl:=fun J' H' e r o i hi v H2 y=>by
  obtain ⟨e1,y⟩:=y
  subst e1 y
  exact ⟨.int (lo + i),(ui lo n i _).mpr ⟨by simpa [kT] using hi,rfl⟩,rfl,r,.refl⟩
 stop:=fun J' H' e r o=>by
  show n≤(rH lo n).length
  rw [kT];exact Nat.le_refl _
def MU (ta:mZ):qh:=fun τ J R=>ta τ J fun vs J1=>∃ j:Int,vs=[.int j]∧-(2 ^ 62)≤j∧j < 2 ^ 62∧R ⟨rH 0 j.toNat,fun _=>True⟩ J1
def Nl (ta:mZ):qh:=fun τ J R=>ta τ J fun vs J1=>∃ i j:Int,vs=[.int i,.int j]∧(-(2 ^ 62)≤i∧i < 2 ^ 62∧-(2 ^ 62)≤j∧j < 2 ^ 62)∧R ⟨rH i (j - i).toNat,fun _=>True⟩ J1
theorem mf {a:Expr} {ta:mZ} {p pos:Pos} (hg:Gl X "range") (hm:X.mg "range"=none) (ha:RA X G [a] ta) (hs:starEach [a] X.env=[(false,eval a X.env)]:=by rfl):RI X G tg (.Call (.Name "range" p) [a] [] pos) (MU ta) :=
 ⟨K4 (L2.fj hg hm ha.run hs) fun σ H R ⟨τ,J,R2,a2,h,k⟩=>⟨τ,J,_,a2,h,fun xs J1 vs H1 rs r1 e1 ⟨j,ej,l1,l2,q⟩=>by
  subst ej
  obtain ⟨v,us,rfl,rv,e'⟩:=rs
  cases rv;cases e'
  exact ⟨j,rfl,l1,l2,k _ J1 _ H1 (.Io 0 _) r1 e1 q⟩⟩⟩
def fG (C:Addr) (E2:Addr→Hq→Prop) (t:mZ):gI:=fun _ τ J=>t τ J fun xs J1=>xs.length≤sizeLine∧E2 C J1
theorem dP {E:XK} {E2:Addr→Hq→Prop} {C:Addr} {x:Str} {t:mZ} {np cpos:Pos} (O:Own X.K X.mg x C) (hc:X.calm=true) (hx:Throws X E) (kn:Gg X.K G.1 G.2 E2 E) (hg:Gl X x) (ha:RA X G (e :: es) t)
  (hd:(x == ("__debug__":Str))=false:=by decide) (he:starEach (e :: es) X.env=(false,eval e X.env) :: starEach es X.env:=by rfl) (hpl:(backTo cpos (starEach es X.env)).any (·.1)=false:=by rfl) :
  RS X G (.Raise (some (.Call (.Name x np) (e :: es) [] cpos)) none pos) (fG C E2 t):=⟨wJ (zQ O hc hx hg ha.run hd he hpl) fun D σ H ⟨τ,J,D2,a2,h,g⟩ =>
 ⟨τ,J,_,a2,h,fun xs J1 vs H1 rs r1 e1 ⟨hl,q⟩=>⟨by rw [← rs.length];exact hl,kn C J1 H1 r1 (a2.ext.trans e1) q⟩⟩⟩
end
section
variable {P:Program} {w:World} {K:PySem.W.Frag} {mg:Str→Option Value} {base:Heap}
def w_ (N:List Str) (xs:List PV):Sr:=xs.map some ++ List.replicate (N.length - xs.length) none
theorem CK {J:Hq} {H:Hp} {N:List Str} {xs:List PV} {vs:List V} (r:aL K J H xs vs):j4 K J H (w_ N xs) (L2.start N vs):=by
 refine ⟨by simp [w_,L2.start,r.length],fun i x e=>?_⟩
 unfold w_ at e
 unfold L2.start
 by_cases hi:i < xs.length
 ·rw [List.getElem?_append_left (by simpa using hi),List.getElem?_map] at e
  cases ex:xs[i]? with
  | none=>rw [ex] at e;cases e
  | some y =>
   rw [ex] at e
   cases e
   obtain ⟨v,h1,h2⟩:=r.get ex
   exact ⟨v,by rw [List.getElem?_append_left (by rw [List.length_map,← r.length];exact hi),List.getElem?_map,h1];rfl,h2⟩
 ·rw [List.getElem?_append_right (by simpa using hi)] at e
  have:=List.mem_of_getElem? e
  rw [List.mem_replicate] at this
  cases this.2
theorem MZ {x qual:Str} {st:Stmt} {f:Addr} {fd:FuncData} {N ps:List Str} {k:Nat} {sp:cT} (F:cq K x qual st f fd) (S:aw N ps (L2.ai st)) (len:∀ xs J Q E,sp xs J Q E→xs.length=ps.length)
  (hbody:∀ (cdv:Value) (A:Around) (outer:List Env) (s:Shared) (H:Hp) (E:XK) (G:G2) (xs:List PV) (J:Hq) (Q:PV→Hq→Prop) (E2:Addr→Hq→Prop),bI k (A.deeper (envOfC qual (L2.ai st) s.heap.objs.size f cdv))→sp xs J Q E2 →
   C5 (Ag P w K mg base N qual (L2.ai st) f cdv A outer s H E) G E2 E →
   ∃ t,RB (Ag P w K mg base N qual (L2.ai st) f cdv A outer s H E) G (L2.bO st) t∧t { nx:=fun _ J'=>Q .non J',rt:=Q } (w_ N xs) J):aQ P w K mg base (dt P w) (k + 1) f fd ps (d7 K sp):=by
 refine Nv F S (fun vs H Q E ⟨xs,J,Q2,E2,a,_,b,_⟩=>by rw [← a.length];exact len _ _ _ _ b) fun cdv A outer s H vs Q E hr ⟨xs,J,Q2,E2,rs,rr,hs,kn,ke⟩=>?_
 obtain ⟨t,hb,q⟩:=hbody cdv A outer s H E (J,H) xs J Q2 E2 hr hs ⟨vX,ke⟩
 refine ⟨_,⟨hb.run⟩,w_ N xs,J,_,⟨CK rs,rr,.refl⟩,q,?_⟩
 exact { nx:=fun τ J' σ H' _ r e q=>kn .non J' .non H' rfl r e q,rt:=fun x J' v H' rx r e q=>kn x J' v H' rx r e q,bk:=fun _ _ _ _ _ _ _ q=>q.elim,ct:=fun _ _ _ _ _ _ _ q=>q.elim }
theorem _root_.Ov.Def.gK {x:Str} {st:Stmt} {k:Nat} {ps:List Str} {sp:cT} (D:Def K mg x st)
  (h:∀ f fd,cq K x x st f fd→aQ P w K mg base (dt P w) k f fd ps (d7 K sp))
  (hb:∀ (kV doc pm:Value) (an:Option Addr) (cdv ct:Value) (us:List Value),us.length=ps.length→bindArgs (PySem.W.fnOf x x (L2.cK st) (L2.bO st) (L2.ai st) .none kV doc pm an cdv ct) ⟨us,[]⟩=pure (ps.zip us)) :
  bG P w K mg base k x ps sp:=D.Ll h hb
end
section
variable {X:Cx} {K:PySem.W.Frag}
def Ew (g:Int→Int→PV):kA:=fun x y J Q=>∃ i j,x=.int i∧y=.int j∧Q (g i j) J
def qI (C:Int→Int→Prop) (g:Int→Int→PV):kA:=fun x y J Q=>∃ i j,x=.int i∧y=.int j∧C i j∧Q (g i j) J
theorem qF {g:Int→Int→V} {g':Int→Int→PV} (hg:∀ J H i j,bV K J H (g' i j) (g i j)):LR K (L2.Dc g) (Ew g'):=fun J H x y v w Q2 Q rx ry r ⟨i,j,ex,ey,q⟩ k=>by
 subst ex ey;exact ⟨i,j,rx,ry,k _ J _ H (hg _ _ _ _) r .refl q⟩
theorem G5 {C:Int→Int→Prop} {g:Int→Int→V} {g':Int→Int→PV} (hg:∀ J H i j,bV K J H (g' i j) (g i j)):LR K (L2.rI C g) (qI C g'):=fun J H x y v w Q2 Q rx ry r ⟨i,j,ex,ey,c,q⟩ k=>by
 subst ex ey;exact ⟨i,j,rx,ry,c,k _ J _ H (hg _ _ _ _) r .refl q⟩
theorem d5:lJ X (binaryOp .Add) (Ew fun i j=>.int (i + j)):=⟨_,L2.iq,qF fun _ _ _ _=>rfl⟩
theorem eR:lJ X (binaryOp .Sub) (Ew fun i j=>.int (i - j)):=⟨_,L2.wz,qF fun _ _ _ _=>rfl⟩
theorem cI:lJ X (binaryOp .Mult) (qI CM fun i j=>.int (i * j)):=⟨_,cg,G5 fun _ _ _ _=>rfl⟩
theorem kZ:lJ X (binaryOp .FloorDiv) (qI CQ fun i j=>.int (i.fdiv j)):=⟨_,fE,G5 fun _ _ _ _=>rfl⟩
theorem d6:lJ X (binaryOp .Mod) (qI (fun _ j=>0 < j) fun i j=>.int (i % j)):=⟨_,L2.fF,G5 fun _ _ _ _=>rfl⟩
theorem iH:lJ X (compareOp .Lt) (Ew fun i j=>.bl (decide (i < j))):=⟨_,L2.xX,qF fun _ _ _ _=>rfl⟩
theorem BN:lJ X (compareOp .LtE) (Ew fun i j=>.bl (decide (i≤j))):=⟨_,L2.FF,qF fun _ _ _ _=>rfl⟩
theorem mD:lJ X (compareOp .Gt) (Ew fun i j=>.bl (decide (j < i))):=⟨_,L2.FE,qF fun _ _ _ _=>rfl⟩
theorem BL:lJ X (compareOp .GtE) (Ew fun i j=>.bl (decide (j≤i))):=⟨_,L2.FD,qF fun _ _ _ _=>rfl⟩
def qU (g:Int→PV):Iw:=fun x J Q=>∃ i,x=.int i∧Q (g i) J
theorem pf:MN X (unaryOp .USub) (qU fun i=>.int (-i)):=⟨_,L2.C2,fun J H x v Q2 Q rx r ⟨i,ex,q⟩ k=>by subst ex;exact ⟨i,rx,k (.int (-i)) J _ H rfl r .refl q⟩⟩
def JL:kA:=fun x y J Q=>∃ i j,x=.str i∧y=.str j∧Q (.bl (decide (i.cps.toList < j.cps.toList))) J
theorem Hl:lJ X (compareOp .Lt) JL:=⟨_,L2.zL,fun J H x y v w Q2 Q rx ry r ⟨i,j,ex,ey,q⟩ k=>by subst ex ey;exact ⟨i,j,rx,ry,k (.bl _) J _ H rfl r .refl q⟩⟩
def Bc:PV→Bool
 | .non=>true
 | _=>false
theorem xP {J:Hq} {H:Hp} {x:PV} {v:V} (r:bV K J H x v):decide (v=.non)=Bc x:=by
 cases x with
 | non=>cases r;rfl
 | tup xs=>obtain ⟨a,vs,rfl,_⟩:=r;rfl
 | fl xs=>obtain ⟨a,vs,rfl,_⟩:=r;rfl
 | _=>cases r;rfl
def M4:kA:=fun x y J Q=>y=.non∧Q (.bl (Bc x)) J
def B':kA:=fun x y J Q=>y=.non∧Q (.bl (!Bc x)) J
theorem Jw:lJ X (compareOp .Is) M4:=⟨_,L2.Hh,fun J H x y v w Q2 Q rx ry r ⟨ey,q⟩ k=>by subst ey;cases ry;exact ⟨rfl,by rw [xP rx];exact k (.bl _) J _ H rfl r .refl q⟩⟩
theorem uF:lJ X (compareOp .IsNot) B':=⟨_,L2.D7,fun J H x y v w Q2 Q rx ry r ⟨ey,q⟩ k=>by subst ey;cases ry;exact ⟨rfl,by rw [xP rx];exact k (.bl _) J _ H rfl r .refl q⟩⟩
mutual
def gS:PV→Py
 | .non=>.non | .bl b=>.bl b | .int i=>.int i | .str x=>.str x | .ref _=>.non | .ty _=>.non | .tup xs=>.tup (jt xs) | .fl xs=>.lst (jt xs)
def jt:List PV→List Py
 | []=>[]
 | x :: xs=>gS x :: jt xs
end
mutual
def l9:PV→Bool
 | .ref _=>false | .ty _=>false | .tup xs=>ka xs | .fl xs=>ka xs | _=>true
def ka:List PV→Bool
 | []=>true
 | x :: xs=>l9 x && ka xs
end
mutual
theorem rj {J:Hq} {H:Hp}:∀ {x:PV} {v:V},l9 x=true→bV K J H x v→At K H (gS x) v
 | .non,_,_,h=>h
 | .bl _,_,_,h=>h
 | .int _,_,_,h=>h
 | .str _,_,_,h=>h
 | .tup xs,_,p,⟨a,vs,e,h,k⟩=>⟨a,vs,e,h,nX (by simpa [l9] using p) k⟩
 | .fl xs,_,p,⟨a,vs,e,h,k⟩=>⟨a,vs,e,h.sq,nX (by simpa [l9] using p) k⟩
theorem nX {J:Hq} {H:Hp}:∀ {xs:List PV} {vs:List V},ka xs=true→aL K J H xs vs→pz K H (jt xs) vs
 | [],_,_,h=>h
 | x :: xs,_,p,⟨v,us,e,h,k⟩=>by
  have p':l9 x=true∧ka xs=true:=by simpa [ka] using p
  exact ⟨v,us,e,rj p'.1 h,nX p'.2 k⟩
end
def eqQ (x y:PV):Bool:=jG (gS x) (gS y)
def Gy (x:PV):Prop:=l9 x=true∧dep (gS x)≤60
def B9 (f:Bool→Bool):kA:=fun x y J Q=>Gy x∧l9 y=true∧Q (.bl (f (eqQ x y))) J
theorem Fy (f:Bool→Bool):LR K (rP K f) (B9 f):=fun J H x y v w Q2 Q rx ry r ⟨⟨px,d⟩,py,q⟩ k=>⟨gS x,gS y,rj px rx,rj py ry,d,k (.bl _) J _ H rfl r .refl q⟩
theorem cm (hu:X.A.units + 61 < cLine):lJ X (compareOp .Eq) (B9 id):=⟨_,He hu,Fy id⟩
theorem mE (hu:X.A.units + 61 < cLine):lJ X (compareOp .NotEq) (B9 not):=⟨_,Hi hu,Fy not⟩
def eO (J:Hq):PV→PV→Option PV
 | .tup xs,.int i=>cU xs i
 | .fl xs,.int i=>cU xs i
 | .ref a,.int i=>match J a with
  | some (.lst xs)=>cU xs i
  | _=>none
 | _,_=>none
theorem aL.cU {J:Hq} {H:Hp} {xs:List PV} {vs:List V} {i:Int} {x:PV} (r:aL K J H xs vs) (h:L2.cU xs i=some x):∃ v,L2.cU vs i=some v∧bV K J H x v:=by
 unfold L2.cU at h ⊢
 rw [← r.length]
 cases e:L2.Ah xs.length i with
 | none=>rw [e] at h;cases h
 | some j =>
  rw [e] at h
  obtain ⟨v,h1,h2⟩:=r.get h
  exact ⟨v,h1,h2⟩
def C_:kA:=fun x y J Q=>∃ v,eO J x y=some v∧Q v J
theorem av:Ld X C_:=⟨_,L2.rL.or L2.cx,fun J H x y v w Q2 Q rx ry r ⟨z,ez,q⟩ k=>by
 cases y with
 | int i =>
  cases ry
  cases x with
  | tup xs =>
   obtain ⟨a,vs,rfl,h1,h2⟩:=rx
   obtain ⟨u,e1,e2⟩:=h2.cU (show L2.cU xs i=some z from ez)
   exact .inr ⟨a,vs,i,u,rfl,rfl,h1,e1,k z J u H e2 r .refl q⟩
  | fl xs =>
   obtain ⟨a,vs,rfl,h1,h2⟩:=rx
   obtain ⟨u,e1,e2⟩:=h2.cU (show L2.cU xs i=some z from ez)
   exact .inl ⟨a,vs,i,u,rfl,rfl,h1.sq,e1,k z J u H e2 r .refl q⟩
  | ref a =>
   cases rx
   unfold eO at ez
   dsimp only at ez
   cases ej:J a with
   | none=>rw [ej] at ez;cases ez
   | some o =>
    rw [ej] at ez
    cases o with
    | lst xs =>
     obtain ⟨vs,h1,h2⟩:=r _ _ ej
     obtain ⟨u,e1,e2⟩:=h2.cU (show L2.cU xs i=some z from ez)
     exact .inl ⟨a,vs,i,u,rfl,rfl,.inl (.inl h1),e1,k z J u H e2 r .refl q⟩
    | _=>cases ez
  | _=>cases ez
 | _=>cases x <;> cases ez⟩
def mP (xs:List PV) (lo hi:Option Int):List PV:=(xs.drop (HT.dB xs.length 0 lo)).take (HT.dB xs.length xs.length hi - HT.dB xs.length 0 lo)
theorem xu {J:Hq} {H:Hp} {xs:List PV} {vs:List V} {lo hi:Option Int} (r:aL K J H xs vs):aL K J H (mP xs lo hi) (L2.lQ vs lo hi):=by
 unfold mP L2.lQ
 rw [← r.length]
 exact (r.drop _).take _
def JP:yW:=fun x lo hi J Q=>∃ xs,x=.tup xs∧¬ (HT.dB xs.length 0 lo=0∧HT.dB xs.length xs.length hi=xs.length)∧Q (.tup (mP xs lo hi)) J
theorem w9:Lh X JP:=⟨_,L2.HN,fun J H x lo hi v Q2 Q rx r ⟨xs,ex,hn,q⟩ k=>by
 subst ex
 obtain ⟨a,vs,rfl,h1,h2⟩:=rx
 refine ⟨a,vs,rfl,h1,by rw [← h2.length];exact hn,fun p hp=>?_⟩
 have sm:=bt.new hp (.tup (L2.lQ vs lo hi))
 have e2:=Ext.same (K:=X.K) (J:=J) sm
 exact k (.tup (mP xs lo hi)) J (.ref p) _ ⟨p,_,rfl,.inl (.inl aA),e2.iP (xu h2)⟩ (r.same sm) e2 q⟩
def pw (J:Hq):PV→Option (List PV)
 | .fl xs=>some xs
 | .ref a=>match J a with
  | some (.lst xs)=>some xs
  | _=>none
 | _=>none
theorem rV {J:Hq} {H:Hp} {x:PV} {v:V} {xs:List PV} (rx:bV K J H x v) (r:Rep K J H) (h:pw J x=some xs):∃ a vs,v=.ref a∧c8 K H a vs∧aL K J H xs vs:=by
 cases x with
 | fl ys=>obtain ⟨a,vs,rfl,h1,h2⟩:=rx;cases h;exact ⟨a,vs,rfl,h1.sq,h2⟩
 | ref a =>
  cases rx
  unfold pw at h
  dsimp only at h
  cases ej:J a with
  | none=>rw [ej] at h;cases h
  | some o =>
   rw [ej] at h
   cases o with
   | lst ys=>cases h;obtain ⟨vs,h1,h2⟩:=r _ _ ej;exact ⟨a,vs,rfl,.inl (.inl h1),h2⟩
   | _=>cases h
 | _=>cases h
def JO:yW:=fun x lo hi J Q=>∃ xs,pw J x=some xs∧Q (.fl (mP xs lo hi)) J
theorem Kr:Lh X JO:=⟨_,L2.tu,fun J H x lo hi v Q2 Q rx r ⟨xs,ex,q⟩ k=>by
 obtain ⟨a,vs,rfl,h1,h2⟩:=rV rx r ex
 refine ⟨a,vs,rfl,h1,fun p hp=>?_⟩
 obtain ⟨x1,x2,x3⟩:=wx r (xu (lo:=lo) (hi:=hi) h2) hp
 exact k _ J _ _ x1 x2 x3 q⟩
def Mf:yW:=fun x lo hi J Q=>∃ xs,pw J x=some xs∧∀ p,J p=none→Q (.ref p) (put J p (.lst (mP xs lo hi)))
def JD:xo:=fun xs J Q=>∃ i,xs=[.int i]∧Q (.int (if i < 0 then -i else i)) J
theorem vW:Ge X (.builtin "abs") JD:=⟨_,L2.kL,fun J H xs vs Q2 Q rs r ⟨i,ex,q⟩ k=>by
 subst ex;obtain ⟨v,us,rfl,rv,e⟩:=rs;cases rv;cases e
 exact ⟨i,rfl,k (.int _) J _ H rfl r .refl q⟩⟩
def uo (J:Hq):PV→Option Nat
 | .tup xs=>some xs.length
 | x=>(pw J x).map List.length
def JJ:xo:=fun xs J Q=>∃ x n,xs=[x]∧uo J x=some n∧Q (.int n) J
theorem bW:Ge X (.builtin "len") JJ:=⟨_,L2.hX,fun J H xs vs Q2 Q rs r ⟨x,n,ex,en,q⟩ k=>by
 subst ex;obtain ⟨v,us,rfl,rv,e⟩:=rs;cases e
 have go:∀ ys,pw J x=some ys→ys.length=n→∃ p ws,([v]:List V)=[.ref p]∧(c8 X.K H p ws∨eL X.K H p ws)∧Q (.int ws.length) H:=fun ys h1 h2=>by
  obtain ⟨a,ws,rfl,h3,h4⟩:=rV rv r h1
  exact ⟨a,ws,rfl,.inl h3,by rw [← h4.length,h2];exact k (.int _) J _ H rfl r .refl q⟩
 cases x with
 | tup ys =>
  obtain ⟨a,ws,rfl,h1,h2⟩:=rv
  cases en
  exact ⟨a,ws,rfl,.inr h1,by rw [← h2.length];exact k (.int _) J _ H rfl r .refl q⟩
 | fl ys=>cases en;exact go _ rfl rfl
 | ref a =>
  unfold uo at en
  cases el:pw J (.ref a) with
  | none=>simp [el] at en
  | some ys=>simp [el] at en;exact go _ el en
 | _=>cases en⟩
def Ab (J:Hq):PV→Option String
 | .non=>some "NoneType" | .bl _=>some "bool" | .int _=>some "int" | .str _=>some "str" | .tup _=>some "tuple" | .fl _=>some "list"
 | .ref a=>match J a with
  | some (.lst _)=>some "list"
  | some (.dct _ _)=>some "dict"
  | _=>none
 | _=>none
def kq (t n:String):Option Bool :=
 if n∈["int","bool","str","tuple","list"] then some (t == n || (t == "bool" && n == "int")) else none
theorem DK (K:PySem.W.Frag) {t n:String} {b:Bool} (ht:t∈["NoneType","bool","int","str","tuple","list","dict"]) (h:kq t n=some b):PySem.W.kitOne K (.type t) (.type n)=some b:=by
 unfold kq at h
 by_cases hn:n∈["int","bool","str","tuple","list"]
 ·rw [if_pos hn] at h
  simp only [List.mem_cons,List.not_mem_nil,or_false] at ht hn
  rcases ht with rfl | rfl | rfl | rfl | rfl | rfl | rfl <;> rcases hn with rfl | rfl | rfl | rfl | rfl <;> cases h <;> with_unfolding_all rfl
 ·rw [if_neg hn] at h;cases h
theorem E_ {J:Hq} {x:PV} {t:String} (h:Ab J x=some t):t∈["NoneType","bool","int","str","tuple","list","dict"]:=by
 cases x with
 | ref a =>
  unfold Ab at h
  dsimp only at h
  cases ej:J a with
  | none=>rw [ej] at h;cases h
  | some o=>rw [ej] at h;cases o <;> cases h <;> simp
 | ty n=>cases h
 | _=>cases h;simp
def JH:xo:=fun xs J Q=>∃ x n t b,xs=[x,.ty n]∧Ab J x=some t∧kq t n=some b∧Q (.bl b) J
theorem yY:bT X (.builtin "isinstance") (fun xs H Q=>∃ x n t b,xs=[x,.ty n]∧(fu X.K H x (.type t)∨(t="tuple"∧∃ a vs,x=.ref a∧eL X.K H a vs)∨(t="list"∧∃ a vs,x=.ref a∧c8 X.K H a vs))∧PySem.W.kitOne X.K (.type t) (.type n)=some b∧Q (.bl b) H):=by
 intro pins s σ H xs us Q I r h
 obtain ⟨x,n,t,b,rfl,ty,e,q⟩:=h
 obtain ⟨u,w',rfl,rx,ry⟩:=L2.vals2 r
 cases (show w'=Value.type n from ry)
 rcases ty with ty | ⟨rfl,a,vs,rfl,hs⟩ | ⟨rfl,a,vs,rfl,hs⟩
 ·exact L2.zg I rx ty e fun tk=>⟨.bl b,H,I.tok _,rfl,q⟩
 ·cases rx
  obtain ⟨its,_,⟨o,h1,h2,_⟩,_⟩:=I.tuple hs
  exact PySem.W.kia_one PySem.W.kitx_tuple I.kU ⟨o,h1,h2⟩ e (fun z=>nomatch z) fun tk=>⟨.bl b,H,I.tok _,rfl,q⟩
 ·cases rx
  obtain ⟨its,_,⟨o,_,h1,h2,_⟩,_⟩:=I.list hs
  exact PySem.W.kia_one PySem.W.kitx_list I.kU ⟨o,h1,h2⟩ e (fun z=>nomatch z) fun tk=>⟨.bl b,H,I.tok _,rfl,q⟩
theorem iZ:Ge X (.builtin "isinstance") JH:=⟨_,yY,fun J H xs vs Q2 Q rs r ⟨x,n,t,b,ex,et,es,q⟩ k=>by
 subst ex
 obtain ⟨v,us,rfl,rv,w,us',rfl,rw',e⟩:=rs
 cases rw';cases e
 refine ⟨v,n,t,b,rfl,?_,DK X.K (E_ et) es,k (.bl _) J _ H rfl r .refl q⟩
 cases x with
 | non=>cases rv;cases et;exact .inl .non
 | bl i=>cases rv;cases et;exact .inl (.bl i)
 | int i=>cases rv;cases et;exact .inl (.int i)
 | str i=>cases rv;cases et;exact .inl (.str i)
 | tup xs=>obtain ⟨a,ws,rfl,h1,_⟩:=rv;cases et;exact .inr (.inl ⟨rfl,a,ws,rfl,h1⟩)
 | fl xs =>
  obtain ⟨a,ws,rfl,h1,_⟩:=rv;cases et
  exact .inr (.inr ⟨rfl,a,ws,rfl,h1.sq⟩)
 | ty n=>cases et
 | ref a =>
  cases rv
  unfold Ab at et
  dsimp only at et
  cases ej:J a with
  | none=>rw [ej] at et;cases et
  | some o =>
   rw [ej] at et
   have z:=r _ _ ej
   cases o with
   | lst xs=>obtain ⟨ws,h1,_⟩:=z;cases et;exact .inl (.lst h1)
   | dct kvs ep=>obtain ⟨gs,h1,_⟩:=z;cases et;exact .inl (.dE h1)
   | tab=>cases et
   | dtp hs ks=>cases et
   | ins C fs=>cases et⟩
def Hw:xo:=fun xs J Q=>∃ x ys,xs=[x]∧pw J x=some ys∧Q (.fl ys) J
def B8:xo:=fun xs J Q=>∃ x ys,xs=[x]∧pw J x=some ys∧∀ p,J p=none→Q (.ref p) (put J p (.lst ys))
theorem AG:Ge X (.type "list") B8:=⟨_,L2.rp,fun J H xs vs Q2 Q rs r ⟨x,ys,ex,el,q⟩ k=>by
 subst ex;obtain ⟨v,us,rfl,rv,e⟩:=rs;cases e
 obtain ⟨a,ws,rfl,h3,h4⟩:=rV rv r el
 exact ⟨a,ws,rfl,.inl h3,fun p hp=>k (.ref p) _ _ _ rfl (r.Bi hp h4) (.laid hp) (q p (r.free hp))⟩⟩
def Me:xo:=fun xs J Q=>∃ i j,xs=[.int i,.int j]∧Q (.int (if j > i then j else i)) J
def sI:Af:=fun x xs J Q=>∃ a ys y,x=.ref a∧xs=[y]∧J a=some (.lst ys)∧ys.length < sizeLine∧Q .non (put J a (.lst (ys ++ [y])))
theorem lZ:Ff X "list" "list.append" sI:=⟨_,L2.fi,fun J H x xs v vs Q2 Q rx rs r ⟨a,ys,y,ex,exs,ja,hl,q⟩ k=>by
 subst ex exs;cases rx;obtain ⟨w,us,rfl,rw',e⟩:=rs;cases e
 obtain ⟨ws,h1,h2⟩:=r _ _ ja
 exact ⟨a,ws,w,rfl,rfl,h1,by rw [← h2.length];exact hl,k .non _ _ _ rfl (r.wrote (ys:=ys ++ [y]) ja h1 (h2.append (show aL X.K J H [y] [w] from ⟨w,[],rfl,rw',rfl⟩))) (.wrote ja h1) q⟩⟩
def JM:Af:=fun x xs J Q=>∃ a ys y,x=.ref a∧xs=[]∧J a=some (.lst ys)∧ys[ys.length - 1]?=some y∧Q y (put J a (.lst ys.dropLast))
theorem aL.dropLast {J:Hq} {H:Hp} {xs:List PV} {vs:List V} (r:aL K J H xs vs):aL K J H xs.dropLast vs.dropLast:=by
 rw [List.dropLast_eq_take,List.dropLast_eq_take,← r.length]
 exact r.take _
theorem G9:Ff X "list" "list.pop" JM:=⟨_,L2.G_,fun J H x xs v vs Q2 Q rx rs r ⟨a,ys,y,ex,exs,ja,hy,q⟩ k=>by
 subst ex exs;cases rx;cases rs
 obtain ⟨ws,h1,h2⟩:=r _ _ ja
 obtain ⟨w,e1,e2⟩:=h2.get hy
 have ex:=Ext.wrote (K:=X.K) (ys:=ys.dropLast) (vs:=ws.dropLast) ja h1
 exact ⟨a,ws,w,rfl,rfl,h1,by rw [← h2.length];exact e1,k y _ w _ (ex.rep e2) (r.wrote ja h1 h2.dropLast) ex q⟩⟩
def Hv:Af:=fun x xs J Q=>∃ a ys,x=.ref a∧xs=[]∧J a=some (.lst ys)∧Q .non (put J a (.lst []))
def Ez:V→List V→Hp→VK→Prop:=fun x vs H Q=>∃ l xs i y,x=.ref l∧vs=[.int (i:Nat),y]∧H l=some (.lst xs)∧i≤xs.length∧xs.length < sizeLine∧i < 2 ^ 62∧Q .non (upd H l (.lst (xs.take i ++ y :: xs.drop i)))
theorem v9 (its:List Value) (i:Nat) (u:Value) (h:i≤its.length):((its.toArray.extract 0 (min ((i:Int)).toNat its.toArray.size)).push u ++ its.toArray.extract (min ((i:Int)).toNat its.toArray.size))=(its.take i ++ u :: its.drop i).toArray:=by
 have e:min ((i:Int)).toNat its.toArray.size=i:=by simp;omega
 rw [e]
 apply Array.ext'
 simp
 exact List.take_of_length_le (by simp)
theorem zA:mO X "list.insert" Ez:=by
 intro pins s σ H x vs v us Q I rx rv h
 obtain ⟨l,xs,i,y,rfl,rfl,hH,hi,hz,hb,q⟩:=h
 cases rx
 obtain ⟨u,w,rfl,ru,rw'⟩:=L2.vals2 rv
 obtain ⟨t,rfl⟩:=ru
 obtain ⟨z,its,n,r,hl,e⟩:=I.Bs hH
 have h63:((i:Nat):Int) < 2 ^ 63:=by
  have:((i:Nat):Int) < ((2 ^ 62:Nat):Int):=Int.ofNat_lt.mpr hb
  exact Int.lt_trans this (by decide)
 have hf:Builtin.List.listFitsIndex ((i:Nat):Int)=true:=fitsIndex_both (Int.le_trans (by decide) (Int.natCast_nonneg i)) h63
 have hs:its.toArray.size≤sizeLine:=by rw [List.size_toArray,← hl];exact z
 have hn:¬(!Builtin.List.listFitsIndex ((i:Nat):Int))=true:=by rw [hf];exact fun z=>nomatch z
 have hneg:¬ (((i:Nat):Int) < 0):=by omega
 have hins:=v9 its i w (by omega)
 clear hb h63 hf
 generalize ((i:Nat):Int)=ii at *
 have mm:=PySem.AutoSeq1.list_insert_list_int_val_1 l its.toArray n ii t w hn hs
 refine call_meets PySem.F.slot_list_insert ⟨_,e,rfl⟩ PySem.F.entry_list_insert (PySem.F.args_list_insert_3 _ _ _) mm ⟨e,?_⟩
 refine ⟨.non,_,I.DO (its':=its.take i ++ w :: its.drop i) hH e ?_ ((r.take i).append (.cons rw' (r.drop i))) ?_,rfl,q⟩
 ·simp only [if_neg hneg]
  exact hins
 ·rw [List.length_append,List.length_cons,List.length_take,List.length_drop];omega
def x_:Af:=fun x xs J Q=>∃ a ys i y,x=.ref a∧xs=[.int (i:Nat),y]∧J a=some (.lst ys)∧i≤ys.length∧ys.length < sizeLine∧i < 2 ^ 62∧Q .non (put J a (.lst (ys.take i ++ y :: ys.drop i)))
theorem qG:Ff X "list" "list.insert" x_:=⟨_,zA,fun J H x xs v vs Q2 Q rx rs r ⟨a,ys,i,y,ex,exs,ja,hi,hl,hb,q⟩ k=>by
 subst ex exs;cases rx;obtain ⟨w0,us,rfl,rw0,w,us',rfl,rw',e⟩:=rs;cases e;cases rw0
 obtain ⟨ws,h1,h2⟩:=r _ _ ja
 exact ⟨a,ws,i,w,rfl,rfl,h1,by rw [← h2.length];exact hi,by rw [← h2.length];exact hl,hb,k .non _ _ _ rfl (r.wrote (ys:=ys.take i ++ y :: ys.drop i) ja h1 ((h2.take i).append (show aL X.K J H (y :: ys.drop i) (w :: ws.drop i) from ⟨w,_,rfl,rw',h2.drop i⟩))) (.wrote ja h1) q⟩⟩
end
def km (ks:List (Str × Nat)) (τ:Sr):Sr:=ks.map fun p=>(τ[p.2]?).getD none
theorem yj {K:PySem.W.Frag} {J:Hq} {H:Hp} {τ:Sr} {σ:L2.St} (r:j4 K J H τ σ) {x:PV} {v:V} (rx:bV K J H x v) (ks:List (Str × Nat)):j4 K J H (some x :: km ks τ) (some v :: cS ks σ):=by
 refine ⟨by simp [km,cS],fun i y e=>?_⟩
 cases i with
 | zero=>rw [List.getElem?_cons_zero] at e ⊢;cases e;exact ⟨v,rfl,rx⟩
 | succ i =>
  rw [List.getElem?_cons_succ] at e ⊢
  unfold km at e
  unfold cS
  rw [List.getElem?_map] at e ⊢
  cases ep:ks[i]? with
  | none=>rw [ep] at e;cases e
  | some p =>
   rw [ep] at e
   have e':(τ[p.2]?).getD none=some y:=Option.some.inj e
   have e2:τ[p.2]?=some (some y):=by
    cases q:τ[p.2]? with
    | none=>rw [q] at e';cases e'
    | some w=>rw [q] at e';exact congrArg some e'
   obtain ⟨v',h1,h2⟩:=r.get _ _ e2
   exact ⟨v',by show some ((σ[p.2]?).getD none)=_;rw [h1];rfl,h2⟩
def Sub (J J':Hq):Prop:=∀ a o,J a=some o→J' a=some o
theorem Sub.put {J:Hq} {D:Addr} {o:HQ} (h:J D=none):Sub J (put J D o):=fun a u e=>by
 have ne:a≠D:=by intro z;subst z;rw [h] at e;cases e
 rw [ak ne];exact e
def Le (it:vM) (J1:Hq) (ks:List (Str × Nat)) (τ:Sr) (tc:j5) (te:cQ) (c:PV→Bool) (g:PV→PV):Prop:=it.xs.length < sizeLine∧∀ J',Sub J1 J'→it.ok J' ∧
 ∀ x∈it.xs,tc (some x :: km ks τ) J' (fun b J2=>b=c x∧J2=J')∧(c x=true→te (some x :: km ks τ) J' fun y J2=>y=g x∧J2=J')
def pY (wi:qh) (ks:List (Str × Nat)) (tc:j5) (te:cQ):cQ:=fun τ J Q=>wi τ J fun it J1=>∃ (c:PV→Bool) (g:PV→PV),Le it J1 ks τ tc te c g∧Q (.fl ((it.xs.filter c).map g)) J1
def HA (wi:qh) (ks:List (Str × Nat)) (tc:j5) (te:cQ):cQ:=fun τ J Q=>wi τ J fun it J1=>∃ (c:PV→Bool) (g:PV→PV),Le it J1 ks τ tc te c g∧∀ p,J1 p=none→Q (.ref p) (put J1 p (.lst ((it.xs.filter c).map g)))
def uP:j5:=fun _ J Q=>Q true J
section
variable {X:Cx} {G:G2}
theorem mK {α:Type} (c:α→Bool) {xs:List α} {i:Nat} {x:α} (h:xs[i]?=some x):(xs.take (i + 1)).filter c=(xs.take i).filter c ++ (if c x=true then [x] else []):=by
 rw [List.take_add_one,h,List.filter_append]
 congr 1
 simp only [Option.toList_some,List.filter_cons,List.filter_nil]
theorem rR {K:PySem.W.Frag} {ks:List (Str × Nat)} {tc:j5} {te:cQ} {σ:L2.St} {H:Hp} {Q:VK} {τ:Sr} {J:Hq} (a2:tO K G τ J σ H) {it:vM} {J1:Hq} {I:It} {H1:Hp} (ir:qa K it I J1 H1) (r1:Rep K J1 H1) (e1:Ext K J H J1 H1) {c:PV→Bool} {g:PV→PV}
  (w:Le it J1 ks τ tc te c g)
  (q:∀ D H2,H1 D=none→J1 D=none→Rep K (put J1 D (.lst ((it.xs.filter c).map g))) H2→Ext K J1 H1 (put J1 D (.lst ((it.xs.filter c).map g))) H2→Q (.ref D) H2) :
  ∀ D,H1 D=none→∃ W:Nat→Nat→Hp→Prop,(∃ m,W 0 m (upd H1 D (.lst [])))∧∀ i m H2,W i m H2→(I.stop i H2∧Q (.ref D) H2) ∨
   (I.go i H2∧∀ v H3,I.yld i H2 v H3→LT K G tc (some v :: cS ks σ) H3 fun b H4=>if b=true then LE K G te (some v :: cS ks σ) H4 fun y H5=>∃ ys,H5 D=some (.lst ys)∧ys.length < sizeLine∧∃ m',m' < m∧W (i + 1) m' (upd H5 D (.lst (ys ++ [y]))) else ∃ m',m' < m∧W (i + 1) m' H4):=by
 intro D hD
 obtain ⟨hlen,w⟩:=w
 have jD:J1 D=none:=r1.free hD
 refine ⟨fun i m H2=>m=it.xs.length - i∧i≤it.xs.length∧Rep K (put J1 D (.lst (((it.xs.take i).filter c).map g))) H2∧Ext K J1 H1 (put J1 D (.lst (((it.xs.take i).filter c).map g))) H2,⟨_,rfl,Nat.zero_le _,r1.Bi (xs:=[]) (vs:=[]) hD rfl,.laid hD⟩,?_⟩
 rintro i m H2 ⟨rfl,hi,r2,e2⟩
 obtain ⟨ok,ww⟩:=w _ (Sub.put (o:=.lst (((it.xs.take i).filter c).map g)) jD)
 by_cases hlt:i < it.xs.length
 ·refine .inr ⟨ir.go _ H2 e2 r2 ok i hlt,fun v H3 y=>?_⟩
  obtain ⟨x,ex,rx,r3,e3⟩:=ir.yl _ H2 e2 r2 ok i hlt v H3 y
  obtain ⟨hc,he⟩:=ww x (List.mem_of_getElem? ex)
  have a3:tO K G (some x :: km ks τ) _ (some v :: cS ks σ) H3:=⟨yj (a2.sl.ext ((e1.trans e2).trans e3)) rx ks,r3,((a2.ext.trans e1).trans e2).trans e3⟩
  refine ⟨_,_,_,a3,hc,fun b J4 H4 r4 e4 ⟨eb,ej⟩=>?_⟩
  subst ej
  cases hb:c x with
  | false =>
   rw [eb,hb]
   simp only [Bool.false_eq_true,if_false]
   refine ⟨_,by omega,rfl,hlt,?_⟩
   rw [mK c ex,hb]
   simp only [Bool.false_eq_true,if_false,List.append_nil]
   exact ⟨r4,(e2.trans e3).trans e4⟩
  | true =>
   rw [eb,hb]
   simp only [if_true]
   refine ⟨_,_,_,a3.go r4 e4,he hb,fun z J5 u H5 rz r5 e5 ⟨ez,ej⟩=>?_⟩
   subst ej ez
   obtain ⟨ys,h5,ry⟩:=r5 D _ au
   have ll:ys.length≤i:=by
    rw [← ry.length,List.length_map]
    exact Nat.le_trans (List.length_filter_le _ _) (by rw [List.length_take];omega)
   have r6:=r5.wrote (ys:=((it.xs.take i).filter c).map g ++ [g x]) (vs:=ys ++ [u]) au h5 (ry.append (show aL K _ H5 [g x] [u] from ⟨u,[],rfl,rz,rfl⟩))
   have e6:=Ext.wrote (K:=K) (ys:=((it.xs.take i).filter c).map g ++ [g x]) (vs:=ys ++ [u]) (J:=put J1 D (.lst (((it.xs.take i).filter c).map g))) au h5
   rw [eZ] at r6 e6
   refine ⟨ys,h5,by omega,_,by omega,rfl,hlt,?_⟩
   rw [mK c ex,hb,if_pos rfl,List.map_append]
   exact ⟨r6,(((e2.trans e3).trans e4).trans e5).trans e6⟩
 ·have ei:i=it.xs.length:=by omega
  subst ei
  rw [List.take_length] at r2 e2 ok
  exact .inl ⟨ir.stop _ H2 e2 r2 ok,q D H2 hD jD r2 e2⟩
theorem freeze {K:PySem.W.Frag} {J1:Hq} {H2:Hp} {D:Addr} {xs:List PV} (jD:J1 D=none) (r:Rep K (put J1 D (.lst xs)) H2):bV K J1 H2 (.fl xs) (.ref D)∧Rep K J1 H2∧Ext K (put J1 D (.lst xs)) H2 J1 H2:=by
 obtain ⟨ys,h,ry⟩:=r D _ au
 have less:∀ a,J1 a=put J1 D (.lst xs) a∨J1 a=none:=fun a=>by
  by_cases e:a=D
  ·subst e;exact .inr jD
  ·rw [ak e];exact .inl rfl
 have e:=Ext.less (K:=K) (H:=H2) less
 exact ⟨⟨D,ys,rfl,.inl ⟨jD,.inl h⟩,e.iP ry⟩,r.less less,e⟩
theorem uj {wi:qh} {ks:List (Str × Nat)} {tc:j5} {te:cQ}:∀ σ H Q,LE X.K G (pY wi ks tc te) σ H Q→EZ (LI X.K G wi) ks (LT X.K G tc) (LE X.K G te) σ H Q:=fun σ H Q ⟨τ,J,Q2,a2,h,k⟩ =>
 ⟨τ,J,_,a2,h,fun it J1 I H1 ir r1 e1 ⟨c,g,w,q⟩=>rR (Q:=Q) a2 ir r1 e1 w fun D H2 hD jD r2 e2=>let ⟨x1,x2,x3⟩:=freeze jD r2;k _ J1 _ H2 x1 x2 ((e1.trans e2).trans x3) q⟩
theorem Bn {wi:qh} {ks:List (Str × Nat)} {tc:j5} {te:cQ}:∀ σ H Q,LE X.K G (HA wi ks tc te) σ H Q→EZ (LI X.K G wi) ks (LT X.K G tc) (LE X.K G te) σ H Q:=fun σ H Q ⟨τ,J,Q2,a2,h,k⟩ =>
 ⟨τ,J,_,a2,h,fun it J1 I H1 ir r1 e1 ⟨c,g,w,q⟩=>rR (Q:=Q) a2 ir r1 e1 w fun D H2 hD jD r2 e2=>k (.ref D) _ _ H2 rfl r2 (e1.trans e2) (q D jD)⟩
theorem Bl {wi:qh} {ks:List (Str × Nat)} {te:cQ}:∀ σ H Q,LE X.K G (pY wi ks uP te) σ H Q→K9 (LI X.K G wi) ks (LE X.K G te) σ H Q:=fun σ H Q ⟨τ,J,Q2,a2,h,k⟩ =>
 ⟨τ,J,_,a2,h,fun it J1 I H1 ir r1 e1 ⟨c,g,w,q⟩ D hD=>by
  obtain ⟨W,w0,turn⟩:=rR (Q:=Q) a2 ir r1 e1 w (fun D H2 hD jD r2 e2=>let ⟨x1,x2,x3⟩:=freeze jD r2;k _ J1 _ H2 x1 x2 ((e1.trans e2).trans x3) q) D hD
  refine ⟨W,w0,fun i m H2 hw=>?_⟩
  rcases turn i m H2 hw with z | ⟨go,z⟩
  ·exact .inl z
  ·refine .inr ⟨go,fun v H3 y=>?_⟩
   obtain ⟨τ',J',Q',a',t',k'⟩:=z v H3 y
   have:=k' true J' H3 a'.hp .refl t'
   simpa using this⟩
variable {elt iter cnd:Expr} {x y:Str} {px py:Pos} {sc:Scope} {pos spos:Pos} {wi:qh} {te:cQ} {tc:j5} {i:Nat}
theorem Cm (osc:Scope) (N:List Str) (ks:List (Str × Nat)) (hc:X.calm=true) (ho:X.env.scope=osc) (hN:X.N=N) (hi:RI X G (.Name x px) iter wi) (he:∀ cl C s₀ H₀ fp pins,RE (dT X sc cl C x ks s₀ H₀ fp pins) G elt te) (hcn:∀ cl C s₀ H₀ fp pins,RT (dT X sc cl C x ks s₀ H₀ fp pins) G cnd tc)
  (ok:bU sc osc N x ks:=by decide +kernel) (hs:∀ x,foldedSetIterable iter X.env x=pure x:=by intro _;rfl):RE X G (.ListComp elt [⟨.Name x px,iter,[cnd],0⟩] sc pos) (pY wi ks tc te) :=
 ⟨jJ (Hr osc N ks hc ho hN hi.run (fun cl C s₀ H₀ fp pins=>(he cl C s₀ H₀ fp pins).run) (fun cl C s₀ H₀ fp pins=>(hcn cl C s₀ H₀ fp pins).run) ok hs) uj⟩
theorem ox {t:cQ} {u:TE} (h:∀ σ H Q,LE X.K G t σ H Q→u σ H Q):∀ D σ H,LS X.K G (oQ t (C9 i)) D σ H→u σ H fun v H1=>D.nx (σ.set i (some v)) H1:=fun D σ H ⟨τ,J,D2,a2,q,g⟩ =>
 h σ H _ ⟨τ,J,_,a2,q,fun x J' v H' rx rr ee q=>g.nx _ J' _ H' ((a2.sl.ext ee).set i rx) rr ee q⟩
theorem HG (osc:Scope) (N:List Str) (ks:List (Str × Nat)) (hc:X.calm=true) (ho:X.env.scope=osc) (hN:X.N=N) (hnd:X.N.Nodup) (hy:X.N[i]?=some y) (hl:Loc X.env.scope y) (hi:RI X G (.Name x px) iter wi) (he:∀ cl C s₀ H₀ fp pins,RE (dT X sc cl C x ks s₀ H₀ fp pins) G elt te) (hcn:∀ cl C s₀ H₀ fp pins,RT (dT X sc cl C x ks s₀ H₀ fp pins) G cnd tc)
  (ok:bU sc osc N x ks:=by decide +kernel) (hs:∀ x,foldedSetIterable iter X.env x=pure x:=by intro _;rfl) (hsw:swapsWith (.ListComp elt [⟨.Name x px,iter,[cnd],0⟩] sc pos) (some (.Name y py)) spos.line X.env=pure true:=by rfl) (hf:X.fn y=true∨X.env.scope.names.lookup y=some .local:=by first | exact .inl rfl | exact .inr rfl | assumption) :
  RS X G (.Assign [.Name y py] (.ListComp elt [⟨.Name x px,iter,[cnd],0⟩] sc pos) spos) (oQ (pY wi ks tc te) (C9 i)) :=
 ⟨wJ (B3 osc N ks hc ho hN hnd hy hl hi.run (fun cl C s₀ H₀ fp pins=>(he cl C s₀ H₀ fp pins).run) (fun cl C s₀ H₀ fp pins=>(hcn cl C s₀ H₀ fp pins).run) ok hs hsw hf) (ox uj)⟩
theorem EH (osc:Scope) (N:List Str) (ks:List (Str × Nat)) (hc:X.calm=true) (ho:X.env.scope=osc) (hN:X.N=N) (hnd:X.N.Nodup) (hy:X.N[i]?=some y) (hl:Loc X.env.scope y) (hi:RI X G (.Name x px) iter wi) (he:∀ cl C s₀ H₀ fp pins,RE (dT X sc cl C x ks s₀ H₀ fp pins) G elt te) (hcn:∀ cl C s₀ H₀ fp pins,RT (dT X sc cl C x ks s₀ H₀ fp pins) G cnd tc)
  (ok:bU sc osc N x ks:=by decide +kernel) (hs:∀ x,foldedSetIterable iter X.env x=pure x:=by intro _;rfl) (hsw:swapsWith (.ListComp elt [⟨.Name x px,iter,[cnd],0⟩] sc pos) (some (.Name y py)) spos.line X.env=pure true:=by rfl) (hf:X.fn y=true∨X.env.scope.names.lookup y=some .local:=by first | exact .inl rfl | exact .inr rfl | assumption) :
  RS X G (.Assign [.Name y py] (.ListComp elt [⟨.Name x px,iter,[cnd],0⟩] sc pos) spos) (oQ (HA wi ks tc te) (C9 i)) :=
 ⟨wJ (B3 osc N ks hc ho hN hnd hy hl hi.run (fun cl C s₀ H₀ fp pins=>(he cl C s₀ H₀ fp pins).run) (fun cl C s₀ H₀ fp pins=>(hcn cl C s₀ H₀ fp pins).run) ok hs hsw hf) (ox Bn)⟩
theorem Kp (osc:Scope) (N:List Str) (ks:List (Str × Nat)) (hc:X.calm=true) (ho:X.env.scope=osc) (hN:X.N=N) (hnd:X.N.Nodup) (hy:X.N[i]?=some y) (hl:Loc X.env.scope y) (hi:RI X G (.Name x px) iter wi) (he:∀ cl C s₀ H₀ fp pins,RE (dT X sc cl C x ks s₀ H₀ fp pins) G elt te)
  (ok:bU sc osc N x ks:=by decide +kernel) (hs:∀ x,foldedSetIterable iter X.env x=pure x:=by intro _;rfl) (hsw:swapsWith (.ListComp elt [⟨.Name x px,iter,[],0⟩] sc pos) (some (.Name y py)) spos.line X.env=pure true:=by rfl) (hf:X.fn y=true∨X.env.scope.names.lookup y=some .local:=by first | exact .inl rfl | exact .inr rfl | assumption) :
  RS X G (.Assign [.Name y py] (.ListComp elt [⟨.Name x px,iter,[],0⟩] sc pos) spos) (oQ (pY wi ks uP te) (C9 i)) :=
 ⟨wJ (FH osc N ks hc ho hN hnd hy hl hi.run (fun cl C s₀ H₀ fp pins=>(he cl C s₀ H₀ fp pins).run) ok hs hsw hf) (ox Bl)⟩
end
end Ov
namespace Ov
open PySem PySem.Spec PyProof.Rows
section
open HT (lexLt)
def j9:List Str→List Str→Bool
 | [],[]=>false
 | [],_ :: _=>true
 | _ :: _,[]=>false
 | x :: xs,y :: ys=>if x=y then j9 xs ys else decide (x.cps.toList < y.cps.toList)
theorem lY (x y:Str) (xs ys:List Str):j9 (x :: xs) (y :: ys)=if x=y then j9 xs ys else decide (x.cps.toList < y.cps.toList):=rfl
theorem kX:j9 [] []=false:=rfl
theorem pN (y:Str) (ys:List Str):j9 [] (y :: ys)=true:=rfl
theorem pM (x:Str) (xs:List Str):j9 (x :: xs) []=false:=rfl
theorem AQ (A:Around) (s:Shared) (a:Str) (t:Tok) (c:Str) (u:Tok):∃ e,SeqAt.EqAt A s (.str a t) (.str c u) e∧(e=true↔a=c) :=
 ⟨(a == c),SeqAt.EqAt.str_str a t c u,by simp⟩
theorem Cj (A:Around) (s:Shared) (a:Str) (t:Tok) (c:Str) (u:Tok) (prog:Program) (w:World) (E:Value→Shared→Prop) (Q:Value→Shared→Prop) (h:Q (.bool (decide (a.cps.toList < c.cps.toList))) s) :
  wpAny (model prog w) A (richCompare .Lt (.str a t) (.str c u)) Q E s :=
 (PyProof.Rows.lt_str h:wpAny (model prog w) A (compareOp .Lt (.str a t) (.str c u)) Q E s)
open PySem.SeqAt
open PySem.AutoSeq1 (wpAny_loadPart')
open PySem.MeetsSeq PySem.MeetsSeq2 PySem.MeetsSeq3
theorem p9 (l b:Addr) (items items2:Array Value) (n n2:Nat) (dd dd2:Option Addr) (sl sl2:Array (Option Value)) (ns ms:List Str) (hi:StrsAre items.toList ns) (hj:StrsAre items2.toList ms) :
  Meets (Builtin.«tuple.__lt__» ⟨[.ref l,.ref b],[]⟩)
   (fun _ R s=>s.heap.get? l=some { cls:=.type "tuple",dict:=dd,data:=.seq items n,slots:=sl }∧s.heap.get? b=some { cls:=.type "tuple",dict:=dd2,data:=.seq items2 n2,slots:=sl2 } ∧
    R (.ok (.ret (.bool (j9 ns ms)))) s) :=
 .of_wp fun prog w A R s h=>by
  obtain ⟨hp,g,d,tk,os⟩:=s;obtain ⟨hl,hb,h⟩:=h
  have f2:=AutoSeq1.sub_tuple_tuple
  have z1:items.size=ns.length:=by rw [← hi.length];simp
  have z2:items2.size=ms.length:=by rw [← hj.length];simp
  wp_walk using wpAny_loadPart' hl,wpAny_loadPart' hb,wpAny_forIn_list _ (fun rest b s'=>b.1=none∧s'=⟨hp,g,d,tk,os⟩∧∃ (vs ws:List Value) (ns' ms':List Str),rest=vs.zip ws ∧
   StrsAre vs ns'∧StrsAre ws ms'∧ns'.length + items2.size=ms'.length + items.size∧R (.ok (.ret (.bool (j9 ns' ms')))) ⟨hp,g,d,tk,os⟩) _
  case turn =>
   rintro ⟨y,x⟩ rest b s' ⟨hb',rfl,vs,ws,ns',ms',hz,hvi,hwi,hlen,hR⟩
   cases hvi with
   | nil=>rw [List.zip_nil_left] at hz;cases hz
   | cons a t hvi' =>
    cases hwi with
    | nil=>rw [List.zip_nil_right] at hz;cases hz
    | cons c u hwi' =>
     rw [List.zip_cons_cons] at hz
     injection hz with hyx hrest
     injection hyx with hy hx
     subst hy hx
     rw [lY] at hR
     simp only [List.length_cons] at hlen
     obtain ⟨e,he,hiff⟩:=AQ A.in1 ⟨hp,g,d,tk,os⟩ a t c u
     refine wpAny_bind (he prog w _ _ ?_)
     cases e with
     | true =>
      rw [if_pos (hiff.mp rfl)] at hR
      wp_walk
      exact ⟨rfl,rfl,_,_,_,_,hrest,hvi',hwi',by omega,hR⟩
     | false =>
      rw [if_neg (fun q=>absurd (hiff.mpr q) Bool.false_ne_true)] at hR
      have hri:=Cj A.in1 ⟨hp,g,d,tk,os⟩ a t c u prog w
      wp_walk using hri
      exact ⟨_,rfl,by simpa using hR⟩
  case fin =>
   rintro ⟨b1,b2⟩ s' ⟨hb',rfl,vs,ws,ns',ms',hz,hvi,hwi,hlen,hR⟩
   simp only at hb'
   subst hb'
   have hv:j9 ns' ms'=decide (items.size < items2.size):=by
    cases hvi with
    | nil =>
     cases hwi with
     | nil =>
      simp only [List.length_nil] at hlen
      rw [kX]
      exact (decide_eq_false (by omega)).symm
     | cons c u hw =>
      simp only [List.length_nil,List.length_cons] at hlen
      rw [pN]
      exact (decide_eq_true (by omega)).symm
    | cons a t hv =>
     cases hwi with
     | nil =>
      simp only [List.length_nil,List.length_cons] at hlen
      rw [pM]
      exact (decide_eq_false (by omega)).symm
     | cons c u hw =>
      rw [List.zip_cons_cons] at hz
      cases hz
   rw [hv] at hR
   wp_walk
   exact ⟨_,rfl,by simpa [Builtin.Tuple.tupleCompareSizes] using hR⟩
  case h =>
   exact ⟨rfl,rfl,items.toList,items2.toList,ns,ms,rfl,hi,hj,by omega,h⟩
section
variable {prog:Program} {w:World} {A:Around} {E:Value→Shared→Prop} {s:Shared}
theorem wj {l b:Addr} {items items2:Array Value} {ns ms:List Str} {Q:Value→Shared→Prop} (hl:IsTup s.heap l items) (hb:IsTup s.heap b items2) (hi:StrsAre items.toList ns) (hj:StrsAre items2.toList ms)
  (hu:A.units < cLine) (h:Q (.bool (j9 ns ms)) s):wpAny (model prog w) A (compareOp .Lt (.ref l) (.ref b)) Q E s:=by
 obtain ⟨⟨cls,dd,data,sl⟩,ho,hc,n,hd⟩:=id hl
 obtain ⟨⟨cls2,dd2,data2,sl2⟩,ho2,hc2,n2,hd2⟩:=id hb
 simp only at hc hd hc2 hd2
 subst hc hd hc2 hd2
 exact richCompare_meets_room (op:=.Lt) ⟨_,ho,rfl⟩ ⟨_,ho2,rfl⟩ PySem.F.slot_tuple_lt PySem.F.entry_tuple_lt (PySem.F.args_tuple_lt_2 _ _) (p9 l b items items2 n n2 dd dd2 sl sl2 ns ms hi hj)
  ⟨ho,ho2,show Value.bool (j9 ns ms)≠Value.notImplemented∧Q (.bool (j9 ns ms)) s from ⟨(fun x=>nomatch x),h⟩⟩ hu
end
end
open L2 (V HO Hp Inv Cx VK XK TE TT TA TS TG m3 TI TO iM Ends tP Loc Gl Rd RelV Vals er tV bT mW pJ mO iK R2 upd aA aG c8 eL Sp pj It bt cJ bI Passes mL aE Meth Mk Binds aQ cq aw cU fu dW)
section
variable {X:Cx} {K:PySem.W.Frag}
theorem D6 (hu:X.A.units < cLine):er X (compareOp .Lt) (fun x y H Q=>∃ a b ns ms,x=.ref a∧y=.ref b∧eL X.K H a (ns.map V.str)∧eL X.K H b (ms.map V.str)∧Q (.bl (j9 ns ms)) H):=by
 intro pins s σ H x y v u Q I rx ry h
 obtain ⟨a,b,ns,ms,rfl,rfl,ha,hb,q⟩:=h
 cases rx;cases ry
 obtain ⟨is,r1,t1,_⟩:=I.tuple ha
 obtain ⟨js,r2,t2,_⟩:=I.tuple hb
 exact wj t1 t2 (by simpa using iB r1) (by simpa using iB r2) hu ⟨.bl _,H,I,rfl,q⟩
theorem pd {J:Hq} {H:Hp}:∀ {ns:List Str} {vs:List V},aL K J H (ns.map PV.str) vs→vs=ns.map V.str
 | [],_,h=>h
 | n :: ns,_,⟨v,us,e,h,k⟩=>by subst e;cases h;rw [pd k];rfl
def FK:kA:=fun x y J Q=>∃ ns ms,x=.tup (ns.map .str)∧y=.tup (ms.map .str)∧Q (.bl (j9 ns ms)) J
theorem D8 (hu:X.A.units < cLine):lJ X (compareOp .Lt) FK:=⟨_,D6 hu,fun J H x y v w Q2 Q rx ry r ⟨ns,ms,ex,ey,q⟩ k=>by
 subst ex ey
 obtain ⟨a,vs,rfl,h1,h2⟩:=rx
 obtain ⟨b,ws,rfl,h3,h4⟩:=ry
 cases pd h2;cases pd h4
 exact ⟨a,b,ns,ms,rfl,rfl,h1,h3,k (.bl _) J _ H rfl r .refl q⟩⟩
def JE:kA:=fun x y J Q=>∃ xs ys,pw J x=some xs∧pw J y=some ys∧xs.length + ys.length≤sizeLine∧Q (.fl (xs ++ ys)) J
end
def bQ (K:PySem.W.Frag) (C:Addr) (m qual:Str) (st:Stmt):Prop:=∃ f fd,Meth K C m f∧cq K m qual st f fd
structure dD (K:PySem.W.Frag) (mg:Str→Option Value) (x:Str) (C:Addr):Prop where
 cl:mL K C
 m:mg x=some (.ref C)
 mkz:PySem.W.makesIn K C=true
 kp:PySem.W.keepIn K (.ref C)=true
theorem bH {K:PySem.W.Frag} {C f:Addr} {m qual:Str} {st:Stmt} {od an:Option Addr} {sl:Array (Option Value)} {oc kV dc pm cd ct:Value} (a:PySem.W.findIn K (.ref C) m=some (some (.ref f))) (i:PySem.W.isFn K (.ref f)=true)
  (l:K.lookup f=some ⟨oc,od,.func (PySem.W.fnOf m qual (L2.cK st) (L2.bO st) (L2.ai st) .none kV dc pm an cd ct),sl⟩) (c:PySem.W.codeIn K cd qual=true) (k:PySem.W.keepIn K (.ref f)=true):bQ K C m qual st :=
 ⟨f,_,⟨a,i,k⟩,L2.v7 l c k⟩
theorem rM {K:PySem.W.Frag} {h:Heap} {mg:Str→Option Value} {x:Str} {C:Addr} (X:K.In h) (G:h.Ns mainGlobals mg) (aC:PySem.W.nsIn K mainGlobals x=some (some (.ref C)))
  (pg:PySem.W.plainGet K C Str.empty=true) (hd:PySem.W.hasDictIn K C=true) (po:PySem.W.plainOver K C=true) (sa:PySem.W.findIn K (.ref C) "__setattr__"=some (some (.builtin "object.__setattr__"))) (mk:PySem.W.makesIn K C=true) (kc:PySem.W.keepIn K (.ref C)=true):dD K mg x C :=
 ⟨⟨pg,hd,po,sa⟩,PySem.W.mg_of X G aC,mk,kc⟩
section
variable {P:Program} {w:World} {K:PySem.W.Frag} {mg:Str→Option Value} {base:Heap}
theorem bQ.tQ {C:Addr} {m qual:Str} {st:Stmt} {k:Nat} {ps:List Str} {sp:cT} (D:bQ K C m qual st) (cl:mL K C) (h:∀ f fd,cq K m qual st f fd→aQ P w K mg base (dt P w) k f fd ps (d7 K sp))
  (hb:∀ (kV doc pm:Value) (an:Option Addr) (cdv ct:Value) (us:List Value),us.length=ps.length→bindArgs (PySem.W.fnOf m qual (L2.cK st) (L2.bO st) (L2.ai st) .none kV doc pm an cdv ct) ⟨us,[]⟩=pure (ps.zip us)):c7 P w K mg base C k m ps sp:=by
 obtain ⟨f,fd,hm,F⟩:=D
 exact ⟨cl,f,fd,hm,h f fd F,F.binds hb⟩
theorem bQ.LZ {x:Str} {C:Addr} {qual:Str} {st:Stmt} {k:Nat} {ps:List Str} {sp:cT} (D:bQ K C "__init__" qual st) (kd:dD K mg x C) (h:∀ f fd,cq K "__init__" qual st f fd→aQ P w K mg base (dt P w) k f fd ps (d7 K sp))
  (hb:∀ (kV doc pm:Value) (an:Option Addr) (cdv ct:Value) (us:List Value),us.length=ps.length→bindArgs (PySem.W.fnOf "__init__" qual (L2.cK st) (L2.bO st) (L2.ai st) .none kV doc pm an cdv ct) ⟨us,[]⟩=pure (ps.zip us)):yU P w K mg base C k x ps sp:=by
 obtain ⟨f,fd,hm,F⟩:=D
 exact ⟨kd.m,f,fd,⟨kd.mkz,hm.at_,hm.fn,kd.kp⟩,h f fd F,F.binds hb⟩
end
theorem Ig {n:Nat} {F:List Value→Prop} (h:∀ a us,us.length=n→F (a :: us)) (us:List Value) (hu:us.length=n + 1):F us:=by
 cases us with
 | nil=>cases hu
 | cons a us=>exact h a us (Nat.succ.inj hu)
theorem Ng {F:List Value→Prop} (h:F []) (us:List Value) (hu:us.length=0):F us:=by
 cases us with
 | nil=>exact h
 | cons a us=>cases hu
theorem C6 {F:List Value→Prop} (h:∀ a,F [a]):∀ us:List Value,us.length=1→F us:=Ig fun a=>Ng (F:=fun us=>F (a :: us)) (h a)
theorem j6 {F:List Value→Prop} (h:∀ a b,F [a,b]):∀ us:List Value,us.length=2→F us:=Ig fun a=>C6 (F:=fun us=>F (a :: us)) (h a)
theorem Gr {F:List Value→Prop} (h:∀ a b c,F [a,b,c]):∀ us:List Value,us.length=3→F us:=Ig fun a=>j6 (F:=fun us=>F (a :: us)) (h a)
theorem ID {F:List Value→Prop} (h:∀ a b c d,F [a,b,c,d]):∀ us:List Value,us.length=4→F us:=Ig fun a=>Gr (F:=fun us=>F (a :: us)) (h a)
theorem MO {F:List Value→Prop} (h:∀ a b c d e,F [a,b,c,d,e]):∀ us:List Value,us.length=5→F us:=Ig fun a=>ID (F:=fun us=>F (a :: us)) (h a)
theorem Nh {F:List Value→Prop} (h:∀ a b c d e f,F [a,b,c,d,e,f]):∀ us:List Value,us.length=6→F us:=Ig fun a=>MO (F:=fun us=>F (a :: us)) (h a)
end Ov
namespace Ov
open PySem PySem.Spec PyProof.Rows
open L2 (V HO Hp Inv Cx VK XK Rd c8 eL Sp bt bI Passes aQ cq aw cU upd aA aG)
def fr (q:Rat):PV:=.tup [.int q.num,.int (q.den:Int)]
theorem AX (a b:Rat):(fr a=fr b)=(a=b):=by
 apply propext
 constructor
 ·intro h
  unfold fr at h
  simp only [PV.tup.injEq,List.cons.injEq,PV.int.injEq,and_true] at h
  exact Rat.ext h.1 (by have:=h.2;omega)
 ·intro h;rw [h]
theorem Fm (a:Rat):fr a=.tup [.int a.num,.int (a.den:Int)]:=rfl
theorem GP (J:Hq) (q:Rat):eO J (fr q) (.int 0)=some (.int q.num):=de _ _
theorem GQ (J:Hq) (q:Rat):eO J (fr q) (.int 1)=some (.int (q.den:Int)):=eV _ _ _
theorem KP (J:Hq) (q:Rat):Ab J (fr q)=some "tuple":=rfl
theorem GZ (J:Hq) (q:Rat):uo J (fr q)=some 2:=rfl
theorem wN (q:Rat):l9 (fr q)=true:=by simp [fr,l9,ka]
theorem rJ (q:Rat):Bc (fr q)=false:=rfl
theorem GH (q:Rat):dep (gS (fr q))=1:=by simp [fr,gS,jt,dep,dU]
theorem Fj (q:Rat):Gy (fr q)=True:=eq_true ⟨wN q,by rw [GH];decide⟩
theorem Gz (i:Int):Gy (.int i)=True:=eq_true ⟨by simp [l9],by simp [gS,dep]⟩
theorem GB (i:Str):Gy (.str i)=True:=eq_true ⟨by simp [l9],by simp [gS,dep]⟩
theorem IP (i:Bool):Gy (.bl i)=True:=eq_true ⟨by simp [l9],by simp [gS,dep]⟩
theorem GA:Gy .non=True:=eq_true ⟨by simp [l9],by simp [gS,dep]⟩
theorem Er (i:Int):l9 (.int i)=true:=by simp [l9]
theorem x8 (i:Str):l9 (.str i)=true:=by simp [l9]
theorem Hu (i:Bool):l9 (.bl i)=true:=by simp [l9]
theorem Es:l9 .non=true:=by simp [l9]
theorem Et (xs:List PV):l9 (.tup xs)=ka xs:=by simp [l9]
theorem zR (x:PV) (xs:List PV):ka (x :: xs)=(l9 x && ka xs):=by simp [ka]
theorem B6:ka []=true:=by simp [ka]
theorem eq_int (a b:Int):eqQ (.int a) (.int b)=decide (a=b):=by unfold eqQ gS jG;rw [Bool.beq_eq_decide_eq]
theorem eq_str (a b:Str):eqQ (.str a) (.str b)=decide (a=b):=by
 unfold eqQ gS jG
 cases h:a == b with
 | true=>simp at h;simp [h]
 | false=>simp at h;simp [h]
theorem IT (a b:Bool):eqQ (.bl a) (.bl b)=decide (a=b):=by unfold eqQ gS jG;rw [Bool.beq_eq_decide_eq]
def vY (xs ys:List PV):Bool:=i6 (jt xs) (jt ys)
theorem rE (xs ys:List PV):eqQ (.tup xs) (.tup ys)=vY xs ys:=by unfold eqQ gS jG vY;rfl
theorem df (x y:PV) (xs ys:List PV):vY (x :: xs) (y :: ys)=(eqQ x y && vY xs ys):=by unfold vY eqQ;simp [jt,i6]
theorem m4:vY [] []=true:=by unfold vY;simp [jt,i6]
theorem eq_self (x:PV):eqQ x x=true:=t_ _
theorem ua (a b:Rat):eqQ (fr a) (fr b)=decide (a=b):=by
 rw [Fm,Fm,rE,df,df,m4,eq_int,eq_int,Bool.and_true,← Bool.decide_and]
 exact decide_eq_decide.mpr (by rw [ED])
theorem Ny (a b c:PV):mP [a,b,c] (some 1) none=[b,c]:=rfl
theorem ty_int (b:Bool):(kq "int" "int"=some b)=(b=true):=by cases b <;> simp [kq]
theorem ty_bool (b:Bool):(kq "int" "bool"=some b)=(b=false):=by cases b <;> simp [kq]
theorem KO (b:Bool):(kq "bool" "bool"=some b)=(b=true):=by cases b <;> simp [kq]
theorem ty_str (b:Bool):(kq "str" "str"=some b)=(b=true):=by cases b <;> simp [kq]
theorem H0 (b:Bool):(kq "tuple" "tuple"=some b)=(b=true):=by cases b <;> simp [kq]
theorem ty_list (b:Bool):(kq "list" "list"=some b)=(b=true):=by cases b <;> simp [kq]
theorem dj {n:Nat} (h:n≤1000):n≤sizeLine:=Nat.le_of_lt (L2.a_ h)
theorem Fx:(0≤sizeLine)=True:=eq_true (Nat.zero_le _)
theorem Jf:(1≤sizeLine)=True:=eq_true (dj (by decide))
theorem Jg:(2≤sizeLine)=True:=eq_true (dj (by decide))
theorem Jh:(3≤sizeLine)=True:=eq_true (dj (by decide))
theorem Ji:(4≤sizeLine)=True:=eq_true (dj (by decide))
section
variable (J:Hq) (xs:List PV) (a:Addr) (i:Int) (b:Bool) (z:Str) (T:String)
theorem LJ:eO J (.tup xs) (.int i)=cU xs i:=rfl
theorem LH:eO J (.fl xs) (.int i)=cU xs i:=rfl
theorem Ja:eO J (.ref a) (.int i)=(match J a with | some (.lst xs)=>cU xs i | _=>none):=rfl
theorem LX:pw J (.fl xs)=some xs:=rfl
theorem LY:pw J (.ref a)=(match J a with | some (.lst xs)=>some xs | _=>none):=rfl
theorem Je:uo J (.tup xs)=some xs.length:=rfl
theorem Jd:uo J (.fl xs)=some xs.length:=rfl
theorem Fv:uo J (.ref a)=(match J a with | some (.lst xs)=>some xs | _=>none).map List.length:=rfl
theorem MC:Ab J .non=some "NoneType":=rfl
theorem KN:Ab J (.bl b)=some "bool":=rfl
theorem MB:Ab J (.int i)=some "int":=rfl
theorem ME:Ab J (.str z)=some "str":=rfl
theorem MF:Ab J (.tup xs)=some "tuple":=rfl
theorem MA:Ab J (.fl xs)=some "list":=rfl
theorem MD:Ab J (.ref a)=(match J a with | some (.lst _)=>some "list" | some (.dct _ _)=>some "dict" | _=>none):=rfl
theorem KG:tM J .non=some false:=rfl
theorem F6:tM J (.bl b)=some b:=rfl
theorem KD:tM J (.int i)=some (i != 0):=rfl
theorem KI:tM J (.tup xs)=some (!xs.isEmpty):=rfl
theorem KC:tM J (.fl xs)=some (!xs.isEmpty):=rfl
theorem KH:tM J (.ref a)=(match J a with | some (.lst xs)=>some (!xs.isEmpty) | some (.dct kvs _)=>some (!kvs.isEmpty) | _=>none):=rfl
theorem LD:K1 J (.fl xs)=some ⟨xs,fun _=>True⟩:=rfl
theorem LF:K1 J (.ref a)=(match J a with | some (.lst xs)=>some ⟨xs,fun J'=>J' a=some (.lst xs)⟩ | _=>none):=rfl
theorem I8:Bc .non=true:=rfl
theorem Lw:Bc (.bl b)=false:=rfl
theorem Ly:Bc (.int i)=false:=rfl
theorem LB:Bc (.str z)=false:=rfl
theorem LC:Bc (.tup xs)=false:=rfl
theorem Lx:Bc (.fl xs)=false:=rfl
theorem Lz:Bc (.ref a)=false:=rfl
theorem Mx:Iq T J (.fl xs)=(T="list"):=rfl
theorem Mz:Iq T J (.str z)=(T="str"):=rfl
theorem My:Iq T J (.ref a)=((T="list"∧∃ xs,J a=some (.lst xs))∨(T="dict"∧∃ kvs ep,J a=some (.dct kvs ep))):=rfl
end
def Fo (it:vM) (g:vS) (tb:gI) (D:En) (τ:Sr) (J1:Hq):Prop:=∃ Pv:Nat→Sr→Hq→Prop,Pv 0 τ J1∧(∀ i τ J,Pv i τ J→it.ok J) ∧
 (∀ i x τ J,it.xs[i]?=some x→Pv i τ J→g x τ J fun τ2 J2=>tb { D with nx:=Pv (i + 1),ct:=Pv (i + 1),bk:=D.nx } τ2 J2)∧∀ τ J,Pv it.xs.length τ J→D.nx τ J
theorem Ex (wi:qh) (g:vS) (tb:gI) (D:En) (τ:Sr) (J:Hq):JT wi g tb D τ J=wi τ J fun it J1=>Fo it g tb D τ J1:=rfl
theorem rF {lo:Int} {n:Nat} {g:vS} {tb:gI} {D:En} {τ:Sr} {J1:Hq} (Pv:Nat→Sr→Hq→Prop) (h0:Pv 0 τ J1)
  (hs:∀ (i:Nat) τ J,i < n→Pv i τ J→g (.int (lo + (i:Int))) τ J fun τ2 J2=>tb { D with nx:=Pv (i + 1),ct:=Pv (i + 1),bk:=D.nx } τ2 J2) (hd:∀ τ J,Pv n τ J→D.nx τ J):Fo ⟨rH lo n,fun _=>True⟩ g tb D τ J1 :=
 ⟨Pv,h0,fun _ _ _ _=>trivial,fun i x τ J e p=>by obtain ⟨a,b⟩:=(ui lo n i x).mp e;subst b;exact hs i τ J a p,fun τ J p=>hd τ J (by simpa [kT] using p)⟩
structure cj (mg:Str→Option Value):Prop extends Ae mg where
 str:mg "str"=none
 dict:mg "dict"=none
 max:mg "max"=none
 zip:mg "zip"=none
 enumerate:mg "enumerate"=none
def mM (J' J:Hq):Prop:=∀ a,J' a=J a∨J' a=none
def Fg (Q:PV→Hq→Prop) (v:PV) (J:Hq):Prop:=∃ x J',mM J' J∧(x=v∨∃ a xs,v=.ref a∧x=.fl xs∧J a=some (.lst xs)∧J' a=none)∧Q x J'
theorem Fg.same {Q:PV→Hq→Prop} {v:PV} {J:Hq} (h:Q v J):Fg Q v J:=⟨v,J,fun _=>.inl rfl,.inl rfl,h⟩
theorem Fg.less {Q:PV→Hq→Prop} {v:PV} {J J':Hq} (l:mM J' J) (h:Q v J'):Fg Q v J:=⟨v,J',l,.inl rfl,h⟩
theorem Fg.pK {Q:PV→Hq→Prop} {a:Addr} {xs:List PV} {J J':Hq} (l:mM J' J) (ha:J a=some (.lst xs)) (hn:J' a=none) (h:Q (.fl xs) J'):Fg Q (.ref a) J:=⟨.fl xs,J',l,.inr ⟨a,xs,rfl,rfl,ha,hn⟩,h⟩
section
variable {P:Program} {w:World} {K:PySem.W.Frag} {mg:Str→Option Value} {base:Heap}
theorem Fg.kn {J:Hq} {H:Hp} {Q2:PV→Hq→Prop} {Q:VK} (k:Kn K J H Q2 Q):Kn K J H (Fg Q2) Q:=fun z J1 u H1 rz r1 e1 ⟨x,J',l,hx,q⟩=>by
 have el:=Ext.less (K:=K) (H:=H1) l
 rcases hx with rfl | ⟨a,xs,rfl,rfl,ha,hn⟩
 ·exact k x J' u H1 (el.rep rz) (r1.less l) (e1.trans el) q
 ·cases rz
  obtain ⟨vs,h1,h2⟩:=r1 _ _ ha
  exact k (.fl xs) J' _ H1 ⟨a,vs,rfl,.inl ⟨hn,.inl h1⟩,el.iP h2⟩ (r1.less l) (e1.trans el) q
theorem L9 {x qual:Str} {st:Stmt} {f:Addr} {fd:FuncData} {N ps:List Str} {k:Nat} {sp:cT} (F:cq K x qual st f fd) (S:aw N ps (L2.ai st)) (len:∀ xs J Q E,sp xs J Q E→xs.length=ps.length)
  (hbody:∀ (cdv:Value) (A:Around) (outer:List Env) (s:Shared) (H:Hp) (E:XK) (G:G2) (xs:List PV) (J:Hq) (Q:PV→Hq→Prop) (E2:Addr→Hq→Prop),bI k (A.deeper (envOfC qual (L2.ai st) s.heap.objs.size f cdv))→sp xs J Q E2 →
   C5 (Ag P w K mg base N qual (L2.ai st) f cdv A outer s H E) G E2 E →
   ∃ t,RB (Ag P w K mg base N qual (L2.ai st) f cdv A outer s H E) G (L2.bO st) t∧t { nx:=fun _ J'=>Fg Q .non J',rt:=Fg Q } (w_ N xs) J):aQ P w K mg base (dt P w) (k + 1) f fd ps (d7 K sp):=by
 have:=MZ (sp:=fun xs J Q E=>∃ Q0,Q=Fg Q0∧sp xs J Q0 E) F S (fun xs J Q E ⟨Q0,_,h⟩=>len xs J Q0 E h) (fun cdv A outer s H E G xs J Q E2 hr ⟨Q0,eq,h⟩ B=>by subst eq;exact hbody cdv A outer s H E G xs J Q0 E2 hr h B)
 exact this.imp fun vs H Q E ⟨xs,J,Q2,E2,a,b,c,d,e⟩=>⟨xs,J,Fg Q2,E2,a,b,⟨Q2,rfl,c⟩,Fg.kn d,e⟩
end
theorem IQ {X:Cx} {G:G2}:C5 X G (fun _ _=>False) L2.E0:=⟨fun _ _ _ _ _ _ _ ⟨_,_,_,_,_,z⟩=>z.elim,fun _ _ _ _ _ z=>z.elim⟩
theorem md {K:PySem.W.Frag} {J:Hq} {H:Hp}:∀ ns:List Int,aL K J H (ns.map PV.int) (ns.map V.int)
 | []=>rfl
 | n :: ns=>⟨_,_,rfl,rfl,md ns⟩
end Ov
namespace Ov
open PySem PySem.Spec PyProof.Rows L2
theorem IF {α:Type} (a b c d e:α) (xs:List α):cU (a :: b :: c :: d :: e :: xs) 4=some e:=ba (j:=4) rfl
theorem IG {α:Type} (a b c d e f:α) (xs:List α):cU (a :: b :: c :: d :: e :: f :: xs) 5=some f:=ba (j:=5) rfl
theorem IH {α:Type} (a b c d e f g:α) (xs:List α):cU (a :: b :: c :: d :: e :: f :: g :: xs) 6=some g:=ba (j:=6) rfl
theorem II {α:Type} (a b c d e f g h:α) (xs:List α):cU (a :: b :: c :: d :: e :: f :: g :: h :: xs) 7=some h:=ba (j:=7) rfl
theorem IJ {α:Type} (a b c d e f g h i:α) (xs:List α):cU (a :: b :: c :: d :: e :: f :: g :: h :: i :: xs) 8=some i:=ba (j:=8) rfl
theorem IK {α:Type} (a b c d e f g h i j:α) (xs:List α):cU (a :: b :: c :: d :: e :: f :: g :: h :: i :: j :: xs) 9=some j:=ba (j:=9) rfl
theorem Gs {α:Type} (a b c d e f g h i j k:α) (xs:List α):cU (a :: b :: c :: d :: e :: f :: g :: h :: i :: j :: k :: xs) 10=some k:=ba (j:=10) rfl
theorem Gu {α:Type} (a b c d e f g h i j k l:α) (xs:List α):cU (a :: b :: c :: d :: e :: f :: g :: h :: i :: j :: k :: l :: xs) 11=some l:=ba (j:=11) rfl
theorem Jj:(5≤sizeLine)=True:=eq_true (dj (by decide))
theorem Jk:(6≤sizeLine)=True:=eq_true (dj (by decide))
theorem Jl:(7≤sizeLine)=True:=eq_true (dj (by decide))
theorem Jm:(8≤sizeLine)=True:=eq_true (dj (by decide))
theorem Jn:(9≤sizeLine)=True:=eq_true (dj (by decide))
theorem G0:(10≤sizeLine)=True:=eq_true (dj (by decide))
theorem G1:(11≤sizeLine)=True:=eq_true (dj (by decide))
theorem G3:(12≤sizeLine)=True:=eq_true (dj (by decide))
theorem o4 {ss:List Int} (h:ss.all (fun s=>decide (0 < s) && decide (s < 2 ^ 63))=true):∀ s∈ss,0 < s∧Bd 9000 s:=fun s hs=>by
 have:=List.all_eq_true.mp h s hs
 rw [Bool.and_eq_true,decide_eq_true_eq,decide_eq_true_eq] at this
 exact ⟨this.1,(Bd.small (by omega) (by omega)).mono (by decide)⟩
theorem Sz.div {n:Nat} {t b:Int} (ht:Bd n t) (hb:Bd n b) (h:b≠0):Sz n (Rat.divInt t b):=⟨ht.le (xV t b),hb.le (rD h)⟩
end Ov
namespace Ov
open PySem PySem.Spec PyProof.Rows
open L2 (V HO Hp Inv Cx VK XK TE TT TA TS TG m3 TI TO iM Ends tP Loc Gl Rd RelV Vals er tV bT mW pJ mO iK R2 upd aA aG c8 eL Sp pj It bt cJ bI Passes mL aE Meth Mk Binds aQ cq aw cU fu dW)
section
variable {X:Cx} {G:G2}
abbrev vT:=PV→PV→PV→Hq→(Hq→Prop)→Prop
def KW (X:Cx) (q:vT):Prop:=∃ r,iK X r∧∀ J H o i y ov iv u R2 R,bV X.K J H o ov→bV X.K J H i iv→bV X.K J H y u→Rep X.K J H→q o i y J R2→(∀ J' H',Rep X.K J' H'→Ext X.K J H J' H'→R2 J'→R H')→r ov iv u H R
def Ls (to ti:cQ) (t:vT):vS:=fun y τ J R=>to τ J fun o J1=>ti τ J1 fun i J2=>t o i y J2 fun J3=>R τ J3
theorem HF {o i:Expr} {to ti:cQ} {t:vT} {pos:Pos} (hs:KW X t) (ho:RE X G o to) (hi:RE X G i ti)
  (ha:∀ v,assign (.Subscript o i pos) X.env v=(do
   let ov ← holding [v] (eval o X.env)
   let iv ← holding [v,ov] (eval i X.env)
   standAt pos
   holding [v,ov,iv] (setItem ov iv v)
   release [v,ov,iv] []):=by intro _;rfl):RG X G (.Subscript o i pos) (Ls to ti t):=by
 obtain ⟨r,hr,lf⟩:=hs
 exact ⟨Mb (L2.sx ho.run hi.run hr ha) fun v σ H Q ⟨y,τ,J,Q2,ry,a2,h,k⟩ =>
  ⟨τ,J,_,a2,h,fun x J1 ov H1 rx r1 e1 h1=>⟨τ,J1,_,a2.go r1 e1,h1,fun z J2 iv H2 rz r2 e2 h2 =>
   lf J2 H2 x z y ov iv v _ _ (e2.rep rx) rz (e2.rep (e1.rep ry)) r2 h2 fun J3 H3 r3 e3 q=>k τ J3 σ H3 ((((a2.sl.ext e1).ext e2).ext e3)) r3 ((e1.trans e2).trans e3) q⟩⟩⟩
def JN:vT:=fun o i y J R=>∃ p xs k j,o=.ref p∧i=.int k∧J p=some (.lst xs)∧L2.Ah xs.length k=some j∧R (put J p (.lst (xs.set j y)))
theorem oT {o i e:Expr} {to ti te:cQ} {t:vT} {pos pos':Pos} (hs:KW X t) (ho:RE X G o to) (hi:RE X G i ti) (he:RE X G e te)
  (ha:∀ v,assign (.Subscript o i pos') X.env v=(do
   let ov ← holding [v] (eval o X.env)
   let iv ← holding [v,ov] (eval i X.env)
   standAt pos'
   holding [v,ov,iv] (setItem ov iv v)
   release [v,ov,iv] []):=by intro _;rfl)
  (hq:swapsWithSole [.Subscript o i pos'] e pos.line X.env=pure false:=by rfl) (hw:swappedStores [.Subscript o i pos'] e X.env=pure none:=by rfl)
  (h1:(assignEach [.Subscript o i pos'] X.env).map (·.2)=[assign (.Subscript o i pos') X.env]:=by rfl):RS X G (.Assign [.Subscript o i pos'] e pos) (oQ te (Ls to ti t)):=wV he (HF hs ho hi ha) hq hw h1
def MG (X:Cx) (op:Operator) (q:kA):Prop:=∃ r,L2.Lg X op r∧LR X.K r q
def JQ (i:Nat) (te:cQ) (q:kA):gI:=fun D τ J=>∃ x,τ[i]?=some (some x)∧te τ J fun y J1=>q x y J1 fun z J2=>D.nx (τ.set i (some z)) J2
theorem Co {i:Nat} {x:Str} {e:Expr} {te:cQ} {op:Operator} {q:kA} {pos pos':Pos} (hN:X.N.Nodup) (hi:X.N[i]?=some x) (hx:Loc X.env.scope x) (he:RE X G e te) (ho:MG X op q) (hf:X.fn x=true∨X.env.scope.names.lookup x=some .local:=by first | exact .inl rfl | exact .inr rfl | assumption) :
  RS X G (.AugAssign (.Name x pos') op e pos) (JQ i te q):=by
 obtain ⟨r,hr,lf⟩:=ho
 exact ⟨wJ (L2.Hs hN hi hx he.run hr hf) fun D σ H ⟨τ,J,D2,a2,⟨x,hx,h⟩,g⟩=>by
  obtain ⟨v,h1,h2⟩:=a2.sl.get _ _ hx
  exact ⟨v,h1,τ,J,_,a2,h,fun y J1 u H1 ry r1 e1 q1=>lf J1 H1 x y v u _ _ (e1.rep h2) ry r1 q1 fun z J2 u2 H2 rz r2 e2 q2=>g.nx _ J2 _ H2 (((a2.sl.ext e1).ext e2).set i rz) r2 (e1.trans e2) q2⟩⟩
theorem Ba:MG X .Sub (Ew fun i j=>.int (i - j)):=⟨_,L2.GO,fun J H x y v w Q2 Q rx ry r ⟨i,j,ex,ey,q⟩ k=>by
 subst ex ey;cases rx;cases ry;exact ⟨i,j,rfl,rfl,k (.int _) J _ H rfl r .refl q⟩⟩
end
theorem n9 {xs:List PV} {ok:Hq→Prop} {g:vS} {tb:gI} {D:En} {τ:Sr} {J1:Hq} (Pv:Nat→Sr→Hq→Prop) (h0:Pv 0 τ J1) (hk:∀ i τ J,Pv i τ J→ok J)
  (hs:∀ (i:Nat) x τ J,xs[i]?=some x→Pv i τ J→g x τ J fun τ2 J2=>tb { D with nx:=Pv (i + 1),ct:=Pv (i + 1),bk:=D.nx } τ2 J2) (hd:∀ τ J,Pv xs.length τ J→D.nx τ J):Fo ⟨xs,ok⟩ g tb D τ J1:=⟨Pv,h0,hk,hs,hd⟩
theorem xp {α:Type} (xs:List α) (x:α):cU (xs ++ [x]) (-1)=some x:=by
 unfold L2.cU L2.Ah
 rw [if_neg (by decide),if_pos (by simp;omega)]
 have e:(-1 + ((xs ++ [x]).length:Int)).toNat=xs.length:=by simp only [List.length_append,List.length_cons,List.length_nil];omega
 rw [e]
 simp
theorem jk {K:PySem.W.Frag} {h:Heap} {mg:Str→Option Value} {x:Str} {C:Addr} (X:K.In h) (G:h.Ns mainGlobals mg) (a:PySem.W.nsIn K mainGlobals x=some (some (.ref C))) (b:(PySem.W.excIn K C Lk "ValueError.__new__" && C4 K C)=true):Own K mg x C :=
 ⟨PySem.W.mg_of X G a,(Bool.and_eq_true_iff.mp b).1,Fd (Bool.and_eq_true_iff.mp b).2⟩
theorem oB {J:Hq} {x:PV} {ys:List PV} (h:pw J x=some ys):x=.fl ys∨∃ a,x=.ref a∧J a=some (.lst ys):=by
 cases x with
 | fl xs=>cases h;exact .inl rfl
 | ref a =>
  right
  refine ⟨a,rfl,?_⟩
  unfold pw at h
  simp only at h
  split at h
  ·rename_i e;cases h;exact e
  ·cases h
 | _=>cases h
theorem G7 {J:Hq} {x:PV} {ys:List PV} (h:pw J x=some ys):uo J x=some ys.length:=by
 rcases oB h with rfl | ⟨a,rfl,ha⟩
 ·rfl
 ·rw [Fv,ha];rfl
theorem Jq {J:Hq} {x:PV} {ys:List PV} (h:pw J x=some ys) (i:Int):eO J x (.int i)=cU ys i:=by
 rcases oB h with rfl | ⟨a,rfl,ha⟩
 ·rfl
 ·rw [Ja,ha]
def GJ (j:Nat):List PV:=.bl true :: (List.range 10).map fun k=>.bl (decide (j=k))
def Mq (c:Nat→Addr) (N n:Nat) (t:(Addr→Hq→Prop)→gI):gI:=fun D τ J =>
 t (fun a J'=>∃ j,j < 10∧a=c j∧D.nx ((List.replicate N none).set n (some (.fl (GJ j)))) J') D τ J
section
variable {X:Cx} {G:G2}
end
theorem mj {a b:gI} {D:En} {τ:Sr} {J:Hq} (h:a { D with nx:=fun τ' J'=>b D τ' J' } τ J):cb a b D τ J:=h
def Ip (J:Hq):PV→Option (List PV)
 | .tup xs=>some xs
 | .fl xs=>some xs
 | .ref a=>match J a with
  | some (.lst xs)=>some xs
  | _=>none
 | _=>none
theorem CG {K:PySem.W.Frag} {J:Hq} {H:Hp} {y:PV} {u:V} {xs:List PV} (h:Ip J y=some xs) (r:bV K J H y u) (rr:Rep K J H):∃ p vs,u=.ref p∧(c8 K H p vs∨eL K H p vs)∧aL K J H xs vs:=by
 cases y with
 | tup ys=>cases h;obtain ⟨a,vs,rfl,h1,h2⟩:=r;exact ⟨a,vs,rfl,.inr h1,h2⟩
 | fl ys=>cases h;obtain ⟨a,vs,rfl,h1,h2⟩:=r;exact ⟨a,vs,rfl,.inl h1.sq,h2⟩
 | ref a =>
  cases r
  unfold Ip at h
  simp only at h
  split at h
  ·rename_i e;cases h
   obtain ⟨vs,h1,h2⟩:=rr _ _ e
   exact ⟨a,vs,rfl,.inl (c8.of h1),h2⟩
  ·cases h
 | _=>cases h
theorem e9 {K:PySem.W.Frag} {J:Hq} {H:Hp}:∀ {ns:List Str} {vs:List V},aL K J H (ns.map PV.str) vs→vs=ns.map V.str
 | [],_,h=>h
 | n :: ns,_,⟨v,us,e,h,k⟩=>by subst e;cases h;rw [e9 k];rfl
theorem k_ {K:PySem.W.Frag} {J:Hq} {H:Hp}:∀ {ns:List Int} {vs:List V},aL K J H (ns.map PV.int) vs→vs=ns.map V.int
 | [],_,h=>h
 | n :: ns,_,⟨v,us,e,h,k⟩=>by subst e;cases h;rw [k_ k];rfl
theorem xq {α:Type} [BEq α] [LawfulBEq α] [DecidableEq α] (x y:α):(x == y)=decide (x=y):=by by_cases h:x=y <;> simp [h]
theorem DF (s:Str) (ss:List Str):L2.Ii (.str s) (ss.map V.str)=decide (s∈ss):=by
 unfold L2.Ii
 induction ss with
 | nil=>rfl
 | cons x ss ih =>
  rw [List.map_cons,List.any_cons,ih,show L2.C7 (.str x) (.str s)=(x == s) from rfl,xq]
  by_cases h:x=s
  ·subst h;simp
  ·simp [h,show ¬ s=x from fun e=>h e.symm]
theorem DE (s:Int) (ss:List Int):L2.Ii (.int s) (ss.map V.int)=decide (s∈ss):=by
 unfold L2.Ii
 induction ss with
 | nil=>rfl
 | cons x ss ih =>
  rw [List.map_cons,List.any_cons,ih,show L2.C7 (.int x) (.int s)=(x == s) from rfl,xq]
  by_cases h:x=s
  ·subst h;simp
  ·simp [h,show ¬ s=x from fun e=>h e.symm]
section
variable {X:Cx} {G:G2}
def JF (f:Bool→Bool):kA:=fun x y J Q=>∃ (s:Str) (ss:List Str),x=.str s∧Ip J y=some (ss.map .str)∧Q (.bl (f (decide (s∈ss)))) J
def Md (f:Bool→Bool):kA:=fun x y J Q=>∃ (s:Int) (ss:List Int),x=.int s∧Ip J y=some (ss.map .int)∧Q (.bl (f (decide (s∈ss)))) J
theorem y8 (ss:List Str):(ss.map V.str).all L2.iG=true:=by simp [L2.iG]
theorem y6 (ss:List Int):(ss.map V.int).all L2.iG=true:=by simp [L2.iG]
theorem xY:lJ X (compareOp .NotIn) (JF not):=⟨_,L2.sk,fun J H x y v w Q2 Q rx ry r ⟨s,ss,ex,hy,q⟩ k=>by
 subst ex;cases rx
 obtain ⟨p,vs,rfl,hq,h2⟩:=CG hy ry r
 cases e9 h2
 exact ⟨p,_,rfl,hq,rfl,y8 ss,k (.bl _) J _ H (by rw [if_pos rfl,DF];rfl) r .refl q⟩⟩
theorem Hk:lJ X (compareOp .In) (Md id):=⟨_,L2.zK,fun J H x y v w Q2 Q rx ry r ⟨s,ss,ex,hy,q⟩ k=>by
 subst ex;cases rx
 obtain ⟨p,vs,rfl,hq,h2⟩:=CG hy ry r
 cases k_ h2
 exact ⟨p,_,rfl,hq,rfl,y6 ss,k (.bl _) J _ H (by rw [if_neg (by decide),DE];rfl) r .refl q⟩⟩
end
end Ov
namespace L2
open PySem PySem.Spec PyProof.Rows
section
variable {X:Cx} {tg:Expr}
end
end L2
namespace Ov
open PySem PySem.Spec PyProof.Rows
open L2 (V HO Hp Inv Cx VK XK TE TT TA TS TG m3 TI TO iM Ends tP Loc Gl Rd RelV Vals er tV bT mW pJ mO iK R2 upd aA aG c8 eL Sp pj It bt cJ bI Passes mL aE Meth Mk Binds aQ cq aw cU fu dW)
section
variable {X:Cx} {G:G2} {tg:Expr}
theorem Br {K:PySem.W.Frag} {J:Hq} {H:Hp} {y:PV} {u:V} {xs:List PV} (h:pw J y=some xs) (r:bV K J H y u) (rr:Rep K J H):∃ p vs,u=.ref p∧c8 K H p vs∧aL K J H xs vs:=by
 rcases oB h with rfl | ⟨a,rfl,ha⟩
 ·obtain ⟨a,vs,rfl,h1,h2⟩:=r;exact ⟨a,vs,rfl,h1.sq,h2⟩
 ·cases r
  obtain ⟨vs,h1,h2⟩:=rr _ _ ha
  exact ⟨a,vs,rfl,c8.of h1,h2⟩
end
end Ov
namespace L2
open PySem PySem.Spec PyProof.Rows
section
variable {X:Cx} {pins:List (Addr × Obj)} {σ:St} {H:Hp} {s:Shared} {h':Heap}
theorem Inv.yM {t':Nat} {ch:List Addr} (I:Inv X pins σ H s) (k:∀ b o,b ∉ ch→s.heap.get? b=some o→h'.get? b=some o) (hf:∀ b∈ch,iJ X pins H b):Inv X pins σ H { s with heap:=h',toks:=t' }:=by
 have nit:∀ b u,H b=some u→b ∉ ch:=fun b u e z=>by rw [(hf b z).1] at e;cases e
 refine I.step (g':=s.gens) (d':=s.drawn) (ch:=ch) (fun b hb=>?_) (fun b o _ _ hc e _=>k b o hc e) (fun b o _ _ hc e _=>⟨o.slots,k b o hc e⟩) (fun _ _ _ _ n=>n)
  (fun b o hc e=>⟨o,k b o hc e⟩) (fun _ _ e=>e) (fun _ _ _ e=>e) (fun b ps e=>⟨#[],by rw [e];simp⟩) (fun m hm=>?_) (fun b u e=>?_) I.bare
 ·obtain ⟨f0,f1,f2,f3,f4,f5⟩:=hf b hb
  exact ⟨f3,f1,f4,f5⟩
 ·obtain ⟨o,es,ep,ho,r⟩:=hm
  exact ⟨o,es,ep,k _ o (fun z=>(hf _ z).2.1 rfl) ho,r⟩
 ·refine (I.hok b u e).o_ (fun c v hc q=>k c v ?_ q) (fun _ q=>q) fun _ _ q=>q
  rcases hc with z | z
  ·rw [z];exact nit b u e
  ·exact nit c _ z
end
section
variable {X:Cx}
end
end L2
namespace Ov
open PySem PySem.Spec PyProof.Rows
open L2 (V HO Hp Inv Cx VK XK TE TT TA TS TG m3 TI TO iM Ends tP Loc Gl Rd RelV Vals er tV bT mW pJ mO iK R2 upd aA aG c8 eL Sp pj It bt cJ bI Passes mL aE Meth Mk Binds aQ cq aw cU fu dW)
section
variable {X:Cx} {G:G2}
end
end Ov
namespace L2
open PySem PySem.Spec PyProof.Rows
section
variable {α β:Type}
def lK (kvs:List (Str × α)) (k:Str):Option α:=(kvs.find? fun kv=>decide (kv.1=k)).map (·.2)
def sF (kvs:List (Str × α)) (k:Str) (v:α):List (Str × α):=if kvs.any (fun kv=>decide (kv.1=k)) then kvs.map (fun kv=>if kv.1=k then (kv.1,v) else kv) else kvs ++ [(k,v)]
def AL (kvs:List (Str × α)) (k:Str):List (Str × α):=kvs.filter fun kv=>decide (kv.1≠k)
theorem lI (p:Str × α) (r:List (Str × α)) (k:Str):lK (p :: r) k=if p.1=k then some p.2 else lK r k:=by
 unfold lK
 rw [List.find?_cons]
 by_cases h:p.1=k <;> simp [h]
theorem x6 (kvs:List (Str × α)) (k:Str) (v:α):(sF kvs k v).length≤kvs.length + 1:=by
 unfold sF;split <;> simp
theorem Dv (kvs:List (Str × α)) (k:Str):(AL kvs k).length≤kvs.length:=List.length_filter_le _ _
abbrev mY (R:α→β→Prop):List (Str × α)→List (Str × β)→Prop:=Paired fun p q=>p.1=q.1∧R p.2 q.2
variable {R:α→β→Prop}
theorem mY.va {kvs:List (Str × α)} {vs:List (Str × β)} (h:mY R kvs vs) (k:Str):(∀ x,lK kvs k=some x→∃ y,lK vs k=some y∧R x y)∧(lK kvs k).isSome=(lK vs k).isSome:=by
 induction h with
 | nil=>exact ⟨fun x e=>by simp [lK] at e,rfl⟩
 | @cons p q kvs vs r _ ih =>
  rw [lI,lI,← r.1]
  by_cases e:p.1=k
  ·rw [if_pos e,if_pos e];exact ⟨fun x z=>by cases z;exact ⟨_,rfl,r.2⟩,rfl⟩
  ·rw [if_neg e,if_neg e];exact ih
theorem mY.any {kvs:List (Str × α)} {vs:List (Str × β)} (h:mY R kvs vs) (k:Str):(kvs.any fun kv=>decide (kv.1=k))=vs.any fun kv=>decide (kv.1=k):=by
 induction h with
 | nil=>rfl
 | cons r _ ih=>rw [List.any_cons,List.any_cons,ih,r.1]
theorem mY.snoc {kvs:List (Str × α)} {vs:List (Str × β)} (h:mY R kvs vs) {k:Str} {x:α} {y:β} (r:R x y):mY R (kvs ++ [(k,x)]) (vs ++ [(k,y)]):=by
 induction h with
 | nil=>exact .cons ⟨rfl,r⟩ .nil
 | cons q _ ih=>exact .cons q ih
theorem mY.pu {kvs:List (Str × α)} {vs:List (Str × β)} (h:mY R kvs vs) {k:Str} {x:α} {y:β} (r:R x y):mY R (sF kvs k x) (sF vs k y):=by
 unfold sF
 rw [h.any k]
 split
 ·rename_i hany;clear hany
  induction h with
  | nil=>exact .nil
  | @cons p q kvs vs z _ ih =>
   rw [List.map_cons,List.map_cons]
   refine .cons ?_ ih
   by_cases e:p.1=k
   ·rw [if_pos e,if_pos (z.1 ▸ e)];exact ⟨z.1,r⟩
   ·rw [if_neg e,if_neg (z.1 ▸ e)];exact z
 ·exact h.snoc r
theorem mY.dr {kvs:List (Str × α)} {vs:List (Str × β)} (h:mY R kvs vs) (k:Str):mY R (AL kvs k) (AL vs k):=by
 unfold AL
 induction h with
 | nil=>exact .nil
 | @cons p q kvs vs z _ ih =>
  rw [List.filter_cons,List.filter_cons,z.1]
  split
  ·exact .cons z ih
  ·exact ih
theorem mY.len {kvs:List (Str × α)} {vs:List (Str × β)} (h:mY R kvs vs):kvs.length=vs.length:=Paired.length h
theorem mY.keys {kvs:List (Str × α)} {vs:List (Str × β)} (h:mY R kvs vs):kvs.map (·.1)=vs.map (·.1):=by
 induction h with
 | nil=>rfl
 | cons r _ ih=>rw [List.map_cons,List.map_cons,ih,r.1]
end
theorem Ac (vs:List (Str × Value)) (k:Str):valueAt vs k=lK vs k:=rfl
theorem str_is {P:Program} {w:World} {k:Str} {u:Value} (r:RelV (.str k) u):(PySem.strKind P w).is k u=true:=by
 obtain ⟨t,rfl⟩:=r
 simp [PySem.strKind,Value.isStrOf]
theorem Bf {P:Program} {w:World} {k:Str} {u:Value} (h:(PySem.strKind P w).is k u=true):RelV (.str k) u:=Value.isStrOf_shape h
section
variable {X:Cx} {pins:List (Addr × Obj)} {σ:St} {H:Hp} {s:Shared} {a:Addr} {A:Around} {E:Value→Shared→Prop} {kvs:List (Str × V)} {ep:Nat}
theorem kP (I:Inv X pins σ H s) (e:H a=some (.dE kvs ep)):kvs.length≤sizeLine∧(a == sysModules)=false∧∃ vs,mY RelV kvs vs∧s.heap.DictAt (PySem.strKind X.prog X.w) a vs ep:=I.hok a _ e
theorem n4 {h':Heap} {t':Nat} {kvs':List (Str × V)} {vs':List (Str × Value)} (I:Inv X pins σ H s) (e:H a=some (.dE kvs ep)) (hs:Heap.SameBut a s.heap h') (hz:kvs'.length≤sizeLine) (hd:(a == sysModules)=false) (rel:mY RelV kvs' vs') (dd:h'.DictOf (PySem.strKind X.prog X.w) a vs') :
  ∃ ep',Inv X pins σ (upd H a (.dE kvs' ep')) { s with heap:=h',toks:=t' }:=by
 obtain ⟨ep',da⟩:=dd.dictAt
 refine ⟨ep',I.write (x:=a) (e:=a) (by rw [e];exact True.intro) (.inl rfl) (fun b q hb z=>(hs.2 b hb).trans z) (let ⟨q,_,_,hq,_⟩:=dd;⟨q,hq⟩) ⟨hz,hd,vs',rel,da⟩⟩
theorem Inv.Gw (I:Inv X pins σ H s):sysModules < s.heap.objs.size:=by
 have h:mainGlobals < s.heap.objs.size:=(I.mod.glob.keeps I.bk).lt
 exact Nat.lt_trans (by decide) h
end
theorem zh {P:Program} {w:World} {kvs:List (Str × V)} {vs:List (Str × Value)} (rel:mY RelV kvs vs):∀ {us:List Value},us.length=kvs.length→(∀ (j:Nat) (v:Value),us[j]?=some v→∃ k x,vs[j]?=some (k,x)∧(PySem.strKind P w).is k v=true)→Vals (kvs.map fun kv=>V.str kv.1) us:=by
 induction rel with
 | nil =>
  intro us hlen _
  cases us with
  | nil=>exact .nil
  | cons _ _=>cases hlen
 | @cons p q kvs vs z _ ih =>
  intro us hlen hget
  cases us with
  | nil=>cases hlen
  | cons u us =>
   rw [List.map_cons]
   refine .cons ?_ (ih (by simpa using hlen) fun j v e=>?_)
   ·obtain ⟨k,x,e1,e2⟩:=hget 0 u rfl
    rw [List.getElem?_cons_zero] at e1
    cases e1
    rw [z.1];exact Bf e2
   ·obtain ⟨k,x,e1,e2⟩:=hget (j + 1) v (by rw [List.getElem?_cons_succ];exact e)
    rw [List.getElem?_cons_succ] at e1
    exact ⟨k,x,e1,e2⟩
def Mm:R2:=fun x y H Q=>∃ a kvs ep k v,x=.ref a∧y=.str k∧H a=some (.dE kvs ep)∧lK kvs k=some v∧Q v H
def JU (f:Bool→Bool):R2:=fun x y H Q=>∃ a kvs ep k,x=.str k∧y=.ref a∧H a=some (.dE kvs ep)∧Q (.bl (f (lK kvs k).isSome)) H
def HB:List V→Hp→VK→Prop:=fun xs H Q=>∃ a kvs ep,xs=[.ref a]∧H a=some (.dE kvs ep)∧∀ p,H p=none→Q (.ref p) (upd H p (.lst (kvs.map fun kv=>.str kv.1)))
def Kc:V→List V→Hp→VK→Prop:=fun x xs H Q=>∃ a kvs ep k v,x=.ref a∧xs=[.str k]∧H a=some (.dE kvs ep)∧lK kvs k=some v∧∀ ep',Q v (upd H a (.dE (AL kvs k) ep'))
def Ke:iM:=fun o i v H Q=>∃ a kvs ep k,o=.ref a∧i=.str k∧H a=some (.dE kvs ep)∧kvs.length < sizeLine∧∀ ep',Q (upd H a (.dE (sF kvs k v) ep'))
def Kv:TE:=fun _ H Q=>∀ p,H p=none→∀ ep,Q (.ref p) (upd H p (.dE [] ep))
section
variable {X:Cx}
theorem I9:mW X Mm:=by
 intro value slice pins s σ H x y v u Q I rx ry q hs
 obtain ⟨a,kvs,ep,k,z,rfl,rfl,hp,hz,q⟩:=q
 cases rx
 obtain ⟨_,hd,vs,rel,da⟩:=kP I hp
 have hT:s.TypeIs (.ref a) "dict":=da.dictOf.typeIs
 obtain ⟨w',hw,rw'⟩:=(rel.va k).1 z hz
 unfold subscriptTail
 refine wpAny_bind ?_
 rw [getitemInPython_of_ne hT.not_modules]
 refine wpAny_bind (wpAny_specialOf hT PySem.F.slot_dict_getitem.lookup ?_)
 have fin:wpAny (model X.prog X.w) X.A (subscripted slice false (.ref a) u) (fun r s₃=>wpAny (model X.prog X.w) X.A (letTemporaryGo value (.ref a) r >>= fun _=>pure r) (EP X pins σ Q) X.xe s₃) X.xe s:=by
  rw [hs]
  exact wpAny_operating (wpAny_getItem_of (str_is ry) da.dictOf.mapOf hw (wpAny_bind (wpAny_letTemporaryGo (wpAny_pure ⟨z,H,I.tok _,rw',q⟩))))
 first
  | exact wpAny_pure (wpAny_bind fin)
  | exact wpAny_bind (wpAny_pure (wpAny_bind fin))
  | exact wpAny_bind fin
theorem Hf:er X (compareOp .In) (JU id):=by
 intro pins s σ H x y v u Q I rx ry ⟨a,kvs,ep,k,ex,ey,hp,q⟩
 subst ex ey
 cases ry
 obtain ⟨_,hd,vs,rel,da⟩:=kP I hp
 refine wpAny_in_of (str_is rx) hd da.dictOf.mapOf ?_
 exact ⟨.bl _,H,I.tok _,by rw [Ac,← (rel.va k).2];rfl,q⟩
theorem tZ (hc:X.calm=true):bT X (.type "list") HB:=by
 intro pins s σ H xs us Q I r ⟨a,kvs,ep,ex,hp,q⟩
 subst ex
 obtain ⟨u,rfl,ru⟩:=vals1 r
 cases ru
 obtain ⟨hz,hd,vs,rel,da⟩:=kP I hp
 have hl:=rel.len
 refine PySem.W.kdl_call (PySem.W.kdl_dict (knd:=PySem.strKind X.prog X.w) (kvs:=vs) (ep:=ep) hd) (I.ok.hd hc) da (by rw [← hl];exact hz) fun h' tk acc c hk hS hacc=>?_
 have hkeys:Vals (kvs.map fun kv=>V.str kv.1) acc.toList:=by
  have hlen:acc.toList.length=kvs.length:=by rw [Array.length_toList,hacc.1,hl]
  have hget:∀ j v,acc.toList[j]?=some v→∃ k x,vs[j]?=some (k,x)∧(PySem.strKind X.prog X.w).is k v=true:=fun j v e=>hacc.2 j v (by rw [← Array.getElem?_toList];exact e)
  exact zh rel hlen hget
 have I2:Inv X pins σ (upd H s.heap.objs.size (.lst (kvs.map fun kv=>V.str kv.1))) { s with heap:=h',toks:=tk } :=
  I.laid (t':=tk) hk (Nat.le_refl _) (show cu X.prog X.w _ _ _ (.lst _) from ⟨by rw [List.length_map];exact hz,acc.toList,c,hkeys,by rw [Array.toArray_toList];exact hS⟩)
 exact ⟨.ref s.heap.objs.size,_,I2,rfl,q _ (I.hok.fresh (Nat.le_refl _))⟩
theorem DV:mO X "dict.pop" Kc:=by
 intro pins s σ H x xs v us Q I rx r ⟨a,kvs,ep,k,z,ex,exs,hp,hv,q⟩
 subst ex exs
 cases rx
 obtain ⟨u,rfl,ru⟩:=vals1 r
 obtain ⟨hz,hd,vs,rel,da⟩:=kP I hp
 obtain ⟨w',hw,rw'⟩:=(rel.va k).1 z hv
 have hpart:(keyPart u).isSome=true:=by obtain ⟨t,q⟩:=(show ∃ t,u=Value.str k t from ru);subst q;rfl
 refine call_meetsIn PySem.F.slot_dict_pop da.dictOf.typeIs PySem.F.entry_dict_pop (PySem.F.args_dict_pop_2 _ _) (meets_dict_pop_there (PySem.strKind X.prog X.w) a (str_is ru) [] (.inl rfl) hpart)
  ⟨vs,w',da.dictOf,by rw [← rel.len];exact hz,hw,fun h' dd' hs=>?_⟩
 obtain ⟨ep',I2⟩:=n4 (t':=s.toks + 1) I hp hs (Nat.le_trans (Dv kvs k) hz) hd (rel.dr k) dd'
 exact ⟨z,_,I2,rw',q ep'⟩
theorem HL:iK X Ke:=by
 intro pins s σ H o i v ov iv u Q I ro ri rv ⟨a,kvs,ep,k,eo,ei,hp,hl,q⟩
 subst eo ei
 cases ro
 obtain ⟨hz,hd,vs,rel,da⟩:=kP I hp
 refine wpAny_setItem_pairs (hsz:=by rw [← rel.len];exact hz) (str_is ri) da.dictOf fun h' dd' hs=>?_
 obtain ⟨ep',I2⟩:=n4 (t':=s.toks + 1) I hp hs (show (sF kvs k v).length≤sizeLine from Nat.le_trans (x6 kvs k v) hl) hd (rel.pu rv) dd'
 exact ⟨_,I2,q ep'⟩
theorem Ef {pos:Pos}:PE X (.Dict [] [] pos) Kv:=fun pins s σ H Q I h=>by
 have hd:(s.heap.push { cls:=.type "dict",data:=.dict #[] }).DictOf (PySem.strKind X.prog X.w) s.heap.objs.size []:=Heap.DictOf.new s.heap
 obtain ⟨ep,da⟩:=hd.dictAt
 exact wpAny_Dict_empty ⟨.ref s.heap.objs.size,_,I.laid (a:=s.heap.objs.size) (o:=.dE [] ep) (t':=s.toks) (fun _ _ q=>Heap.get?_push_of_some _ q) (Nat.le_refl _)
  ⟨Nat.zero_le _,beq_eq_false_iff_ne.mpr (Ne.symm (Nat.ne_of_lt I.Gw)),[],.nil,da⟩,rfl,h _ (I.hok.fresh (Nat.le_refl _)) ep⟩
end
def MH (a:Addr) (ks:List Str) (ep:Nat):It :=
 ⟨fun i H=>(∃ kvs,H a=some (.dE kvs ep)∧kvs.map (·.1)=ks)∧i < ks.length,
  fun i H z H'=>H'=H∧∃ k,ks[i]?=some k∧z=.str k,
  fun i H=>(∃ kvs,H a=some (.dE kvs ep)∧kvs.map (·.1)=ks)∧ks.length≤i⟩
theorem zZ {P:Program} {w:World} {K:PySem.W.Frag} {tg:Expr} (a it:Addr) (ks:List Str) (ep:Nat):Turn P w K tg (MH a ks ep) [it] it (fun i h=>h.IsKeyIter it a i ks.length ep) where
 mem:=by simp
 obj:=fun i h st b hb=>by
  have e:b=it:=by simpa using hb
  subst e
  obtain ⟨o,e,c,d⟩:=st
  exact ⟨o,e,fun v z=>by rw [d] at z;cases z⟩
 keep:=fun i h h' st k=>st.at fun o e=>k it (by simp) o e
 item:=by
  intro X hP hw hK hc i pins s σ H E I hf st hg
  subst hP hw hK
  obtain ⟨⟨kvs,hp,hks⟩,hi⟩:=hg
  obtain ⟨hz,hd,vs,rel,da⟩:=kP I hp
  have hl:ks.length=vs.length:=by rw [← hks,List.length_map];exact rel.len
  obtain ⟨f0,f1,f2,f3,f4,f5⟩:=hf it (by simp)
  obtain ⟨⟨k,x⟩,hx⟩:∃ p,vs[i]?=some p:=⟨vs[i]'(by omega),List.getElem?_eq_getElem (by omega)⟩
  have hk:ks[i]?=some k:=by rw [← hks,rel.keys,List.getElem?_map,hx];rfl
  refine wpAny_pyNext_dict_item (by rw [← hl];exact st) da hx fun key h' hkey st' sb=>?_
  rw [← hl] at st'
  have I1:Inv X pins σ H { s with heap:=h' }:=I.turned (t':=s.toks) (fun b o hb e=>(sb.2 b hb).trans e) f0 f1 f3 f4 f5
  obtain ⟨o,e,c,d⟩:=id st'
  exact ⟨key,rfl,A5 (s:={ s with heap:=h' }) e c d (by decide) ⟨.str k,H,I1,Bf hkey,⟨rfl,k,hk,rfl⟩,st',fun b hb=>(hf b hb).1⟩⟩
 done:=by
  intro X hP hw hK hc i pins s σ H E I hf st hg
  subst hP hw hK
  obtain ⟨⟨kvs,hp,hks⟩,hi⟩:=hg
  obtain ⟨hz,hd,vs,rel,da⟩:=kP I hp
  have hl:ks.length=vs.length:=by rw [← hks,List.length_map];exact rel.len
  obtain ⟨f0,f1,f2,f3,f4,f5⟩:=hf it (by simp)
  refine wpAny_pyNext_dict_end (I.ok.hd hc) (by rw [← hl];exact st) da (by rw [List.getElem?_eq_none_iff];omega) fun h' hk=>⟨rfl,I.turned (t':=s.toks) (fun b o hb e=>hk b o hb e) f0 f1 f3 f4 f5⟩
 self:=fun _ _ _ _ _ st h=>wpAny_pyIter_keyiter st h
def IY (td:TE):TI:=fun σ H R=>td σ H fun x H1=>∃ a kvs ep,x=.ref a∧H1 a=some (.dE kvs ep)∧R (MH a (kvs.map (·.1)) ep) H1
theorem Eh {X:Cx} {tg l:Expr} {tl:TE} (hl:PE X l tl):PI X tg l (IY tl):=by
 intro pins s σ H R I h
 refine bM (hl pins s σ H _ I h) fun v s1 ⟨x,H1,I1,r1,q1⟩=>?_
 obtain ⟨a,kvs,ep,e,hp,q⟩:=q1
 subst e
 cases r1
 obtain ⟨hz,hd,vs,rel,da⟩:=kP I1 hp
 refine wpAny_pyIter_dict hd da ?_
 refine ⟨s1.heap.objs.size,[s1.heap.objs.size],_,_,H1,rfl,I1.kept (t':=s1.toks) fun b o e=>Heap.get?_push_of_some _ e,zZ a _ (kvs.map (·.1)) ep,⟨_,Heap.get?_push_size _ rfl,rfl,by rw [List.length_map,rel.len];rfl⟩,fun b hb=>?_,q⟩
 have e:b=s1.heap.objs.size:=by simpa using hb
 subst e
 exact I1.Dx (Nat.le_refl _) (I1.hok.fresh (Nat.le_refl _))
end L2
namespace Ov
open PySem PySem.Spec PyProof.Rows L2
def Iv (X:Cx) (ifs:List Expr) (t:TT):Prop :=
 ∀ (pins:List (Addr × Obj)) (s:Shared) (σ:L2.St) (H:Hp) (Q:Bool→Hp→Prop),Inv X pins σ H s→t σ H Q →
  wpAny (model X.prog X.w) X.A (forIn ifs true fun c r=>if r=true then do let ok ← isTrue c X.env (eval c X.env);pure (ForInStep.yield ok) else pure (ForInStep.yield r)) (TP X pins σ Q) X.xe s
theorem Ep {X:Cx}:Iv X [] (fun _ H Q=>Q true H):=fun pins s σ H Q I h=>by rw [List.forIn_nil];exact wpAny_pure ⟨H,I,h⟩
section
variable {prog:Program} {w:World} {A:Around} {R:Result→Shared→Prop} {s:Shared}
theorem wd {kx vx iter:Expr} {ifs:List Expr} {x:Str} {px:Pos} {sc:Scope} {pos:Pos} {it:Value} {D:Addr} {env:Env} (I:Nat→Shared→Prop)
  (turn:∀ n s,I n s→wpAny (model prog w) A (pyNext it) (fun r s₁=>match r with
   | none=>R (.ok .next) s₁
   | some v=>wpAny (model prog w) A (letOwnedTupleGo (.Name x px) it v) (fun _ s₂=>wpAny (model prog w) A (assign (.Name x px) env v) (fun _ s₃=>wpAny (model prog w) A (forIn ifs true fun c r=>if r=true then do let ok ← isTrue c env (eval c env);pure (ForInStep.yield ok) else pure (ForInStep.yield r)) (fun ok s₃=>if ok=true then wpAny (model prog w) A (eval kx env) (fun kv s₄ =>
     wpAny (model prog w) A (eval vx env) (fun vv s₅=>wpAny (model prog w) A (dictSet D kv vv) (fun _ s₅=>∃ m,m < n∧I m s₅) (fun _ _=>False) s₅) (fun _ _=>False) s₄) (fun _ _=>False) s₃ else ∃ m,m < n∧I m s₃) (fun _ _=>False) s₃) (fun _ _=>False) s₂) (fun _ _=>False) s₁) (fun _ _=>False) s)
  (n:Nat) (h:I n s):codeAny (model prog w) A (.compLoop (.DictComp kx vx [⟨.Name x px,iter,ifs,0⟩] sc pos) 0 it (.ref D) env) R s:=by
 refine codeAny_loop rfl I (fun n s hI=>?_) n h
 show wpAny _ _ ((compTurn (.DictComp kx vx [⟨.Name x px,iter,ifs,0⟩] sc pos) 0 it (.ref D) env).onRaise (fun x=>do noteFrame x env;theTreesLotGoes x)) _ _ s
 refine wpAny_noted ?_
 rw [compTurn_dict]
 have no:∀ (e:Value) (s':Shared),False→notedBy (model prog w) A env (fun e s'=>R (.error e) s') e s':=fun _ _ z=>z.elim
 refine wpAny_bind (wpAny_standAt (wpAny_bind (wpAny_mono (turn n s hI) (fun r s₁ h₁=>?_) no)))
 cases r with
 | none=>exact wpAny_pure h₁
 | some v =>
  refine wpAny_bind (wpAny_mono h₁ (fun _ s₂ h₂=>?_) no)
  refine wpAny_bind (wpAny_mono h₂ (fun _ s₃ h₃=>wpAny_bind (wpAny_mono h₃ (fun ok s₃' h₃'=>?_) no)) no)
  cases ok with
  | false=>exact wpAny_pure ⟨rfl,h₃'⟩
  | true =>
   exact wpAny_bind (wpAny_bind (wpAny_mono h₃' (fun kv s₄ h₄=>wpAny_bind (wpAny_holding (wpAny_mono h₄ (fun vv s₅ h₅=>wpAny_bind (wpAny_standAt (wpAny_holding (wpAny_mono h₅ (fun _ s₆ h₆=>wpAny_pure ⟨rfl,h₆⟩) no)))) no))) no))
end
def Na (wi:TI) (ks:List (Str × Nat)) (tc:TT) (tk te:TE):TE:=fun σ H Q=>wi σ H fun J H1=>∀ D,H1 D=none→∀ ep,∃ W:Nat→Nat→Hp→Prop,(∃ m,W 0 m (upd H1 D (.dE [] ep))) ∧
 ∀ i m H2,W i m H2→(J.stop i H2∧Q (.ref D) H2)∨(J.go i H2∧∀ v H3,J.yld i H2 v H3→tc (some v :: cS ks σ) H3 fun b H4=>if b=true then tk (some v :: cS ks σ) H4 fun y H5=>te (some v :: cS ks σ) H5 fun z H6=>∃ kvs ep k,y=.str k∧H6 D=some (.dE kvs ep)∧kvs.length < sizeLine∧∃ m',m' < m∧∀ ep',W (i + 1) m' (upd H6 D (.dE (L2.sF kvs k z) ep')) else ∃ m',m' < m∧W (i + 1) m' H4)
section
variable {X:Cx}
theorem zS {kx vx iter:Expr} {ifs:List Expr} {x:Str} {px:Pos} {sc:Scope} {pos:Pos} {tk te:TE} {tc:TT} {ks:List (Str × Nat)} {cl:List (Str × Addr)} {pins:List (Addr × Obj)} {σ:L2.St} {H:Hp} {s:Shared} {it:Addr} {fp:List Addr} {tn:Nat→Heap→Prop} {J:It} {Q:VK}
  {RR:Value→Addr→Result→Shared→Prop} {E:Value→Shared→Prop}
  (hc:X.calm=true) (ok:bU sc X.env.scope X.N x ks) (h1:∀ y c,cl.lookup y=some c→X.env.cells.lookup y=some c) (h2:∀ y∈sc.names,y.2=.free→∃ c,cl.lookup y.1=some c)
  (hk:∀ cl C s₀ H₀ fp pins,PE (dT X sc cl C x ks s₀ H₀ fp pins) kx tk) (he:∀ cl C s₀ H₀ fp pins,PE (dT X sc cl C x ks s₀ H₀ fp pins) vx te) (hcn:∀ cl C s₀ H₀ fp pins,Iv (dT X sc cl C x ks s₀ H₀ fp pins) ifs tc)
  (I:Inv X pins σ H s) (T:Turn X.prog X.w X.K (.Name x px) J fp it tn) (st:tn 0 s.heap) (f:∀ b∈fp,iJ X pins H b)
  (hw:∀ D,H D=none→∀ ep,∃ W:Nat→Nat→Hp→Prop,(∃ m,W 0 m (upd H D (.dE [] ep)))∧∀ i m H2,W i m H2→(J.stop i H2∧Q (.ref D) H2) ∨
   (J.go i H2∧∀ v H3,J.yld i H2 v H3→tc (some v :: cS ks σ) H3 fun b H4=>if b=true then tk (some v :: cS ks σ) H4 fun y H5=>te (some v :: cS ks σ) H5 fun z H6=>∃ kvs ep k,y=.str k∧H6 D=some (.dE kvs ep)∧kvs.length < sizeLine∧∃ m',m' < m∧∀ ep',W (i + 1) m' (upd H6 D (.dE (L2.sF kvs k z) ep')) else ∃ m',m' < m∧W (i + 1) m' H4))
  (hR:∀ (D C:Addr) (s':Shared) (H':Hp) (m:Str→Option Value),Inv X pins σ H' s'→Q (.ref D) H'→s'.heap.Ns C m→H' C=none→C≠X.env.locals→X.s₀.heap.objs.size≤C→(∀ y c,X.env.cells.lookup y=some c→c≠C)→(∀ p∈X.pn ++ pins,p.1≠C)→RR (.ref D) C (.ok .next) s') :
  wpAny (model X.prog X.w) X.A newDict (fun acc s₃=>wpAny (model X.prog X.w) X.A (newFunctionEnv sc X.env.globals cl [] X.env.qual none .none (some X.env)) (fun cenv s₄ =>
   codeAny (model X.prog X.w) X.A (.compStart (.DictComp kx vx [⟨.Name x px,iter,ifs,0⟩] sc pos) 0 (.ref it) acc { cenv with scope:=relabel sc X.env }) (RR acc cenv.locals) s₄) E s₃) E s:=by
 have okk:=ok
 obtain ⟨kd,nc,lx,ll,fr,kk,nd⟩:=okk
 have hD0:H s.heap.objs.size=none:=I.hok.fresh (Nat.le_refl _)
 have hdd:(s.heap.push { cls:=.type "dict",dict:=none,data:=.dict #[] }).DictOf (PySem.strKind X.prog X.w) s.heap.objs.size []:=Heap.DictOf.new s.heap
 obtain ⟨ep0,da⟩:=hdd.dictAt
 obtain ⟨W,⟨m0,w0⟩,turn⟩:=hw s.heap.objs.size hD0 ep0
 refine wpAny_newObj_type ?_
 have I3:Inv X pins σ (upd H s.heap.objs.size (.dE [] ep0)) { s with heap:=s.heap.push { cls:=.type "dict",dict:=none,data:=.dict #[] } } :=
  I.laid (t':=s.toks) (fun b u e=>Heap.get?_push_of_some _ e) (Nat.le_refl _) ⟨Nat.zero_le _,beq_eq_false_iff_ne.mpr (Ne.symm (Nat.ne_of_lt I.Gw)),[],.nil,da⟩
 have st3:tn 0 (s.heap.push { cls:=.type "dict",dict:=none,data:=.dict #[] }):=T.keep 0 _ _ st fun b hb o e=>Heap.get?_push_of_some _ e
 clear da hdd
 generalize hD:s.heap.objs.size=D at *
 generalize hH:upd H D (.dE [] ep0)=H3 at *
 generalize hs3:({ s with heap:=s.heap.push { cls:=.type "dict",dict:=none,data:=.dict #[] } }:Shared)=s3 at *
 have e3:s.heap.push { cls:=.type "dict",dict:=none,data:=.dict #[] }=s3.heap:=by rw [← hs3]
 rw [e3] at st3
 have fD:∀ b∈fp,b≠D:=fun b hb z=>by
  obtain ⟨o,ho,_⟩:=T.obj 0 _ st b hb
  have:=Heap.lt_size ho
  rw [z,← hD] at this
  exact Nat.lt_irrefl _ this
 have f3:∀ b∈fp,iJ X pins H3 b:=fun b hb=>⟨by rw [← hH,aG (fD b hb)];exact (f b hb).1,(f b hb).2⟩
 have g3:∀ b∈fp,∃ o,s3.heap.get? b=some o:=fun b hb=>by
  obtain ⟨o,ho,_⟩:=T.obj 0 _ st3 b hb
  exact ⟨o,ho⟩
 refine wpAny_newFunctionEnv nc (by intro y hy;simp at hy) (fun h₁ hns hsb=>?_) kd
 have kp:∀ b o,s3.heap.get? b=some o→h₁.get? b=some o:=fun b o e=>hsb.extBut b o (Nat.ne_of_lt (Heap.lt_size e)) (Heap.get?_push_of_some _ e)
 have J0:=om (fp:=fp) (cl:=cl) (t':=s3.toks + ([]:List (Str × Value)).length) I3 ok h1 h2 (fun b hb=>⟨f3 b hb,g3 b hb⟩) hns kp
 have st4:tn 0 h₁:=T.keep 0 _ _ st3 fun b hb o e=>kp b o e
 have ltC:∀ b o,s3.heap.get? b=some o→b≠s3.heap.objs.size:=fun b o e=>Nat.ne_of_lt (Heap.lt_size e)
 have cC:∀ y c,X.env.cells.lookup y=some c→c≠s3.heap.objs.size:=fun y c e=>by
  obtain ⟨v,o,ho,_⟩:=I3.cell y c e
  exact ltC c o ho
 have pC:∀ p∈X.pn ++ pins,p.1≠s3.heap.objs.size:=fun p hp=>ltC _ _ (I3.pin p hp).1
 have lC:s3.heap.objs.size≠X.env.locals:=Nat.ne_of_gt I3.lt
 have fX:∀ {H':Hp},(∀ b∈fp,H' b=none)→∀ b∈fp,iJ (dT X sc cl s3.heap.objs.size x ks s3 H3 fp pins) [] H' b:=fun hn b hb=>by
  obtain ⟨o,ho⟩:=g3 b hb
  obtain ⟨_,q1,q2,q3,q4,q5⟩:=f b hb
  refine ⟨hn b hb,ltC b o ho,fun z=>?_,.inl hb,fun y c e=>q4 y c (h1 y c e),fun p hp=>q5 p (by simpa [dT] using hp)⟩
  rcases List.mem_cons.mp (I3.ko b z) with e | e
  ·exact q1 e
  ·exact q2 e
 have back:∀ {o:Option V} {H':Hp} {s':Shared},Inv (dT X sc cl s3.heap.objs.size x ks s3 H3 fp pins) [] (o :: cS ks σ) H' s'→Inv X pins σ H' s':=fun {o H' s'} J=>by
  obtain ⟨hh,g,d,t,os'⟩:=s'
  obtain rfl:os'=s3.os:=J.os
  exact I3.call (h':=hh) (g':=g) (d':=d) (t':=t) (ch:=fp) J.base J.hok J.bare fun b hb=>⟨(f b hb).2.2.2.1,(f b hb).2.1,(f b hb).2.2.2.2.1,(f b hb).2.2.2.2.2⟩
 have lookX:(relabel sc X.env).names.lookup x=some .local:=lookup_relabel_local lx
 have loop:∀ s',(∃ (i:Nat) (o:Option V) (H':Hp),Inv (dT X sc cl s3.heap.objs.size x ks s3 H3 fp pins) [] (o :: cS ks σ) H' s'∧tn i s'.heap∧(∀ b∈fp,H' b=none)∧W i m0 H') →
   codeAny (model X.prog X.w) X.A (.compLoop (.DictComp kx vx [⟨.Name x px,iter,ifs,0⟩] sc pos) 0 (.ref it) (.ref D) (compEnvC sc cl s3.heap.objs.size X.env)) (RR (.ref D) s3.heap.objs.size) s':=by
  intro s' hs'
  refine wd (fun n s'=>∃ (i:Nat) (o:Option V) (H':Hp),Inv (dT X sc cl s3.heap.objs.size x ks s3 H3 fp pins) [] (o :: cS ks σ) H' s'∧tn i s'.heap∧(∀ b∈fp,H' b=none)∧W i n H') ?_ m0 hs'
  rintro n s5 ⟨i,o,H5,J5,t5,n5,w5⟩
  rcases turn i n H5 w5 with ⟨stop,hq⟩ | ⟨go,step⟩
  ·refine bM (T.done (dT X sc cl s3.heap.objs.size x ks s3 H3 fp pins) rfl rfl rfl hc i [] s5 _ H5 _ J5 (fX n5) t5 stop) fun r s6 ⟨hr,J6⟩=>?_
   subst hr
   obtain ⟨m,hm,_⟩:=J6.loc
   exact hR D _ s6 H5 m (back J6) hq hm J6.free lC I3.sz cC pC
  ·refine bM (T.item (dT X sc cl s3.heap.objs.size x ks s3 H3 fp pins) rfl rfl rfl hc i [] s5 _ H5 _ J5 (fX n5) t5 go) fun r s6 ⟨u,hr,h6⟩=>?_
   subst hr
   refine bM h6 fun _ s7 ⟨v,H7,J7,r7,y7,t7,n7⟩=>?_
   have J7':=J7.pinned (fX n7) (T.obj _ _ t7)
   refine wpAny_assign_Name (eG (X:=dT X sc cl s3.heap.objs.size x ks s3 H3 fp pins) (i:=0) J7' nd rfl (.inl lookX) r7 (fun s8 J8=>?_) (.inr lookX))
   refine bM (hcn cl s3.heap.objs.size s3 H3 fp pins _ s8 _ H7 _ J8 (step v H7 y7)) fun ok s8' ⟨H8,J8',q8⟩=>?_
   cases ok with
   | false =>
    simp only [Bool.false_eq_true,if_false] at q8 ⊢
    obtain ⟨m',hm,w'⟩:=q8
    refine ⟨m',hm,i + 1,_,_,J8'.eI,?_,?_,w'⟩
    ·exact T.keep _ _ _ t7 fun b hb o e=>(J8'.pin (b,o) (List.mem_append_right _ (List.mem_append_right _ (bL hb e)))).1
    ·intro b hb
     obtain ⟨o,e,d⟩:=T.obj _ _ t7 b hb
     exact (J8'.pin (b,o) (List.mem_append_right _ (List.mem_append_right _ (bL hb e)))).2.1
   | true =>
    simp only [if_true] at q8 ⊢
    refine bM (hk cl s3.heap.objs.size s3 H3 fp pins _ s8' _ H8 _ J8' q8) fun ky s8'' ⟨vk,H8',J8'',rk,q8'⟩=>?_
    refine bM (he cl s3.heap.objs.size s3 H3 fp pins _ s8'' _ H8' _ J8'' q8') fun y s9 ⟨vy,H9,J9,r9,kvs,ep,k,ek,hys,hz,m',hm,w'⟩=>?_
    subst ek
    obtain ⟨hz',hd',vs,rel,da⟩:=kP J9 hys
    refine wpAny_dictSet_pairs (hsz:=by rw [← rel.len];exact hz') (str_is rk) da.dictOf fun h' dd' hsb=>?_
    obtain ⟨ep',J10⟩:=n4 (t':=s9.toks + 1) J9 hys hsb (show (L2.sF kvs k vy).length≤sizeLine from Nat.le_trans (x6 kvs k vy) hz) hd' (rel.pu r9) dd'
    refine ⟨m',hm,i + 1,_,_,J10.eI,?_,?_,w' ep'⟩
    ·exact T.keep _ _ _ t7 fun b hb o e=>(J10.pin (b,o) (List.mem_append_right _ (List.mem_append_right _ (bL hb e)))).1
    ·intro b hb
     obtain ⟨o,e,d⟩:=T.obj _ _ t7 b hb
     exact (J10.pin (b,o) (List.mem_append_right _ (List.mem_append_right _ (bL hb e)))).2.1
 have l0:=loop _ ⟨0,none,H3,J0,st4,fun b hb=>(f3 b hb).1,w0⟩
 exact codeAny_compStart_dict l0 (T.self _ 0 _ _ _ st4 l0)
theorem Jy {kx vx iter:Expr} {ifs:List Expr} {x:Str} {px:Pos} {sc:Scope} {pos:Pos} {wi:TI} {tk te:TE} {tc:TT} (osc:Scope) (N:List Str) (ks:List (Str × Nat)) (hc:X.calm=true) (ho:X.env.scope=osc) (hN:X.N=N) (hi:PI X (.Name x px) iter wi)
  (hk:∀ cl C s₀ H₀ fp pins,PE (dT X sc cl C x ks s₀ H₀ fp pins) kx tk) (he:∀ cl C s₀ H₀ fp pins,PE (dT X sc cl C x ks s₀ H₀ fp pins) vx te) (hcn:∀ cl C s₀ H₀ fp pins,Iv (dT X sc cl C x ks s₀ H₀ fp pins) ifs tc) (ok:bU sc osc N x ks:=by decide +kernel) (hs:∀ x,foldedSetIterable iter X.env x=pure x:=by intro _;rfl) :
  PE X (.DictComp kx vx [⟨.Name x px,iter,ifs,0⟩] sc pos) (Na wi ks tc tk te):=by
 intro pins s σ H Q I hw
 obtain ⟨cl,hcl,h1,h2⟩:=fv (jj ok I ho)
 have ok':bU sc X.env.scope X.N x ks:=by rw [ho,hN];exact ok
 rw [arm_eval_DictComp]
 refine wpAny_comprehension_free (use:=none) rfl hs hcl ok.1 ok.2.2.2.1 (bM (hi pins s σ H _ I hw) fun v s1 h3=>bM h3 fun itv s2 h4=>?_)
 obtain ⟨it,fp,tn,J,H2,rfl,I2,T,st2,f2,hR⟩:=h4
 refine zS (RR:=fun acc C=>compPost (model X.prog X.w) X.A X.xe none (EP X pins σ Q) acc C) hc ok' h1 h2 hk he hcn I2 T st2 f2 hR ?_
 intro D C s' H' m J' q hn hC cl' cs cc cp
 refine ⟨m,hn,fun h' hsb=>⟨.ref D,H',?_,rfl,q⟩⟩
 exact J'.turned (t':=s'.toks) (it:=C) (fun b o ne e=>hsb.extBut b o ne e) hC cl' (.inr cs) cc cp
end
end Ov
namespace Ov
open PySem PySem.Spec PyProof.Rows
open L2 (V HO Hp Inv Cx VK XK TE TT TA TS TG m3 TI TO iM Ends tP Loc Gl Rd RelV Vals er tV bT mW pJ mO iK R2 upd aA aG c8 eL Sp pj It bt cJ bI Passes mL aE Meth Mk Binds aQ cq aw cU fu dW lK sF AL mY)
section
variable {K:PySem.W.Frag} {J:Hq} {H:Hp}
theorem dO:∀ {kvs:List (Str × PV)} {gs:List (Str × V)},j3 K J H kvs gs→mY (bV K J H) kvs gs
 | [],[],_=>.nil
 | [],_ :: _,h=>by cases h.1
 | _ :: _,[],h=>by cases h.1
 | (k,y) :: fs,(k',w) :: gs,h=>by
  obtain ⟨h1,v',us,h2,h3,h4⟩:=h
  simp only [List.map_cons,List.cons.injEq] at h1 h2
  obtain ⟨rfl,h1⟩:=h1
  obtain ⟨rfl,rfl⟩:=h2
  exact .cons ⟨rfl,h3⟩ (dO ⟨h1,h4⟩)
theorem uL:∀ {kvs:List (Str × PV)} {gs:List (Str × V)},mY (bV K J H) kvs gs→j3 K J H kvs gs
 | _,_,.nil=>⟨rfl,rfl⟩
 | _,_,.cons (a:=p) (b:=q) r t=>by
  obtain ⟨h1,h2⟩:=uL t
  exact ⟨by rw [List.map_cons,List.map_cons,h1,r.1],q.2,_,rfl,r.2,h2⟩
theorem Ext.jA {p:Addr} {kvs kvs':List (Str × PV)} {gs gs':List (Str × V)} {ep ep':Nat} (h:J p=some (.dct kvs ep)) (k:H p=some (.dE gs ep)):Ext K J H (put J p (.dct kvs' ep')) (upd H p (.dE gs' ep')):=by
 have sm:∀ a u,a≠p→Rd H a u→Rd (upd H p (.dE gs' ep')) a u:=fun a u ne z=>by
  rcases z with z | ⟨o,z⟩
  ·exact .inl (by rw [aG ne];exact z)
  ·exact .inr ⟨o,by rw [aG ne];exact z⟩
 refine ⟨fun a vs' z=>?_,fun a o z q _=>?_⟩
 ·rcases z with z | z
  ·have ne:a≠p:=by
    intro e;subst e
    rcases z with z | ⟨o,z⟩
    ·rw [k] at z;cases z
    ·rw [k] at z;cases z
   exact .inl (sm a _ ne z)
  ·exact .inr z
 ·have ne:a≠p:=by intro e;subst e;rw [h] at z;cases z
  exact ⟨by rw [ak ne];exact z,by rw [aG ne];exact q⟩
theorem Rep.jA {p:Addr} {kvs kvs':List (Str × PV)} {gs gs':List (Str × V)} {ep ep':Nat} (r:Rep K J H) (h:J p=some (.dct kvs ep)) (k:H p=some (.dE gs ep)) (q:mY (bV K J H) kvs' gs'):Rep K (put J p (.dct kvs' ep')) (upd H p (.dE gs' ep')):=by
 have e:=Ext.jA (K:=K) (kvs':=kvs') (gs':=gs') (ep':=ep') h k
 refine r.vp e p (fun a ne=>ak ne) (fun a o ne _ z=>by rw [aG ne];exact z) fun u z=>?_
 rw [au] at z;cases z
 exact ⟨gs',aA,e.uV (uL q)⟩
theorem Rep.Fs {p:Addr} {ep:Nat} (r:Rep K J H) (n:H p=none):Rep K (put J p (.dct [] ep)) (upd H p (.dE [] ep)):=by
 have e:=Ext.laid (K:=K) (J:=J) (o:=.dE [] ep) (u:=.dct [] ep) n
 refine r.vp e p (fun a ne=>ak ne) (fun a o ne _ z=>by rw [aG ne];exact z) fun u z=>?_
 rw [au] at z;cases z
 exact ⟨[],aA,⟨rfl,rfl⟩⟩
end
def JI:kA:=fun x y J Q=>∃ a kvs ep k v,x=.ref a∧y=.str k∧J a=some (.dct kvs ep)∧lK kvs k=some v∧Q v J
def Hx (f:Bool→Bool):kA:=fun x y J Q=>∃ a kvs ep k,x=.str k∧y=.ref a∧J a=some (.dct kvs ep)∧Q (.bl (f (lK kvs k).isSome)) J
def JK:xo:=fun xs J Q=>∃ a kvs ep,xs=[.ref a]∧J a=some (.dct kvs ep)∧Q (.int kvs.length) J
def Ca:xo:=fun xs J Q=>∃ a kvs ep,xs=[.ref a]∧J a=some (.dct kvs ep)∧Q (.fl (kvs.map fun kv=>.str kv.1)) J
def FL:Af:=fun x xs J Q=>∃ a kvs ep k v,x=.ref a∧xs=[.str k]∧J a=some (.dct kvs ep)∧lK kvs k=some v∧∀ ep',Q v (put J a (.dct (AL kvs k) ep'))
def FN:vT:=fun o i y J R=>∃ a kvs ep k,o=.ref a∧i=.str k∧J a=some (.dct kvs ep)∧kvs.length < sizeLine∧∀ ep',R (put J a (.dct (sF kvs k y) ep'))
def FT:cQ:=fun _ J Q=>∀ p,J p=none→∀ ep,Q (.ref p) (put J p (.dct [] ep))
def Lu (te:cQ):qh:=fun τ J R=>te τ J fun x J1=>∃ a kvs ep,x=.ref a∧J1 a=some (.dct kvs ep)∧R ⟨kvs.map fun kv=>.str kv.1,fun J'=>J' a=some (.dct kvs ep)⟩ J1
section
variable {X:Cx} {G:G2}
theorem h_:Ld X JI:=⟨_,L2.I9,fun J H x y v w Q2 Q rx ry r ⟨a,kvs,ep,k,z,ex,ey,ja,hz,q⟩ kn=>by
 subst ex ey
 cases rx;cases ry
 obtain ⟨gs,h1,h2⟩:=r _ _ ja
 obtain ⟨u,hu,ru⟩:=((dO h2).va k).1 z hz
 exact ⟨a,gs,ep,k,u,rfl,rfl,h1,hu,kn z J u H ru r .refl q⟩⟩
theorem G6 (f:Bool→Bool):LR X.K (L2.JU f) (Hx f):=fun J H x y v w Q2 Q rx ry r ⟨a,kvs,ep,k,ex,ey,ja,q⟩ kn=>by
 subst ex ey
 cases rx;cases ry
 obtain ⟨gs,h1,h2⟩:=r _ _ ja
 exact ⟨a,gs,ep,k,rfl,rfl,h1,by rw [← ((dO h2).va k).2];exact kn (.bl _) J _ H rfl r .refl q⟩
theorem Hj:lJ X (compareOp .In) (Hx id):=⟨_,L2.Hf,G6 id⟩
theorem me {K:PySem.W.Frag} {J:Hq} {H:Hp}:∀ {ks:List Str},aL K J H (ks.map PV.str) (ks.map V.str)
 | []=>rfl
 | k :: ks=>⟨_,_,rfl,rfl,me (ks:=ks)⟩
theorem nY (hc:X.calm=true):Ge X (.type "list") Ca:=⟨_,L2.tZ hc,fun J H xs vs Q2 Q rs r ⟨a,kvs,ep,ex,ja,q⟩ k=>by
 subst ex;obtain ⟨v,us,rfl,rv,e⟩:=rs;cases e;cases rv
 obtain ⟨gs,h1,h2⟩:=r _ _ ja
 refine ⟨a,gs,ep,rfl,h1,fun p hp=>?_⟩
 have hk:aL X.K J H (kvs.map fun kv=>PV.str kv.1) (gs.map fun kv=>V.str kv.1):=by
  have:=(dO h2).keys
  rw [show (kvs.map fun kv=>PV.str kv.1)=(kvs.map (·.1)).map PV.str by rw [List.map_map];rfl,show (gs.map fun kv=>V.str kv.1)=(gs.map (·.1)).map V.str by rw [List.map_map];rfl,this]
  exact me
 obtain ⟨x1,x2,x3⟩:=wx r hk hp
 exact k _ J _ _ x1 x2 x3 q⟩
theorem DT:Ff X "dict" "dict.pop" FL:=⟨_,L2.DV,fun J H x xs v vs Q2 Q rx rs r ⟨a,kvs,ep,k,z,ex,exs,ja,hz,q⟩ kn=>by
 subst ex exs;cases rx
 obtain ⟨u,us,rfl,ru,e⟩:=rs;cases e;cases ru
 obtain ⟨gs,h1,h2⟩:=r _ _ ja
 have pk:=dO h2
 obtain ⟨y,hy,ry⟩:=(pk.va k).1 z hz
 refine ⟨a,gs,ep,k,y,rfl,rfl,h1,hy,fun ep'=>?_⟩
 have e2:=Ext.jA (K:=X.K) (kvs':=AL kvs k) (gs':=AL gs k) (ep':=ep') ja h1
 exact kn z _ y _ (e2.rep ry) (r.jA ja h1 (pk.dr k)) e2 (q ep')⟩
theorem nG:KW X FN:=⟨_,L2.HL,fun J H o i y ov iv u R2 R ro ri ry r ⟨a,kvs,ep,k,eo,ei,ja,hl,q⟩ kk=>by
 subst eo ei;cases ro;cases ri
 obtain ⟨gs,h1,h2⟩:=r _ _ ja
 have pk:=dO h2
 refine ⟨a,gs,ep,k,rfl,rfl,h1,by rw [← pk.len];exact hl,fun ep'=>?_⟩
 exact kk _ _ (r.jA ja h1 (pk.pu ry)) (Ext.jA (K:=X.K) ja h1) (q ep')⟩
theorem yf {pos:Pos}:RE X G (.Dict [] [] pos) FT:=⟨jJ L2.Ef fun σ H Q ⟨τ,J,Q2,a2,q,k⟩ p hp ep=>k (.ref p) _ _ _ rfl (a2.hp.Fs hp) (.laid hp) (q p (a2.hp.free hp) ep)⟩
theorem yg {tg l:Expr} {tl:cQ} (hl:RE X G l tl):RI X G tg l (Lu tl):=⟨K4 (L2.Eh hl.run) fun σ H R ⟨τ,J,R2,a2,h,k⟩=>⟨τ,J,_,a2,h,fun x J1 v H1 rx r1 e1 ⟨a,kvs,ep,ex,ja,q⟩=>by
 subst ex;cases rx
 obtain ⟨gs,h1,h2⟩:=r1 _ _ ja
 have pk:=dO h2
 have hl':=pk.len
 refine ⟨a,gs,ep,rfl,h1,k _ J1 _ H1 ?_ r1 e1 q⟩
 have hks:=pk.keys
 have key:∀ J' H',Rep X.K J' H'→J' a=some (.dct kvs ep)→∃ gs',H' a=some (.dE gs' ep)∧gs'.map (·.1)=gs.map (·.1):=fun J' H' r o=>by
  obtain ⟨gs',h1',h2'⟩:=r _ _ o
  exact ⟨gs',h1',by rw [← (dO h2').keys,hks]⟩
 exact {
  go:=fun J' H' e r o i hi=>⟨key J' H' r o,by rw [List.length_map] at hi ⊢;omega⟩
  yl:=fun J' H' e r o i hi v H2 y=>by
   obtain ⟨rfl,k,hk,rfl⟩:=y
   rw [← hks,List.getElem?_map] at hk
   obtain ⟨kv,hkv,rfl⟩:=Option.map_eq_some_iff.mp hk
   exact ⟨.str kv.1,by rw [List.getElem?_map,hkv];rfl,rfl,r,.refl⟩
  stop:=fun J' H' e r o=>⟨key J' H' r o,by rw [List.length_map,List.length_map];omega⟩ }⟩⟩
def Mj (wi:qh) (ks:List (Str × Nat)) (tc:j5) (tk te:cQ):cQ:=fun τ J Q=>wi τ J fun it J1=>∀ D,J1 D=none→∀ ep,∃ W:Nat→Hq→Prop,W 0 (put J1 D (.dct [] ep))∧(∀ i J2,W i J2→it.ok J2) ∧
 (∀ i x J2,it.xs[i]?=some x→W i J2→tc (some x :: km ks τ) J2 fun b J3=>if b=true then tk (some x :: km ks τ) J3 fun y J4=>te (some x :: km ks τ) J4 fun z J5 =>
  ∃ kvs ep k,y=.str k∧J5 D=some (.dct kvs ep)∧kvs.length < sizeLine∧∀ ep',W (i + 1) (put J5 D (.dct (sF kvs k z) ep')) else W (i + 1) J3)∧∀ J2,W it.xs.length J2→Q (.ref D) J2
theorem Ds {wi:qh} {ks:List (Str × Nat)} {tc:j5} {tk te:cQ}:∀ σ H Q,LE X.K G (Mj wi ks tc tk te) σ H Q→Na (LI X.K G wi) ks (LT X.K G tc) (LE X.K G tk) (LE X.K G te) σ H Q:=fun σ H Q ⟨τ,J,Q2,a2,h,k⟩ =>
 ⟨τ,J,_,a2,h,fun it J1 I H1 ir r1 e1 w D hD ep=>by
  obtain ⟨W,w0,wok,step,fin⟩:=w D (r1.free hD) ep
  refine ⟨fun i m H2=>m=it.xs.length - i∧i≤it.xs.length∧∃ J2,Rep X.K J2 H2∧Ext X.K J1 H1 J2 H2∧W i J2,⟨_,rfl,Nat.zero_le _,_,r1.Fs hD,.laid hD,w0⟩,?_⟩
  rintro i m H2 ⟨rfl,hi,J2,r2,e2,w2⟩
  by_cases hlt:i < it.xs.length
  ·refine .inr ⟨ir.go J2 H2 e2 r2 (wok i J2 w2) i hlt,fun v H3 y=>?_⟩
   obtain ⟨x,ex,rx,r3,e3⟩:=ir.yl J2 H2 e2 r2 (wok i J2 w2) i hlt v H3 y
   have a3:tO X.K G (some x :: km ks τ) J2 (some v :: cS ks σ) H3:=⟨yj (a2.sl.ext ((e1.trans e2).trans e3)) rx ks,r3,((a2.ext.trans e1).trans e2).trans e3⟩
   refine ⟨_,_,_,a3,step i x J2 ex w2,fun b J4 H4 r4 e4 q=>?_⟩
   cases b with
   | false =>
    simp only [Bool.false_eq_true,if_false] at q ⊢
    exact ⟨_,by omega,rfl,hlt,J4,r4,(e2.trans e3).trans e4,q⟩
   | true =>
    simp only [if_true] at q ⊢
    refine ⟨_,_,_,a3.go r4 e4,q,fun yk J5 u H5 rk r5 e5 q5=>?_⟩
    refine ⟨_,_,_,(a3.go r4 e4).go r5 e5,q5,fun z J6 vz H6 rz r6 e6 ⟨kvs,ep2,kk,ek,jD,hl,q6⟩=>?_⟩
    subst ek
    cases rk
    obtain ⟨gs,h1,h2⟩:=r6 _ _ jD
    have pk:=dO h2
    refine ⟨gs,ep2,kk,rfl,h1,by rw [← pk.len];exact hl,it.xs.length - (i + 1),by omega,fun ep'=>⟨rfl,hlt,_,r6.jA jD h1 (pk.pu rz),?_,q6 ep'⟩⟩
    exact ((((e2.trans e3).trans e4).trans e5).trans e6).trans (Ext.jA (K:=X.K) jD h1)
  ·have ei:i=it.xs.length:=by omega
   subst ei
   exact .inl ⟨ir.stop J2 H2 e2 r2 (wok _ J2 w2),k (.ref D) J2 _ H2 rfl r2 (e1.trans e2) (fin J2 w2)⟩⟩
theorem Mc {X:Cx} {ifs:List Expr} {t t':TT} (h:Iv X ifs t) (k:∀ σ H Q,t' σ H Q→t σ H Q):Iv X ifs t':=fun pins s σ H Q I q=>h pins s σ H Q I (k _ _ _ q)
variable {kx vx iter cnd:Expr} {x y:Str} {px py:Pos} {sc:Scope} {pos spos:Pos} {wi:qh} {tk te:cQ} {tc:j5} {i:Nat}
theorem Kj (osc:Scope) (N:List Str) (ks:List (Str × Nat)) (hc:X.calm=true) (ho:X.env.scope=osc) (hN:X.N=N) (hi:RI X G (.Name x px) iter wi) (hk:∀ cl C s₀ H₀ fp pins,RE (dT X sc cl C x ks s₀ H₀ fp pins) G kx tk) (he:∀ cl C s₀ H₀ fp pins,RE (dT X sc cl C x ks s₀ H₀ fp pins) G vx te)
  (ok:bU sc osc N x ks:=by decide +kernel) (hs:∀ x,foldedSetIterable iter X.env x=pure x:=by intro _;rfl):RE X G (.DictComp kx vx [⟨.Name x px,iter,[],0⟩] sc pos) (Mj wi ks uP tk te) :=
 ⟨jJ (Jy osc N ks hc ho hN hi.run (fun cl C s₀ H₀ fp pins=>(hk cl C s₀ H₀ fp pins).run) (fun cl C s₀ H₀ fp pins=>(he cl C s₀ H₀ fp pins).run) (fun cl C s₀ H₀ fp pins=>Mc Ep fun σ H Q ⟨τ,J,Q2,a2,q,k⟩=>k true J H a2.hp .refl q) ok hs) Ds⟩
end
def w8 (tabs:List Addr):cT:=fun xs J Q _=>∃ ns:List Int,xs=[.fl (ns.map .int)]∧ns.length≤63∧(∀ T∈tabs,J T=some .tab)∧(∀ a,a ∉ tabs→J a=none)∧∀ J',(∀ T∈tabs,J' T=some .tab)→Q (.bl true) J'
def CB (tabs:List Addr) (K:PySem.W.Frag):Sp:=fun vs H Q _=>∃ (a:Addr) (ns:List Int),vs=[.ref a]∧c8 K H a (ns.map V.int)∧ns.length≤63∧(∀ T∈tabs,H T=some (.ext (dG T))) ∧
 (∀ b,H b≠none→b=a∨b∈tabs)∧(∀ u,H a=some u→∃ o xs,u=.pK o (.lst xs))∧∀ H',bt H H'→Q (.bl true) H'
theorem zk {P:Program} {w:World} {K:PySem.W.Frag} {mg:Str→Option Value} {base:Heap} {k:Nat} {f:Addr} {fd:FuncData} {ps:List Str} {tabs:List Addr} (F:aQ P w K mg base (dt P w) k f fd ps (d7 K (w8 tabs))) :
  aQ P w K mg base L2.nK k f fd ps (CB tabs K) :=
 F.KQ.imp fun vs H Q E ⟨a,ns,e,hS,hl,hT,hA,hK,q⟩=>by
  subst e
  classical
  have na:∀ u,H a=some u→a ∉ tabs:=fun u hu hm=>by
   obtain ⟨o,xs,rfl⟩:=hK u hu
   rw [hT a hm] at hu;cases hu
  refine ⟨[.fl (ns.map .int)],fun b=>if b∈tabs then some .tab else none,fun x J'=>x=.bl true∧∀ T∈tabs,J' T=some .tab,fun _ _=>False,⟨.ref a,[],rfl,⟨a,ns.map V.int,rfl,?_,md ns⟩,rfl⟩,?_,⟨ns,rfl,hl,fun T hT=>if_pos hT,fun b hb=>if_neg hb,fun J' h=>⟨rfl,h⟩⟩,?_,?_⟩
  ·rcases hS with h | h
   ·refine .inl ⟨?_,h⟩
    have:a ∉ tabs:=by
     rcases h with h | ⟨o,h⟩
     ·exact na _ h
     ·exact na _ h
    exact if_neg this
   ·exact .inr h
  ·intro b o z
   by_cases hb:b∈tabs
   ·have z':=(if_pos hb).symm.trans z
    cases z'
    exact hT b hb
   ·have z':=(if_neg hb).symm.trans z
    cases z'
  ·rintro z J' u H' rz rr ee ⟨rfl,ht⟩
   cases rz
   refine q H' fun b o hb=>?_
   rcases hA b (by rw [hb];simp) with rfl | hm
   ·obtain ⟨ob,xs,rfl⟩:=hK o hb
    exact (ee.ll b _ (if_neg (na _ hb)) hb (.inr ⟨_,_,rfl⟩)).2
   ·have:=hT b hm
    rw [hb] at this;cases this
    exact rr b _ (ht b hm)
  ·intro _ _ _ _ _ z;exact z.elim
end Ov
namespace L2
open PySem PySem.Spec PyProof.Rows
def Ij (k:Str):Value→Bool
 | .str y _=>y.cps.toList == k.cps.toList
 | _=>false
theorem qV {ss:List Str} {us:List Value} (r:Vals (ss.map V.str) us):us.length=ss.length∧∀ (j:Nat) (u:Value),us[j]?=some u→∃ y t,ss[j]?=some y∧u=.str y t:=by
 induction ss generalizing us with
 | nil=>cases r;exact ⟨rfl,fun j u e=>by simp at e⟩
 | cons y ss ih =>
  rw [List.map_cons] at r
  cases r with
  | cons ru rr =>
   obtain ⟨t,rfl⟩:=ru
   obtain ⟨h1,h2⟩:=ih rr
   refine ⟨by simp [h1],fun j u e=>?_⟩
   cases j with
   | zero=>cases e;exact ⟨y,t,rfl,rfl⟩
   | succ j=>exact h2 j u (by simpa using e)
theorem qv {α β:Type} (f:α→β):∀ (l:List α) (j:Nat),(l.eraseIdx j).map f=(l.map f).eraseIdx j
 | [],_=>rfl
 | _ :: _,0=>rfl
 | x :: l,j + 1=>by simp only [List.eraseIdx_cons_succ,List.map_cons,qv f l j]
section
variable {X:Cx}
def Ey (K:PySem.W.Frag):V→List V→Hp→VK→Prop:=fun x vs H Q=>∃ (l:Addr) (ss:List Str) (k:Str) (j:Nat),x=.ref l∧vs=[.str k]∧H l=some (.lst (ss.map V.str))∧ss[j]?=some k∧(∀ m:Nat,m < j→ss[m]?≠some k)∧Q (.int (j:Nat)) H
theorem zy:mO X "list.index" (Ey X.K):=by
 intro pins s σ H x vs v us Q I rx rv h
 obtain ⟨l,ss,k,j,rfl,rfl,hH,hj,hno,q⟩:=h
 cases rx
 obtain ⟨u,rfl,ru⟩:=rv.one
 obtain ⟨t,rfl⟩:=ru
 obtain ⟨z,its,n,r,hl,e⟩:=I.Bs hH
 obtain ⟨h1,h2⟩:=qV r
 obtain ⟨hjl,hje⟩:=List.getElem?_eq_some_iff.mp hj
 have hz:ss.length≤sizeLine:=by simpa using z
 have hs:sizeLine=16777216:=sizeLine_eq
 have at_:∀ (m:Nat) (hm:m < its.toArray.size),Ij k its.toArray[m]=decide (ss[m]?=some k):=fun m hm=>by
  obtain ⟨y,t',hy,hu⟩:=h2 m its[m] (List.getElem?_eq_getElem (by simpa using hm))
  show Ij k its[m]=_
  rw [hu,hy]
  show (y.cps.toList == k.cps.toList)=_
  by_cases hk:y=k
  ·subst hk;simp
  ·have:(y.cps.toList == k.cps.toList)=false:=by
    rw [beq_eq_false_iff_ne]
    intro z
    exact hk (by cases y;cases k;simp at z;rw [z])
   rw [this];symm;exact decide_eq_false fun z=>hk (Option.some.inj z)
 refine call_meets PySem.F.slot_list_index ⟨_,e,rfl⟩ PySem.F.entry_list_index (PySem.F.args_list_index_2 _ _)
  (MeetsSeq.list_index l its.toArray n (.str k t) (Ij k) (fun y hy=>?_) j (by simpa using (show j < its.length by omega)) (by omega) ?_ fun m hm hlt=>?_) ⟨e,⟨.int _,H,I.tok _,⟨_,rfl⟩,q⟩⟩
 ·obtain ⟨m,hm⟩:=List.mem_iff_getElem?.mp (show y∈its by simpa using hy)
  obtain ⟨y',t',_,rfl⟩:=h2 m y hm
  exact SeqRoads2.EqGives.str _ _ _ _
 ·rw [at_];exact decide_eq_true hj
 ·rw [at_];exact decide_eq_false (hno m hlt)
def Cg:V→List V→Hp→VK→Prop:=fun x vs H Q=>∃ (l:Addr) (ss:List Str) (k:Str) (j:Nat),x=.ref l∧vs=[.str k]∧H l=some (.lst (ss.map V.str))∧ss[j]?=some k∧(∀ m:Nat,m < j→ss[m]?≠some k)∧Q .non (upd H l (.lst ((ss.eraseIdx j).map V.str)))
theorem wt:mO X "list.remove" Cg:=by
 intro pins s σ H x vs v us Q I rx rv h
 obtain ⟨l,ss,k,j,rfl,rfl,hH,hj,hno,q⟩:=h
 cases rx
 obtain ⟨u,rfl,ru⟩:=rv.one
 obtain ⟨t,rfl⟩:=ru
 obtain ⟨z,its,n,r,hl,e⟩:=I.Bs hH
 obtain ⟨h1,h2⟩:=qV r
 obtain ⟨hjl,hje⟩:=List.getElem?_eq_some_iff.mp hj
 have hz:ss.length≤sizeLine:=by simpa using z
 have at_:∀ (m:Nat) (hm:m < its.toArray.size),Ij k its.toArray[m]=decide (ss[m]?=some k):=fun m hm=>by
  obtain ⟨y,t',hy,hu⟩:=h2 m its[m] (List.getElem?_eq_getElem (by simpa using hm))
  show Ij k its[m]=_
  rw [hu,hy]
  show (y.cps.toList == k.cps.toList)=_
  by_cases hk:y=k
  ·subst hk;simp
  ·have:(y.cps.toList == k.cps.toList)=false:=by
    rw [beq_eq_false_iff_ne]
    intro z
    exact hk (by cases y;cases k;simp at z;rw [z])
   rw [this];symm;exact decide_eq_false fun z=>hk (Option.some.inj z)
 refine call_meets PySem.F.slot_list_remove ⟨_,e,rfl⟩ PySem.F.entry_list_remove (PySem.F.args_list_remove_2 _ _)
  (MeetsSeq.list_remove l its.toArray n (.str k t) (Ij k) (fun y hy=>?_) j (by simpa using (show j < its.length by omega)) ?_ (fun m hm hlt=>?_) (by rw [List.size_toArray];omega)) ⟨e,?_⟩
 ·obtain ⟨m,hm⟩:=List.mem_iff_getElem?.mp (show y∈its by simpa using hy)
  obtain ⟨y',t',_,rfl⟩:=h2 m y hm
  exact SeqRoads2.EqGives.str _ _ _ _
 ·rw [at_];exact decide_eq_true hj
 ·rw [at_];exact decide_eq_false (hno m hlt)
 ·refine ⟨.non,_,I.DO (its':=its.eraseIdx j) hH e (by rw [List.eraseIdxIfInBounds_toArray]) ?_ ?_,rfl,q⟩
  ·rw [qv];exact r.eraseIdx j
  ·rw [List.length_map];exact Nat.le_trans (List.length_eraseIdx_le _ _) hz
end
end L2
namespace Ov
open PySem PySem.Spec PyProof.Rows
open L2 (V HO Hp Inv Cx VK XK TE TT TA TS TG m3 TI TO iM Ends tP Loc Gl Rd RelV Vals er tV bT mW pJ mO iK R2 upd aA aG c8 eL Sp pj It bt cJ bI Passes mL aE Meth Mk Binds aQ cq aw cU fu dW)
section
variable {X:Cx} {G:G2}
def B_:Af:=fun x xs J Q=>∃ (a:Addr) (ss:List Str) (k:Str) (j:Nat),x=.ref a∧xs=[.str k]∧J a=some (.lst (ss.map .str))∧ss[j]?=some k∧(∀ m:Nat,m < j→ss[m]?≠some k)∧Q (.int (j:Nat)) J
theorem Bx:Ff X "list" "list.index" B_:=⟨_,L2.zy,fun J H x xs v vs Q2 Q rx rs r ⟨a,ss,k,j,ex,exs,ja,hj,hno,q⟩ kn=>by
 subst ex exs;cases rx
 obtain ⟨w,us,rfl,rw',e⟩:=rs;cases e;cases rw'
 obtain ⟨ws,h1,h2⟩:=r _ _ ja
 cases e9 h2
 exact ⟨a,ss,k,j,rfl,rfl,h1,hj,hno,kn (.int _) J _ H rfl r .refl q⟩⟩
def ya:Af:=fun x xs J Q=>∃ (a:Addr) (ss:List Str) (k:Str) (j:Nat),x=.ref a∧xs=[.str k]∧J a=some (.lst (ss.map .str))∧ss[j]?=some k∧(∀ m:Nat,m < j→ss[m]?≠some k)∧Q .non (put J a (.lst ((ss.eraseIdx j).map .str)))
theorem zx:Ff X "list" "list.remove" ya:=⟨_,L2.wt,fun J H x xs v vs Q2 Q rx rs r ⟨a,ss,k,j,ex,exs,ja,hj,hno,q⟩ kn=>by
 subst ex exs;cases rx
 obtain ⟨w,us,rfl,rw',e⟩:=rs;cases e;cases rw'
 obtain ⟨ws,h1,h2⟩:=r _ _ ja
 cases e9 h2
 exact ⟨a,ss,k,j,rfl,rfl,h1,hj,hno,kn .non _ _ _ rfl (r.wrote (ys:=(ss.eraseIdx j).map .str) ja h1 me) (.wrote ja h1) q⟩⟩
variable {a b c:Expr} {ta tb tc:cQ} {pos:Pos}
def sJ (q q':kA) (ta tb tc:cQ):cQ:=fun τ J Q=>ta τ J fun x J1=>tb τ J1 fun y J2=>q x y J2 fun z J3=>∃ k,z=.bl k∧(if k=true then tc τ J3 fun w J4=>q' y w J4 Q else Q (.bl false) J3)
theorem vV {r r':R2} {q q':kA} (lr:LR X.K r q) (lr':LR X.K r' q'):∀ σ H Q,LE X.K G (sJ q q' ta tb tc) σ H Q→L2.CT r r' (LE X.K G ta) (LE X.K G tb) (LE X.K G tc) σ H Q:=fun σ H Q ⟨τ,J,Q2,a2,hh,k⟩=>⟨τ,J,_,a2,hh,fun x J1 v H1 rx r1 e1 q1=>⟨τ,J1,_,a2.go r1 e1,q1,fun y J2 w H2 ry r2 e2 q2 =>
  lr J2 H2 x y v w _ _ (e2.rep rx) ry r2 q2 fun z J3 u H3 rz r3 e3 ⟨kk,ez,q3⟩=>by
   subst ez;cases rz
   refine ⟨kk,rfl,?_⟩
   cases kk with
   | false=>simp only [Bool.false_eq_true,if_false] at q3 ⊢;exact k (.bl false) J3 _ H3 rfl r3 ((e1.trans e2).trans e3) q3
   | true =>
    simp only [if_true] at q3 ⊢
    exact ⟨τ,J3,_,((a2.go r1 e1).go r2 e2).go r3 e3,q3,fun w2 J4 u4 H4 r4 rr4 e4 q4=>lr' J4 H4 y w2 w u4 Q2 Q ((e3.trans e4).rep ry) r4 rr4 q4 fun z' J' u' H' rz' rr' ee' qq=>k z' J' u' H' rz' rr' ((((e1.trans e2).trans e3).trans e4).trans ee') qq⟩⟩⟩
theorem Ck {op op':CmpOp} {q q':kA} (ho:lJ X (compareOp op) q) (ho':lJ X (compareOp op') q') (ha:RE X G a ta) (hb:RE X G b tb) (hc:RE X G c tc) (hm:lastMarks [op,op'] [b,c]=false:=by with_unfolding_all rfl) :
  RE X G (.Compare a [op,op'] [b,c] pos) (sJ q q' ta tb tc):=by
 obtain ⟨r,h,lr⟩:=ho
 obtain ⟨r',h',lr'⟩:=ho'
 exact ⟨jJ (L2.BX h h' ha.run hb.run hc.run hm) (vV lr lr')⟩
end
end Ov
namespace L2
open PySem PySem.Spec PyProof.Rows
def MI (K:PySem.W.Frag) (a:Addr):It :=
 ⟨fun i H=>∃ xs x,c8 K H a xs∧xs[i]?=some x,
  fun i H z H'=>∃ T x,H T=none∧z=.ref T∧H'=upd H T (.tup [.int (i:Nat),x])∧(∀ xs,c8 K H a xs→xs[i]?=some x),
  fun i H=>∃ xs,c8 K H a xs∧xs.length≤i⟩
theorem z_ {P:Program} {w:World} {K:PySem.W.Frag} {elts:List Expr} {x1} {pos:Pos} {e it l:Addr} (ne:e≠it) :
  Turn P w K (.Tuple elts x1 pos) (MI K l) [e,it] e (fun i h=>(∃ old,IsEnum h e it (i:Int) old)∧h.IsListIter it l i) where
 mem:=by simp
 obj:=fun i h ⟨⟨old,he⟩,h1⟩ c hc=>by
  simp only [List.mem_cons,List.not_mem_nil,or_false] at hc
  rcases hc with rfl | rfl
  ·exact ⟨_,he,fun v z=>by cases z⟩
  ·obtain ⟨o,e,c,d⟩:=h1;exact ⟨o,e,fun v z=>by rw [d] at z;cases z⟩
 keep:=fun i h h' ⟨⟨old,he⟩,h1⟩ k=>⟨⟨old,k e (by simp) _ he⟩,h1.at fun o q=>k it (by simp) o q⟩
 item:=by
  intro X hP hw hK hc i pins s σ H E I hf st hg
  subst hP hw hK
  obtain ⟨⟨old,he⟩,h1⟩:=st
  obtain ⟨xs,x,hqx,hx⟩:=hg
  obtain ⟨its,rv,p,hzx⟩:=I.list hqx
  obtain ⟨u,hu,rx⟩:=rv.get hx
  refine wpAny_pyNext_enum_item he h1 p.isList (x:=u) (by simpa using hu) ne fun h' a1 a3 a5 a6 hk=>?_
  refine ⟨_,rfl,wpAny_letOwnedTupleGo_enum a1 fun h'' hz' hs'=>?_⟩
  have hT:H s.heap.objs.size=none:=I.hok.fresh (Nat.le_refl _)
  have lt:∀ {c o},s.heap.get? c=some o→c≠s.heap.objs.size:=fun e=>Nat.ne_of_lt (Heap.lt_size e)
  have I0:Inv X pins σ (upd H s.heap.objs.size (.tup [.int (i:Nat),x])) { s with heap:=s.heap.push { cls:=.type "tuple",data:=.seq #[.int i s.toks,u] },toks:=s.toks + 1 }:=I.laid (t':=s.toks + 1) (fun b u e=>Heap.get?_push_of_some _ e) (Nat.le_refl _) ⟨by simp [sizeLine],[.int i s.toks,u],.cons ⟨_,rfl⟩ (.cons rx .nil),⟨_,Heap.get?_push_size _ rfl,rfl,_,rfl⟩⟩
  have fpn:∀ b∈[e,it],b≠s.heap.objs.size:=fun b hb=>by
   simp only [List.mem_cons,List.not_mem_nil,or_false] at hb
   rcases hb with rfl | rfl
   ·exact lt he
   ·obtain ⟨o,e,_⟩:=h1;exact lt e
  have fpu:∀ b∈[e,it],iJ X pins (upd H s.heap.objs.size (.tup [.int (i:Nat),x])) b:=fun b hb=>⟨by rw [aG (fpn b hb)];exact (hf b hb).1,(hf b hb).2⟩
  have I1:Inv X pins σ (upd H s.heap.objs.size (.tup [.int (i:Nat),x])) { s with heap:=h'',toks:=s.toks + 1 }:=Inv.yM (s:={ s with heap:=s.heap.push { cls:=.type "tuple",data:=.seq #[.int i s.toks,u] },toks:=s.toks + 1 }) (t':=s.toks + 1) (ch:=[e,it]) I0 (fun b o hb eb=>by
   simp only [List.mem_cons,List.not_mem_nil,or_false,not_or] at hb
   rcases Heap.get?_push_cases eb with ⟨rfl,rfl⟩ | e'
   ·exact hs'.extBut _ _ hb.1 a5
   ·exact hs'.extBut _ _ hb.1 (hk b o hb.1 hb.2 e')) fpu
  refine ⟨.ref s.heap.objs.size,_,I1,rfl,⟨_,x,hT,rfl,rfl,fun zs hq=>by rw [I.oA hq hqx];exact hx⟩,⟨⟨_,by rw [Int.natCast_add];exact hz'⟩,a3.extBut hs'.extBut (Ne.symm ne)⟩,fun b hb=>(fpu b hb).1⟩
 done:=by
  intro X hP hw hK hc i pins s σ H E I hf st hg
  subst hP hw hK
  obtain ⟨⟨old,he⟩,h1⟩:=st
  obtain ⟨xs,hqx,hl⟩:=hg
  obtain ⟨its,rv,p,hzx⟩:=I.list hqx
  have e1:=rv.length
  refine wpAny_pyNext_enum_end (I.ok.hd hc) he h1 p.isList (by rw [List.getElem?_toArray,List.getElem?_eq_none_iff];omega) fun h' hk=>⟨rfl,I.yM (t':=s.toks) (ch:=[e,it]) (fun b o hb e=>?_) hf⟩
  simp only [List.mem_cons,List.not_mem_nil,or_false,not_or] at hb
  exact hk b o hb.2 e
 self:=fun _ _ _ _ _ st h=>let ⟨⟨_,he⟩,_⟩:=st;wpAny_pyIter_enum he h
def IZ (K:PySem.W.Frag) (ta:TA):TI:=fun σ H R=>ta σ H fun vs H1=>∃ a xs,vs=[.ref a]∧c8 K H1 a xs∧R (MI K a) H1
section
variable {X:Cx}
theorem Ei {l:Expr} {elts:List Expr} {x1} {tp:Pos} {ta:TA} {p pos:Pos} (hg:Gl X "enumerate") (hm:X.mg "enumerate"=none) (ha:PA X [l] ta) (hs:starEach [l] X.env=(false,eval l X.env) :: starEach [] X.env:=by rfl) (hp:(backTo pos (starEach [] X.env)).any (·.1)=false:=by rfl):PI X (.Tuple elts x1 tp) (.Call (.Name "enumerate" p) [l] [] pos) (IZ X.K ta):=by
 intro pins s σ H R I h
 refine Call_ (lW I hg hm PyProof.Rows.Boot.«enumerate» (PyProof.Rows.callWith_type1 (bM (ha pos pins s σ H _ I h) fun us s1 ⟨vs,H1,I1,r1,q1⟩=>?_) hs hp))
 obtain ⟨a,xs,e,hqa,q⟩:=q1
 subst e
 cases r1 with
 | cons r rr =>
  cases rr
  cases r
  obtain ⟨its,rv,pl,hz⟩:=I1.list hqa
  refine call_enumerate_list pl.isList ?_
  intro h' b1 b2 b6 hk
  refine wpAny_pyIter_enum b1 ?_
  have ne:s1.heap.objs.size + 1≠s1.heap.objs.size:=Nat.succ_ne_self _
  refine ⟨_,_,_,_,H1,rfl,I1.kept (t':=s1.toks) hk,z_ ne,⟨⟨_,b1⟩,b2⟩,fun c hc=>?_,q⟩
  have hc':s1.heap.objs.size≤c:=by
   simp only [List.mem_cons,List.not_mem_nil,or_false] at hc
   show @LE.le Nat _ _ _
   rcases hc with rfl | rfl
   ·exact Nat.le_add_right _ _
   ·exact Nat.le_refl _
  exact I1.Dx hc' (I1.hok.fresh hc')
end
end L2
namespace Ov
open PySem PySem.Spec PyProof.Rows
open L2 (V HO Hp Inv Cx VK XK TE TT TA TS TG m3 TI TO iM Ends tP Loc Gl Rd RelV Vals er tV bT mW pJ mO iK R2 upd aA aG c8 eL Sp pj It bt cJ bI Passes mL aE Meth Mk Binds aQ cq aw cU fu dW)
def t9 (xs:List PV):List PV:=(List.range xs.length).zipWith (fun i x=>PV.tup [.int ((i:Nat):Int),x]) xs
theorem jF (xs:List PV):(t9 xs).length=xs.length:=by unfold t9;simp
theorem qs (xs:List PV) (i:Nat) (x:PV) (h:xs[i]?=some x):(t9 xs)[i]?=some (.tup [.int (i:Int),x]):=by
 unfold t9
 obtain ⟨hi,e⟩:=List.getElem?_eq_some_iff.mp h
 rw [List.getElem?_zipWith,List.getElem?_range hi,h]
section
variable {X:Cx} {G:G2}
def MS (ta:mZ):qh:=fun τ J R=>ta τ J fun vs J1=>∃ x xs,vs=[x]∧pw J1 x=some xs∧R ⟨t9 xs,fun J'=>pw J' x=some xs⟩ J1
theorem EG {l:Expr} {elts:List Expr} {x1} {tp:Pos} {ta:mZ} {p pos:Pos} (hg:Gl X "enumerate") (hm:X.mg "enumerate"=none) (ha:RA X G [l] ta) (hs:starEach [l] X.env=(false,eval l X.env) :: starEach [] X.env:=by rfl) (hp:(backTo pos (starEach [] X.env)).any (·.1)=false:=by rfl) :
  RI X G (.Tuple elts x1 tp) (.Call (.Name "enumerate" p) [l] [] pos) (MS ta):=⟨K4 (L2.Ei hg hm ha.run hs hp) fun σ H R ⟨τ,J,R2,a2,h,k⟩=>⟨τ,J,_,a2,h,fun vs J1 us H1 rs r1 e1 ⟨x,xs,ev,hx,q⟩=>by
 subst ev
 obtain ⟨v,us',rfl,rv,e'⟩:=rs
 cases e'
 obtain ⟨a,ws,rfl,h1,h2⟩:=Br hx rv r1
 refine ⟨a,ws,rfl,h1,k _ J1 _ H1 ?_ r1 e1 q⟩
 have at_:∀ J' H',Ext X.K J1 H1 J' H'→Rep X.K J' H'→pw J' x=some xs→∃ vs,c8 X.K H' a vs∧aL X.K J' H' xs vs:=fun J' H' e r o=>by
  obtain ⟨c,vs,eb,g1,g2⟩:=Br o (e.rep rv) r
  cases eb
  exact ⟨vs,g1,g2⟩
 exact {
  go:=fun J' H' e r o i hi=>by
   obtain ⟨vs,s,rs⟩:=at_ J' H' e r o
   rw [jF] at hi
   exact ⟨vs,vs[i]'(by rw [← rs.length];exact hi),s,by simp⟩
  yl:=fun J' H' e r o i hi v H2 y=>by
   obtain ⟨vs,s,rs⟩:=at_ J' H' e r o
   obtain ⟨T,z,hT,rfl,rfl,y1⟩:=y
   obtain ⟨c,ec,rc⟩:=rs.get' (y1 vs s)
   have sm:=bt.new hT (.tup [.int (i:Nat),z])
   have e2:=Ext.same (K:=X.K) (J:=J') sm
   refine ⟨.tup [.int (i:Int),c],qs _ _ _ ec,⟨T,[.int (i:Nat),z],rfl,.inl (.inl aA),e2.iP ⟨.int (i:Nat),_,rfl,rfl,z,_,rfl,rc,rfl⟩⟩,r.same sm,e2⟩
  stop:=fun J' H' e r o=>by
   obtain ⟨vs,s,rs⟩:=at_ J' H' e r o
   exact ⟨vs,s,by rw [jF,← rs.length];exact Nat.le_refl _⟩ }⟩⟩
end
section
variable {X:Cx} {pins:List (Addr × Obj)} {σ:L2.St} {H:Hp} {s:Shared}
open Classical in
def eT (K:PySem.W.Frag) (H:Hp) (zs:List Py) (y:Py) (u:Value):Bool:=decide (∃ z∈zs,∃ v,RelV v u∧At K H z v∧jG z y=true)
end
section
variable {X:Cx} {G:G2}
end
end Ov
namespace Ov
open PySem PySem.Spec PyProof.Rows
open L2 (V HO Hp Inv Cx VK XK TE TT TA TS TG m3 TI TO iM Ends tP Loc Gl Rd RelV Vals er tV bT mW pJ mO iK R2 upd aA aG c8 eL Sp pj It bt cJ bI Passes mL aE Meth Mk Binds aQ cq aw cU fu dW cu)
def zX (w:World):List Str→Int:=(tupleKind (PySem.strKind default w)).hash
section
variable {X:Cx} {pins:List (Addr × Obj)} {σ:L2.St} {H:Hp} {s:Shared} {a b:Addr} {xs:List (List Str × Addr × Value)} {k:List Str}
theorem ot {P:Program} {w:World}:∀ {ks:List Str} {us:List Value},Vals (ks.map V.str) us→ItemsAre (PySem.strKind P w) ks us
 | [],_,r=>by rw [List.map_nil] at r;cases r;exact .nil
 | k :: ks,_,r=>by
  rw [List.map_cons] at r
  cases r with
  | cons h t=>exact .cons (L2.str_is h) (ot t)
theorem key_is (I:Inv X pins σ H s) (h:eL X.K H b (k.map V.str)):(tupleKind (PySem.strKind X.prog X.w)).is s.heap k b:=by
 obtain ⟨its,r,⟨o,e,c,n,d⟩,_⟩:=I.tuple h
 exact ⟨o,its.toArray,n,e,c,d,by simpa using ot r⟩
theorem AM (I:Inv X pins σ H s) (h:H a=some (.ext (nO (zX X.w) a xs))) (hk:∀ x∈xs,eL X.K H x.2.1 (x.1.map V.str)) :
  (a == sysModules)=false∧xs.length≤sizeLine∧s.heap.DictOfH (tupleKind (PySem.strKind X.prog X.w)) a xs:=by
 obtain ⟨⟨h1,h2,h3,o,es,ep,g1,g2,g3,g4⟩,_⟩:=I.hok a _ h
 exact ⟨h1,h2,o,es,ep,g1,g2,g3,g4,fun x hx=>key_is I (hk x hx),h3⟩
theorem AS {P:Program} {w:World} {hs:List Str→Int} {h:Heap} (d:nO hs a xs h):cu P w H h a (.ext (nO hs a xs)) :=
 ⟨d,(let ⟨_,_,_,o,_,_,e,_⟩:=d;⟨o,e⟩),fun h1 h2 ⟨a1,a2,a3,o,es,ep,e,r⟩ k=>⟨a1,a2,a3,o,es,ep,k _ e,r⟩⟩
theorem at_isSome {k:List Str} {xs:List (List Str × Addr × Value)}:(atKey xs k).isSome=decide (k∈xs.map (·.1)):=by
 induction xs with
 | nil=>simp [atKey]
 | cons x xs ih =>
  by_cases e:x.1=k
  ·simp [atKey,e]
  ·have:atKey (x :: xs) k=atKey xs k:=by simp [atKey,List.find?_cons,e]
   rw [this,ih,List.map_cons]
   simp [Ne.symm e]
end
def Ml (K:PySem.W.Frag) (hs:List Str→Int):R2:=fun x y H Q=>∃ a b k xs,x=.ref b∧y=.ref a∧eL K H b (k.map V.str)∧H a=some (.ext (nO hs a xs))∧(∀ z∈xs,eL K H z.2.1 (z.1.map V.str))∧Q (.bl (decide (k∈xs.map (·.1)))) H
def Kf (K:PySem.W.Frag) (hs:List Str→Int):iM:=fun o i v H Q=>∃ a b k xs,o=.ref a∧i=.ref b∧eL K H b (k.map V.str)∧H a=some (.ext (nO hs a xs))∧(∀ z∈xs,eL K H z.2.1 (z.1.map V.str))∧k ∉ xs.map (·.1)∧xs.length < sizeLine∧∀ u,Q (upd H a (.ext (nO hs a (xs ++ [(k,b,u)]))))
def Kw (hs:List Str→Int):TE:=fun _ H Q=>∀ p,H p=none→Q (.ref p) (upd H p (.ext (nO hs p [])))
section
variable {X:Cx} {G:G2}
theorem Hg (hu:X.A.units + 61 < cLine):er X (compareOp .In) (Ml X.K (zX X.w)):=by
 intro pins s σ H x y v u Q I rx ry ⟨a,b,k,xs,ex,ey,hb,ha,hk,q⟩
 subst ex ey
 cases rx;cases ry
 obtain ⟨hd,hz,dd⟩:=AM I ha hk
 refine wpAny_in_heap (tupleKind_room_in1 (by omega)) (key_is I hb) hd dd ?_
 exact ⟨.bl _,H,I.tok _,by rw [at_isSome];rfl,q⟩
theorem HM (hu:X.A.units + 61 < cLine):iK X (Kf X.K (zX X.w)):=by
 intro pins s σ H o i v ov iv u Q I ro ri rv ⟨a,b,k,xs,eo,ei,hb,ha,hk,nk,hl,q⟩
 subst eo ei
 cases ro;cases ri
 obtain ⟨hd,hz,dd⟩:=AM I ha hk
 refine wpAny_setItem_heap (hsz:=hz) (tupleKind_room_in1 (by omega)) (key_is I hb) dd fun h' dd' hs=>?_
 have hn:atKey xs k=none:=by
  have:=at_isSome (k:=k) (xs:=xs)
  rw [decide_eq_false nk] at this
  exact Option.isNone_iff_eq_none.mp (by simpa using this)
 rw [storedH_new hn] at dd'
 obtain ⟨ob,es,ep,hq,h2,h3,h4,_,h5⟩:=dd'
 exact ⟨_,I.write (x:=a) (e:=a) (by rw [ha];exact True.intro) (.inl rfl) (fun c o' hb' z=>(hs.2 c hb').trans z) ⟨ob,hq⟩ (AS ⟨hd,by rw [List.length_append];exact hl,h5,ob,es,ep,hq,h2,h3,h4⟩),q u⟩
theorem Eg {pos:Pos}:L2.PE X (.Dict [] [] pos) (Kw (zX X.w)):=fun pins s σ H Q I h=>by
 refine wpAny_Dict_empty ⟨.ref s.heap.objs.size,_,I.laid (a:=s.heap.objs.size) (o:=.ext (nO (zX X.w) s.heap.objs.size [])) (t':=s.toks) (fun _ _ q=>Heap.get?_push_of_some _ q) (Nat.le_refl _) (AS ?_),rfl,h _ (I.hok.fresh (Nat.le_refl _))⟩
 exact ⟨beq_eq_false_iff_ne.mpr (Ne.symm (Nat.ne_of_lt (L2.Inv.Gw I))),Nat.zero_le _,List.nodup_nil,_,#[],0,Heap.get?_push_size _ rfl,⟨rfl,rfl,rfl⟩,rfl,rfl⟩
section
variable {K:PySem.W.Frag} {J:Hq} {H:Hp}
theorem kb {K:PySem.W.Frag} {J:Hq} {H:Hp}:∀ {ns:List Str} {vs:List V},aL K J H (ns.map PV.str) vs→vs=ns.map V.str
 | [],_,h=>h
 | _ :: ns,_,⟨v,us,e,h,k⟩=>by cases h;rw [e,kb k];rfl
theorem Ext.Ib {p:Addr} {φ:Heap→Prop} {o:HO} {u v:HQ} (h:J p=some v) (k:H p=some (.ext φ)):Ext K J H (put J p u) (upd H p o):=by
 refine ⟨fun a vs' z=>?_,fun a o z q _=>?_⟩
 ·rcases z with z | z
  ·have ne:a≠p:=by
    intro e;subst e
    rcases z with z | ⟨o,z⟩
    ·rw [k] at z;cases z
    ·rw [k] at z;cases z
   rcases z with z | ⟨o,z⟩
   ·exact .inl (.inl (by rw [aG ne];exact z))
   ·exact .inl (.inr ⟨o,by rw [aG ne];exact z⟩)
  ·exact .inr z
 ·have ne:a≠p:=by intro e;subst e;rw [h] at z;cases z
  exact ⟨by rw [ak ne];exact z,by rw [aG ne];exact q⟩
end
def JG (hs:List Str→Int):kA:=fun x y J Q=>∃ a k ks,x=.tup (k.map .str)∧y=.ref a∧J a=some (.dtp hs ks)∧Q (.bl (decide (k∈ks))) J
def FO (hs:List Str→Int):vT:=fun o i y J R=>∃ a k ks,o=.ref a∧i=.tup (k.map .str)∧J a=some (.dtp hs ks)∧k ∉ ks∧ks.length < sizeLine∧R (put J a (.dtp hs (ks ++ [k])))
def FU (hs:List Str→Int):cQ:=fun _ J Q=>∀ p,J p=none→Q (.ref p) (put J p (.dtp hs []))
theorem BM (hu:X.A.units + 61 < cLine):lJ X (compareOp .In) (JG (zX X.w)):=⟨_,Hg hu,fun J H x y v w Q2 Q rx ry r ⟨a,k,ks,ex,ey,ja,q⟩ kn=>by
 subst ex ey
 cases ry
 obtain ⟨b,vs,rfl,hb,rv⟩:=rx
 have ev:=kb rv
 subst ev
 obtain ⟨xs,h0,h1,h2⟩:=r _ _ ja
 exact ⟨a,b,k,xs,rfl,rfl,hb,h1,h2,by rw [h0];exact kn (.bl _) J _ H rfl r .refl q⟩⟩
theorem HS (hu:X.A.units + 61 < cLine):KW X (FO (zX X.w)):=⟨_,HM hu,fun J H o i y ov iv u R2 R ro ri ry r ⟨a,k,ks,eo,ei,ja,nk,hl,q⟩ kk=>by
 subst eo ei
 cases ro
 obtain ⟨b,vs,rfl,hb,rv⟩:=ri
 have ev:=kb rv
 subst ev
 obtain ⟨xs,h0,h1,h2⟩:=r _ _ ja
 refine ⟨a,b,k,xs,rfl,rfl,hb,h1,h2,by rw [h0];exact nk,by rw [← h0,List.length_map] at hl;exact hl,fun u=>?_⟩
 have e:=Ext.Ib (K:=X.K) (o:=.ext (nO (zX X.w) a (xs ++ [(k,b,u)]))) (u:=.dtp (zX X.w) (ks ++ [k])) ja h1
 refine kk _ _ (r.vp e a (fun c ne=>ak ne) (fun c o ne _ z=>by rw [aG ne];exact z) fun u' z=>?_) e q
 rw [au] at z;cases z
 refine ⟨_,?_,aA,fun x hx=>?_⟩
 ·rw [List.map_append,h0];rfl
 ·rcases List.mem_append.mp hx with hx | hx
  ·exact e.tup _ _ (h2 x hx)
  ·rw [List.mem_singleton] at hx;subst hx;exact e.tup _ _ hb⟩
theorem EF {pos:Pos}:RE X G (.Dict [] [] pos) (FU (zX X.w)):=⟨jJ Eg fun σ H Q ⟨τ,J,Q2,a2,q,k⟩ p hp=>k (.ref p) _ _ _ rfl (by
 have e:=Ext.laid (K:=X.K) (J:=J) (o:=.ext (nO (zX X.w) p [])) (u:=.dtp (zX X.w) []) hp
 refine a2.hp.vp e p (fun a ne=>ak ne) (fun a o ne _ z=>by rw [aG ne];exact z) fun u z=>?_
 rw [au] at z;cases z
 exact ⟨[],rfl,aA,fun x hx=>by cases hx⟩) (.laid hp) (q p (a2.hp.free hp))⟩
end
end Ov
namespace Ov
open PySem
structure aB where
 m:Rat
 h:Str
 f:Str
 deriving DecidableEq
def slt (a b:Str):Prop:=a.cps.toList < b.cps.toList
instance (a b:Str):Decidable (slt a b):=inferInstanceAs (Decidable (a.cps.toList < b.cps.toList))
def aB.lt (a b:aB):Bool:=if a.m=b.m then (if a.h=b.h then decide (slt a.f b.f) else decide (slt a.h b.h)) else decide (a.m < b.m)
theorem lz (a:Str):¬ slt a a:=List.lt_irrefl _
theorem mn {a b c:Str} (h:slt a b) (k:slt b c):slt a c:=List.lt_trans h k
theorem Bz:∀ (a b:List Nat),a≠b→a < b∨b < a
 | [],[],h=>absurd rfl h
 | [],_ :: _,_=>.inl (List.nil_lt_cons _ _)
 | _ :: _,[],_=>.inr (List.nil_lt_cons _ _)
 | x :: a,y :: b,h=>by
  rcases Nat.lt_trichotomy x y with z | z | z
  ·exact .inl (List.cons_lt_cons_iff.mpr (.inl z))
  ·subst z
   rcases Bz a b (fun e=>h (by rw [e])) with q | q
   ·exact .inl (List.cons_lt_cons_iff.mpr (.inr ⟨rfl,q⟩))
   ·exact .inr (List.cons_lt_cons_iff.mpr (.inr ⟨rfl,q⟩))
  ·exact .inr (List.cons_lt_cons_iff.mpr (.inl z))
theorem tD {a b:Str} (h:a≠b):slt a b∨slt b a:=by
 have ne:a.cps.toList≠b.cps.toList:=fun e=>h (by cases a;cases b;simp at e;rw [e])
 exact Bz _ _ ne
theorem HP {a b:Str} (h:slt a b):a≠b:=fun e=>by subst e;exact lz _ h
theorem aB.lt_iff (a b:aB):a.lt b=true↔a.m < b.m∨(a.m=b.m∧(slt a.h b.h∨(a.h=b.h∧slt a.f b.f))):=by
 unfold aB.lt
 by_cases e:a.m=b.m
 ·rw [if_pos e]
  have n:¬ a.m < b.m:=by rw [e];exact Rat.lt_irrefl
  by_cases k:a.h=b.h
  ·rw [if_pos k]
   have n2:¬ slt a.h b.h:=fun z=>HP z k
   simp [e,k,n,n2]
   try (intro z;first | exact absurd z Rat.lt_irrefl | exact absurd z (lz _))
  ·rw [if_neg k]
   simp [e,k]
   try (intro z;exact absurd z Rat.lt_irrefl)
 ·rw [if_neg e]
  simp [e]
theorem aB.wg (a:aB):a.lt a=false:=by
 cases h:a.lt a with
 | false=>rfl
 | true =>
  rcases (aB.lt_iff a a).mp h with h | ⟨_,h | ⟨_,h⟩⟩
  ·exact absurd h Rat.lt_irrefl
  ·exact absurd h (lz _)
  ·exact absurd h (lz _)
theorem qL {a b c:Rat} (h:a < b) (k:b < c):a < c:=by grind
theorem aB.lt_trans {a b c:aB} (h:a.lt b=true) (k:b.lt c=true):a.lt c=true:=by
 rw [aB.lt_iff] at *
 rcases h with h | ⟨e,h⟩ <;> rcases k with k | ⟨e',k⟩
 ·exact .inl (qL h k)
 ·exact .inl (e' ▸ h)
 ·exact .inl (e ▸ k)
 ·refine .inr ⟨e.trans e',?_⟩
  rcases h with h | ⟨z,h⟩ <;> rcases k with k | ⟨z',k⟩
  ·exact .inl (mn h k)
  ·exact .inl (z' ▸ h)
  ·exact .inl (z ▸ k)
  ·exact .inr ⟨z.trans z',mn h k⟩
theorem aB.Bt {a b:aB} (h:a≠b):a.lt b=true∨b.lt a=true:=by
 rw [aB.lt_iff,aB.lt_iff]
 by_cases e:a.m=b.m
 ·by_cases z:a.h=b.h
  ·have:a.f≠b.f:=fun q=>h (by cases a;cases b;simp_all)
   rcases tD this with q | q
   ·exact .inl (.inr ⟨e,.inr ⟨z,q⟩⟩)
   ·exact .inr (.inr ⟨e.symm,.inr ⟨z.symm,q⟩⟩)
  ·rcases tD z with q | q
   ·exact .inl (.inr ⟨e,.inl q⟩)
   ·exact .inr (.inr ⟨e.symm,.inl q⟩)
 ·rcases (by grind:a.m < b.m∨b.m < a.m) with q | q
  ·exact .inl (.inl q)
  ·exact .inr (.inl q)
def g9 (l:List aB):Prop:=l.Pairwise fun a b=>a.lt b=true
def j8 (b:aB) (l:List aB):List aB:=l.filter (fun x=>x.lt b) ++ b :: l.filter (fun x=>!x.lt b)
def uY (h f:Str) (x:aB):Bool:=decide (x.h=h∧x.f=f)
def dy (h f:Str) (l:List aB):List aB:=l.filter fun x=>!uY h f x
theorem qo {h f:Str} {l:List aB} (s:g9 l):g9 (dy h f l):=s.filter _
theorem uf {b:aB} {l:List aB} (s:g9 l) (n:∀ x∈l,x≠b):g9 (j8 b l):=by
 unfold j8 g9
 rw [List.pairwise_append]
 refine ⟨s.filter _,?_,?_⟩
 ·rw [List.pairwise_cons]
  refine ⟨fun y hy=>?_,s.filter _⟩
  rw [List.mem_filter] at hy
  rcases aB.Bt (n y hy.1) with q | q
  ·simp [q] at hy
  ·exact q
 ·intro x hx y hy
  rw [List.mem_filter] at hx
  rcases List.mem_cons.mp hy with rfl | hy
  ·exact hx.2
  ·rw [List.mem_filter] at hy
   rcases aB.Bt (n y hy.1) with q | q
   ·simp [q] at hy
   ·exact aB.lt_trans hx.2 q
theorem Dw {h f:Str} {l:List aB} {m:Rat}:∀ x∈dy h f l,x≠⟨m,h,f⟩:=fun x hx e=>by
 subst e
 unfold dy at hx
 rw [List.mem_filter] at hx
 simp [uY] at hx
theorem qJ (p:aB→Bool):∀ {l:List aB} {i:Nat},i≤l.length→(∀ (j:Nat) x,j < i→l[j]?=some x→p x=true)→(∀ (j:Nat) x,i≤j→l[j]?=some x→p x=false)→l.take i ++ l.drop i=l∧l.filter p=l.take i∧l.filter (fun x=>!p x)=l.drop i
 | l,0,_,_,h=>by
  refine ⟨by simp,?_,?_⟩
  ·rw [List.take_zero]
   apply List.filter_eq_nil_iff.mpr
   intro x hx
   obtain ⟨j,hj⟩:=List.mem_iff_getElem?.mp hx
   rw [h j x (Nat.zero_le _) hj];simp
  ·rw [List.drop_zero]
   apply List.filter_eq_self.mpr
   intro x hx
   obtain ⟨j,hj⟩:=List.mem_iff_getElem?.mp hx
   rw [h j x (Nat.zero_le _) hj];rfl
 | [],i + 1,hi,_,_=>by simp at hi
 | x :: l,i + 1,hi,h1,h2=>by
  obtain ⟨a,b,c⟩:=qJ p (l:=l) (i:=i) (by simpa using hi) (fun j y hj e=>h1 (j + 1) y (by omega) (by simpa using e)) (fun j y hj e=>h2 (j + 1) y (by omega) (by simpa using e))
  have hx:p x=true:=h1 0 x (by omega) rfl
  refine ⟨by simp,?_,?_⟩
  ·rw [List.filter_cons,hx];simp [b]
  ·rw [List.filter_cons,hx];simp [c]
theorem DG {b:aB} {l:List aB} {i:Nat} (hi:i≤l.length) (h1:∀ (j:Nat) x,j < i→l[j]?=some x→x.lt b=true) (h2:∀ (j:Nat) x,i≤j→l[j]?=some x→x.lt b=false):l.take i ++ b :: l.drop i=j8 b l:=by
 obtain ⟨_,e1,e2⟩:=qJ (fun x=>x.lt b) hi h1 h2
 unfold j8
 rw [e1,e2]
theorem yD {l:List aB} {b x y:aB} {i j:Nat} (s:g9 l) (hx:l[i]?=some x) (hy:l[j]?=some y) (h:j≤i) (k:x.lt b=true):y.lt b=true:=by
 rcases Nat.lt_or_eq_of_le h with h | h
 ·obtain ⟨hi,ei⟩:=List.getElem?_eq_some_iff.mp hx
  obtain ⟨hj,ej⟩:=List.getElem?_eq_some_iff.mp hy
  have:=List.pairwise_iff_getElem.mp s j i hj hi h
  rw [ei,ej] at this
  exact aB.lt_trans this k
 ·subst h;rw [hx] at hy;cases hy;exact k
theorem CJ {l:List aB} {b x y:aB} {i j:Nat} (s:g9 l) (hx:l[i]?=some x) (hy:l[j]?=some y) (h:i≤j) (k:x.lt b=false):y.lt b=false:=by
 cases q:y.lt b with
 | false=>rfl
 | true=>rw [yD s hy hx h q] at k;cases k
theorem A8 {b x:aB} {l:List aB} (h:x∈j8 b l):x=b∨x∈l:=by
 unfold j8 at h
 rcases List.mem_append.mp h with h | h
 ·exact .inr (List.mem_filter.mp h).1
 ·rcases List.mem_cons.mp h with h | h
  ·exact .inl h
  ·exact .inr (List.mem_filter.mp h).1
theorem kQ (p:aB→Bool):∀ l:List aB,(l.filter p).length + (l.filter fun x=>!p x).length=l.length
 | []=>rfl
 | x :: l=>by
  have:=kQ p l
  cases h:p x <;> simp [h] <;> omega
theorem ue (b:aB) (l:List aB):(j8 b l).length=l.length + 1:=by
 unfold j8
 rw [List.length_append,List.length_cons]
 have:=kQ (fun x=>x.lt b) l
 omega
theorem lR (h f:Str) (l:List aB):(dy h f l).length≤l.length:=List.length_filter_le _ _
structure aU where
 m:Rat
 p:Rat
 v:Int
 deriving DecidableEq
def aU.at (l:aU) (t:Rat):Rat:=l.p + (t - l.m) * l.v
def turned (rows:List aU) (t:Rat) (v:Int):List aU :=
 match rows.getLast? with
 | none=>[]
 | some l =>
  let rest:=if l.m=t then rows.dropLast else rows
  if rest.getLast?.map aU.v=some v then rest else rest ++ [⟨t,l.at t,v⟩]
theorem f7 (ls:List aU) (l:aU) (t:Rat) (v:Int):turned (ls ++ [l]) t v =
  if l.m=t then (if ls.getLast?.map aU.v=some v then ls else ls ++ [⟨t,l.at t,v⟩]) else (if l.v=v then ls ++ [l] else ls ++ [l] ++ [⟨t,l.at t,v⟩]):=by
 unfold turned
 simp only [List.getLast?_concat,List.dropLast_concat]
 split
 ·rfl
 ·simp only [List.getLast?_concat,Option.map_some,Option.some.injEq]
theorem qS {rows:List aU} {t:Rat} {v:Int} (h:rows≠[]):turned rows t v≠[]:=by
 obtain ⟨ls,l,rfl⟩:∃ ls l,rows=ls ++ [l]:=⟨rows.dropLast,rows.getLast h,(List.dropLast_concat_getLast h).symm⟩
 rw [f7]
 split
 ·split
  ·rename_i e
   intro z;subst z;cases e
  ·simp
 ·split <;> simp
theorem xh {rows:List aU} {t:Rat} {v:Int} {x:aU} (h:x∈turned rows t v):x∈rows∨∃ l∈rows,x=⟨t,l.at t,v⟩:=by
 by_cases e:rows=[]
 ·subst e;cases h
 obtain ⟨ls,l,rfl⟩:∃ ls l,rows=ls ++ [l]:=⟨rows.dropLast,rows.getLast e,(List.dropLast_concat_getLast e).symm⟩
 rw [f7] at h
 have key:∀ {y:List aU},(∀ z∈y,z∈ls ++ [l])→x∈y ++ [⟨t,l.at t,v⟩]→x∈ls ++ [l]∨∃ l'∈ls ++ [l],x=⟨t,l'.at t,v⟩:=fun hy hx=>by
  rcases List.mem_append.mp hx with h | h
  ·exact .inl (hy _ h)
  ·exact .inr ⟨l,by simp,by simpa using h⟩
 split at h
 ·split at h
  ·exact .inl (List.mem_append.mpr (.inl h))
  ·exact key (fun z hz=>List.mem_append.mpr (.inl hz)) h
 ·split at h
  ·exact .inl h
  ·exact key (fun z hz=>hz) h
theorem kr (rows:List aU) (t:Rat) (v:Int):(turned rows t v).length≤rows.length + 1:=by
 by_cases e:rows=[]
 ·subst e;simp [turned]
 obtain ⟨ls,l,rfl⟩:∃ ls l,rows=ls ++ [l]:=⟨rows.dropLast,rows.getLast e,(List.dropLast_concat_getLast e).symm⟩
 rw [f7]
 split <;> split <;> simp <;> omega
def um (rows:List aU) (t:Rat):Option aU:=(rows.filter fun l=>decide (l.m≤t)).getLast?
def lb (ms:List Rat) (t:Rat):Nat→Nat
 | 0=>0
 | k + 1=>if ms.getD k 0≤t then k + 1 else lb ms t k
theorem Ft (ms:List Rat) (t:Rat):∀ k,lb ms t k≤k
 | 0=>Nat.le_refl _
 | k + 1=>by unfold lb;split;exact Nat.le_refl _;exact Nat.le_succ_of_le (Ft ms t k)
theorem Bk {ms:List Rat} {t:Rat} {j:Nat} (h:ms.getD j 0≤t):∀ {k},j < k→0 < lb ms t k
 | 0,hk=>absurd hk (Nat.not_lt_zero _)
 | k + 1,hk=>by
  unfold lb
  split
  ·exact Nat.succ_pos _
  ·rename_i c
   exact Bk h (by rcases Nat.lt_succ_iff_lt_or_eq.mp hk with e | e;exact e;subst e;exact absurd h c)
theorem xT (t:Rat) (rows:List aU):∀ k,k≤rows.length→((rows.take k).filter fun l=>decide (l.m≤t)).getLast?=if lb (rows.map aU.m) t k=0 then none else rows[lb (rows.map aU.m) t k - 1]?
 | 0,_=>rfl
 | k + 1,hk=>by
  have hk':k < rows.length:=by omega
  have e:rows.take (k + 1)=rows.take k ++ [rows[k]]:=by rw [List.take_add_one,List.getElem?_eq_getElem hk'];rfl
  have em:(rows.map aU.m).getD k 0=rows[k].m:=by simp [List.getD,hk']
  rw [e,List.filter_append]
  unfold lb
  rw [em]
  by_cases c:rows[k].m≤t
  ·rw [if_pos c,List.filter_cons,if_pos (decide_eq_true c),List.filter_nil,List.getLast?_concat,if_neg (Nat.succ_ne_zero _),Nat.add_sub_cancel,List.getElem?_eq_getElem hk']
  ·rw [if_neg c,List.filter_cons,if_neg (by simp [c]),List.filter_nil,List.append_nil]
   exact xT t rows k (by omega)
theorem Bp (rows:List aU) (t:Rat):um rows t=if lb (rows.map aU.m) t rows.length=0 then none else rows[lb (rows.map aU.m) t rows.length - 1]?:=by
 have:=xT t rows rows.length (Nat.le_refl _)
 rw [List.take_length] at this
 exact this
def KZ (g:Option Rat) (t:Rat):Bool:=match g with | none=>true | some q=>decide (t < q)
def there (rows:List aU) (g:Option Rat) (t:Rat):Bool :=
 match rows.head? with
 | none=>false
 | some l=>!decide (t < l.m) && KZ g t
theorem C0 {rows:List aU} {g:Option Rat} {t:Rat} (h:there rows g t=true):∃ l,um rows t=some l∧l∈rows∧l.m≤t∧0 < lb (rows.map aU.m) t rows.length∧rows[lb (rows.map aU.m) t rows.length - 1]?=some l:=by
 cases rows with
 | nil=>cases h
 | cons l0 ls =>
  have h0:l0.m≤t:=by
   unfold there at h
   simp only [List.head?_cons,Bool.and_eq_true,Bool.not_eq_true',decide_eq_false_iff_not] at h
   exact Rat.not_lt.mp h.1
  have hp:0 < lb ((l0 :: ls).map aU.m) t (l0 :: ls).length:=Bk (j:=0) (by simpa using h0) (by simp)
  have hle:=Ft ((l0 :: ls).map aU.m) t (l0 :: ls).length
  have hx:=Bp (l0 :: ls) t
  rw [if_neg (by omega)] at hx
  obtain ⟨l,hl⟩:∃ l,(l0 :: ls)[lb ((l0 :: ls).map aU.m) t (l0 :: ls).length - 1]?=some l:=⟨_,List.getElem?_eq_getElem (by omega)⟩
  rw [hl] at hx
  have hm:=List.mem_of_getLast? hx
  rw [List.mem_filter] at hm
  exact ⟨l,hx,hm.1,of_decide_eq_true hm.2,hp,hl⟩
def Sc (D A:Nat) (q:Rat):Prop:=∃ a:Int,q * (D:Rat)=(a:Rat)∧a.natAbs≤A
theorem Sc.mono {D A B:Nat} {q:Rat} (h:Sc D A q) (k:A≤B):Sc D B q:=let ⟨a,e,l⟩:=h;⟨a,e,Nat.le_trans l k⟩
theorem Jt {D:Nat} (h:0 < D):(D:Rat)≠0:=by
 intro e
 have:D=0:=by exact_mod_cast e
 omega
theorem Sc.sz {D A n:Nat} {q:Rat} (h:Sc D A q) (hD:0 < D) (h1:D < 2 ^ n) (h2:A < 2 ^ n):Sz n q:=by
 obtain ⟨a,e,l⟩:=h
 have nz:=Jt hD
 have:q=Rat.divInt a (D:Int):=by
  rw [Rat.divInt_eq_div,← e]
  have:((D:Int):Rat)=(D:Rat):=rfl
  rw [this]
  generalize (D:Rat)=d at nz ⊢
  grind
 rw [this]
 exact Sz.div ⟨Nat.lt_of_le_of_lt l h2⟩ ⟨by simpa using h1⟩ (by omega)
theorem Sc.scale {D A E:Nat} {p:Rat} (h:Sc D A p):Sc (E * D) (E * A) p:=by
 obtain ⟨a,e,l⟩:=h
 refine ⟨E * a,?_,?_⟩
 ·rw [Rat.intCast_mul,← e]
  have h1:((E * D:Nat):Rat)=(E:Rat) * (D:Rat):=Rat.natCast_mul ..
  have h2:((E:Int):Rat)=(E:Rat):=rfl
  rw [h1,h2]
  grind
 ·rw [Int.natAbs_mul];exact Nat.mul_le_mul (by simp) l
theorem Sc.Ha {D A:Nat} {t:Int} {b:Nat} (hb:0 < b) (hd:b ∣ D) (hA:t.natAbs * (D / b)≤A):Sc D A (Rat.divInt t b):=by
 obtain ⟨c,rfl⟩:=hd
 rw [Nat.mul_div_cancel_left _ hb] at hA
 refine ⟨t * c,?_,by rw [Int.natAbs_mul];simpa using hA⟩
 have nb:=Jt hb
 have e1:((b:Int):Rat)=(b:Rat):=rfl
 have e2:((c:Int):Rat)=(c:Rat):=rfl
 rw [Rat.divInt_eq_div,Rat.intCast_mul,e1,e2,Rat.natCast_mul]
 generalize (b:Rat)=b at nb ⊢
 grind
def gd:Nat:=9690712164777231700912800
theorem MV:∀ b:Nat,1≤b→b≤60→b ∣ gd:=by
 intro b h1 h2
 have:∀ b:Fin 61,1≤b.val→b.val ∣ gd:=by decide
 exact this ⟨b,by omega⟩ h1
theorem rQ:0 < gd:=by decide
def MM:Nat:=2097152 * gd
structure Nd (D k:Nat) (l:aU):Prop where
 m:Sc gd MM l.m
 p:Sc (D * gd) (gd * 2 ^ 101 + k * (2000 * (D * MM))) l.p
 v:l.v.natAbs≤1000
theorem Js:MM < 2 ^ 106:=by decide
theorem xU {q:Rat} (h:Sc gd MM q):Sz 106 q:=h.sz rQ (by decide) Js
structure Gd (D k:Nat) (rows:List aU):Prop where
 ne:rows≠[]
 ok:∀ l∈rows,Nd D k l
 len:rows.length≤k + 1
def Later (c q:Rat):Prop:=q=c∨∃ u s:Nat,1≤u∧u≤60∧1≤s∧s≤500 * u∧q=Rat.divInt ((c.num * u).fdiv c.den + s) u
theorem Later.sc {c q:Rat} {A:Nat} (h:Later c q) (k:Sc gd A c):Sc gd (A + 501 * gd) q:=by
 rcases h with rfl | ⟨u,s,h1,h2,h3,h4,rfl⟩
 ·exact k.mono (Nat.le_add_right _ _)
 obtain ⟨a,e,l⟩:=k
 obtain ⟨w,hw⟩:=MV u h1 h2
 refine Sc.Ha (by omega) ⟨w,hw⟩ ?_
 have ew:gd / u=w:=by rw [hw,Nat.mul_div_cancel_left _ (by omega)]
 rw [ew]
 have hf:((c.num * u).fdiv c.den) * c.den≤c.num * u∧c.num * u < ((c.num * u).fdiv c.den + 1) * c.den:=by
  rw [Int.fdiv_eq_ediv_of_nonneg _ (by omega)]
  have:=i5 c
  constructor
  ·exact Int.ediv_mul_le _ (by omega)
  ·have:=Int.lt_ediv_add_one_mul_self (c.num * u) this;exact this
 have ea:c.num * (gd:Int)=a * c.den:=by
  have h1:=cast_eq c
  have h2:=i4 c
  have h3:((gd:Nat):Rat)=(((gd:Nat):Int):Rat):=rfl
  have:((c.num * (gd:Int):Int):Rat)=((a * c.den:Int):Rat):=by
   rw [Rat.intCast_mul,Rat.intCast_mul,h1,← e,h3]
   grind
  exact_mod_cast this
 have hL:(gd:Int)=u * w:=by rw [hw];simp
 have hw0:0 < w:=by
  rcases Nat.eq_zero_or_pos w with z | z
  ·rw [z,Nat.mul_zero] at hw;exact absurd hw (by decide)
  ·exact z
 rw [hL] at ea
 have hd:=i5 c
 generalize hF:(c.num * u).fdiv c.den=F at hf ⊢
 generalize hN:c.num=N at *
 generalize hDD:(c.den:Int)=d at *
 have g1:F * w≤a:=by
  have:F * w * d≤a * d:=by
   rw [← ea]
   have:=Int.mul_le_mul_of_nonneg_right hf.1 (show (0:Int)≤w by omega)
   calc F * w * d=F * d * w:=by rw [Int.mul_right_comm]
    _≤N * u * w:=this
    _=N * (u * w):=Int.mul_assoc ..
  exact Int.le_of_mul_le_mul_right this hd
 have g2:a≤(F + 1) * w:=by
  have:a * d≤(F + 1) * w * d:=by
   rw [← ea]
   have:=Int.mul_le_mul_of_nonneg_right (Int.le_of_lt hf.2) (show (0:Int)≤w by omega)
   calc N * (u * w)=N * u * w:=(Int.mul_assoc ..).symm
    _≤(F + 1) * d * w:=this
    _=(F + 1) * w * d:=by rw [Int.mul_right_comm]
  exact Int.le_of_mul_le_mul_right this hd
 have hsw:s * w≤500 * (u * w):=by
  calc s * w≤500 * u * w:=Nat.mul_le_mul_right _ h4
   _=500 * (u * w):=Nat.mul_assoc ..
 have huw:w≤u * w:=Nat.le_mul_of_pos_left _ (by omega)
 rw [hw]
 have:(F + s).natAbs * w=((F + s) * w).natAbs:=by rw [Int.natAbs_mul];simp
 rw [this,Int.add_mul]
 rw [Int.add_mul,Int.one_mul] at g2
 have hsw':(s:Int) * w≤500 * ((u * w:Nat):Int):=by exact_mod_cast hsw
 generalize F * (w:Int)=x at *
 have hs0:(0:Int)≤(s:Int) * w:=Int.mul_nonneg (by omega) (by omega)
 generalize (s:Int) * w=y at *
 generalize u * w=z at *
 omega
theorem Later.le {c q:Rat} (h:Later c q):c≤q:=by
 rcases h with rfl | ⟨u,s,h1,h2,h3,h4,rfl⟩
 ·exact Rat.le_refl
 have hf:c.num * u < ((c.num * u).fdiv c.den + 1) * c.den:=by
  rw [Int.fdiv_eq_ediv_of_nonneg _ (by omega)]
  exact Int.lt_ediv_add_one_mul_self (c.num * u) (i5 c)
 generalize (c.num * u).fdiv c.den=F at hf ⊢
 have h5:c.num * u≤(F + s) * c.den:=by
  have:(F + 1) * c.den≤(F + s) * c.den:=Int.mul_le_mul_of_nonneg_right (by omega) (by omega)
  omega
 have hu:(0:Rat) < (u:Rat):=by exact_mod_cast (show 0 < u by omega)
 have hd:(0:Rat) < ((c.den:Int):Rat):=by exact_mod_cast i5 c
 refine Rat.not_lt.mp fun hlt=>?_
 rw [Rat.divInt_eq_div] at hlt
 have e1:((u:Int):Rat)=(u:Rat):=rfl
 rw [e1,Rat.div_lt_iff hu] at hlt
 have h6:=Rat.mul_lt_mul_of_pos_right hlt hd
 have e2:c * (u:Rat) * ((c.den:Int):Rat)=((c.num * u:Int):Rat):=by
  rw [Rat.intCast_mul,cast_eq c,e1];grind
 rw [e2,← Rat.intCast_mul] at h6
 have h7:(F + s) * c.den < c.num * u:=by exact_mod_cast h6
 omega
section
variable {α:Type} {lt:α→α→Bool}
def oi (lt:α→α→Bool) (b:α) (l:List α):List α:=l.filter (fun x=>lt x b) ++ b :: l.filter (fun x=>!lt x b)
def nV (lt:α→α→Bool) (l:List α):Prop:=l.Pairwise fun a b=>lt a b=true
theorem BV (p:α→Bool):∀ {l:List α} {i:Nat},i≤l.length→(∀ (j:Nat) x,j < i→l[j]?=some x→p x=true)→(∀ (j:Nat) x,i≤j→l[j]?=some x→p x=false)→l.filter p=l.take i∧l.filter (fun x=>!p x)=l.drop i
 | l,0,_,_,h=>by
  refine ⟨?_,?_⟩
  ·rw [List.take_zero]
   apply List.filter_eq_nil_iff.mpr
   intro x hx
   obtain ⟨j,hj⟩:=List.mem_iff_getElem?.mp hx
   rw [h j x (Nat.zero_le _) hj];simp
  ·rw [List.drop_zero]
   apply List.filter_eq_self.mpr
   intro x hx
   obtain ⟨j,hj⟩:=List.mem_iff_getElem?.mp hx
   rw [h j x (Nat.zero_le _) hj];rfl
 | [],i + 1,hi,_,_=>by simp at hi
 | x :: l,i + 1,hi,h1,h2=>by
  obtain ⟨b,c⟩:=BV p (l:=l) (i:=i) (by simpa using hi) (fun j y hj e=>h1 (j + 1) y (by omega) (by simpa using e)) (fun j y hj e=>h2 (j + 1) y (by omega) (by simpa using e))
  have hx:p x=true:=h1 0 x (by omega) rfl
  refine ⟨?_,?_⟩
  ·rw [List.filter_cons,hx];simp [b]
  ·rw [List.filter_cons,hx];simp [c]
theorem DH {b:α} {l:List α} {i:Nat} (hi:i≤l.length) (h1:∀ (j:Nat) x,j < i→l[j]?=some x→lt x b=true) (h2:∀ (j:Nat) x,i≤j→l[j]?=some x→lt x b=false):l.take i ++ b :: l.drop i=oi lt b l:=by
 obtain ⟨e1,e2⟩:=BV (fun x=>lt x b) hi h1 h2
 unfold oi
 rw [e1,e2]
theorem ug {b x:α} {l:List α}:x∈oi lt b l↔x=b∨x∈l:=by
 unfold oi
 rw [List.mem_append,List.mem_cons,List.mem_filter,List.mem_filter]
 constructor
 ·rintro (h | h | h)
  ·exact .inr h.1
  ·exact .inl h
  ·exact .inr h.1
 ·rintro (h | h)
  ·exact .inr (.inl h)
  ·cases e:lt x b
   ·exact .inr (.inr ⟨h,by simp⟩)
   ·exact .inl ⟨h,rfl⟩
theorem A9 (b:α) (l:List α):(oi lt b l).length=l.length + 1:=by
 unfold oi
 rw [List.length_append,List.length_cons]
 have:∀ l:List α,(l.filter fun x=>lt x b).length + (l.filter fun x=>!lt x b).length=l.length:=by
  intro l
  induction l with
  | nil=>rfl
  | cons x l ih=>cases h:lt x b <;> simp [h] <;> omega
 have:=this l
 omega
theorem A_ (tr:∀ {a b c},lt a b=true→lt b c=true→lt a c=true) {b:α} {l:List α} (s:nV lt l) (KA:∀ x∈l,lt x b=true∨lt b x=true):nV lt (oi lt b l):=by
 unfold oi nV
 rw [List.pairwise_append]
 refine ⟨s.filter _,?_,?_⟩
 ·rw [List.pairwise_cons]
  refine ⟨fun y hy=>?_,s.filter _⟩
  rw [List.mem_filter] at hy
  rcases KA y hy.1 with q | q
  ·simp [q] at hy
  ·exact q
 ·intro x hx y hy
  rw [List.mem_filter] at hx
  rcases List.mem_cons.mp hy with rfl | hy
  ·exact hx.2
  ·rw [List.mem_filter] at hy
   rcases KA y hy.1 with q | q
   ·simp [q] at hy
   ·exact tr hx.2 q
theorem CI (tr:∀ {a b c},lt a b=true→lt b c=true→lt a c=true) {l:List α} {b x y:α} {i j:Nat} (s:nV lt l) (hx:l[i]?=some x) (hy:l[j]?=some y) (h:j≤i) (k:lt x b=true):lt y b=true:=by
 rcases Nat.lt_or_eq_of_le h with h | h
 ·obtain ⟨hi,ei⟩:=List.getElem?_eq_some_iff.mp hx
  obtain ⟨hj,ej⟩:=List.getElem?_eq_some_iff.mp hy
  have:=List.pairwise_iff_getElem.mp s j i hj hi h
  rw [ei,ej] at this
  exact tr this k
 ·subst h;rw [hx] at hy;cases hy;exact k
theorem lD (zf:∀ a,lt a a=false) (tr:∀ {a b c},lt a b=true→lt b c=true→lt a c=true):∀ {l k:List α},nV lt l→nV lt k→(∀ x,x∈l↔x∈k)→l=k
 | [],[],_,_,_=>rfl
 | [],y :: k,_,_,h=>by have:=(h y).mpr List.mem_cons_self;cases this
 | x :: l,[],_,_,h=>by have:=(h x).mp List.mem_cons_self;cases this
 | x :: l,y :: k,hl,hk,h=>by
  obtain ⟨a1,a2⟩:=List.pairwise_cons.mp hl
  obtain ⟨b1,b2⟩:=List.pairwise_cons.mp hk
  have exy:x=y:=by
   rcases List.mem_cons.mp ((h x).mp List.mem_cons_self) with e | e
   ·exact e
   ·rcases List.mem_cons.mp ((h y).mpr List.mem_cons_self) with e' | e'
    ·exact e'.symm
    ·have:=tr (a1 y e') (b1 x e)
     rw [zf] at this;cases this
  subst exy
  rw [lD zf tr a2 b2 fun z=>?_]
  constructor
  ·intro hz
   rcases List.mem_cons.mp ((h z).mp (List.mem_cons_of_mem _ hz)) with e | e
   ·have:=a1 z hz;rw [e,zf] at this;cases this
   ·exact e
  ·intro hz
   rcases List.mem_cons.mp ((h z).mpr (List.mem_cons_of_mem _ hz)) with e | e
   ·have:=b1 z hz;rw [e,zf] at this;cases this
   ·exact e
end
structure Ky where
 p:Rat
 v:Int
 n:Str
 deriving DecidableEq
def Ky.lt (a b:Ky):Bool:=if a.p=b.p then (if a.v=b.v then decide (slt a.n b.n) else decide (a.v < b.v)) else decide (a.p < b.p)
theorem Ky.lt_iff (a b:Ky):a.lt b=true↔a.p < b.p∨(a.p=b.p∧(a.v < b.v∨(a.v=b.v∧slt a.n b.n))):=by
 unfold Ky.lt
 by_cases e:a.p=b.p
 ·rw [if_pos e]
  have n:¬ a.p < b.p:=by rw [e];exact Rat.lt_irrefl
  by_cases k:a.v=b.v
  ·rw [if_pos k,decide_eq_true_eq]
   have n2:¬ a.v < b.v:=by omega
   exact ⟨fun h=>.inr ⟨e,.inr ⟨k,h⟩⟩,fun h=>by
    rcases h with h | ⟨_,h | h⟩
    ·exact absurd h n
    ·exact absurd h n2
    ·exact h.2⟩
  ·rw [if_neg k,decide_eq_true_eq]
   exact ⟨fun h=>.inr ⟨e,.inl h⟩,fun h=>by
    rcases h with h | ⟨_,h | h⟩
    ·exact absurd h n
    ·exact h
    ·exact absurd h.1 k⟩
 ·rw [if_neg e,decide_eq_true_eq]
  exact ⟨.inl,fun h=>by
   rcases h with h | h
   ·exact h
   ·exact absurd h.1 e⟩
theorem Ky.zf (a:Ky):a.lt a=false:=by
 cases h:a.lt a with
 | false=>rfl
 | true =>
  rcases (Ky.lt_iff a a).mp h with h | ⟨_,h | ⟨_,h⟩⟩
  ·exact absurd h Rat.lt_irrefl
  ·omega
  ·exact absurd h (lz _)
theorem Ky.tr {a b c:Ky} (h:a.lt b=true) (k:b.lt c=true):a.lt c=true:=by
 rw [Ky.lt_iff] at *
 rcases h with h | ⟨e,h⟩ <;> rcases k with k | ⟨e',k⟩
 ·exact .inl (qL h k)
 ·exact .inl (e' ▸ h)
 ·exact .inl (e ▸ k)
 ·refine .inr ⟨e.trans e',?_⟩
  rcases h with h | ⟨z,h⟩ <;> rcases k with k | ⟨z',k⟩
  ·exact .inl (by omega)
  ·exact .inl (by omega)
  ·exact .inl (by omega)
  ·exact .inr ⟨z.trans z',mn h k⟩
theorem Ky.KA {a b:Ky} (h:a.n≠b.n):a.lt b=true∨b.lt a=true:=by
 rw [Ky.lt_iff,Ky.lt_iff]
 by_cases e:a.p=b.p
 ·by_cases z:a.v=b.v
  ·rcases tD h with q | q
   ·exact .inl (.inr ⟨e,.inr ⟨z,q⟩⟩)
   ·exact .inr (.inr ⟨e.symm,.inr ⟨z.symm,q⟩⟩)
  ·rcases (by omega:a.v < b.v∨b.v < a.v) with q | q
   ·exact .inl (.inr ⟨e,.inl q⟩)
   ·exact .inr (.inr ⟨e.symm,.inl q⟩)
 ·rcases (by grind:a.p < b.p∨b.p < a.p) with q | q
  ·exact .inl (.inl q)
  ·exact .inr (.inl q)
theorem Ky.IE {a b:Ky} (h:a.lt b=true):b.lt a=false:=by
 cases k:b.lt a with
 | false=>rfl
 | true=>have:=Ky.tr h k;rw [Ky.zf] at this;cases this
def dJ (ks:List Ky):List Ky:=ks.foldl (fun acc x=>oi Ky.lt x acc) []
theorem jH (ks:List Ky) (x:Ky):dJ (ks ++ [x])=oi Ky.lt x (dJ ks):=by unfold dJ;rw [List.foldl_append];rfl
theorem snoc_ind {α:Type} {p:List α→Prop} (h0:p []) (h1:∀ l x,p l→p (l ++ [x])) (l:List α):p l:=by
 have:∀ l:List α,p l.reverse:=by
  intro l
  induction l with
  | nil=>exact h0
  | cons x l ih=>rw [List.reverse_cons];exact h1 _ _ ih
 have:=this l.reverse
 rwa [List.reverse_reverse] at this
theorem ip {α:Type} {l:List α} {x:α} (h:(l ++ [x]).Nodup):l.Nodup∧x ∉ l:=by
 rw [List.nodup_append] at h
 exact ⟨h.1,fun hm=>h.2.2 x hm x (by simp) rfl⟩
theorem bp:∀ (ks:List Ky) (x:Ky),x∈dJ ks↔x∈ks:=by
 intro ks
 refine snoc_ind (p:=fun ks=>∀ x:Ky,x∈dJ ks↔x∈ks) (fun x=>by simp [dJ]) (fun ks y ih x=>?_) ks
 rw [jH,ug,ih,List.mem_append,List.mem_singleton]
 exact Or.comm
theorem dM {ks:List Ky} (h:(ks.map Ky.n).Nodup):nV Ky.lt (dJ ks):=by
 revert h
 refine snoc_ind (p:=fun ks=>(ks.map Ky.n).Nodup→nV Ky.lt (dJ ks)) (fun _=>List.Pairwise.nil) (fun ks y ih h=>?_) ks
 ·rw [List.map_append,List.map_cons,List.map_nil] at h
  obtain ⟨h1,h2⟩:=ip h
  rw [jH]
  refine A_ (lt:=Ky.lt) Ky.tr (ih h1) fun x hx=>Ky.KA fun e=>h2 ?_
  rw [← e]
  exact List.mem_map_of_mem ((bp ks x).mp hx)
theorem oH (ks:List Ky):(dJ ks).length=ks.length:=by
 refine snoc_ind (p:=fun ks=>(dJ ks).length=ks.length) rfl (fun ks y ih=>?_) ks
 rw [jH,A9,ih,List.length_append];rfl
theorem BQ {ks js:List Ky} (h:(ks.map Ky.n).Nodup) (k:(js.map Ky.n).Nodup) (e:∀ x,x∈ks↔x∈js):dJ ks=dJ js :=
 lD (lt:=Ky.lt) Ky.zf Ky.tr (dM h) (dM k) fun x=>by rw [bp,bp];exact e x
def key (t:Rat) (x:Str × aU):Ky:=⟨x.2.at t,x.2.v,x.1⟩
def cn (t:Rat) (fs:List (Str × aU)):List Str:=(dJ (fs.map (key t))).map Ky.n
theorem dA (t:Rat) (fs:List (Str × aU)):(fs.map (key t)).map Ky.n=fs.map (·.1):=by rw [List.map_map];rfl
theorem uI {t:Rat} {fs:List (Str × aU)} {n:Str}:n∈cn t fs↔n∈fs.map (·.1):=by
 rw [← dA t fs]
 unfold cn
 rw [List.mem_map,List.mem_map]
 exact ⟨fun ⟨x,h,e⟩=>⟨x,(bp _ _).mp h,e⟩,fun ⟨x,h,e⟩=>⟨x,(bp _ _).mpr h,e⟩⟩
theorem uH (t:Rat) (fs:List (Str × aU)):(cn t fs).length=fs.length:=by unfold cn;rw [List.length_map,oH,List.length_map]
theorem qQ {l:List Ky} (s:nV Ky.lt l) (h:∀ x∈l,∀ y∈l,x.n=y.n→x=y):(l.map Ky.n).Nodup:=by
 refine List.pairwise_map.mpr (s.imp_of_mem fun {a b} ha hb hab e=>?_)
 have:=h a ha b hb e
 subst this
 rw [Ky.zf] at hab;cases hab
theorem ji {ks:List Ky} (h:(ks.map Ky.n).Nodup):∀ x∈ks,∀ y∈ks,x.n=y.n→x=y:=by
 intro x hx y hy e
 obtain ⟨i,hi,rfl⟩:=List.getElem_of_mem hx
 obtain ⟨j,hj,rfl⟩:=List.getElem_of_mem hy
 have:=(List.getElem_inj (xs:=ks.map Ky.n) (i:=i) (j:=j) (h₀:=by simpa using hi) (h₁:=by simpa using hj) h).mp (by rw [List.getElem_map,List.getElem_map];exact e)
 subst this;rfl
theorem oI {t:Rat} {fs:List (Str × aU)} (h:(fs.map (·.1)).Nodup):(cn t fs).Nodup:=by
 rw [← dA t fs] at h
 exact qQ (dM h) fun x hx y hy e=>ji h x ((bp _ _).mp hx) y ((bp _ _).mp hy) e
theorem BR {t:Rat} {fs gs:List (Str × aU)} (h:(fs.map (·.1)).Nodup) (k:(gs.map (·.1)).Nodup) (e:∀ x,x∈fs.map (key t)↔x∈gs.map (key t)):cn t fs=cn t gs:=by
 unfold cn
 rw [BQ (by rw [dA];exact h) (by rw [dA];exact k) e]
theorem mx {α β:Type} {fs:List (Str × α)} {f:α→β} (h:(fs.map (·.1)).Nodup) {n:Str} {l:α} (hm:(n,l)∈fs):L2.lK (fs.map fun x=>(x.1,f x.2)) n=some (f l):=by
 induction fs with
 | nil=>cases hm
 | cons x fs ih =>
  rw [List.map_cons,List.nodup_cons] at h
  rw [List.map_cons,L2.lI]
  rcases List.mem_cons.mp hm with e | e
  ·subst e;rw [if_pos rfl]
  ·have ne:x.1≠n:=fun z=>h.1 (by rw [z];exact List.mem_map_of_mem (f:=fun x:Str × α=>x.1) e)
   rw [if_neg ne];exact ih h.2 e
theorem tN {α β:Type} {fs:List (Str × α)} {f:α→β} (h:(fs.map (·.1)).Nodup) {n:Str} (hm:n∈fs.map (·.1)):∃ l,(n,l)∈fs∧L2.lK (fs.map fun x=>(x.1,f x.2)) n=some (f l):=by
 obtain ⟨⟨m,l⟩,hx,rfl⟩:=List.mem_map.mp hm
 exact ⟨l,hx,mx h hx⟩
theorem Fc {α β:Type} {fs:List (Str × α)} {f:α→β} {n:Str} (hm:n ∉ fs.map (·.1)):L2.lK (fs.map fun x=>(x.1,f x.2)) n=none:=by
 induction fs with
 | nil=>rfl
 | cons x fs ih =>
  rw [List.map_cons,L2.lI]
  rw [List.map_cons,List.mem_cons,not_or] at hm
  rw [if_neg (fun e=>hm.1 e.symm)];exact ih hm.2
theorem Ad {α β:Type} {fs:List (Str × α)} {f:α→β} {n:Str} (h:(fs.map (·.1)).Nodup):(L2.lK (fs.map fun x=>(x.1,f x.2)) n).isSome=decide (n∈fs.map (·.1)):=by
 by_cases hm:n∈fs.map (·.1)
 ·obtain ⟨l,_,e⟩:=tN (f:=f) h hm
  rw [e,decide_eq_true hm];rfl
 ·rw [Fc hm,decide_eq_false hm];rfl
theorem wM {α β:Type} {fs:List (Str × α)} {f:α→β} {n:Str} {l:α} (hm:n ∉ fs.map (·.1)):L2.sF (fs.map fun x=>(x.1,f x.2)) n (f l)=(fs ++ [(n,l)]).map fun x=>(x.1,f x.2):=by
 unfold L2.sF
 rw [if_neg,List.map_append]
 ·rfl
 ·intro h
  rw [List.any_eq_true] at h
  obtain ⟨y,hy,e⟩:=h
  obtain ⟨x,hx,rfl⟩:=List.mem_map.mp hy
  exact hm (by rw [← of_decide_eq_true e];exact List.mem_map_of_mem (f:=fun x:Str × α=>x.1) hx)
def PP:Nat:=1000000 * gd + 1000 * MM
structure pA (l:aU):Prop where
 m0:0≤l.m
 m:Sc gd MM l.m
 p:∃ a:Int,l.p * (gd:Rat)=(a:Rat)
 b0:-(1000000 + 1000 * l.m)≤l.p
 b1:l.p≤1000000 + 1000 * l.m
 v:l.v.natAbs≤1000
theorem Jc:(0:Rat) < (gd:Rat):=by
 have:((0:Nat):Rat) < ((gd:Nat):Rat):=Rat.natCast_lt_natCast.mpr rQ
 simpa using this
theorem pA.sc {l:aU} (h:pA l):Sc gd PP l.p:=by
 obtain ⟨a,ha⟩:=h.p
 obtain ⟨k,hk,hk1⟩:=h.m
 have hL:=Jc
 have b0:=h.b0
 have b1:=h.b1
 have e1:(a:Rat)≤(((1000000 * gd + 1000 * k:Int)):Rat):=by
  rw [← ha,Rat.intCast_add,Rat.intCast_mul,Rat.intCast_mul,← hk]
  have:l.p * (gd:Rat)≤(1000000 + 1000 * l.m) * (gd:Rat):=Rat.mul_le_mul_of_nonneg_right b1 (Rat.le_of_lt hL)
  have e:(((gd:Nat):Int):Rat)=(gd:Rat):=rfl
  rw [e]
  grind
 have e2:(((-(1000000 * gd + 1000 * k):Int)):Rat)≤(a:Rat):=by
  rw [← ha,Rat.intCast_neg,Rat.intCast_add,Rat.intCast_mul,Rat.intCast_mul,← hk]
  have:-(1000000 + 1000 * l.m) * (gd:Rat)≤l.p * (gd:Rat):=Rat.mul_le_mul_of_nonneg_right b0 (Rat.le_of_lt hL)
  have e:(((gd:Nat):Int):Rat)=(gd:Rat):=rfl
  rw [e]
  grind
 have e1:=Rat.intCast_le_intCast.mp e1
 have e2:=Rat.intCast_le_intCast.mp e2
 refine ⟨a,ha,?_⟩
 unfold PP
 have:(k:Int)≤MM:=by omega
 have:-(MM:Int)≤k:=by omega
 omega
theorem JC:PP < 2 ^ 120:=by decide
theorem pA.M1 {l:aU} (h:pA l):Sz 120 l.p:=h.sc.sz rQ (by decide) JC
theorem pA.MW {l:aU} (h:pA l):Sz 120 l.m:=(xU h.m).mono (by decide)
theorem pA.at {l:aU} {t:Rat} {v:Int} (h:pA l) (h0:l.m≤t) (ht:Sc gd MM t) (hv:v.natAbs≤1000):pA ⟨t,l.at t,v⟩:=by
 have hm:=h.m0
 have t0:0≤t:=Rat.le_trans hm h0
 have d0:0≤t - l.m:=by grind
 have v1:(l.v:Rat)≤1000:=by
  have:((l.v:Int):Rat)≤((1000:Int):Rat):=Rat.intCast_le_intCast.mpr (by have:=h.v;omega)
  exact this
 have v2:-1000≤(l.v:Rat):=by
  have:((-1000:Int):Rat)≤((l.v:Int):Rat):=Rat.intCast_le_intCast.mpr (by have:=h.v;omega)
  exact this
 have m1:(t - l.m) * (l.v:Rat)≤(t - l.m) * 1000:=Rat.mul_le_mul_of_nonneg_left v1 d0
 have m2:(t - l.m) * (-1000)≤(t - l.m) * (l.v:Rat):=Rat.mul_le_mul_of_nonneg_left v2 d0
 have b0:=h.b0
 have b1:=h.b1
 refine ⟨t0,ht,?_,?_,?_,hv⟩
 ·obtain ⟨a,ha⟩:=h.p
  obtain ⟨k,hk,_⟩:=h.m
  obtain ⟨j,hj,_⟩:=ht
  refine ⟨a + (j - k) * l.v,?_⟩
  unfold aU.at
  dsimp only
  rw [Rat.intCast_add,Rat.intCast_mul,Rat.intCast_sub,← ha,← hk,← hj]
  grind
 ·show -(1000000 + 1000 * t)≤l.p + (t - l.m) * (l.v:Rat)
  grind
 ·show l.p + (t - l.m) * (l.v:Rat)≤1000000 + 1000 * t
  grind
theorem pA.new {t:Rat} {p v:Int} (t0:0≤t) (ht:Sc gd MM t) (hp:p.natAbs≤1000000) (hv:v.natAbs≤1000):pA ⟨t,(p:Rat),v⟩:=by
 have p1:(p:Rat)≤1000000:=by
  have:((p:Int):Rat)≤((1000000:Int):Rat):=Rat.intCast_le_intCast.mpr (by omega)
  exact this
 have p2:-1000000≤(p:Rat):=by
  have:((-1000000:Int):Rat)≤((p:Int):Rat):=Rat.intCast_le_intCast.mpr (by omega)
  exact this
 refine ⟨t0,ht,⟨p * gd,by rw [Rat.intCast_mul];rfl⟩,?_,?_,hv⟩
 ·show -(1000000 + 1000 * t)≤(p:Rat)
  grind
 ·show (p:Rat)≤1000000 + 1000 * t
  grind
def yX (b:aB) (l:List aB):List aB:=if b∈l then l else j8 b l
theorem qz {b x:aB} {l:List aB}:x∈j8 b l↔x=b∨x∈l:=ug (lt:=aB.lt)
theorem Av {b x:aB} {l:List aB}:x∈yX b l↔x=b∨x∈l:=by
 unfold yX
 split
 ·rename_i h
  exact ⟨.inr,fun z=>by rcases z with rfl | z;exact h;exact z⟩
 ·exact qz
theorem Aw {b:aB} {l:List aB} (s:g9 l):g9 (yX b l):=by
 unfold yX
 split
 ·exact s
 ·rename_i h
  exact uf s fun x hx e=>h (e ▸ hx)
def so (bs:List aB):List aB:=bs.foldl (fun acc b=>yX b acc) []
theorem qH (bs:List aB) (b:aB):so (bs ++ [b])=yX b (so bs):=by unfold so;rw [List.foldl_append];rfl
theorem BO (bs:List aB) (x:aB):x∈so bs↔x∈bs:=by
 refine snoc_ind (p:=fun bs=>∀ x:aB,x∈so bs↔x∈bs) (fun x=>by simp [so]) (fun bs y ih x=>?_) bs x
 rw [qH,Av,ih,List.mem_append,List.mem_singleton]
 exact Or.comm
theorem BP (bs:List aB):g9 (so bs):=by
 refine snoc_ind (p:=fun bs=>g9 (so bs)) List.Pairwise.nil (fun bs y ih=>?_) bs
 rw [qH];exact Aw ih
theorem vm {l k:List aB} (h:g9 l) (h':g9 k) (e:∀ x,x∈l↔x∈k):l=k:=lD (lt:=aB.lt) aB.wg aB.lt_trans h h' e
def eW (t:Rat) (a b:Ky):Rat:=t + (b.p - a.p) / ((a.v - b.v:Int):Rat)
def gJ (t:Rat) (a b:Ky):aB:=⟨eW t a b,a.n,b.n⟩
def cF (t:Rat) (ks:List Ky) (m:Rat):List aB:=so (((ks.flatMap fun a=>ks.map fun b=>(a,b)).filter fun p=>decide (p.2.v < p.1.v∧p.1.p < p.2.p∧eW t p.1 p.2≤m)).map fun p=>gJ t p.1 p.2)
theorem jI {t m:Rat} {ks:List Ky} {x:aB}:x∈cF t ks m↔∃ a∈ks,∃ b∈ks,b.v < a.v∧a.p < b.p∧eW t a b≤m∧x=gJ t a b:=by
 unfold cF
 rw [BO,List.mem_map]
 constructor
 ·rintro ⟨⟨a,b⟩,h,rfl⟩
  rw [List.mem_filter,List.mem_flatMap] at h
  obtain ⟨⟨c,hc,h1⟩,h2⟩:=h
  obtain ⟨d,hd,e⟩:=List.mem_map.mp h1
  cases e
  have h2:=of_decide_eq_true h2
  exact ⟨_,hc,_,hd,h2.1,h2.2.1,h2.2.2,rfl⟩
 ·rintro ⟨a,ha,b,hb,h1,h2,h3,rfl⟩
  exact ⟨(a,b),List.mem_filter.mpr ⟨List.mem_flatMap.mpr ⟨a,ha,List.mem_map.mpr ⟨b,hb,rfl⟩⟩,decide_eq_true ⟨h1,h2,h3⟩⟩,rfl⟩
theorem gR (t m:Rat) (ks:List Ky):g9 (cF t ks m):=BP _
def kY (l l':aU):Rat:=(l'.at 0 - l.at 0) / ((l.v - l'.v:Int):Rat)
theorem CL {a b:Int} (h:a≠b):((a - b:Int):Rat)≠0:=by
 intro e
 have:(a - b:Int)=0:=by exact_mod_cast (show ((a - b:Int):Rat)=((0:Int):Rat) from e)
 omega
theorem m6 {t:Rat} {n n':Str} {l l':aU} (h:l.v≠l'.v):kY l l'=eW t (key t (n,l)) (key t (n',l')):=by
 have k:=CL h
 unfold kY eW key aU.at
 dsimp only
 rw [Rat.intCast_sub] at *
 grind
theorem uR {a b:Rat} (ha:0 < a) (hb:0 < b):0 < a / b:=by
 have e:a / b * b=a:=by grind
 rcases Rat.le_total (a:=a / b) (b:=0) with h | h
 ·have:=Rat.mul_le_mul_of_nonneg_right h (Rat.le_of_lt hb)
  rw [e,Rat.zero_mul] at this
  exact absurd ha (Rat.not_lt.mpr this)
 ·rcases (by grind:a / b=0∨0 < a / b) with h | h
  ·rw [h,Rat.zero_mul] at e;rw [← e] at ha;exact absurd ha Rat.lt_irrefl
  ·exact h
def DQ (t:Rat) (l l':aU):Option Rat:=if l.v≠l'.v∧t < kY l l' then some (kY l l') else none
theorem DR {t:Rat} {n n':Str} {l l':aU} (h:(key t (n,l)).lt (key t (n',l'))=true):(l.v≠l'.v∧t < kY l l')↔(l'.v < l.v∧l.at t < l'.at t):=by
 rw [Ky.lt_iff] at h
 unfold key at h
 dsimp only at h
 constructor
 ·rintro ⟨h1,h2⟩
  rw [m6 (t:=t) (n:=n) (n':=n') h1] at h2
  unfold eW key at h2
  dsimp only at h2
  have k:=CL h1
  have h3:0 < (l'.at t - l.at t) / ((l.v - l'.v:Int):Rat):=by grind
  have hp:l.at t≠l'.at t:=by
   intro e
   rw [e] at h3
   have:(l'.at t - l'.at t) / ((l.v - l'.v:Int):Rat)=0:=by grind
   rw [this] at h3
   exact absurd h3 Rat.lt_irrefl
  have hlt:l.at t < l'.at t:=by
   rcases h with h | ⟨h,_⟩
   ·exact h
   ·exact absurd h hp
  refine ⟨?_,hlt⟩
  rcases (by omega:l'.v < l.v∨l.v < l'.v) with q | q
  ·exact q
  ·exfalso
   have hn:((l.v - l'.v:Int):Rat) < 0:=by
    have:((l.v - l'.v:Int):Rat) < ((0:Int):Rat):=Rat.intCast_lt_intCast.mpr (by omega)
    exact this
   have hd:0 < l'.at t - l.at t:=by grind
   have e:(l'.at t - l.at t) / ((l.v - l'.v:Int):Rat) * ((l.v - l'.v:Int):Rat)=l'.at t - l.at t:=by grind
   generalize (l'.at t - l.at t) / ((l.v - l'.v:Int):Rat)=z at h3 e
   have:z * ((l.v - l'.v:Int):Rat) < 0:=by
    have:=Rat.mul_lt_mul_of_pos_left hn h3
    rwa [Rat.mul_zero] at this
   grind
 ·rintro ⟨h1,h2⟩
  have hne:l.v≠l'.v:=by omega
  refine ⟨hne,?_⟩
  rw [m6 (t:=t) (n:=n) (n':=n') hne]
  unfold eW key
  dsimp only
  have hpos:0 < ((l.v - l'.v:Int):Rat):=by
   have:((0:Int):Rat) < ((l.v - l'.v:Int):Rat):=Rat.intCast_lt_intCast.mpr (by omega)
   exact this
  have hd:0 < l'.at t - l.at t:=by grind
  have:0 < (l'.at t - l.at t) / ((l.v - l'.v:Int):Rat):=uR hd hpos
  grind
end Ov
namespace Ov
def oP (t:Rat) (c:Ky × Ky→Bool) (rows:List aB) (p:Ky × Ky):List aB:=if c p=true then j8 (gJ t p.1 p.2) (dy p.1.n p.2.n rows) else rows
def cW (t:Rat) (c:Ky × Ky→Bool) (ps:List (Ky × Ky)):List aB:=ps.foldl (oP t c) []
theorem fw (t:Rat) (c:Ky × Ky→Bool) (ps:List (Ky × Ky)) (p:Ky × Ky):cW t c (ps ++ [p])=oP t c (cW t c ps) p:=by unfold cW;rw [List.foldl_append];rfl
theorem lT (t:Rat) (c:Ky × Ky→Bool) (ps:List (Ky × Ky)):g9 (cW t c ps):=by
 refine snoc_ind (p:=fun ps=>g9 (cW t c ps)) List.Pairwise.nil (fun l x ih=>?_) ps
 rw [fw]
 unfold oP
 split
 ·exact uf (qo ih) Dw
 ·exact ih
theorem y9 (t:Rat) (c:Ky × Ky→Bool) (ps:List (Ky × Ky)):(cW t c ps).length≤ps.length:=by
 refine snoc_ind (p:=fun ps=>(cW t c ps).length≤ps.length) (Nat.le_refl _) (fun l x ih=>?_) ps
 rw [fw,List.length_append]
 unfold oP
 split
 ·rw [ue]
  have:=lR x.1.n x.2.n (cW t c l)
  simp only [List.length_cons,List.length_nil];omega
 ·omega
theorem qx {t:Rat} {c:Ky × Ky→Bool} {x:aB} (ps:List (Ky × Ky)):x∈cW t c ps→∃ p∈ps,c p=true∧x=gJ t p.1 p.2:=by
 refine snoc_ind (p:=fun ps=>x∈cW t c ps→∃ p∈ps,c p=true∧x=gJ t p.1 p.2) (fun h=>by cases h) (fun l y ih h=>?_) ps
 rw [fw] at h
 unfold oP at h
 split at h
 ·rename_i hc
  rcases A8 h with e | h
  ·exact ⟨y,by simp,hc,e⟩
  ·obtain ⟨p,hp,k⟩:=ih (List.mem_filter.mp h).1
   exact ⟨p,List.mem_append.mpr (.inl hp),k⟩
 ·obtain ⟨p,hp,k⟩:=ih h
  exact ⟨p,List.mem_append.mpr (.inl hp),k⟩
def yV (ps:List (Ky × Ky)):Prop:=∀ p∈ps,∀ q∈ps,p.1.n=q.1.n→p.2.n=q.2.n→p=q
theorem qw {t:Rat} {c:Ky × Ky→Bool} {x:aB} (ps:List (Ky × Ky)):yV ps→(x∈cW t c ps↔∃ p∈ps,c p=true∧x=gJ t p.1 p.2):=by
 refine snoc_ind (p:=fun ps=>yV ps→(x∈cW t c ps↔∃ p∈ps,c p=true∧x=gJ t p.1 p.2)) (fun _=>Iff.intro (fun h=>nomatch h) (fun h=>by obtain ⟨_,h,_⟩:=h;cases h)) (fun l y ih inj=>?_) ps
 have ih:=ih fun p hp q hq=>inj p (List.mem_append.mpr (.inl hp)) q (List.mem_append.mpr (.inl hq))
 refine ⟨qx _,?_⟩
 rintro ⟨p,hp,hc,rfl⟩
 rw [fw]
 unfold oP
 have hold:p∈l→gJ t p.1 p.2∈cW t c l:=fun h=>ih.mpr ⟨p,h,hc,rfl⟩
 split
 ·rename_i hy
  rw [qz]
  by_cases e:p=y
  ·left;rw [e]
  ·right
   have hl:p∈l:=by
    rcases List.mem_append.mp hp with h | h
    ·exact h
    ·exact absurd (by simpa using h) e
   refine List.mem_filter.mpr ⟨hold hl,?_⟩
   unfold uY
   have:¬ ((gJ t p.1 p.2).h=y.1.n∧(gJ t p.1 p.2).f=y.2.n):=fun z=>e (inj p hp y (by simp) z.1 z.2)
   rw [decide_eq_false this];rfl
 ·rename_i hy
  rcases List.mem_append.mp hp with h | h
  ·exact hold h
  ·have:p=y:=by simpa using h
   subst this;exact absurd hc hy
theorem yV.of {ks:List Ky} (h:(ks.map Ky.n).Nodup) {ps:List (Ky × Ky)} (hp:∀ p∈ps,p.1∈ks∧p.2∈ks):yV ps:=fun p h1 q h2 e1 e2=>by
 have a:=ji h p.1 (hp p h1).1 q.1 (hp q h2).1 e1
 have b:=ji h p.2 (hp p h1).2 q.2 (hp q h2).2 e2
 cases p;cases q;simp only at a b;rw [a,b]
def vw (ks:List Ky):Nat→List (Ky × Ky)
 | 0=>[]
 | i + 1=>vw ks i ++ (match ks[i]? with | some a=>(ks.drop (i + 1)).map fun b=>(a,b) | none=>[])
theorem lH {ks:List Ky} {p:Ky × Ky}:∀ {i:Nat},p∈vw ks i↔∃ i' j,i' < i∧i' < j∧ks[i']?=some p.1∧ks[j]?=some p.2
 | 0=>⟨fun h=>(by cases h),fun ⟨_,_,h,_⟩=>by omega⟩
 | i + 1=>by
  unfold vw
  rw [List.mem_append,lH (i:=i)]
  constructor
  ·rintro (⟨i',j,h1,h⟩ | h)
   ·exact ⟨i',j,by omega,h⟩
   ·cases e:ks[i]? with
    | none=>rw [e] at h;cases h
    | some a =>
     rw [e] at h
     obtain ⟨b,hb,rfl⟩:=List.mem_map.mp h
     obtain ⟨j,hj⟩:=List.mem_iff_getElem?.mp hb
     rw [List.getElem?_drop] at hj
     exact ⟨i,_,by omega,by omega,e,hj⟩
  ·rintro ⟨i',j,h1,h2,h3,h4⟩
   by_cases e:i' < i
   ·exact .inl ⟨i',j,e,h2,h3,h4⟩
   ·have:i'=i:=by omega
    subst this
    right
    rw [h3]
    refine List.mem_map.mpr ⟨p.2,List.mem_iff_getElem?.mpr ⟨j - (i' + 1),?_⟩,rfl⟩
    rw [List.getElem?_drop,show i' + 1 + (j - (i' + 1))=j by omega];exact h4
def eu (t m:Rat) (p:Ky × Ky):Bool:=decide (p.2.v < p.1.v∧p.1.p < p.2.p∧eW t p.1 p.2≤m)
theorem Fb {t m:Rat} {ks:List Ky} (h:(ks.map Ky.n).Nodup):cW t (eu t m) (vw (dJ ks) (dJ ks).length)=cF t ks m:=by
 have hs:=dM h
 have hn:((dJ ks).map Ky.n).Nodup:=qQ hs (fun x hx y hy e=>ji h x ((bp _ _).mp hx) y ((bp _ _).mp hy) e)
 refine vm (lT _ _ _) (gR _ _ _) fun x=>?_
 rw [qw _ (yV.of hn fun p hp=>by
  obtain ⟨i,j,_,_,h3,h4⟩:=lH.mp hp
  exact ⟨List.mem_of_getElem? h3,List.mem_of_getElem? h4⟩),jI]
 constructor
 ·rintro ⟨p,hp,hc,rfl⟩
  obtain ⟨i,j,_,_,h3,h4⟩:=lH.mp hp
  have hc:=of_decide_eq_true hc
  exact ⟨p.1,(bp _ _).mp (List.mem_of_getElem? h3),p.2,(bp _ _).mp (List.mem_of_getElem? h4),hc.1,hc.2.1,hc.2.2,rfl⟩
 ·rintro ⟨a,ha,b,hb,h1,h2,h3,rfl⟩
  obtain ⟨i,hi⟩:=List.mem_iff_getElem?.mp ((bp _ _).mpr ha)
  obtain ⟨j,hj⟩:=List.mem_iff_getElem?.mp ((bp _ _).mpr hb)
  have hab:a.lt b=true:=(Ky.lt_iff a b).mpr (.inl h2)
  have hij:i < j:=by
   obtain ⟨hil,ei⟩:=List.getElem?_eq_some_iff.mp hi
   obtain ⟨hjl,ej⟩:=List.getElem?_eq_some_iff.mp hj
   rcases Nat.lt_trichotomy i j with z | z | z
   ·exact z
   ·subst z;rw [ei] at ej;subst ej;rw [Ky.zf] at hab;cases hab
   ·have:=List.pairwise_iff_getElem.mp hs j i hjl hil z
    rw [ei,ej] at this
    rw [Ky.IE this] at hab;cases hab
  exact ⟨(a,b),lH.mpr ⟨i,j,(List.getElem?_eq_some_iff.mp hi).1,hij,hi,hj⟩,decide_eq_true ⟨h1,h2,h3⟩,rfl⟩
theorem Ay {t m:Rat} {ks:List Ky} (h:(ks.map Ky.n).Nodup):cW t (eu t m) (ks.flatMap fun a=>ks.map fun b=>(a,b))=cF t ks m:=by
 have hm:∀ p:Ky × Ky,p∈(ks.flatMap fun a=>ks.map fun b=>(a,b))↔p.1∈ks∧p.2∈ks:=fun p=>by
  rw [List.mem_flatMap]
  constructor
  ·rintro ⟨a,ha,hb⟩
   obtain ⟨b,hb',rfl⟩:=List.mem_map.mp hb
   exact ⟨ha,hb'⟩
  ·rintro ⟨ha,hb⟩
   exact ⟨p.1,ha,List.mem_map.mpr ⟨p.2,hb,rfl⟩⟩
 refine vm (lT _ _ _) (gR _ _ _) fun x=>?_
 rw [qw _ (yV.of h fun p hp=>(hm p).mp hp),jI]
 constructor
 ·rintro ⟨p,hp,hc,rfl⟩
  have hc:=of_decide_eq_true hc
  exact ⟨p.1,((hm p).mp hp).1,p.2,((hm p).mp hp).2,hc.1,hc.2.1,hc.2.2,rfl⟩
 ·rintro ⟨a,ha,b,hb,h1,h2,h3,rfl⟩
  exact ⟨(a,b),(hm _).mpr ⟨ha,hb⟩,decide_eq_true ⟨h1,h2,h3⟩,rfl⟩
end Ov
set_option maxHeartbeats 4000000
namespace Ov
open PySem PySem.Spec PyProof.Rows L2
def top (i:Nat):Stmt:=PySem.Challenge.pw_overhaul_k36_whole_ranks_balance.main.body.getD i (.Pass ⟨0,0,0,0⟩)
set_option compiler.extract_closed false
set_option hygiene false
local macro_rules | `(tactic| dsimp! only [$ls,*])=>`(tactic| simp only [E6,yH,xa,oa,E5,yK,EY,yL,CY,K',zW,tC,rI,Dc,rU,M5,M9,ES,ER,ET,Int.reduceLT,E4,vn,xf,F5,pe,E7,CU,E1,yI,yF,E3,CS,Kx,tB,K8,yG,K7,yb,DA,xG,Dy,xM,xN,Fn,JV,JX,FR,JY,Nw,de,eV,kJ,AB,HO.lst.injEq,HO.tup.injEq,List.set_cons_zero,List.set_cons_succ,List.getElem?_cons_zero,List.getElem?_cons_succ,Option.some.injEq,exists_eq_left',exists_eq_left,exists_and_left,exists_eq,exists_eq',V.int.injEq,V.bl.injEq,V.ref.injEq,V.str.injEq,V.ty.injEq,decide_eq_true_eq,true_and,and_true,List.cons.injEq,List.append_nil,List.cons_append,List.nil_append,reduceCtorEq,Bool.not_eq_true',decide_eq_false_iff_not,and_assoc,ite_not,if_true,if_false,Bool.false_eq_true,decide_true,decide_false,L2.start,List.map_cons,List.map_nil,List.length_cons,List.length_nil,Nat.reduceAdd,Nat.reduceSub,List.replicate,rA,Cx.G',Cx.ph,false_and,and_false,exists_false,false_or,or_false,id,cS,Option.getD_some,JW,K_,yJ,nH,Kg,HW,Dz,FY,$ls,*])
local macro_rules | `(tactic| simp_arith [$t:term])=>`(tactic| refine MZ F $t (fun xs J Q E h=>?_) (fun cdv A outer s H E G xs J Q E2 hr h B=>?_))
local macro_rules | `(tactic| simp_arith! only [$ls,*])=>`(tactic| simp only [Ex,Mq,Ls,JN,JQ,iu,rC,pZ,M',rB,Kh,Hz,Mn,J_,FP,Ka,FV,M7,sL,k8,Ki,JZ,M6,yd,FW,M_,K6,Mg,JR,yc,JS,Ce,EA,mG,Cd,Kd,FX,pX,C9,MQ,MP,MR,oQ,Kb,FQ,l_,uP,MT,Nn,MU,Nl,Mh,Mi,Ew,qI,qU,JL,M4,B',C_,JP,JO,Mf,JD,JJ,JH,Hw,B8,Me,sI,JM,Hv,x_,JE,LJ,LH,Ja,LX,LY,Je,Jd,Fv,MC,KN,MB,ME,MF,MA,MD,KG,F6,KD,KI,KC,KH,LD,LF,I8,Lw,Ly,LB,LC,Lx,Lz,Mx,Mz,My,B9,Gz,GB,IP,GA,Fj,Er,x8,Hu,Es,wN,eq_int,eq_str,IT,ua,GP,GQ,KP,GZ,rJ,AX,w_,List.map_cons,List.map_nil,List.length_cons,List.length_nil,Nat.reduceAdd,Nat.reduceSub,Nat.reduceLeDiff,List.replicate,List.cons_append,List.nil_append,List.append_nil,List.getElem?_cons_zero,List.getElem?_cons_succ,List.set_cons_zero,List.set_cons_succ,Option.some.injEq,exists_eq_left',exists_eq_left,exists_and_left,exists_eq,exists_eq',PV.int.injEq,PV.bl.injEq,PV.ref.injEq,PV.str.injEq,PV.ty.injEq,PV.tup.injEq,PV.fl.injEq,HQ.lst.injEq,HQ.ins.injEq,HQ.dct.injEq,decide_eq_true_eq,true_and,and_true,List.cons.injEq,reduceCtorEq,Bool.not_eq_true',decide_eq_false_iff_not,and_assoc,ite_not,if_true,if_false,Bool.false_eq_true,decide_true,decide_false,false_and,and_false,exists_false,false_or,or_false,id,de,eV,kJ,AB,IF,IG,IH,II,IJ,IK,Gs,Gu,Ny,Bool.not_true,Bool.not_false,Option.map_some,au,Bool.and_true,Bool.true_and,Bool.and_false,Bool.false_and,Fx,Jf,Jg,Jh,Ji,Jj,Jk,Jl,Jm,Jn,G0,G1,G3,KO,ty_int,ty_bool,ty_str,H0,ty_list,String.reduceEq,List.isEmpty_cons,List.isEmpty_nil,km,Option.getD_some,List.not_mem_nil,exists_const,JI,Hx,JK,Ca,FL,FN,FT,Lu,B_,ya,sJ,MS,$ls,*])
local macro_rules | `(tactic| simp_all! only [$ls,*])=>`(tactic| repeat (first | refine mj ?_ | simp_arith! only [$ls,*]))
section
variable {P:Program} {w:World} {K:PySem.W.Frag} {mg:Str→Option Value} {base:Heap}
abbrev lj:Stmt:=(top 12)
theorem mi:L2.aw ["one","two"] ["one","two"] (L2.ai lj):=eJ
def o8:Sp:=fun vs H Q _=>∃ a b:Int,vs=[.int a,.int b]∧Q (.int (Int.gcd a b:Nat)) H
theorem zF {f:Addr} {fd:FuncData} (F:cq K "shared" "shared" lj f fd) (Z:Ae mg):aQ P w K mg base nK 1 f fd ["one","two"] o8:=by
 refine F.ok mi (fun vs H Q E h=>?_) (fun cdv A outer s H vs Q E hr h=>?_)
 ·obtain ⟨a,b,rfl,_⟩:=h
  rfl
 obtain ⟨a,b,rfl,q⟩:=h
 refine ⟨_,(QB.run (aW (l7 (i:=0) (j:=1) rfl mi.nd rfl rfl (by decide) rfl rfl (aR (dg kL rfl Z.abs boot_abs (aR (pv 0) bB)) (aR (dg kL rfl Z.abs boot_abs (aR (pv 1) bB)) bB)) rfl)
   (aW (jq PassesOwn.never (cY FG (pv 1) aJ (ay _)) (bC (l7 (i:=0) (j:=1) rfl mi.nd rfl rfl (by decide) rfl rfl (aR (pv 1) (aR (bh fF (pv 0) (pv 1)) bB)) rfl)))
   (bC (c9 (pv 0)))))),?_⟩
 refine ⟨_,rfl,a,rfl,_,rfl,b,rfl,_,_,rfl,?_⟩
 refine vt (fun σ H'=>∃ x y:Int,σ=[some (.int x),some (.int y)]∧H=H'∧0≤x∧0≤y∧Int.gcd x y=Int.gcd a b) (fun σ _=>match σ with | [_,some (.int y)]=>y.toNat | _=>0)
  ⟨_,_,rfl,rfl,by split <;> omega,by split <;> omega,DB a b⟩ ?_ (fun σ H Q Q' m h=>?_)
 ·rintro σ H' ⟨x,y,rfl,rfl,hx,hy,hg⟩
  dsimp! only [rJoin]
  split
  ·rename_i hy0
   subst hy0
   rw [← hg,xH hx] at q
   exact q
  ·rename_i hy0
   have h1:=Int.emod_lt_of_pos x (show 0 < y by omega)
   have h2:=Int.emod_nonneg x hy0
   exact ⟨by omega,hy,h2,(uc hy0).trans hg,by omega⟩
 ·obtain ⟨v,e,hs,k,ek,hq⟩:=h
  exact ⟨v,e,hs,k,ek,m _ _ hq⟩
def Dig:List Int→List Int→Prop
 | [],[]=>True
 | d :: ds,s :: ss=>(0≤d∧d < s)∧Dig ds ss
 | _,_=>False
theorem Dig.snoc:∀ {ds ss:List Int} {d s:Int},Dig ds ss→0≤d→d < s→Dig (ds ++ [d]) (ss ++ [s])
 | [],[],_,_,_,h0,h1=>⟨⟨h0,h1⟩,trivial⟩
 | _ :: _,_ :: _,_,_,h,h0,h1=>⟨h.1,Dig.snoc h.2 h0 h1⟩
 | [],_ :: _,_,_,h,_,_=>h.elim
 | _ :: _,[],_,_,h,_,_=>h.elim
theorem Dig.cons:∀ {ds ss:List Int} {s:Int},Dig ds (s :: ss)→∃ d r,ds=d :: r∧0≤d∧d < s∧Dig r ss
 | [],_,_,h=>h.elim
 | d :: r,_,_,h=>⟨d,r,rfl,h.1.1,h.1.2,h.2⟩
theorem Dig.nil:∀ {ds:List Int},Dig ds []→ds=[]
 | [],_=>rfl
 | _ :: _,h=>h.elim
theorem Dig.len:∀ {ds ss:List Int},Dig ds ss→ds.length=ss.length
 | [],[],_=>rfl
 | _ :: _,_ :: _,h=>congrArg Nat.succ (Dig.len h.2)
 | [],_ :: _,h=>h.elim
 | _ :: _,[],h=>h.elim
theorem take_snoc {xs:List Int} {i:Nat} {x:Int} (h:xs[i]?=some x):xs.take (i + 1)=xs.take i ++ [x]:=by
 rw [List.take_add_one,h]
 rfl
theorem oj {ns:List Int} {i:Nat} {y:V} (h:(ns.map V.int)[i]?=some y):∃ z,y=V.int z∧ns[i]?=some z:=by
 rw [List.getElem?_map] at h
 cases e:ns[i]? with
 | none=>rw [e] at h;cases h
 | some z=>rw [e] at h;exact ⟨z,(Option.some.inj h).symm,rfl⟩
abbrev sR:Stmt:=(top 44)
theorem EK:L2.aw ["_law_script","_law_k"] ["_law_script","_law_k"] (L2.ai sR):=eJ
abbrev la:Stmt:=(top 45)
theorem c5:L2.aw ["_law_cell_here","_law_sizes","_law_out","_law_rest","_law_size","_law_one","_law_k","_law_two"] ["_law_cell_here","_law_sizes"] (L2.ai la):=eJ
def o6 (K:PySem.W.Frag):Sp:=fun vs H Q _=>∃ (c:Int) (a:Addr) (ss:List Int),vs=[.int c,.ref a]∧c8 K H a (ss.map V.int)∧(∀ s∈ss,0 < s∧Bd 9000 s)∧ss.length≤1000 ∧
 ∀ (r:Addr) (H':Hp) (ds:List Int),H r=none→bt H H'→H' r=some (.lst (ds.map V.int))→Dig ds ss→Q (.ref r) H'
theorem zE {f:Addr} {fd:FuncData} (F:cq K "_law_digits" "_law_digits" la f fd) (Z:Ae mg):aQ P w K mg base nK 1 f fd ["_law_cell_here","_law_sizes"] (o6 K):=by
 refine F.ok c5 (fun vs H Q E h=>?_) (fun cdv A outer s H vs Q E hr h=>?_)
 ·obtain ⟨c,a,ss,rfl,_⟩:=h
  rfl
 obtain ⟨c,a,ss,rfl,hS,hs,hl,q⟩:=h
 refine ⟨_,(QB.run (aW (cy (i:=2) c5.nd rfl (Or.inl rfl) (jl bB))
   (aW (k7 (cY FD (pv 0) (bh BK aJ aJ) (ay _)) (aW (cy (i:=3) c5.nd rfl (Or.inl rfl) (bh wz (pv 0) (bh BK aJ aJ)))
   (aW (l6 PassesOwn.never rfl (k4 (pv 1)) (jK (i:=4) c5.nd rfl (Or.inl rfl)) (aW (jM (oK PySem.F.plainAttrs_list PySem.F.slot_list_append PySem.F.type_list_append fi (pv 2) (aR (bh fF (pv 3) (pv 4)) bB)))
   (bC (cy (i:=3) c5.nd rfl (Or.inl rfl) (bh fE (pv 3) (pv 4))))))
   (bC (c9 (pv 2))))) eY)
   (aW (cy (i:=5) c5.nd rfl (Or.inl rfl) (bh fF (pv 0) aJ))
   (aW (l6 PassesOwn.never rfl (fj rfl Z.range (aR (dg hX rfl Z.len boot_len (aR (pv 1) bB)) bB)) (jK (i:=6) c5.nd rfl (Or.inl rfl)) (aW (cy (i:=5) c5.nd rfl (Or.inl rfl) (bh fF (bh iq (bh cg (pv 5) aJ) (bh cg aJ (bh iq (pv 6) aJ))) aJ))
   (aW (cy (i:=7) c5.nd rfl (Or.inl rfl) (bh fF (bh iq (bh iq (bh cg (pv 5) (pv 5)) (bh cg aJ (pv 5))) (pv 6)) aJ))
   (bC (jM (oK PySem.F.plainAttrs_list PySem.F.slot_list_append PySem.F.type_list_append fi (pv 2) (aR (bh fF (bh fE (pv 7) aJ) (bS rL (pv 1) (pv 6) (fun _ _=>rfl))) bB)))))))
   (bC (c9 (pv 2)))))))),?_⟩
 refine ⟨Nat.zero_le _,fun r hr'=>?_⟩
 have g0:=bt.new hr' (.lst [])
 refine ⟨_,rfl,_,_,rfl,rfl,⟨by decide,by decide,by decide⟩,_,_,rfl,rfl,_,rfl,?_⟩
 refine Bg (fun _=>?_) (fun _=>?_)
 ·refine ⟨_,rfl,_,_,rfl,rfl,⟨by decide,by decide,by decide⟩,_,_,rfl,rfl,?_⟩
  refine ⟨_,rfl,a,rfl,⟨_,g0.seq hS⟩,AW (K:=K) (a:=a) (xs:=ss.map V.int) (fun i σ H2=>∃ (ds:List Int) (rest:Int) (u:Option V),σ=[some (.int c),some (.ref a),some (.ref r),some (.int rest),u,none,none,none] ∧
   bt H H2∧H2 r=some (.lst (ds.map V.int))∧Dig ds (ss.take i)) ⟨[],_,none,rfl,g0,aA,trivial⟩ (fun i σ H2 _ ⟨_,_,_,_,s2,_⟩=>s2.seq hS) ?_ ?_⟩
  ·rintro i y σ H2 hi ⟨ds,rest,u,rfl,s2,hd,hD⟩
   obtain ⟨z,rfl,hz⟩:=oj hi
   obtain ⟨z0,zb⟩:=hs z (List.mem_of_getElem? hz)
   have hil:i < ss.length:=(List.getElem?_eq_some_iff.mp hz).1
   have dl:=hD.len
   rw [List.length_take] at dl
   refine ⟨_,rfl,.inl ⟨rfl,_,c8.of hd⟩,_,rfl,_,rfl,_,_,rfl,rfl,z0,r,_,_,rfl,rfl,hd,?_,?_⟩
   ·rw [List.length_map]
    exact a_ (by omega)
   refine ⟨_,rfl,_,rfl,_,_,rfl,rfl,⟨by omega,zb⟩,?_⟩
   refine ⟨ds ++ [rest % z],_,_,rfl,s2.Im hr' _,?_,?_⟩
   ·rw [aA,List.map_append]
    rfl
   ·rw [take_snoc hz]
    exact hD.snoc (Int.emod_nonneg _ (by omega)) (Int.emod_lt_of_pos _ z0)
  ·rintro σ H2 ⟨ds,rest,u,rfl,s2,hd,hD⟩
   rw [List.length_map,List.take_length] at hD
   exact ⟨_,rfl,q r H2 ds hr' s2 hd hD⟩
 ·refine ⟨_,rfl,_,_,rfl,rfl,(show (0:Int) < 2147483647 by decide),?_⟩
  refine ⟨_,rfl,a,_,rfl,.inl (g0.seq hS),_,rfl,?_,?_,qy (lo:=0) (n:=(ss.map V.int).length) (fun i σ H2=>∃ (ds:List Int) (one:Int) (u v:Option V),σ=[some (.int c),some (.ref a),some (.ref r),none,none,some (.int one),u,v] ∧
   0≤one∧one < 2147483647∧bt H H2∧H2 r=some (.lst (ds.map V.int))∧Dig ds (ss.take i)) ⟨[],_,none,none,rfl,Int.emod_nonneg _ (by decide),Int.emod_lt_of_pos _ (by decide),g0,aA,trivial⟩ ?_ ?_⟩
  ·omega
  ·rw [List.length_map];omega
  ·rintro i σ H2 hi ⟨ds,one,u,v,rfl,o0,o1,s2,hd,hD⟩
   rw [List.length_map] at hi
   have hz:ss[i]?=some ss[i]:=List.getElem?_eq_getElem hi
   obtain ⟨z0,zb⟩:=hs ss[i] (List.getElem_mem hi)
   have dl:=hD.len
   rw [List.length_take] at dl
   have e1:cU (ss.map V.int) (0 + (i:Int))=some (.int ss[i]):=by
    rw [Int.zero_add]
    exact ba (by rw [List.getElem?_map,hz];rfl)
   dsimp! only [rJoin]
   have A0:0≤(one * 48271 + 10007 * (0 + (i:Int) + 1)) % 2147483629:=Int.emod_nonneg _ (by decide)
   have A1:(one * 48271 + 10007 * (0 + (i:Int) + 1)) % 2147483629 < 2147483629:=Int.emod_lt_of_pos _ (by decide)
   generalize (one * 48271 + 10007 * (0 + (i:Int) + 1)) % 2147483629=A at A0 A1 ⊢
   generalize ((A * A + 69621 * A + (0 + (i:Int))) % 2147483563).fdiv 11=B
   have small:∀ x:Int,0≤x→x < 2147483648→Bd 64 x:=fun x h1 h2=>Bd.small (by omega) (by omega)
   refine ⟨.of (small _ o0 (by omega)) (small _ (by decide) (by decide)),.of (small _ (by decide) (by decide)) (small _ (by omega) (by omega)),.of (small _ A0 (by omega)) (small _ A0 (by omega)),
    .of (small _ (by decide) (by decide)) (small _ A0 (by omega)),.inl ⟨rfl,_,c8.of hd⟩,⟨by decide,(small _ (by decide) (by decide)).mono (by decide)⟩,_,s2.seq hS,_,e1,_,rfl,z0,_,hd,?_,A0,by omega,s2.Im hr' _,ds ++ [B % ss[i]],?_,?_⟩
   ·rw [List.length_map]
    exact a_ (by omega)
   ·rw [aA,List.map_append]
    rfl
   ·rw [take_snoc hz]
    exact hD.snoc (Int.emod_nonneg _ (by omega)) (Int.emod_lt_of_pos _ z0)
  ·rintro σ H2 ⟨ds,one,u,v,rfl,o0,o1,s2,hd,hD⟩
   rw [List.length_map,List.take_length] at hD
   exact ⟨_,rfl,q r H2 ds hr' s2 hd hD⟩
def Iy (H:Hp) (q:Rat) (Q:VK):Prop:=∀ (r:Addr) (H':Hp),bt H H'→H' r=some (.tup [.int q.num,.int q.den])→Q (.ref r) H'
abbrev iy:Stmt:=(top 13)
theorem jw:L2.aw ["top","bottom","divisor"] ["top","bottom"] (L2.ai iy):=eJ
def fK:Sp:=fun vs H Q _=>∃ t b:Int,vs=[.int t,.int b]∧b≠0∧Bd 9000 b∧Iy H (Rat.divInt t b) Q
theorem A2 {n:Nat} {t b:Int} (h:b≠0) (hb:Bd n b):Bd n ((Int.gcd t b:Nat):Int):=hb.le (by have:=GL (t:=t) h;omega)
theorem uB {f:Addr} {fd:FuncData} (F:cq K "fraction" "fraction" iy f fd) (Z:Ae mg) (gE:pq P w K mg base 1 "shared" ["one","two"] o8):aQ P w K mg base nK 2 f fd ["top","bottom"] fK:=by
 refine F.ok jw (fun vs H Q E h=>?_) (fun cdv A outer s H vs Q E hr h=>?_)
 ·obtain ⟨t,b,rfl,_⟩:=h
  rfl
 obtain ⟨t,b,rfl,hb,bb,q⟩:=h
 have hg:=xI (t:=t) hb
 have gb:=A2 (t:=t) hb bb
 refine ⟨_,(QB.run (aW (k7 (cY BJ (pv 1) aJ (ay _)) l8 eY)
   (aW (cy (i:=2) jw.nd rfl (Or.inl rfl) (uK gE hr (by decide) rfl (aR (pv 0) (aR (pv 1) bB))))
   (uN (k7 (cY xX (pv 1) aJ (ay _)) (bC (cy (i:=2) jw.nd rfl (Or.inl rfl) (x4 C2 (pv 2)))) eY)
   (bC (c9 (oN (aR (bh fE (pv 0) (pv 2)) (aR (bh fE (pv 1) (pv 2)) bB))))))))),?_⟩
 refine ⟨_,rfl,rfl,_,rfl,?_⟩
 refine Bg (fun c=>absurd (V.int.inj (of_decide_eq_true c)) hb) (fun _=>?_)
 refine ⟨_,rfl,_,rfl,t,b,rfl,?_⟩
 refine ⟨fun σ' H'=>∃ d:Int,σ'=[some (.int t),some (.int b),some (.int d)]∧H=H'∧d≠0∧Bd 9000 d∧t.fdiv d=(Rat.divInt t b).num∧b.fdiv d=(Rat.divInt t b).den,?_,?_⟩
 ·refine ⟨_,rfl,_,_,rfl,rfl,_,rfl,Bg (fun c=>?_) (fun c=>?_)⟩
  ·have c':b < 0:=of_decide_eq_true c
   exact ⟨_,rfl,_,rfl,_,rfl,rfl,by omega,gb.neg,xW c',Du c'⟩
  ·have c':0 < b:=by
    have:=of_decide_eq_false (Bool.eq_false_iff.mpr c)
    omega
   exact ⟨_,rfl,rfl,by omega,gb,rX c',den_pos c'⟩
 rintro _ _ ⟨d,rfl,rfl,hd,bd,e1,e2⟩
 refine ⟨_,rfl,_,rfl,_,_,rfl,rfl,⟨hd,bd⟩,_,rfl,_,rfl,_,_,rfl,rfl,⟨hd,bd⟩,(by show 2≤sizeLine;decide),fun p hp=>?_⟩
 exact q p _ (bt.new hp _) (by rw [aA];show some (HO.tup [V.int (t.fdiv d),V.int (b.fdiv d)])=_;rw [e1,e2])
abbrev yh:Stmt:=(top 47)
theorem tm:L2.aw ["_law_top","_law_bottom","_law_one","_law_two"] ["_law_top","_law_bottom"] (L2.ai yh):=eJ
def FZ:Sp:=fun vs H Q _=>∃ t b:Int,vs=[.int t,.int b]∧0 < b∧Bd 9000 b∧Iy H (Rat.divInt t b) Q
theorem Hb {f:Addr} {fd:FuncData} (F:cq K "_law_low" "_law_low" yh f fd) (Z:Ae mg):aQ P w K mg base nK 1 f fd ["_law_top","_law_bottom"] FZ:=by
 refine F.ok tm (fun vs H Q E h=>?_) (fun cdv A outer s H vs Q E hr h=>?_)
 ·obtain ⟨t,b,rfl,_⟩:=h
  rfl
 obtain ⟨t,b,rfl,hb,bb,q⟩:=h
 have hg:=xI (t:=t) (show b≠0 by omega)
 have gb:=A2 (t:=t) (show b≠0 by omega) bb
 refine ⟨_,(QB.run (aW (cy (i:=2) tm.nd rfl (Or.inl rfl) (dg kL rfl Z.abs boot_abs (aR (pv 0) bB)))
   (aW (cy (i:=3) tm.nd rfl (Or.inl rfl) (pv 1))
   (aW (jq PassesOwn.never (cY FG (pv 3) aJ (ay _)) (bC (l7 (i:=2) (j:=3) rfl tm.nd rfl rfl (by decide) rfl rfl (aR (pv 3) (aR (bh fF (pv 2) (pv 3)) bB)) rfl)))
   (bC (c9 (oN (aR (bh fE (pv 0) (pv 2)) (aR (bh fE (pv 1) (pv 2)) bB))))))))),?_⟩
 refine ⟨_,rfl,t,rfl,_,rfl,?_⟩
 refine vt (fun σ H'=>∃ x y:Int,σ=[some (.int t),some (.int b),some (.int x),some (.int y)]∧H=H'∧0≤x∧0≤y∧Int.gcd x y=Int.gcd t b) (fun σ _=>match σ with | [_,_,_,some (.int y)]=>y.toNat | _=>0)
  ⟨_,_,rfl,rfl,by split <;> omega,by omega,AZ t b⟩ ?_ (fun σ H Q Q' m h=>?_)
 ·rintro σ H' ⟨x,y,rfl,rfl,hx,hy,hg'⟩
  dsimp! only [rJoin]
  split
  ·rename_i hy0
   subst hy0
   have ex:x=((Int.gcd t b:Nat):Int):=by rw [← hg',xH hx]
   subst ex
   refine ⟨⟨by omega,gb⟩,⟨by omega,gb⟩,(by show 2≤sizeLine;decide),fun p hp=>?_⟩
   exact q p _ (bt.new hp _) (by rw [aA,rX hb,den_pos hb])
  ·rename_i hy0
   have h1:=Int.emod_lt_of_pos x (show 0 < y by omega)
   have h2:=Int.emod_nonneg x hy0
   exact ⟨by omega,hy,h2,(uc hy0).trans hg',by omega⟩
 ·obtain ⟨v,e,hs,k,ek,hq⟩:=h
  exact ⟨v,e,hs,k,ek,m _ _ hq⟩
theorem CO {m n:Nat} {t b:Int} (hb:b≠0) (h1:Bd m t) (h2:Bd n b) (k:Nat) (hm:m≤k) (hn:n≤k):Sz k (Rat.divInt t b) :=
 ⟨(h1.le (xV t b)).mono hm,(h2.le (rD hb)).mono hn⟩
theorem rW (p q:Rat):(p.den:Int) * (q.den:Int)≠0:=Int.mul_ne_zero (d3 p) (d3 q)
theorem Sz.add {m n k:Nat} {p q:Rat} (h:Sz m p) (g:Sz n q) (hk:m + n + 1≤k:=by decide):Sz k (p + q):=by
 rw [← add_eq]
 exact CO (rW p q) (.add (.mul h.num g.den (Nat.le_refl _)) (.mul g.num h.den (Nat.le_refl _)) (Nat.le_refl _)) (.mul h.den g.den (Nat.le_refl _)) k (by omega) (by omega)
theorem Sz.sub {m n k:Nat} {p q:Rat} (h:Sz m p) (g:Sz n q) (hk:m + n + 1≤k:=by decide):Sz k (p - q):=by
 rw [← sub_eq]
 exact CO (rW p q) (.sub (.mul h.num g.den (Nat.le_refl _)) (.mul g.num h.den (Nat.le_refl _)) (Nat.le_refl _)) (.mul h.den g.den (Nat.le_refl _)) k (by omega) (by omega)
theorem Sz.mul {m n k:Nat} {p:Rat} {i:Int} (h:Sz m p) (g:Bd n i) (hk:m + n≤k:=by decide):Sz k (p * i):=by
 rw [← mul_eq]
 exact CO (d3 p) (.mul h.num g (Nat.le_refl _)) h.den k hk (by omega)
def Kq (K:PySem.W.Frag) (g:Rat→Rat→Rat):Sp:=fun vs H Q _=>∃ (a b:Addr) (p q:Rat),vs=[.ref a,.ref b]∧Ic K H a p∧Ic K H b q∧Sz 4000 p∧Sz 4000 q∧Iy H (g p q) Q
abbrev sV:Stmt:=(top 14)
theorem EO:L2.aw ["one","two"] ["one","two"] (L2.ai sV):=eJ
theorem D3 {f:Addr} {fd:FuncData} (F:cq K "plus" "plus" sV f fd) (Z:Ae mg) (bK:pq P w K mg base 2 "fraction" ["top","bottom"] fK):aQ P w K mg base nK 3 f fd ["one","two"] (Kq K fun p q=>p + q):=by
 refine F.ok EO (fun vs H Q E h=>?_) (fun cdv A outer s H vs Q E hr h=>?_)
 ·obtain ⟨a,b,p,q,rfl,_⟩:=h
  rfl
 obtain ⟨a,b,p,q,rfl,ha,hb,sp,sq,k⟩:=h
 refine ⟨_,(QB.run (bC (c9 (uK bK hr (by decide) rfl (aR (bh iq (bh cg (bS cx (pv 0) aJ (fun _ _=>rfl)) (bS cx (pv 1) aJ (fun _ _=>rfl))) (bh cg (bS cx (pv 1) aJ (fun _ _=>rfl)) (bS cx (pv 0) aJ (fun _ _=>rfl)))) (aR (bh cg (bS cx (pv 0) aJ (fun _ _=>rfl)) (bS cx (pv 1) aJ (fun _ _=>rfl))) bB)))))),?_⟩
 refine ⟨_,rfl,_,_,_,_,rfl,rfl,ha,rfl,_,rfl,_,_,_,_,rfl,rfl,hb,rfl,_,_,rfl,rfl,.of sp.num sq.den,_,rfl,_,_,_,_,rfl,rfl,hb,rfl,_,rfl,_,_,_,_,rfl,rfl,ha,rfl,_,_,rfl,rfl,.of sq.num sp.den,_,_,rfl,rfl,_,rfl,_,_,_,_,rfl,rfl,ha,rfl,_,rfl,_,_,_,_,rfl,rfl,hb,rfl,_,_,rfl,rfl,.of sp.den sq.den,_,_,rfl,rW p q,.mul sp.den sq.den,?_⟩
 rw [add_eq]
 exact k
abbrev nA:Stmt:=(top 15)
theorem Cq:L2.aw ["one","two"] ["one","two"] (L2.ai nA):=eJ
theorem BA {f:Addr} {fd:FuncData} (F:cq K "minus" "minus" nA f fd) (Z:Ae mg) (bK:pq P w K mg base 2 "fraction" ["top","bottom"] fK):aQ P w K mg base nK 3 f fd ["one","two"] (Kq K fun p q=>p - q):=by
 refine F.ok Cq (fun vs H Q E h=>?_) (fun cdv A outer s H vs Q E hr h=>?_)
 ·obtain ⟨a,b,p,q,rfl,_⟩:=h
  rfl
 obtain ⟨a,b,p,q,rfl,ha,hb,sp,sq,k⟩:=h
 refine ⟨_,(QB.run (bC (c9 (uK bK hr (by decide) rfl (aR (bh wz (bh cg (bS cx (pv 0) aJ (fun _ _=>rfl)) (bS cx (pv 1) aJ (fun _ _=>rfl))) (bh cg (bS cx (pv 1) aJ (fun _ _=>rfl)) (bS cx (pv 0) aJ (fun _ _=>rfl)))) (aR (bh cg (bS cx (pv 0) aJ (fun _ _=>rfl)) (bS cx (pv 1) aJ (fun _ _=>rfl))) bB)))))),?_⟩
 refine ⟨_,rfl,_,_,_,_,rfl,rfl,ha,rfl,_,rfl,_,_,_,_,rfl,rfl,hb,rfl,_,_,rfl,rfl,.of sp.num sq.den,_,rfl,_,_,_,_,rfl,rfl,hb,rfl,_,rfl,_,_,_,_,rfl,rfl,ha,rfl,_,_,rfl,rfl,.of sq.num sp.den,_,_,rfl,rfl,_,rfl,_,_,_,_,rfl,rfl,ha,rfl,_,rfl,_,_,_,_,rfl,rfl,hb,rfl,_,_,rfl,rfl,.of sp.den sq.den,_,_,rfl,rW p q,.mul sp.den sq.den,?_⟩
 rw [sub_eq]
 exact k
abbrev nC:Stmt:=(top 16)
theorem Cs:L2.aw ["one","many"] ["one","many"] (L2.ai nC):=eJ
def yC (K:PySem.W.Frag):Sp:=fun vs H Q _=>∃ (a:Addr) (p:Rat) (m:Int),vs=[.ref a,.int m]∧Ic K H a p∧Sz 9000 p∧Bd 9000 m∧Iy H (p * m) Q
theorem BC {f:Addr} {fd:FuncData} (F:cq K "times" "times" nC f fd) (Z:Ae mg) (bK:pq P w K mg base 2 "fraction" ["top","bottom"] fK):aQ P w K mg base nK 3 f fd ["one","many"] (yC K):=by
 refine F.ok Cs (fun vs H Q E h=>?_) (fun cdv A outer s H vs Q E hr h=>?_)
 ·obtain ⟨a,p,m,rfl,_⟩:=h
  rfl
 obtain ⟨a,p,m,rfl,ha,sp,bm,k⟩:=h
 refine ⟨_,(QB.run (bC (c9 (uK bK hr (by decide) rfl (aR (bh cg (bS cx (pv 0) aJ (fun _ _=>rfl)) (pv 1)) (aR (bS cx (pv 0) aJ (fun _ _=>rfl)) bB)))))),?_⟩
 refine ⟨_,rfl,_,_,_,_,rfl,rfl,ha,rfl,_,rfl,_,_,rfl,rfl,.of sp.num bm,_,rfl,_,_,_,_,rfl,rfl,ha,rfl,_,_,rfl,d3 p,sp.den,?_⟩
 rw [mul_eq]
 exact k
abbrev sT:Stmt:=(top 17)
theorem EM:L2.aw ["one","two"] ["one","two"] (L2.ai sT):=eJ
def CC (K:PySem.W.Frag):Sp:=fun vs H Q _=>∃ (a b:Addr) (p q:Rat),vs=[.ref a,.ref b]∧Ic K H a p∧Ic K H b q∧Sz 9000 p∧Sz 9000 q∧Q (.bl (decide (p < q))) H
theorem DM (p q:Rat):decide (p.num * q.den < q.num * p.den)=decide (p < q):=decide_eq_decide.mpr (Rat.lt_iff p q).symm
theorem D1 {f:Addr} {fd:FuncData} (F:cq K "less" "less" sT f fd) (Z:Ae mg):aQ P w K mg base nK 1 f fd ["one","two"] (CC K):=by
 refine F.ok EM (fun vs H Q E h=>?_) (fun cdv A outer s H vs Q E hr h=>?_)
 ·obtain ⟨a,b,p,q,rfl,_⟩:=h
  rfl
 obtain ⟨a,b,p,q,rfl,ha,hb,sp,sq,k⟩:=h
 refine ⟨_,(QB.run (bC (c9 (m8 xX (bh cg (bS cx (pv 0) aJ (fun _ _=>rfl)) (bS cx (pv 1) aJ (fun _ _=>rfl))) (bh cg (bS cx (pv 1) aJ (fun _ _=>rfl)) (bS cx (pv 0) aJ (fun _ _=>rfl))) (ay _))))),?_⟩
 refine ⟨_,rfl,_,_,_,_,rfl,rfl,ha,rfl,_,rfl,_,_,_,_,rfl,rfl,hb,rfl,_,_,rfl,rfl,.of sp.num sq.den,_,rfl,_,_,_,_,rfl,rfl,hb,rfl,_,rfl,_,_,_,_,rfl,rfl,ha,rfl,_,_,rfl,rfl,.of sq.num sp.den,_,_,rfl,rfl,?_⟩
 show Q (.bl (decide (p.num * q.den < q.num * p.den))) H
 rw [DM]
 exact k
theorem xO {K:PySem.W.Frag} {J:Hq} {H:Hp}:∀ {ns:List Int} {vs:List V},aL K J H (ns.map PV.int) vs→vs=ns.map V.int
 | [],_,h=>h
 | n :: ns,_,⟨v,us,e,h,k⟩=>by subst e;cases h;rw [xO k];rfl
theorem Hd {K:PySem.W.Frag} {J:Hq} {H:Hp} {x:PV} {vs:List V} (h:aL K J H [x] vs):∃ v,vs=[v]∧bV K J H x v:=by
 obtain ⟨v,us,rfl,h1,h2⟩:=h;cases h2;exact ⟨v,rfl,h1⟩
theorem iF {K:PySem.W.Frag} {J:Hq} {H:Hp} {x y:PV} {vs:List V} (h:aL K J H [x,y] vs):∃ v u,vs=[v,u]∧bV K J H x v∧bV K J H y u:=by
 obtain ⟨v,us,rfl,h1,u,us',rfl,h2,h3⟩:=h;cases h3;exact ⟨v,u,rfl,h1,h2⟩
theorem n_ {K:PySem.W.Frag} {J:Hq} {H:Hp} {q:Rat} {v:V} (h:bV K J H (fr q) v):∃ a,v=.ref a∧Ic K H a q:=by
 obtain ⟨a,vs,rfl,h1,h2⟩:=h
 obtain ⟨x,y,rfl,r1,r2⟩:=iF h2
 cases r1;cases r2
 exact ⟨a,rfl,h1⟩
theorem sO {K:PySem.W.Frag} {J:Hq} {H:Hp} {q:Rat} {Q2:PV→Hq→Prop} {Q:VK} (r:Rep K J H) (k:Kn K J H Q2 Q) (h:Q2 (fr q) J):Iy H q Q:=fun a H' s e =>
 k (fr q) J (.ref a) H' ⟨a,_,rfl,eL.of e,⟨_,_,rfl,rfl,_,_,rfl,rfl,rfl⟩⟩ (r.same s) (.same s) h
def Cz:cT:=fun xs J Q _=>∃ (c:Int) (ss:List Int),xs=[.int c,.fl (ss.map .int)]∧(∀ s∈ss,0 < s∧Bd 9000 s)∧ss.length≤1000∧∀ ds,Dig ds ss→Q (.fl (ds.map .int)) J
theorem uq (C:pq P w K mg base 1 "_law_digits" ["_law_cell_here","_law_sizes"] (o6 K)):bG P w K mg base 1 "_law_digits" ["_law_cell_here","_law_sizes"] Cz:=C.lift fun xs J vs H Q2 E2 Q E rs r ⟨c,ss,ex,h0,h1,q⟩ kn=>by
 subst ex
 obtain ⟨v,u,rfl,r1,⟨a,ws,rfl,h2,h3⟩⟩:=iF rs
 cases r1;cases xO h3
 refine ⟨c,a,ss,rfl,h2.sq,h0,h1,fun p H' ds hp s e D=>kn (.fl (ds.map .int)) J (.ref p) H' ⟨p,_,rfl,.inl ⟨r.free hp,.inl e⟩,md ds⟩ (r.same s) (.same s) (q ds D)⟩
def o7:cT:=fun xs J Q _=>∃ t b:Int,xs=[.int t,.int b]∧0 < b∧Bd 9000 b∧Q (fr (Rat.divInt t b)) J
theorem Bq (C:pq P w K mg base 1 "_law_low" ["_law_top","_law_bottom"] FZ):bG P w K mg base 1 "_law_low" ["_law_top","_law_bottom"] o7:=C.lift fun xs J vs H Q2 E2 Q E rs r ⟨t,b,ex,h0,h1,q⟩ kn=>by
 subst ex
 obtain ⟨v,u,rfl,r1,r2⟩:=iF rs
 cases r1;cases r2
 exact ⟨t,b,rfl,h0,h1,sO r kn q⟩
def c6:cT:=fun xs J Q _=>∃ p q:Rat,xs=[fr p,fr q]∧Sz 9000 p∧Sz 9000 q∧Q (.bl (decide (p < q))) J
theorem zp (C:pq P w K mg base 1 "less" ["one","two"] (CC K)):bG P w K mg base 1 "less" ["one","two"] c6:=C.lift fun xs J vs H Q2 E2 Q E rs r ⟨p,q,ex,h0,h1,z⟩ kn=>by
 subst ex
 obtain ⟨v,u,rfl,r1,r2⟩:=iF rs
 obtain ⟨a,rfl,f1⟩:=n_ r1
 obtain ⟨b,rfl,f2⟩:=n_ r2
 exact ⟨a,b,p,q,rfl,f1,f2,h0,h1,kn (.bl _) J _ H rfl r .refl z⟩
def wZ (g:Rat→Rat→Rat):cT:=fun xs J Q _=>∃ p q:Rat,xs=[fr p,fr q]∧Sz 4000 p∧Sz 4000 q∧Q (fr (g p q)) J
theorem Fw {x:Str} {ps:List Str} {k:Nat} {g:Rat→Rat→Rat} (C:pq P w K mg base k x ps (Kq K g)):bG P w K mg base k x ps (wZ g):=C.lift fun xs J vs H Q2 E2 Q E rs r ⟨p,q,ex,h0,h1,z⟩ kn=>by
 subst ex
 obtain ⟨v,u,rfl,r1,r2⟩:=iF rs
 obtain ⟨a,rfl,f1⟩:=n_ r1
 obtain ⟨b,rfl,f2⟩:=n_ r2
 exact ⟨a,b,p,q,rfl,f1,f2,h0,h1,sO r kn z⟩
theorem zq (C:pq P w K mg base 3 "plus" ["one","two"] (Kq K fun p q=>p + q)):bG P w K mg base 3 "plus" ["one","two"] (wZ fun p q=>p + q):=Fw C
theorem wa (C:pq P w K mg base 3 "minus" ["one","two"] (Kq K fun p q=>p - q)):bG P w K mg base 3 "minus" ["one","two"] (wZ fun p q=>p - q):=Fw C
def o9:cT:=fun xs J Q _=>∃ (p:Rat) (m:Int),xs=[fr p,.int m]∧Sz 9000 p∧Bd 9000 m∧Q (fr (p * m)) J
theorem wc (C:pq P w K mg base 3 "times" ["one","many"] (yC K)):bG P w K mg base 3 "times" ["one","many"] o9:=C.lift fun xs J vs H Q2 E2 Q E rs r ⟨p,m,ex,h0,h1,z⟩ kn=>by
 subst ex
 obtain ⟨v,u,rfl,r1,r2⟩:=iF rs
 obtain ⟨a,rfl,f1⟩:=n_ r1
 cases r2
 exact ⟨a,p,m,rfl,f1,h0,h1,sO r kn z⟩
def aU.V (l:aU):PV:=.tup [fr l.m,fr l.p,.int l.v]
theorem vo (m p:Rat) (v:Int):PV.tup [fr m,fr p,.int v]=(aU.mk m p v).V:=rfl
theorem xR (J:Hq) (l:aU):eO J l.V (.int 0)=some (fr l.m):=de _ _
theorem I_ (J:Hq) (l:aU):eO J l.V (.int 1)=some (fr l.p):=eV _ _ _
theorem ou (J:Hq) (l:aU):eO J l.V (.int 2)=some (.int l.v):=kJ _ _ _ _
theorem Lq (a b:aU):eqQ a.V b.V=decide (a=b):=by
 unfold aU.V
 rw [rE,df,df,df,m4,ua,ua,eq_int,Bool.and_true,← Bool.decide_and,← Bool.decide_and]
 apply decide_eq_decide.mpr
 cases a;cases b
 simp [aU.mk.injEq]
theorem IB (a b:aU):(a.V=b.V)=(a=b):=by
 apply propext
 constructor
 ·intro e
  have:=Lq a b
  rw [e,eq_self] at this
  exact of_decide_eq_true this.symm
 ·intro e;rw [e]
def qO:cT:=fun xs J Q _=>∃ (l:aU) (t:Rat),xs=[l.V,fr t]∧Sz 900 l.m∧Sz 900 l.p∧Sz 900 t∧Bd 64 l.v∧Q (fr (l.at t)) J
abbrev iA:Stmt:=(top 25)
theorem f6:L2.aw ["leg","moment","begun","place","pace"] ["leg","moment"] (L2.ai iA):=eJ
theorem sj {f:Addr} {fd:FuncData} (F:cq K "place_on" "place_on" iA f fd) (Z:cj mg) (vC:bG P w K mg base 3 "plus" ["one","two"] (wZ fun p q=>p + q)) (kE:bG P w K mg base 3 "minus" ["one","two"] (wZ fun p q=>p - q)) (qX:bG P w K mg base 3 "times" ["one","many"] o9) :
  aQ P w K mg base (dt P w) 4 f fd ["leg","moment"] (d7 K qO):=by
 simp_arith [f6]
 ·obtain ⟨l,t,rfl,_⟩:=h;rfl
 obtain ⟨l,t,rfl,sb,sp,sm,bv,q⟩:=h
 have s1:Sz 1801 (t - l.m):=sm.sub sb
 have s2:Sz 1900 ((t - l.m) * (l.v:Rat)):=s1.mul bv
 refine ⟨_,(aj (wV (rv 0) (wU rfl (fH (cM (i:=2) f6.nd rfl (Or.inl rfl)) (fH (cM (i:=3) f6.nd rfl (Or.inl rfl)) (fH (cM (i:=4) f6.nd rfl (Or.inl rfl)) sP)))))
   (aq (aI (a8 vC B hr (by decide) rfl (af (rv 3) (af (a8 qX B hr (by decide) rfl (af (a8 kE B hr (by decide) rfl (af (rv 1) (af (rv 2) ah))) (af (rv 4) ah))) ah)))))),?_⟩
 simp_arith! only [cb,aU.V,wZ,o9]
 exact ⟨rfl,sm.mono (by decide),sb.mono (by decide),s1.mono (by decide),bv.mono (by decide),sp.mono (by decide),s2.mono (by decide),q⟩
theorem GK (n:Int):PV.tup [.int n,.int 1]=fr (n:Rat):=rfl
def gv:Option Rat→PV
 | none=>.non
 | some q=>fr q
structure Dh (cL:Addr) (J:Hq) (p r:Addr) (rows:List aU) (g:Option Rat):Prop where
 o:J p=some (.ins cL [("rows",.ref r),("gone",gv g)])
 l:J r=some (.lst (rows.map aU.V))
theorem Dh.ne {cL:Addr} {J:Hq} {p r:Addr} {rows:List aU} {g:Option Rat} (h:Dh cL J p r rows g):r≠p:=by
 intro e;subst e;have:=h.o;rw [h.l] at this;cases this
structure qd (n:Nat) (l:aU):Prop where
 m:Sz n l.m
 p:Sz n l.p
 v:Bd 64 l.v
theorem qd.mono {n k:Nat} {l:aU} (h:qd n l) (e:n≤k):qd k l:=⟨h.m.mono e,h.p.mono e,h.v⟩
theorem Ik (a b:PV):([("rows",a),("gone",b)]:List (Str × PV)).lookup ("rows":Str)=some a:=rfl
theorem Nr (a b:PV):([("rows",a),("gone",b)]:List (Str × PV)).lookup ("gone":Str)=some b:=rfl
theorem DN {m:Str} (a b:PV) (h:(m == ("rows":Str))=false) (k:(m == ("gone":Str))=false):([("rows",a),("gone",b)]:List (Str × PV)).lookup m=none:=by rw [List.lookup_cons,h];simp only;rw [List.lookup_cons,k];rfl
theorem Jp (a b:PV):([("rows",a),("gone",b)]:List (Str × PV)).lookup ("turn":Str)=none:=DN a b (by decide +kernel) (by decide +kernel)
theorem LU (a b:PV):([("rows",a),("gone",b)]:List (Str × PV)).lookup ("leave":Str)=none:=DN a b (by decide +kernel) (by decide +kernel)
theorem LV (a b:PV):([("rows",a),("gone",b)]:List (Str × PV)).lookup ("there":Str)=none:=DN a b (by decide +kernel) (by decide +kernel)
theorem LW (a b:PV):([("rows",a),("gone",b)]:List (Str × PV)).lookup ("leg_at":Str)=none:=DN a b (by decide +kernel) (by decide +kernel)
theorem FC:(("rows":Str)=("gone":Str))=False:=eq_false (by decide +kernel)
theorem oy {J:Hq} {l:Addr} {o:HQ} (h:J l=none):mM J (put J l o):=fun a=>by
 by_cases e:a=l
 ·subst e;exact .inr h
 ·rw [ak e];exact .inl rfl
theorem El (x z:PV):l_ ("gone":Str) z (l_ ("rows":Str) x [])=([("rows",x),("gone",z)]:List (Str × PV)):=by simp only [l_,FC,if_false]
abbrev dR:Stmt:=(L2.inClass (top 29) 0)
theorem mU:L2.aw ["self","moment","place","pace"] ["self","moment","place","pace"] (L2.ai dR):=eJ
def yu (cL:Addr):cT:=fun xs J Q _=>∃ (p:Addr) (l:aU),xs=[.ref p,fr l.m,fr l.p,.int l.v]∧J p=some (.ins cL [])∧∀ r,J r=none→Q .non (put (put J r (.lst [l.V])) p (.ins cL [("rows",.ref r),("gone",.non)]))
theorem uz {cL f:Addr} {fd:FuncData} (F:cq K "__init__" "Log.__init__" dR f fd) (bz:dD K mg "Log" cL) (aV:aE K cL "rows") (bE:aE K cL "gone"):aQ P w K mg base (dt P w) 1 f fd ["self","moment","place","pace"] (d7 K (yu cL)):=by
 simp_arith [mU]
 ·obtain ⟨p,l,rfl,_⟩:=h;rfl
 obtain ⟨p,l,rfl,hp,q⟩:=h
 refine ⟨_,(aj (gy bz.cl aV (rv 0) (oR (af (cA (af (rv 1) (af (rv 2) (af (rv 3) ah)))) ah)))
   (aq (gy bz.cl bE (rv 0) ma))),?_⟩
 simp_arith! only [cb,vo]
 intro r hr'
 have ne:p≠r:=by intro e;subst e;rw [hp] at hr';cases hr'
 refine ⟨[],by rw [ak ne];exact hp,by decide,by show (1:Nat) < 1000;decide,?_⟩
 rw [eZ,El]
 exact q r hr'
abbrev iw:Stmt:=(L2.inClass (top 29) 1)
theorem mJ:L2.aw ["self","moment","pace","place"] ["self","moment","pace"] (L2.ai iw):=eJ
def tG (cL:Addr):cT:=fun xs J Q _=>∃ p r rows g t v,xs=[.ref p,fr t,.int v]∧Dh cL J p r rows g∧rows≠[]∧rows.length≤900∧Sz 900 t∧(∀ l∈rows,qd 900 l)∧Q .non (put J r (.lst ((turned rows t v).map aU.V)))
theorem uA {cL f:Addr} {fd:FuncData} (F:cq K "turn" "Log.turn" iw f fd) (Z:cj mg) (bz:dD K mg "Log" cL) (aV:aE K cL "rows") (dq:bG P w K mg base 4 "place_on" ["leg","moment"] qO):aQ P w K mg base (dt P w) 5 f fd ["self","moment","pace"] (d7 K (tG cL)):=by
 simp_arith [mJ]
 ·obtain ⟨p,r,rows,g,t,v,rfl,_⟩:=h;rfl
 obtain ⟨p,r,rows,g,t,v,rfl,b,hne,hl,st,sl,q⟩:=h
 obtain ⟨ls,l,rfl⟩:∃ ls l,rows=ls ++ [l]:=⟨rows.dropLast,rows.getLast hne,(List.dropLast_concat_getLast hne).symm⟩
 have bo:=b.o
 have bl:=b.l
 have npr:=b.ne
 have sl':=sl l (by simp)
 have hla:cU ((ls ++ [l]).map aU.V) (-1)=some l.V:=by rw [List.map_append];exact xp _ _
 refine ⟨_,(aj (aT (i:=3) mJ.nd rfl (Or.inl rfl) (a8 dq B hr (by decide) rfl (af (ar av (aY bz.cl aV (rv 0)) (uU pf ag) (fun _ _=>rfl)) (af (rv 1) ah))))
   (dN (a7 (aF (cm hr.aS) (ar av (ar av (aY bz.cl aV (rv 0)) (uU pf ag) (fun _ _=>rfl)) ag (fun _ _=>rfl)) (rv 1) (L2.ay _)) (aq (bx (HD PySem.F.plainAttrs_list PySem.F.slot_list_pop PySem.F.type_list_pop G9 (aY bz.cl aV (rv 0))))) aO)
   (aj (a7 (dh (gA (HI (aY bz.cl aV (rv 0))) (e_ (aF (cm hr.aS) (ar av (ar av (aY bz.cl aV (rv 0)) (uU pf ag) (fun _ _=>rfl)) ag (fun _ _=>rfl)) (rv 2) (L2.ay _))))) (aq EI) aO)
   (aq (bx (mH PySem.F.plainAttrs_list PySem.F.slot_list_append PySem.F.type_list_append lZ (aY bz.cl aV (rv 0)) (af (cA (af (rv 1) (af (rv 3) (af (rv 2) ah)))) ah))))))),?_⟩
 simp_arith! only [cb,bo,bl,Ik]
 refine ⟨_,hla,l,t,rfl,sl'.m,sl'.p,st,sl'.v,?_⟩
 obtain ⟨M,hM⟩:∃ M:Sr→Hq→Prop,∀ τ' J',M τ' J'↔τ'=[some (.ref p),some (fr t),some (.int v),some (fr (l.at t))]∧J'=put J r (.lst ((if l.m=t then ls else ls ++ [l]).map aU.V)):=⟨_,fun _ _=>Iff.rfl⟩
 refine ⟨M,?_,?_⟩
 ·simp_arith! only [cb,bo,bl,Ik,hla,xR]
  split
  ·rename_i e
   refine ⟨l.V,by simp,(hM _ _).mpr ⟨rfl,?_⟩⟩
   rw [if_pos e,List.map_append,List.map_cons,List.map_nil,List.dropLast_concat]
  ·rename_i e
   exact (hM _ _).mpr ⟨rfl,by rw [if_neg e,wO bl]⟩
 ·intro τ' J' hm
  obtain ⟨rfl,rfl⟩:=(hM _ _).mp hm
  clear hm hM M
  have et:turned (ls ++ [l]) t v=if (if l.m=t then ls else ls ++ [l]).getLast?.map aU.v=some v then (if l.m=t then ls else ls ++ [l]) else (if l.m=t then ls else ls ++ [l]) ++ [⟨t,l.at t,v⟩]:=by
   unfold turned
   simp only [List.getLast?_concat,List.dropLast_concat]
  have hrl:(if l.m=t then ls else ls ++ [l]).length≤900:=by
   split
   ·rw [List.length_append] at hl;omega
   ·exact hl
  rw [et] at q
  generalize (if l.m=t then ls else ls ++ [l])=rest at q hrl ⊢
  simp_arith! only [cb,ak (Ne.symm npr),bo,Ik,eZ,vo]
  rcases List.eq_nil_or_concat rest with rfl | ⟨ks,k,rfl⟩
  ·simp only [List.getLast?_nil,Option.map_none,reduceCtorEq,if_false,List.nil_append] at q
   simpa [Fx,sizeLine] using q
  ·rw [List.concat_eq_append] at *
   rw [List.getLast?_concat,Option.map_some] at q
   have hk:cU ((ks ++ [k]).map aU.V) (-1)=some k.V:=by rw [List.map_append];exact xp _ _
   simp_arith! only [cb,hk,ou,List.length_map]
   rw [if_pos (by simp)]
   by_cases e:k.v=v
   ·rw [if_pos e];rw [if_pos (congrArg some e)] at q;exact q
   ·rw [if_neg e];rw [if_neg (fun z=>e (Option.some.inj z))] at q
    refine ⟨a_ (by omega),?_⟩
    rw [List.map_append] at q
    exact q
theorem Ni {rows:List aU} {i:Nat} {b:aU} (h:rows[i]?=some b):cU (rows.map aU.V) (i:Int)=some b.V:=ba (by rw [List.getElem?_map,h];rfl)
abbrev jO:Stmt:=(top 19)
theorem ki:L2.aw ["rows","moment","at"] ["rows","moment"] (L2.ai jO):=eJ
def vd:cT:=fun xs J Q _=>∃ (x:PV) (t:Rat) (ys:List PV) (ms:List Rat),xs=[x,fr t]∧pw J x=some ys∧ys.length=ms.length∧ms.length≤900∧(∀ (i:Nat) y m,ys[i]?=some y→ms[i]?=some m→eO J y (.int 0)=some (fr m))∧Sz 9000 t∧(∀ m∈ms,Sz 9000 m)∧Q (.int ((lb ms t ms.length:Int) - 1)) J
theorem uC {f:Addr} {fd:FuncData} (F:cq K "last_by" "last_by" jO f fd) (Z:cj mg) (dn:bG P w K mg base 1 "less" ["one","two"] c6):aQ P w K mg base (dt P w) 2 f fd ["rows","moment"] (d7 K vd):=by
 simp_arith [ki]
 ·obtain ⟨x,t,ys,ms,rfl,_⟩:=h;rfl
 obtain ⟨x,t,ys,ms,rfl,hx,hlen,hl,h0,st,sm,q⟩:=h
 refine ⟨_,(aj (aT (i:=2) ki.nd rfl (Or.inl rfl) (aX eR (aP bW rfl Z.len boot_len (af (rv 0) ah)) ag))
   (aj (oU dH (dh (gA (aF BL (rv 2) ag (L2.ay _)) (e_ (bX (a8 dn B hr (by decide) rfl (af (rv 1) (af (ar av (ar av (rv 0) (rv 2) (fun _ _=>rfl)) ag (fun _ _=>rfl)) ah))))))) (aq (Co (i:=2) ki.nd rfl (Or.inl rfl) ag Ba)))
   (aq (aI (rv 2))))),?_⟩
 simp_arith! only [cb,G7 hx,hlen]
 refine ⟨fun k τ J'=>∃ j:Nat,τ=[some x,some (fr t),some (.int ((j:Int) - 1))]∧J'=J∧j≤ms.length∧k=j∧lb ms t ms.length=lb ms t j,⟨_,ms.length,rfl,rfl,Nat.le_refl _,rfl,rfl⟩,?_⟩
 rintro k τ J' ⟨j,rfl,rfl,hj,rfl,hb⟩
 simp_arith! only [cb,Jq hx,c6]
 cases k with
 | zero =>
  rw [if_neg (by omega)]
  rw [hb] at q
  exact q
 | succ k =>
  rw [if_pos (by omega)]
  obtain ⟨y,hy⟩:∃ y,ys[k]?=some y:=⟨_,List.getElem?_eq_getElem (by omega)⟩
  obtain ⟨m,hm⟩:∃ m,ms[k]?=some m:=⟨_,List.getElem?_eq_getElem (by omega)⟩
  have ha:cU ys (((k + 1:Nat):Int) - 1)=some y:=by
   have:((k + 1:Nat):Int) - 1=(k:Int):=by omega
   rw [this];exact ba hy
  have em:ms.getD k 0=m:=by simp [List.getD,hm]
  have hu:lb ms t (k + 1)=if m≤t then k + 1 else lb ms t k:=by
   show (if ms.getD k 0≤t then k + 1 else lb ms t k)=_
   rw [em]
  refine ⟨_,ha,_,h0 k y m hy hm,m,rfl,st,sm m (List.mem_of_getElem? hm),?_⟩
  by_cases c:t < m
  ·rw [if_pos c]
   have hn:¬ m≤t:=Rat.not_le.mpr c
   rw [if_neg hn] at hu
   refine ⟨fun τ J''=>τ=[some x,some (fr t),some (.int ((k:Int) - 1))]∧J''=J',fun τ' J'' ⟨e1,e2⟩=>⟨k,Nat.lt_succ_self _,k,e1,e2,by omega,rfl,by rw [hb,hu]⟩,?_⟩
   simp_arith! only [cb]
   have:((k + 1:Nat):Int) - 1 - 1=(k:Int) - 1:=by omega
   exact this
  ·rw [if_neg c]
   rw [if_pos (Rat.not_lt.mp c)] at hu
   rw [hb,hu] at q
   exact q
abbrev fY:Stmt:=(L2.inClass (top 29) 5)
theorem lq:L2.aw ["self","moment","joined"] ["self","moment"] (L2.ai fY):=eJ
def vc (cL:Addr):cT:=fun xs J Q _=>∃ p r rows g t,xs=[.ref p,fr t]∧Dh cL J p r rows g∧rows≠[]∧Sz 900 t∧(∀ l∈rows,qd 900 l)∧(∀ q,g=some q→Sz 900 q)∧Q (.bl (there rows g t)) J
theorem sf {cL f:Addr} {fd:FuncData} (F:cq K "there" "Log.there" fY f fd) (Z:cj mg) (bz:dD K mg "Log" cL) (aV:aE K cL "rows") (bE:aE K cL "gone") (dn:bG P w K mg base 1 "less" ["one","two"] c6):aQ P w K mg base (dt P w) 2 f fd ["self","moment"] (d7 K (vc cL)):=by
 simp_arith [lq]
 ·obtain ⟨p,r,rows,g,t,rfl,_⟩:=h;rfl
 obtain ⟨p,r,rows,g,t,rfl,b,hne,st,sl,sg,q⟩:=h
 have bo:=b.o
 have bl:=b.l
 obtain ⟨l,ls,rfl⟩:∃ l ls,rows=l :: ls:=List.exists_cons_of_ne_nil hne
 have sl':=(sl l (by simp)).m
 refine ⟨_,(aj (aT (i:=2) lq.nd rfl (Or.inl rfl) (ar av (ar av (aY bz.cl aV (rv 0)) ag (fun _ _=>rfl)) ag (fun _ _=>rfl)))
   (aj (a7 (bX (a8 dn B hr (by decide) rfl (af (rv 1) (af (rv 2) ah)))) (aq (aI gT)) aO)
   (aq (aI (Kl (gx Jw (aY bz.cl bE (rv 0)) ma (L2.ay _)) (sM (a8 dn B hr (by decide) rfl (af (rv 1) (af (aY bz.cl bE (rv 0)) ah))))))))),?_⟩
 simp_arith! only [cb,bo,bl,Ik,Nr,xR,c6]
 refine ⟨st.mono (by decide),sl'.mono (by decide),?_⟩
 unfold there at q
 simp only [List.head?_cons] at q
 by_cases c:t < l.m
 ·rw [if_pos c]
  rw [decide_eq_true c] at q
  exact q
 ·rw [if_neg c]
  rw [decide_eq_false c] at q
  cases g with
  | none=>simpa [gv,I8,F6,KZ] using q
  | some u =>
   simp only [gv,rJ,Bool.false_eq_true,if_false]
   simp only [KZ] at q
   refine ⟨u,rfl,st.mono (by decide),(sg u rfl).mono (by decide),?_⟩
   simpa using q
abbrev fh:Stmt:=(L2.inClass (top 29) 6)
theorem p7:L2.aw ["self","moment"] ["self","moment"] (L2.ai fh):=eJ
def vb (cL eN:Addr):cT:=fun xs J Q E=>∃ p r rows g t,xs=[.ref p,fr t]∧Dh cL J p r rows g∧rows≠[]∧rows.length≤900∧Sz 900 t∧(∀ l∈rows,qd 900 l)∧(∀ q,g=some q→Sz 900 q)∧(there rows g t=true→∀ l,um rows t=some l→Q l.V J)∧(there rows g t=false→E eN J)
theorem pW {cL eN f:Addr} {fd:FuncData} (F:cq K "leg_at" "Log.leg_at" fh f fd) (Z:cj mg) (bz:dD K mg "Log" cL) (aV:aE K cL "rows") (ft:Own K mg "NotThere" eN) (jg:c7 P w K mg base cL 2 "there" ["self","moment"] (vc cL))
  (yO:bG P w K mg base 2 "last_by" ["rows","moment"] vd):aQ P w K mg base (dt P w) 3 f fd ["self","moment"] (d7 K (vb cL eN)):=by
 simp_arith [p7]
 ·obtain ⟨p,r,rows,g,t,rfl,_⟩:=h;rfl
 obtain ⟨p,r,rows,g,t,rfl,b,hne,hl,st,sl,sg,q,qe⟩:=h
 have bo:=b.o
 have bl:=b.l
 refine ⟨_,(aj (a7 (c_ (bX (bD (pl:=_) jg B hr (by decide) (rv 0) (af (rv 1) ah)))) (aq (dP ft rfl cv B.kn rfl (af bJ ah))) aO)
   (aq (aI (ar av (aY bz.cl aV (rv 0)) (a8 yO B hr (by decide) rfl (af (aY bz.cl aV (rv 0)) (af (rv 1) ah))) (fun _ _=>rfl))))),?_⟩
 simp_arith! only [cb,bo,bl,Ik]
 refine ⟨LV _ _,p,r,rows,g,t,rfl,b,hne,st,sl,sg,?_⟩
 simp_arith! only [cb,fG,bo,bl,Ik]
 cases hc:there rows g t with
 | false=>rw [if_pos rfl];exact qe hc
 | true =>
  rw [if_neg (by decide)]
  obtain ⟨l,h1,h2,h3,h4,h5⟩:=C0 hc
  refine ⟨_,t,rows.map aU.V,rows.map aU.m,rfl,by simp_arith! only [cb,bl],by simp,by simpa using hl,?_,st.mono (by decide),?_,?_⟩
  ·intro i y m hy hm
   rw [List.getElem?_map] at hy hm
   cases e:rows[i]? with
   | none=>rw [e] at hy;cases hy
   | some z=>rw [e] at hy hm;cases hy;cases hm;exact xR _ _
  ·intro m hm
   obtain ⟨z,hz,rfl⟩:=List.mem_map.mp hm
   exact (sl z hz).m.mono (by decide)
  ·rw [List.length_map]
   simp_arith! only [cb,bl]
   refine ⟨l.V,?_,q hc l h1⟩
   have:((lb (rows.map aU.m) t rows.length:Nat):Int) - 1=((lb (rows.map aU.m) t rows.length - 1:Nat):Int):=by omega
   rw [this]
   exact Ni h5
abbrev fW:Stmt:=(L2.inClass (top 29) 2)
theorem s_:L2.aw ["self","moment"] ["self","moment"] (L2.ai fW):=eJ
def u_ (cL:Addr):cT:=fun xs J Q _=>∃ p r rows g t,xs=[.ref p,fr t]∧Dh cL J p r rows g∧Q .non (put J p (.ins cL [("rows",.ref r),("gone",fr t)]))
theorem se {cL f:Addr} {fd:FuncData} (F:cq K "leave" "Log.leave" fW f fd) (Z:cj mg) (bz:dD K mg "Log" cL) (bE:aE K cL "gone"):aQ P w K mg base (dt P w) 1 f fd ["self","moment"] (d7 K (u_ cL)):=by
 simp_arith [s_]
 ·obtain ⟨p,r,rows,g,t,rfl,_⟩:=h;rfl
 obtain ⟨p,r,rows,g,t,rfl,b,q⟩:=h
 have bo:=b.o
 refine ⟨_,(aq (gy bz.cl bE (rv 0) (rv 1))),?_⟩
 simp_arith! only [cb,bo,FC]
 exact ⟨by decide,q⟩
theorem lP {l:aU} {t:Rat} (h:qd 900 l) (sm:Sz 900 t):Sz 3000 (l.at t):=by
 have s1:Sz 1801 (t - l.m):=sm.sub h.m
 have s2:Sz 1900 ((t - l.m) * (l.v:Rat)):=s1.mul h.v
 exact h.p.add s2
abbrev d_:Stmt:=(top 27)
theorem fJ:L2.aw ["name","leg","other_name","other_leg","moment","place","other_place"] ["name","leg","other_name","other_leg","moment"] (L2.ai d_):=eJ
def CD:cT:=fun xs J Q _=>∃ (n n':Str) (l l':aU) (t:Rat),xs=[.str n,l.V,.str n',l'.V,fr t]∧qd 900 l∧qd 900 l'∧Sz 900 t∧Q (.bl ((key t (n,l)).lt (key t (n',l')))) J
theorem mS {f:Addr} {fd:FuncData} (F:cq K "lies_behind" "lies_behind" d_ f fd) (Z:cj mg) (dq:bG P w K mg base 4 "place_on" ["leg","moment"] qO) (dn:bG P w K mg base 1 "less" ["one","two"] c6):aQ P w K mg base (dt P w) 5 f fd ["name","leg","other_name","other_leg","moment"] (d7 K CD):=by
 simp_arith [fJ]
 ·obtain ⟨n,n',l,l',t,rfl,_⟩:=h;rfl
 obtain ⟨n,n',l,l',t,rfl,sl,sl',st,q⟩:=h
 refine ⟨_,(aj (aT (i:=5) fJ.nd rfl (Or.inl rfl) (a8 dq B hr (by decide) rfl (af (rv 1) (af (rv 4) ah))))
   (aj (aT (i:=6) fJ.nd rfl (Or.inl rfl) (a8 dq B hr (by decide) rfl (af (rv 3) (af (rv 4) ah))))
   (aj (a7 (aF (mE hr.aS) (rv 5) (rv 6) (L2.ay _)) (aq (aI (a8 dn B hr (by decide) rfl (af (rv 5) (af (rv 6) ah))))) aO)
   (aj (a7 (aF (mE hr.aS) (ar av (rv 1) ag (fun _ _=>rfl)) (ar av (rv 3) ag (fun _ _=>rfl)) (L2.ay _)) (aq (aI (gx iH (ar av (rv 1) ag (fun _ _=>rfl)) (ar av (rv 3) ag (fun _ _=>rfl)) (L2.ay _)))) aO)
   (aq (aI (gx Hl (rv 0) (rv 2) (L2.ay _)))))))),?_⟩
 simp_all! only []
 refine ⟨l,t,rfl,sl.m,sl.p,st,sl.v,?_⟩
 simp_all! only []
 refine ⟨l',t,rfl,sl'.m,sl'.p,st,sl'.v,?_⟩
 have a1:=lP sl st
 have a2:=lP sl' st
 simp_all! only []
 unfold Ky.lt key at q
 dsimp only at q
 by_cases e:l.at t=l'.at t
 ·rw [if_pos e] at q
  rw [if_pos e]
  simp_all! only [ou]
  by_cases e2:l.v=l'.v
  ·rw [if_pos e2] at q
   rw [if_pos e2]
   simp_all! only []
   exact q
  ·rw [if_neg e2] at q
   rw [if_neg e2]
   simp_all! only [ou]
   exact q
 ·rw [if_neg e] at q
  rw [if_neg e]
  simp_all! only [c6]
  exact ⟨a1.mono (by decide),a2.mono (by decide),q⟩
abbrev iz:Stmt:=(top 41)
theorem eE:L2.aw ["legs","moment","names","name","at"] ["legs","moment"] (L2.ai iz):=eJ
def b9 (fs:List (Str × aU)):List (Str × PV):=fs.map fun x=>(x.1,x.2.V)
def qN:cT:=fun xs J Q _=>∃ (D:Addr) (fs:List (Str × aU)) (ep:Nat) (t:Rat),xs=[.ref D,fr t]∧J D=some (.dct (b9 fs) ep)∧(fs.map (·.1)).Nodup∧fs.length≤100∧Sz 900 t∧(∀ x∈fs,qd 900 x.2)∧∀ p,J p=none→Q (.ref p) (put J p (.lst ((cn t fs).map .str)))
theorem si {f:Addr} {fd:FuncData} (F:cq K "in_order" "in_order" iz f fd) (Z:cj mg) (pD:bG P w K mg base 5 "lies_behind" ["name","leg","other_name","other_leg","moment"] CD):aQ P w K mg base (dt P w) 6 f fd ["legs","moment"] (d7 K qN):=by
 simp_arith [eE]
 ·obtain ⟨D,fs,ep,t,rfl,_⟩:=h;rfl
 obtain ⟨D,fs,ep,t,rfl,hD,hnd,hlen,st,sl,q⟩:=h
 refine ⟨_,(aj (aT (i:=2) eE.nd rfl (Or.inl rfl) (oR ah))
   (aj (jv dH rfl (yg (rv 0)) (cM (i:=3) eE.nd rfl (Or.inl rfl)) (aj (aT (i:=4) eE.nd rfl (Or.inl rfl) (aP bW rfl Z.len boot_len (af (rv 2) ah)))
   (aj (oU dH (dh (gA (aF mD (rv 4) ag (L2.ay _)) (e_ (bX (a8 pD B hr (by decide) rfl (af (rv 3) (af (ar h_ (rv 0) (rv 3) (fun _ _=>rfl)) (af (ar av (rv 2) (aX eR (rv 4) ag) (fun _ _=>rfl)) (af (ar h_ (rv 0) (ar av (rv 2) (aX eR (rv 4) ag) (fun _ _=>rfl)) (fun _ _=>rfl)) (af (rv 1) ah)))))))))) (aq (Co (i:=4) eE.nd rfl (Or.inl rfl) ag Ba)))
   (aq (bx (mH PySem.F.plainAttrs_list PySem.F.slot_list_insert PySem.F.type_list_insert qG (rv 2) (af (rv 4) (af (rv 3) ah))))))))
   (aq (aI (rv 2))))),?_⟩
 simp_all! only []
 intro r hr'
 have nDr:D≠r:=by intro e;subst e;rw [hD] at hr';cases hr'
 simp_all! only [ak nDr,hD]
 have hkv:(b9 fs).map (fun kv=>PV.str kv.1)=fs.map fun x=>PV.str x.1:=by unfold b9;rw [List.map_map];rfl
 rw [hkv]
 obtain ⟨Inv,hInv⟩:∃ Inv:Nat→Sr→Hq→Prop,∀ i τ J',Inv i τ J'↔∃ (u3 u4:Option PV),τ=[some (.ref D),some (fr t),some (.ref r),u3,u4]∧J'=put J r (.lst ((cn t (fs.take i)).map .str)):=⟨_,fun _ _ _=>Iff.rfl⟩
 refine n9 Inv ((hInv _ _ _).mpr ⟨_,_,rfl,rfl⟩) (fun i τ J' h=>?_) ?_ ?_
 ·obtain ⟨_,_,_,rfl⟩:=(hInv _ _ _).mp h
  rw [ak nDr];exact hD
 ·intro i x τ J' hx hv
  obtain ⟨u3,u4,rfl,rfl⟩:=(hInv _ _ _).mp hv
  clear hv
  have hi:i < fs.length:=by have:=(List.getElem?_eq_some_iff.mp hx).1;simpa using this
  rw [List.getElem?_map,List.getElem?_eq_getElem hi] at hx
  cases hx
  rcases hfi:fs[i] with ⟨n,l⟩
  have hmem:(n,l)∈fs:=by rw [← hfi];exact List.getElem_mem hi
  have et:fs.take (i + 1)=fs.take i ++ [(n,l)]:=by rw [List.take_add_one,List.getElem?_eq_getElem hi,hfi];rfl
  have hndt:((fs.take (i + 1)).map (·.1)).Nodup:=by rw [List.map_take];exact hnd.sublist (List.take_sublist _ _)
  rw [et,List.map_append,List.map_cons,List.map_nil] at hndt
  obtain ⟨hnd1,hnew⟩:=ip hndt
  obtain ⟨ys,hys⟩:∃ ys,dJ ((fs.take i).map (key t))=ys:=⟨_,rfl⟩
  have srt:nV Ky.lt ys:=by rw [← hys];exact dM (by rw [dA];exact hnd1)
  have hyl:ys.length=i:=by rw [← hys,oH,List.length_map,List.length_take];omega
  have hym:∀ y∈ys,∃ l',(y.n,l')∈fs∧y=key t (y.n,l')∧y.n≠n:=fun y hy=>by
   rw [← hys,bp,List.mem_map] at hy
   obtain ⟨x',hx',rfl⟩:=hy
   exact ⟨x'.2,List.mem_of_mem_take hx',rfl,fun e=>hnew (List.mem_map.mpr ⟨x',hx',e⟩)⟩
  have eo:(cn t (fs.take i)).map PV.str=ys.map fun y=>PV.str y.n:=by unfold cn;rw [hys,List.map_map];rfl
  have en:(cn t (fs.take (i + 1))).map PV.str=(oi Ky.lt (key t (n,l)) ys).map fun y=>PV.str y.n:=by
   unfold cn;rw [et,List.map_append,List.map_cons,List.map_nil,jH,hys,List.map_map];rfl
  rw [eo]
  have hvn:lK (b9 fs) n=some l.V:=mx (f:=aU.V) hnd hmem
  have sll:=sl _ hmem
  simp_all! only [au,List.length_map]
  refine ⟨fun m τ' J'=>m≤ys.length∧τ'=[some (.ref D),some (fr t),some (.ref r),some (.str n),some (.int (m:Nat))]∧J'=put J r (.lst (ys.map fun y=>PV.str y.n))∧∀ (j:Nat) y,m≤j→ys[j]?=some y→(key t (n,l)).lt y=true,⟨ys.length,Nat.le_refl _,rfl,rfl,fun j y hj e=>by rw [List.getElem?_eq_none hj] at e;cases e⟩,?_⟩
  rintro m τ' J' ⟨hm,rfl,rfl,hall⟩
  have fin:(∀ (j:Nat) y,j < m→ys[j]?=some y→y.lt (key t (n,l))=true)→Inv (i + 1) [some (.ref D),some (fr t),some (.ref r),some (.str n),some (.int (m:Nat))] (put J r (.lst ((ys.map fun y=>PV.str y.n).take m ++ .str n :: (ys.map fun y=>PV.str y.n).drop m))):=fun hlow=>by
   refine (hInv _ _ _).mpr ⟨_,_,rfl,?_⟩
   rw [en,← DH hm hlow fun j y hj e=>Ky.IE (hall j y hj e),List.map_append,List.map_cons,List.map_take,List.map_drop]
   rfl
  simp_all! only [au,ak nDr,hD,hvn]
  by_cases c0:0 < m
  ·rw [if_pos (by omega)]
   obtain ⟨m',rfl⟩:∃ m',m=m' + 1:=⟨m - 1,by omega⟩
   obtain ⟨y,hy⟩:∃ y,ys[m']?=some y:=⟨_,List.getElem?_eq_getElem (by omega)⟩
   obtain ⟨l',hl',ey,ny⟩:=hym y (List.mem_of_getElem? hy)
   have ha:cU (ys.map fun y=>PV.str y.n) (((m' + 1:Nat):Int) - 1)=some (.str y.n):=by
    rw [show ((m' + 1:Nat):Int) - 1=((m':Nat):Int) by omega]
    exact ba (by rw [List.getElem?_map,hy];rfl)
   have hvy:lK (b9 fs) y.n=some l'.V:=mx (f:=aU.V) hnd hl'
   simp_all! only [ha,hvy]
   refine ⟨n,y.n,l,l',t,rfl,sll,sl _ hl',st,?_⟩
   rw [← ey]
   cases hc:(key t (n,l)).lt y with
   | true =>
    simp_all! only []
    refine ⟨_,fun τ'' J'' h=>⟨m',Nat.lt_succ_self _,h⟩,⟨by omega,?_,rfl,fun j z hj e=>?_⟩⟩
    ·rw [show ((m' + 1:Nat):Int) - 1=((m':Nat):Int) by omega]
    ·rcases Nat.lt_or_eq_of_le hj with h | h
     ·exact hall j z (by omega) e
     ·subst h;rw [hy] at e;cases e;exact hc
   | false =>
    simp_all! only [au]
    refine ⟨_,m' + 1,rfl,rfl,by rw [List.length_map];omega,a_ (by rw [List.length_map];omega),by omega,?_⟩
    rw [eZ]
    refine fin fun j z hj e=>?_
    have hyx:y.lt (key t (n,l))=true:=by
     rcases Ky.KA (a:=y) (b:=key t (n,l)) ny with h | h
     ·exact h
     ·rw [hc] at h;cases h
    exact CI (lt:=Ky.lt) Ky.tr srt hy e (by omega) hyx
  ·rw [if_neg (by omega)]
   simp_all! only [au]
   refine ⟨_,m,rfl,rfl,by rw [List.length_map];omega,a_ (by rw [List.length_map];omega),by omega,?_⟩
   rw [eZ]
   exact fin fun j z hj e=>by omega
 ·intro τ J' hv
  obtain ⟨u3,u4,rfl,rfl⟩:=(hInv _ _ _).mp hv
  rw [List.length_map,List.take_length]
  simp_all! only []
  exact q r hr'
def nQ (K:PySem.W.Frag) (mg:Str→Option Value):Prop:=∃ a:Addr,mg "NOUGHT"=some (.ref a)∧∀ H:Hp,eL K H a [.int 0,.int 1]
theorem zC {K:PySem.W.Frag} {h:Heap} {mg:Str→Option Value} (X:K.In h) (G:h.Ns mainGlobals mg) {a:Addr} {od:Option Addr} {n:Nat} {sl:Array (Option Value)} {t u:Tok}
  (e:PySem.W.nsIn K mainGlobals "NOUGHT"=some (some (.ref a))) (l:K.lookup a=some ⟨.type "tuple",od,.seq #[.int 0 t,.int 1 u] n,sl⟩):nQ K mg :=
 ⟨a,PySem.W.mg_of X G e,fun _=>.inr ⟨_,_,_,l,rfl,rfl,(by show 2≤sizeLine;decide),.cons ⟨t,rfl⟩ (.cons ⟨u,rfl⟩ .nil)⟩⟩
structure Cf where
 n:Str
 a:Addr
 r:Addr
 w:List aU
 g:Option Rat
structure Ln where
 t:Rat
 d:Addr
 e:Nat
 o:Addr
 cs:List Cf
 row:List Str
def Cf.cur (c:Cf):aU:=c.w.getLast?.getD ⟨0,0,0⟩
def Ln.Ai (L:Ln):List Cf:=L.cs.filter fun c=>c.g.isNone
def Ln.fs (L:Ln):List (Str × aU):=L.Ai.map fun c=>(c.n,c.cur)
structure a9 (cN cL:Addr) (J:Hq) (p:Addr) (L:Ln):Prop where
 ob:J p=some (.ins cN [("now",fr L.t),("logs",.ref L.d),("row",.ref L.o)])
 dc:J L.d=some (.dct (L.cs.map fun c=>(c.n,PV.ref c.a)) L.e)
 rw:J L.o=some (.lst (L.row.map .str))
 lg:∀ c∈L.cs,Dh cL J c.a c.r c.w c.g
 ap:(L.cs.map Cf.r).Nodup
 ao:∀ c∈L.cs,c.r≠L.o
structure aZ (L:Ln):Prop where
 nd:(L.cs.map Cf.n).Nodup
 ne:∀ c∈L.cs,c.w≠[]
 le:∀ c∈L.cs,∀ l∈c.w,l.m≤L.t
 ck:∀ c∈L.cs,∀ l∈c.w,pA l
 len:∀ c∈L.cs,c.w.length≤200
 gz:∀ c∈L.cs,∀ q,c.g=some q→Sc gd MM q∧q≤L.t
 t0:0≤L.t
 ts:Sc gd MM L.t
 many:L.cs.length≤100
 rm:∀ n,n∈L.row↔n∈L.fs.map (·.1)
 rn:L.row.Nodup
 rl:L.row.length≤12
structure b_ (L:Ln):Prop extends aZ L where
 row:L.row=cn L.t L.fs
def Ln.own (L:Ln) (p a:Addr):Prop:=a=p∨a=L.d∨a=L.o∨∃ c∈L.cs,a=c.a∨a=c.r
structure Mv (J J':Hq) (S S':Addr→Prop):Prop where
 keep:∀ a o,J a=some o→¬ S a→J' a=some o
 own:∀ a,S' a→S a∨J a=none
 mono:∀ a,J' a=none→J a=none
theorem Mv.refl (J:Hq) (S:Addr→Prop):Mv J J S S:=⟨fun _ _ h _=>h,fun _ h=>.inl h,fun _ h=>h⟩
theorem Mv.trans {J J' J'':Hq} {S S' S'':Addr→Prop} (h:Mv J J' S S') (k:Mv J' J'' S' S''):Mv J J'' S S'':=by
 refine ⟨fun a o e n=>k.keep a o (h.keep a o e n) fun z=>?_,fun a z=>?_,fun a z=>h.mono a (k.mono a z)⟩
 ·rcases h.own a z with q | q
  ·exact n q
  ·rw [q] at e;cases e
 ·rcases k.own a z with q | q
  ·exact h.own a q
  ·exact .inr (h.mono a q)
theorem Mv.new {J:Hq} {S:Addr→Prop} {x:Addr} {o:HQ} (h:J x=none):Mv J (put J x o) S S:=by
 refine ⟨fun a u e _=>?_,fun _ z=>.inl z,fun a z=>?_⟩
 ·rw [ak (fun q=>by subst q;rw [h] at e;cases e)];exact e
 ·by_cases q:a=x
  ·subst q;rw [au] at z;cases z
  ·rw [ak q] at z;exact z
theorem Mv.zB {J:Hq} {S:Addr→Prop} {x:Addr} {o:HQ} (h:J x=none):Mv J (put J x o) S (fun a=>S a∨a=x) :=
 ⟨(Mv.new (S:=S) h).keep,fun a z=>z.elim .inl fun e=>.inr (by rw [e];exact h),(Mv.new (S:=S) h).mono⟩
theorem a9.keep {cN cL:Addr} {J J':Hq} {p:Addr} {L:Ln} (h:a9 cN cL J p L) (k:∀ a o,L.own p a→J a=some o→J' a=some o):a9 cN cL J' p L :=
 ⟨k _ _ (.inl rfl) h.ob,k _ _ (.inr (.inl rfl)) h.dc,k _ _ (.inr (.inr (.inl rfl))) h.rw,fun c hc=>⟨k _ _ (.inr (.inr (.inr ⟨c,hc,.inl rfl⟩))) (h.lg c hc).o,k _ _ (.inr (.inr (.inr ⟨c,hc,.inr rfl⟩))) (h.lg c hc).l⟩,h.ap,h.ao⟩
theorem a9.some {cN cL:Addr} {J:Hq} {p:Addr} {L:Ln} (h:a9 cN cL J p L) {a:Addr} (o:L.own p a):J a≠none:=by
 rcases o with rfl | rfl | rfl | ⟨c,hc,rfl | rfl⟩
 ·rw [h.ob];exact fun z=>nomatch z
 ·rw [h.dc];exact fun z=>nomatch z
 ·rw [h.rw];exact fun z=>nomatch z
 ·rw [(h.lg c hc).o];exact fun z=>nomatch z
 ·rw [(h.lg c hc).l];exact fun z=>nomatch z
theorem a9.fresh {cN cL:Addr} {J:Hq} {p x:Addr} {L:Ln} {o:HQ} (h:a9 cN cL J p L) (hx:J x=none):a9 cN cL (put J x o) p L :=
 h.keep fun a u ow e=>by rw [ak (fun q=>by subst q;rw [hx] at e;cases e)];exact e
theorem GN {J:Hq} {a b C C':Addr} {fs gs:List (Str × PV)} (h:J a=Option.some (.ins C fs)) (k:J b=Option.some (.ins C' gs)) (n:fs.map (·.1)≠gs.map (·.1)):a≠b:=by
 intro e;subst e;rw [h] at k
 have:=HQ.ins.inj (Option.some.inj k)
 exact n (by rw [this.2])
theorem a9.DW {cN cL:Addr} {J:Hq} {p:Addr} {L:Ln} (h:a9 cN cL J p L):L.d≠p:=by intro e;have:=h.ob;rw [← e,h.dc] at this;cases this
theorem a9.DY {cN cL:Addr} {J:Hq} {p:Addr} {L:Ln} (h:a9 cN cL J p L):L.o≠p:=by intro e;have:=h.ob;rw [← e,h.rw] at this;cases this
theorem a9.L5 {cN cL:Addr} {J:Hq} {p:Addr} {L:Ln} (h:a9 cN cL J p L):L.d≠L.o:=by intro e;have:=h.rw;rw [← e,h.dc] at this;cases this
theorem By:([("rows":Str),("gone":Str)]:List Str)≠[("now":Str),("logs":Str),("row":Str)]:=by decide +kernel
theorem a9.K2 {cN cL:Addr} {J:Hq} {p:Addr} {L:Ln} (h:a9 cN cL J p L) {c:Cf} (hc:c∈L.cs):c.a≠p:=GN (h.lg c hc).o h.ob By
theorem a9.Il {cN cL:Addr} {J:Hq} {p:Addr} {L:Ln} (h:a9 cN cL J p L) {c:Cf} (hc:c∈L.cs):c.r≠p:=by intro e;have:=h.ob;rw [← e,(h.lg c hc).l] at this;cases this
theorem a9.MX {cN cL:Addr} {J:Hq} {p:Addr} {L:Ln} (h:a9 cN cL J p L) {c:Cf} (hc:c∈L.cs):c.a≠L.d:=by intro e;have:=h.dc;rw [← e,(h.lg c hc).o] at this;cases this
theorem a9.MY {cN cL:Addr} {J:Hq} {p:Addr} {L:Ln} (h:a9 cN cL J p L) {c:Cf} (hc:c∈L.cs):c.r≠L.d:=by intro e;have:=h.dc;rw [← e,(h.lg c hc).l] at this;cases this
theorem a9.L4 {cN cL:Addr} {J:Hq} {p:Addr} {L:Ln} (h:a9 cN cL J p L) {c:Cf} (hc:c∈L.cs):c.a≠L.o:=by intro e;have:=h.rw;rw [← e,(h.lg c hc).o] at this;cases this
theorem a9.Nt {cN cL:Addr} {J:Hq} {p:Addr} {L:Ln} (h:a9 cN cL J p L) {c c':Cf} (hc:c∈L.cs) (hc':c'∈L.cs):c.a≠c'.r:=by intro e;have:=(h.lg c' hc').l;rw [← e,(h.lg c hc).o] at this;cases this
theorem a9.HK {cN cL:Addr} {J:Hq} {p o':Addr} {L:Ln} {row:List Str} (h:a9 cN cL J p L) (ho:J o'=Option.some (.lst (row.map .str))) (nc:∀ c∈L.cs,c.r≠o'):a9 cN cL (put J p (.ins cN [("now",fr L.t),("logs",.ref L.d),("row",.ref o')])) p { L with o:=o',row:=row } :=
 ⟨au,by show put J p _ L.d=_;rw [ak h.DW];exact h.dc,by show put J p _ o'=_;rw [ak (fun e=>by rw [e,h.ob] at ho;cases ho)];exact ho,
  fun c hc=>⟨by rw [ak (h.K2 hc)];exact (h.lg c hc).o,by rw [ak (h.Il hc)];exact (h.lg c hc).l⟩,h.ap,nc⟩
theorem fC {J:Hq} {S S':Addr→Prop} {x:Addr} {o:HQ} (hx:S x) (hS:∀ a,S' a→S a∨J a=none):Mv J (put J x o) S S':=by
 refine ⟨fun a u e n=>?_,hS,fun a z=>?_⟩
 ·rw [ak (fun q=>by subst q;exact n hx)];exact e
 ·by_cases q:a=x
  ·subst q;rw [au] at z;cases z
  ·rw [ak q] at z;exact z
theorem aZ.F7 {L:Ln} (h:aZ L):Sz 900 L.t:=(xU h.ts).mono (by decide)
theorem pA.Jr {l:aU} (h:pA l):qd 900 l:=⟨h.MW.mono (by decide),h.M1.mono (by decide),.small (by have:=h.v;omega) (by have:=h.v;omega)⟩
theorem Cf.hZ {c:Cf} (h:c.w≠[]):c.w.getLast?=Option.some c.cur∧c.cur∈c.w:=by
 unfold Cf.cur
 rw [List.getLast?_eq_some_getLast h]
 exact ⟨rfl,List.getLast_mem h⟩
theorem aZ.Nq {L:Ln} (h:aZ L) {c:Cf} (hc:c∈L.cs):um c.w L.t=Option.some c.cur:=by
 unfold um
 rw [List.filter_eq_self.mpr fun l hl=>decide_eq_true (h.le c hc l hl)]
 exact (Cf.hZ (h.ne c hc)).1
theorem aZ.there {L:Ln} (h:aZ L) {c:Cf} (hc:c∈L.cs) (hg:c.g=none):there c.w c.g L.t=true:=by
 obtain ⟨l,ls,e⟩:=List.exists_cons_of_ne_nil (h.ne c hc)
 have:=h.le c hc l (by rw [e];simp)
 rw [hg,e]
 unfold Ov.there
 simp only [List.head?_cons,KZ,Bool.and_true]
 rw [decide_eq_false (Rat.not_lt.mpr this)];rfl
theorem Ln.cX {L:Ln} {c:Cf}:c∈L.Ai↔c∈L.cs∧c.g=none:=by
 unfold Ln.Ai
 rw [List.mem_filter]
 cases c.g <;> simp
theorem eA (L:Ln):L.fs.map (·.1)=L.Ai.map Cf.n:=by unfold Ln.fs;rw [List.map_map];rfl
theorem aZ.C8 {L:Ln} (h:aZ L):(L.fs.map (·.1)).Nodup:=by
 rw [eA]
 unfold Ln.Ai
 exact h.nd.sublist (List.Sublist.map _ List.filter_sublist)
theorem aZ.found {L:Ln} (h:aZ L) {n:Str} (hn:n∈L.row):∃ c∈L.cs,c.n=n∧c.g=none:=by
 have:=(h.rm n).mp hn
 rw [eA,List.mem_map] at this
 obtain ⟨c,hc,e⟩:=this
 exact ⟨c,(Ln.cX.mp hc).1,e,(Ln.cX.mp hc).2⟩
theorem aZ.va {L:Ln} (h:aZ L) {c:Cf} (hc:c∈L.cs):lK (L.cs.map fun c=>(c.n,PV.ref c.a)) c.n=Option.some (.ref c.a):=by
 have e:(L.cs.map fun c=>(c.n,PV.ref c.a))=((L.cs.map fun c=>(c.n,c.a)).map fun x=>(x.1,PV.ref x.2)):=by rw [List.map_map];rfl
 rw [e]
 exact mx (f:=PV.ref) (by rw [List.map_map];exact h.nd) (List.mem_map.mpr ⟨c,hc,rfl⟩)
theorem aZ.NA {L:Ln} (h:aZ L) {n:Str}:(lK (L.cs.map fun c=>(c.n,PV.ref c.a)) n).isSome=decide (n∈L.cs.map Cf.n):=by
 have e:(L.cs.map fun c=>(c.n,PV.ref c.a))=((L.cs.map fun c=>(c.n,c.a)).map fun x=>(x.1,PV.ref x.2)):=by rw [List.map_map];rfl
 rw [e,Ad (f:=PV.ref) (by rw [List.map_map];exact h.nd)]
 rw [List.map_map];rfl
theorem aZ.uniq {L:Ln} (h:aZ L) {c c':Cf} (hc:c∈L.cs) (hc':c'∈L.cs) (e:c.n=c'.n):c=c':=by
 obtain ⟨i,hi,rfl⟩:=List.getElem_of_mem hc
 obtain ⟨j,hj,rfl⟩:=List.getElem_of_mem hc'
 have:=(List.getElem_inj (xs:=L.cs.map Cf.n) (i:=i) (j:=j) (h₀:=by simpa using hi) (h₁:=by simpa using hj) h.nd).mp (by rw [List.getElem_map,List.getElem_map];exact e)
 subst this;rfl
theorem rS (a b c:PV):([("now",a),("logs",b),("row",c)]:List (Str × PV)).lookup ("now":Str)=Option.some a:=rfl
theorem zr (a b c:PV):([("now",a),("logs",b),("row",c)]:List (Str × PV)).lookup ("logs":Str)=Option.some b:=rfl
theorem rT (a b c:PV):([("now",a),("logs",b),("row",c)]:List (Str × PV)).lookup ("row":Str)=Option.some c:=rfl
theorem gw (m:Str) (a b c:PV) (h:(m == ("now":Str))=false:=by decide +kernel) (k:(m == ("logs":Str))=false:=by decide +kernel) (l:(m == ("row":Str))=false:=by decide +kernel):([("now",a),("logs",b),("row",c)]:List (Str × PV)).lookup m=none:=by
 rw [List.lookup_cons,h];simp only;rw [List.lookup_cons,k];simp only;rw [List.lookup_cons,l];rfl
theorem Ju:(("now":Str)=("logs":Str))=False:=eq_false (by decide +kernel)
theorem FA:(("now":Str)=("row":Str))=False:=eq_false (by decide +kernel)
theorem Fz:(("logs":Str)=("row":Str))=False:=eq_false (by decide +kernel)
theorem Ek (a b c z:PV):l_ ("row":Str) z ([("now",a),("logs",b),("row",c)]:List (Str × PV))=([("now",a),("logs",b),("row",z)]:List (Str × PV)):=by simp only [l_,FA,Fz,if_false,if_true]
theorem HR {J:Hq} {a:Addr} {xs:List PV} (h:J a=Option.some (.lst xs)):Ip J (.ref a)=Option.some xs:=by unfold Ip;simp only [h]
abbrev dk:Stmt:=(L2.inClass (top 42) 0)
theorem mh:L2.aw ["self"] ["self"] (L2.ai dk):=eJ
def yy (cN cL:Addr):cT:=fun xs J Q _=>∃ p,xs=[.ref p]∧J p=some (.ins cN [])∧∀ J' d e o,a9 cN cL J' p ⟨0,d,e,o,[],[]⟩→Mv J J' (fun a=>a=p) (Ln.own ⟨0,d,e,o,[],[]⟩ p)→Q .non J'
theorem rZ {cN cL f:Addr} {fd:FuncData} (F:cq K "__init__" "Lane.__init__" dk f fd) (N:nQ K mg) (ax:dD K mg "Lane" cN) (az:aE K cN "now") (aK:aE K cN "logs") (aD:aE K cN "row"):aQ P w K mg base (dt P w) 1 f fd ["self"] (d7 K (yy cN cL)):=by
 simp_arith [mh]
 ·obtain ⟨p,rfl,_⟩:=h;rfl
 obtain ⟨p,rfl,hp,q⟩:=h
 obtain ⟨aN,gN,sN⟩:=N
 have rN:∀ (J:Hq) (H:Hp),bV K J H (fr 0) (.ref aN):=fun J H=>⟨aN,_,rfl,sN H,⟨_,_,rfl,rfl,_,_,rfl,rfl,rfl⟩⟩
 refine ⟨_,(aj (gy ax.cl az (rv 0) (e8 (v:=.ref aN) (fr 0) rfl gN rfl rN))
   (aj (gy ax.cl aK (rv 0) yf)
   (aq (gy ax.cl aD (rv 0) (oR ah))))),?_⟩
 simp_all! only [hp]
 refine ⟨by decide,?_⟩
 simp_all! only []
 intro d hd ep
 have DW:d≠p:=by intro e;subst e;rw [au] at hd;cases hd
 simp_all! only [ak (Ne.symm DW),au]
 simp only [Ju,if_false]
 refine ⟨by decide,fun o ho=>?_⟩
 have jd:J d=none:=by rw [ak DW] at hd;exact hd
 have DY:o≠p:=by intro e;subst e;rw [au] at ho;cases ho
 have nod:o≠d:=by intro e;subst e;rw [ak DY,au] at ho;cases ho
 have jo:J o=none:=by rw [ak DY,ak nod,ak DY] at ho;exact ho
 refine ⟨_,by rw [ak (Ne.symm DY)];exact au,by show (2:Nat) < 1000;decide,?_⟩
 have pr:l_ ("row":Str) (PV.ref o) ([("now",fr 0),("logs",.ref d)]:List (Str × PV))=([("now",fr 0),("logs",.ref d),("row",.ref o)]:List (Str × PV)):=by simp only [l_,FA,Fz,if_false]
 rw [pr]
 refine q _ d ep o ⟨au,by rw [ak DW,ak (Ne.symm nod),ak DW];exact au,by rw [ak DY];exact au,(by simp),(by simp),(by simp)⟩ ⟨fun a u e na=>?_,fun a ow=>?_,fun a z=>?_⟩
 ·have na1:a≠d:=fun z=>by subst z;rw [jd] at e;cases e
  have na2:a≠o:=fun z=>by subst z;rw [jo] at e;cases e
  rw [ak na,ak na2,ak na,ak na1,ak na];exact e
 ·rcases ow with rfl | rfl | rfl | ⟨c,hc,_⟩
  ·exact .inl rfl
  ·exact .inr jd
  ·exact .inr jo
  ·cases hc
 ·by_cases z1:a=p
  ·subst z1;rw [au] at z;cases z
  by_cases z2:a=o
  ·subst z2;exact jo
  by_cases z3:a=d
  ·subst z3;exact jd
  rw [ak z1,ak z2,ak z1,ak z3,ak z1] at z;exact z
abbrev bZ:Stmt:=(L2.inClass (top 42) 22)
theorem iQ:L2.aw ["self","name"] ["self","name"] (L2.ai bZ):=eJ
def lB (cN cL eC:Addr):cT:=fun xs J Q E=>∃ p L n,xs=[.ref p,.str n]∧a9 cN cL J p L∧(n∈L.row→Q .non J)∧(n ∉ L.row→E eC J)
theorem iO {cN cL eC f:Addr} {fd:FuncData} (F:cq K "must_be_there" "Lane.must_be_there" bZ f fd) (Z:cj mg) (ax:dD K mg "Lane" cN) (aD:aE K cN "row") (gG:Own K mg "NoCraft" eC):aQ P w K mg base (dt P w) 1 f fd ["self","name"] (d7 K (lB cN cL eC)):=by
 simp_arith [iQ]
 ·obtain ⟨p,L,n,rfl,_⟩:=h;rfl
 obtain ⟨p,L,n,rfl,b,q,qe⟩:=h
 have bo:=b.ob
 refine ⟨_,(aq (a7 (aF xY (rv 1) (aY ax.cl aD (rv 0)) (by with_unfolding_all rfl)) (aq (dP gG rfl cv B.kn rfl (af bJ ah))) aO)),?_⟩
 simp_all! only [bo,rT,JF,HR b.rw]
 refine ⟨L.row,rfl,?_⟩
 by_cases c:n∈L.row
 ·rw [if_pos (by simp [c])]
  exact q c
 ·rw [if_neg (by simp [c])]
  simp_all! only [fG]
  exact qe c
abbrev d8:Stmt:=(L2.inClass (top 42) 23)
theorem oX:L2.aw ["self","name"] ["self","name"] (L2.ai d8):=eJ
def lA (cN cL eC:Addr):cT:=fun xs J Q E=>∃ p L n,xs=[.ref p,.str n]∧a9 cN cL J p L∧aZ L∧(∀ c∈L.cs,c.n=n→c.g=none→Q c.cur.V J)∧(n ∉ L.row→E eC J)
theorem oF {cN cL eC eN f:Addr} {fd:FuncData} (F:cq K "leg_of" "Lane.leg_of" d8 f fd) (Z:cj mg) (ax:dD K mg "Lane" cN) (aK:aE K cN "logs") (az:aE K cN "now") (aH:c7 P w K mg base cN 1 "must_be_there" ["self","name"] (lB cN cL eC)) (il:c7 P w K mg base cL 3 "leg_at" ["self","moment"] (vb cL eN)) :
  aQ P w K mg base (dt P w) 4 f fd ["self","name"] (d7 K (lA cN cL eC)):=by
 simp_arith [oX]
 ·obtain ⟨p,L,n,rfl,_⟩:=h;rfl
 obtain ⟨p,L,n,rfl,b,ok,q,qe⟩:=h
 have bo:=b.ob
 have bd:=b.dc
 refine ⟨_,(aj (bx (bD (pl:=_) aH B hr (by decide) (rv 0) (af (rv 1) ah)))
   (aq (aI (bD (pl:=_) il B hr (by decide) (ar h_ (aY ax.cl aK (rv 0)) (rv 1) (fun _ _=>rfl)) (af (aY ax.cl az (rv 0)) ah))))),?_⟩
 simp_all! only [bo]
 refine ⟨gw _ _ _ _,p,L,n,rfl,b,fun hn=>?_,qe⟩
 obtain ⟨c,hc,rfl,hg⟩:=ok.found hn
 have lo:=(b.lg c hc).o
 simp_all! only [bo,zr,bd,ok.va hc,lo]
 refine ⟨LW _ _,?_⟩
 simp_all! only [bo,rS]
 refine ⟨c.a,c.r,c.w,c.g,L.t,rfl,b.lg c hc,ok.ne c hc,Nat.le_trans (ok.len c hc) (by decide),ok.F7,fun l hl=>(ok.ck c hc l hl).Jr,fun q' hq=>(xU (ok.gz c hc q' hq).1).mono (by decide),fun _ l hl=>?_,fun z=>?_⟩
 ·rw [ok.Nq hc] at hl;cases hl
  exact q c hc rfl hg
 ·rw [ok.there hc hg] at z;cases z
abbrev di:Stmt:=(L2.inClass (top 42) 24)
theorem oY:L2.aw ["self"] ["self"] (L2.ai di):=eJ
theorem BS {L:Ln} (ok:aZ L) {f:Str→aU} (hf:∀ c∈L.cs,c.g=none→f c.n=c.cur):cn L.t (L.row.map fun n=>(n,f n))=cn L.t L.fs:=by
 refine BR (by rw [List.map_map];show (L.row.map fun n=>n).Nodup;rw [List.map_id'];exact ok.rn) ok.C8 fun x=>?_
 rw [List.mem_map,List.mem_map]
 constructor
 ·rintro ⟨y,hy,rfl⟩
  obtain ⟨n,hn,rfl⟩:=List.mem_map.mp hy
  obtain ⟨c,hc,rfl,hg⟩:=ok.found hn
  exact ⟨(c.n,c.cur),List.mem_map.mpr ⟨c,Ln.cX.mpr ⟨hc,hg⟩,rfl⟩,by rw [hf c hc hg]⟩
 ·rintro ⟨y,hy,rfl⟩
  obtain ⟨c,hc,rfl⟩:=List.mem_map.mp hy
  obtain ⟨hc,hg⟩:=Ln.cX.mp hc
  refine ⟨(c.n,f c.n),List.mem_map.mpr ⟨c.n,(ok.rm c.n).mpr ?_,rfl⟩,by rw [hf c hc hg]⟩
  rw [eA];exact List.mem_map.mpr ⟨c,Ln.cX.mpr ⟨hc,hg⟩,rfl⟩
def Ln.jV (L:Ln) (n:Str):aU:=((L.cs.find? fun c=>decide (c.n=n)).map Cf.cur).getD ⟨0,0,0⟩
theorem aZ.jV {L:Ln} (ok:aZ L) {c:Cf} (hc:c∈L.cs):L.jV c.n=c.cur:=by
 unfold Ln.jV
 cases h:L.cs.find? fun d=>decide (d.n=c.n) with
 | none=>have:=List.find?_eq_none.mp h c hc;simp at this
 | some d =>
  have h1:=List.mem_of_find?_eq_some h
  have h2:d.n=c.n:=by simpa using List.find?_some h
  rw [ok.uniq h1 hc h2];rfl
def gW (cN cL:Addr):cT:=fun xs J Q E=>∃ p L,xs=[.ref p]∧a9 cN cL J p L∧aZ L∧∀ J' o',a9 cN cL J' p { L with o:=o',row:=cn L.t L.fs }→Mv J J' (L.own p) (Ln.own { L with o:=o',row:=cn L.t L.fs } p)→Q .non J'
theorem oG {cN cL eC f:Addr} {fd:FuncData} (F:cq K "settle" "Lane.settle" di f fd) (Z:cj mg) (ax:dD K mg "Lane" cN) (aD:aE K cN "row") (az:aE K cN "now") (bA:c7 P w K mg base cN 4 "leg_of" ["self","name"] (lA cN cL eC)) (vB:bG P w K mg base 6 "in_order" ["legs","moment"] qN) :
  aQ P w K mg base (dt P w) 7 f fd ["self"] (d7 K (gW cN cL)):=by
 simp_arith [oY]
 ·obtain ⟨p,L,rfl,_⟩:=h;rfl
 obtain ⟨p,L,rfl,b,ok,q⟩:=h
 have bo:=b.ob
 have br:=b.rw
 refine ⟨_,(aq (gy ax.cl aD (rv 0) (a8 vB B hr (by decide) rfl (af (Kj (L2.ai di) ["self"] [("self",0)] rfl rfl rfl (fQ (aY ax.cl aD (rv 0))) (fun _ _ _ _ _ _=>(rv 0)) (fun _ _ _ _ _ _=>(bD (pl:=_) bA IQ hr (by decide) (rv 1) (af (rv 0) ah)))) (af (aY ax.cl az (rv 0)) ah))))),?_⟩
 simp_all! only [Mj,bo,rT,br]
 intro D hD ep
 have bf:∀ e2 kvs,a9 cN cL (put J D (.dct kvs e2)) p L:=fun e2 kvs=>b.fresh hD
 have hrl:=ok.rl
 refine ⟨fun i J2=>∃ e2,J2=put J D (.dct (b9 ((L.row.take i).map fun n=>(n,L.jV n))) e2),⟨ep,rfl⟩,?_,?_,?_⟩
 ·rintro i J2 ⟨e2,rfl⟩;exact (bf e2 _).rw
 ·rintro i x J2 hx ⟨e2,rfl⟩
  have hi:i < L.row.length:=by have:=(List.getElem?_eq_some_iff.mp hx).1;simpa using this
  rw [List.getElem?_map,List.getElem?_eq_getElem hi] at hx
  cases hx
  have hn:L.row[i]∈L.row:=List.getElem_mem hi
  refine ⟨_,(bf e2 _).ob,gw _ _ _ _,p,L,L.row[i],rfl,bf e2 _,ok,fun c hc e hg=>?_,fun z=>absurd hn z⟩
  refine ⟨_,e2,L.row[i],rfl,au,a_ (by simp only [b9,List.length_map,List.length_take];omega),fun ep'=>⟨ep',?_⟩⟩
  rw [eZ]
  congr 2
  have et:L.row.take (i + 1)=L.row.take i ++ [L.row[i]]:=by rw [List.take_add_one,List.getElem?_eq_getElem hi];rfl
  rw [et,List.map_append,List.map_cons,List.map_nil,← e,ok.jV hc]
  refine wM (f:=aU.V) (l:=c.cur) fun z=>?_
  rw [List.map_map] at z
  obtain ⟨m,hm,e3⟩:=List.mem_map.mp z
  have hnd:(L.row.take (i + 1)).Nodup:=ok.rn.sublist (List.take_sublist _ _)
  rw [et] at hnd
  exact (ip hnd).2 (by rw [← e,← e3];exact hm)
 ·rintro J2 ⟨e2,rfl⟩
  rw [List.length_map,List.take_length]
  refine ⟨_,(bf e2 _).ob,_,rS _ _ _,D,_,e2,L.t,rfl,au,?_,by rw [List.length_map];omega,ok.F7,?_,fun o' ho'=>?_⟩
  ·rw [List.map_map];show (L.row.map fun n=>n).Nodup;rw [List.map_id'];exact ok.rn
  ·intro x hx
   obtain ⟨n,hn,rfl⟩:=List.mem_map.mp hx
   obtain ⟨c,hc,rfl,hg⟩:=ok.found hn
   show qd 900 (L.jV c.n)
   rw [ok.jV hc]
   exact (ok.ck c hc _ (Cf.hZ (ok.ne c hc)).2).Jr
  ·rw [BS ok fun c hc _=>ok.jV hc]
   have b2:a9 cN cL (put (put J D (.dct (b9 (L.row.map fun n=>(n,L.jV n))) e2)) o' (.lst ((cn L.t L.fs).map .str))) p L:=(bf e2 _).fresh ho'
   have jo:J o'=none:=by
    by_cases z:o'=D
    ·subst z;exact hD
    ·rw [ak z] at ho';exact ho'
   refine ⟨_,b2.ob,by show (3:Nat) < 1000;decide,?_⟩
   rw [Ek]
   refine q _ o' (b2.HK au fun c hc e=>?_) ?_
   ·have:=(b.lg c hc).l;rw [e,jo] at this;cases this
   ·refine ((Mv.new hD).trans (Mv.zB ho')).trans (fC (.inl (.inl rfl)) fun a ow=>.inl ?_)
    rcases ow with h | h | h | h
    ·exact .inl (.inl h)
    ·exact .inl (.inr (.inl h))
    ·exact .inr h
    ·exact .inl (.inr (.inr (.inr h)))
abbrev fZ:Stmt:=(top 33)
theorem tj:L2.aw ["text"] ["text"] (L2.ai fZ):=eJ
def b7:Str:="abcdefghijklmnopqrstuvwxyz0123456789"
def good (y:Str):Bool:=decide (1≤y.cps.size) && decide (y.cps.size≤8) && y.cps.toList.all (dw b7)
def CA (T:Addr):Sp:=fun vs H Q _=>∃ y:Str,vs=[.str y]∧y.length≤sizeLine∧H T=some (.ext (dG T))∧Q (.bl (good y)) H
theorem sh {T f c:Addr} {fd:FuncData} (F:Df K mg "good_name" fZ T f fd c) (Z:Ae mg) (Bm:BMain mg base) {jU nI:Tok} (gM:mg "LONGEST"=some (.int 8 jU)) (kR:mg "SIGNS"=some (.str "abcdefghijklmnopqrstuvwxyz0123456789" nI)) :
  aQ P w K mg base nK 1 f fd ["text"] (CA T):=by
 refine Nu F tj (fun vs H Q E h=>?_) (fun A outer s H vs Q E hr h=>?_)
 ·obtain ⟨y,rfl,_⟩:=h
  rfl
 obtain ⟨y,rfl,hz,hT,q⟩:=h
 refine ⟨_,(aW (k7 (FJ (x9 (cY xX (dg kM rfl Z.len boot_len (aR (pv 0) bB)) aJ (ay _)) (sH (cY FE (dg kM rfl Z.len boot_len (aR (pv 0) bB)) (m9 (v:=.int 8) rfl gM ⟨_,rfl⟩) (ay _))))) (bC (c9 uJ)) eY)
   (bC (c9 (BW rfl Bm rfl F.tab hr rfl Z.all kR (pv 0))))),?_⟩
 have el:y.cps.size=y.length:=rfl
 refine ⟨_,rfl,y,rfl,hz,_,_,rfl,rfl,_,rfl,Bg (fun e=>?_) (fun e=>⟨_,rfl,y,rfl,hz,_,_,rfl,rfl,_,rfl,Bg (fun e2=>?_) (fun e2=>?_)⟩)⟩
 ·have e:(y.length:Int) < 1:=of_decide_eq_true e
  have z:good y=false:=by
   unfold good
   rw [decide_eq_false (show ¬ 1≤y.cps.size by omega)]
   rfl
  show Q (.bl false) H
  rw [← z]
  exact q
 ·have e2:(8:Int) < (y.length:Int):=of_decide_eq_true e2
  have z:good y=false:=by
   unfold good
   rw [decide_eq_false (show ¬ y.cps.size≤8 by omega),Bool.and_false]
   rfl
  show Q (.bl false) H
  rw [← z]
  exact q
 ·have e:¬ (y.length:Int) < 1:=of_decide_eq_false (Bool.eq_false_iff.mpr e)
  have e2:¬ (8:Int) < (y.length:Int):=of_decide_eq_false (Bool.eq_false_iff.mpr e2)
  have z:good y=y.cps.toList.all (dw b7):=by
   unfold good
   rw [decide_eq_true (show 1≤y.cps.size by omega),decide_eq_true (show y.cps.size≤8 by omega)]
   rfl
  refine ⟨_,rfl,y,rfl,hT,?_⟩
  show Q (.bl (y.cps.toList.all (dw b7))) H
  rw [← z]
  exact q
def yt (T:Addr):cT:=fun xs J Q _=>∃ y:Str,xs=[.str y]∧y.length≤sizeLine∧J T=some .tab∧Q (.bl (good y)) J
theorem oz {T:Addr} (C:pq P w K mg base 1 "good_name" ["text"] (CA T)):bG P w K mg base 1 "good_name" ["text"] (yt T):=C.lift fun xs J vs H Q2 E2 Q E rs r ⟨y,ex,hl,hT,q⟩ kn=>by
 subst ex
 obtain ⟨v,rfl,r1⟩:=Hd rs
 cases r1
 exact ⟨y,rfl,hl,r _ _ hT,kn (.bl _) J _ H rfl r .refl q⟩
theorem xF (L:Ln) {L':Ln} {c:Cf} (h:L'.cs=L.cs ++ [c]) (hg:c.g=none):L'.fs=L.fs ++ [(c.n,c.cur)]:=by
 unfold Ln.fs Ln.Ai
 rw [h,List.filter_append,List.map_append]
 simp [hg]
def Ln.joined (L:Ln) (n:Str) (x v:Int) (L':Ln):Prop:=∃ a r,L'.cs=L.cs ++ [⟨n,a,r,[⟨L.t,(x:Rat),v⟩],none⟩]∧L'.t=L.t
def Ih (x v:Int):Prop:=x.natAbs≤1000000∧v.natAbs≤1000
def yz (cN cL T eB eF eT eU:Addr):cT:=fun xs J Q E=>∃ p L n x v,xs=[.ref p,.str n,.int x,.int v]∧a9 cN cL J p L∧b_ L∧J T=some .tab∧n.length≤sizeLine∧L.cs.length < 100∧(good n=false→E eB J)∧(good n=true→¬ Ih x v→E eF J) ∧
 (good n=true→Ih x v→n∈L.cs.map Cf.n→E eT J)∧(good n=true→Ih x v→n ∉ L.cs.map Cf.n→12≤L.row.length→E eU J) ∧
 (good n=true→Ih x v→n ∉ L.cs.map Cf.n→L.row.length < 12→∀ J' L',a9 cN cL J' p L'→b_ L'→L.joined n x v L'→Mv J J' (L.own p) (L'.own p)→Q .non J')
abbrev fT:Stmt:=(L2.inClass (top 42) 1)
theorem sX:L2.aw ["self","name","place","pace"] ["self","name","place","pace"] (L2.ai fT):=eJ
theorem a9.add {cN cL:Addr} {J:Hq} {p:Addr} {L:Ln} {c:Cf} {ep:Nat} (h:a9 cN cL J p L) (hc:Dh cL J c.a c.r c.w c.g) (h1:c.r ∉ L.cs.map Cf.r) (h2:c.r≠L.o) :
  a9 cN cL (put (put J L.d (.dct ((L.cs ++ [c]).map fun c=>(c.n,PV.ref c.a)) ep)) L.o (.lst ((L.row ++ [c.n]).map .str))) p ⟨L.t,L.d,ep,L.o,L.cs ++ [c],L.row ++ [c.n]⟩:=by
 have n1:c.a≠L.d:=by intro e;have:=h.dc;rw [← e,hc.o] at this;cases this
 have n2:c.a≠L.o:=by intro e;have:=h.rw;rw [← e,hc.o] at this;cases this
 have n3:c.r≠L.d:=by intro e;have:=h.dc;rw [← e,hc.l] at this;cases this
 refine ⟨?_,?_,au,fun x hx=>?_,?_,fun x hx=>?_⟩
 ·rw [ak (Ne.symm h.DY),ak (Ne.symm h.DW)];exact h.ob
 ·show put (put J L.d _) L.o _ L.d=_
  rw [ak h.L5];exact au
 ·rcases List.mem_append.mp hx with hx | hx
  ·exact ⟨by rw [ak (h.L4 hx),ak (h.MX hx)];exact (h.lg x hx).o,by rw [ak (h.ao x hx),ak (h.MY hx)];exact (h.lg x hx).l⟩
  ·rw [List.mem_singleton] at hx;subst hx
   exact ⟨by rw [ak n2,ak n1];exact hc.o,by rw [ak h2,ak n3];exact hc.l⟩
 ·show ((L.cs ++ [c]).map Cf.r).Nodup
  rw [List.map_append,List.map_cons,List.map_nil,List.nodup_append]
  exact ⟨h.ap,by simp,fun x hx y hy e=>by rw [List.mem_singleton] at hy;subst hy;subst e;exact h1 hx⟩
 ·show x.r≠L.o
  rcases List.mem_append.mp hx with hx | hx
  ·exact h.ao x hx
  ·rw [List.mem_singleton] at hx;subst hx;exact h2
theorem aZ.add {L:Ln} (h:aZ L) {c:Cf} {l:aU} {ep:Nat} (hw:c.w=[l]) (hg:c.g=none) (hl:pA l) (hm:l.m=L.t) (hn:c.n ∉ L.cs.map Cf.n) (hr:L.row.length < 12) (hs:L.cs.length < 100):aZ ⟨L.t,L.d,ep,L.o,L.cs ++ [c],L.row ++ [c.n]⟩:=by
 have hf:Ln.fs ⟨L.t,L.d,ep,L.o,L.cs ++ [c],L.row ++ [c.n]⟩=L.fs ++ [(c.n,c.cur)]:=xF L rfl hg
 have all:∀ {P:Cf→Prop},(∀ x∈L.cs,P x)→P c→∀ x∈L.cs ++ [c],P x:=fun h1 h2 x hx=>by
  rcases List.mem_append.mp hx with hx | hx
  ·exact h1 x hx
  ·rw [List.mem_singleton] at hx;subst hx;exact h2
 refine ⟨?_,all h.ne (by rw [hw];simp),all h.le (by rw [hw];simp [hm]),all h.ck (by rw [hw];simpa using hl),all h.len (by rw [hw];show (1:Nat)≤200;decide),all h.gz (by rw [hg];intro q e;cases e),h.t0,h.ts,by show (L.cs ++ [c]).length≤100;rw [List.length_append];simp;omega,fun n=>?_,?_,by show (L.row ++ [c.n]).length≤12;rw [List.length_append];simp;omega⟩
 ·show ((L.cs ++ [c]).map Cf.n).Nodup
  rw [List.map_append,List.map_cons,List.map_nil,List.nodup_append]
  exact ⟨h.nd,by simp,fun x hx y hy e=>by rw [List.mem_singleton] at hy;subst hy;subst e;exact hn hx⟩
 ·rw [hf,List.map_append,List.mem_append,List.mem_append,h.rm n];simp
 ·show (L.row ++ [c.n]).Nodup
  rw [List.nodup_append]
  refine ⟨h.rn,by simp,fun x hx y hy e=>?_⟩
  rw [List.mem_singleton] at hy
  rw [e,hy] at hx
  have:=(h.rm _).mp hx
  rw [eA,List.mem_map] at this
  obtain ⟨d,hd,e⟩:=this
  exact hn (List.mem_map.mpr ⟨d,(Ln.cX.mp hd).1,e⟩)
theorem b_.settled {L:Ln} (h:aZ L) (o':Addr):b_ { L with o:=o',row:=cn L.t L.fs }:=by
 have hl:(cn L.t L.fs).length≤12:=by
  have h1:(cn L.t L.fs).Perm L.row:=(List.perm_ext_iff_of_nodup (oI h.C8) h.rn).mpr fun n=>by rw [uI];exact (h.rm n).symm
  rw [h1.length_eq];exact h.rl
 exact ⟨⟨h.nd,h.ne,h.le,h.ck,h.len,h.gz,h.t0,h.ts,h.many,fun n=>uI,oI h.C8,hl⟩,rfl⟩
theorem r8 {cN cL T eB eF eT eU f:Addr} {fd:FuncData} (F:cq K "join" "Lane.join" fT f fd) (Z:cj mg) (ax:dD K mg "Lane" cN) (aD:aE K cN "row") (az:aE K cN "now") (aK:aE K cN "logs") {iE fk tL:Tok} (fz:mg "FARTHEST"=some (.int 1000000 iE)) (dz:mg "FASTEST"=some (.int 1000 fk)) (og:mg "MOST"=some (.int 12 tL))
  (gF:Own K mg "BadName" eB) (eh:Own K mg "TooFar" eF) (kG:Own K mg "Taken" eT) (nR:Own K mg "Full" eU) (iS:bG P w K mg base 1 "good_name" ["text"] (yt T)) (As:yU P w K mg base cL 1 "Log" ["self","moment","place","pace"] (yu cL)) (bc:c7 P w K mg base cN 7 "settle" ["self"] (gW cN cL)) :
  aQ P w K mg base (dt P w) 8 f fd ["self","name","place","pace"] (d7 K (yz cN cL T eB eF eT eU)):=by
 simp_arith [sX]
 ·obtain ⟨p,L,n,x,v,rfl,_⟩:=h;rfl
 obtain ⟨p,L,n,x,v,rfl,b,ok,hT,hnl,hcs,qb,qf,qt,qu,q⟩:=h
 have bo:=b.ob
 have bd:=b.dc
 have br:=b.rw
 refine ⟨_,(aj (a7 (c_ (bX (a8 iS B hr (by decide) rfl (af (rv 1) ah)))) (aq (dP gF rfl cv B.kn rfl (af bJ ah))) aO)
   (aj (a7 (dh (fR (aF mD (aP vW rfl Z.abs boot_abs (af (rv 2) ah)) (e8 (v:=.int 1000000) (.int 1000000) rfl fz ⟨_,rfl⟩ (fun _ _=>rfl)) (L2.ay _)) (eS (aF mD (aP vW rfl Z.abs boot_abs (af (rv 3) ah)) (e8 (v:=.int 1000) (.int 1000) rfl dz ⟨_,rfl⟩ (fun _ _=>rfl)) (L2.ay _))))) (aq (dP eh rfl cv B.kn rfl (af bJ ah))) aO)
   (aj (a7 (aF Hj (rv 1) (aY ax.cl aK (rv 0)) (by with_unfolding_all rfl)) (aq (dP kG rfl cv B.kn rfl (af bJ ah))) aO)
   (aj (a7 (aF BL (aP bW rfl Z.len boot_len (af (aY ax.cl aD (rv 0)) ah)) (e8 (v:=.int 12) (.int 12) rfl og ⟨_,rfl⟩ (fun _ _=>rfl)) (L2.ay _)) (aq (dP nR rfl cv B.kn rfl (af bJ ah))) aO)
   (aj (oT nG (aY ax.cl aK (rv 0)) (rv 1) (EE As B hr (by decide) rfl (af (aY ax.cl az (rv 0)) (af (cA (af (rv 2) (af ag ah))) (af (rv 3) ah)))))
   (aj (bx (mH PySem.F.plainAttrs_list PySem.F.slot_list_append PySem.F.type_list_append lZ (aY ax.cl aD (rv 0)) (af (rv 1) ah)))
   (aq (bx (gU (pl:=_) bc B hr (by decide) (rv 0)))))))))),?_⟩
 simp_all! only []
 refine ⟨n,rfl,hnl,hT,?_⟩
 cases hg:good n with
 | false =>
  simp_all! only [fG]
  exact qb hg
 | true =>
 simp_all! only []
 by_cases hB:Ih x v
 ·obtain ⟨hx,hv⟩:=id hB
  rw [if_neg (by split <;> omega),if_neg (by split <;> omega)]
  simp_all! only [bo,zr,bd,ok.NA]
  by_cases hm:n∈L.cs.map Cf.n
  ·rw [if_pos hm]
   simp_all! only [fG]
   exact qt hg hB hm
  rw [if_neg hm]
  simp_all! only [bo,rT,br,List.length_map]
  by_cases hr12:12≤L.row.length
  ·rw [if_pos (by omega)]
   simp_all! only [fG]
   exact qu hg hB hm hr12
  rw [if_neg (by omega)]
  simp_all! only [bo,rS]
  intro a ha
  refine ⟨a,⟨L.t,(x:Rat),v⟩,rfl,au,fun r hr'=>?_⟩
  have nra:r≠a:=by intro e;subst e;rw [au] at hr';cases hr'
  have jr:J r=none:=by rw [ak nra] at hr';exact hr'
  have b1:a9 cN cL (put (put (put J a (.ins cL [])) r (.lst [(aU.mk L.t (x:Rat) v).V])) a (.ins cL [("rows",.ref r),("gone",.non)])) p L:=b.keep fun c u ow e=>by
   have n1:c≠a:=fun z=>by subst z;rw [ha] at e;cases e
   have n2:c≠r:=fun z=>by subst z;rw [jr] at e;cases e
   rw [ak n1,ak n2,ak n1];exact e
  have l1:Dh cL (put (put (put J a (.ins cL [])) r (.lst [(aU.mk L.t (x:Rat) v).V])) a (.ins cL [("rows",.ref r),("gone",.non)])) a r [⟨L.t,(x:Rat),v⟩] none:=⟨au,by rw [ak nra];exact au⟩
  have mv1:Mv J (put (put (put J a (.ins cL [])) r (.lst [(aU.mk L.t (x:Rat) v).V])) a (.ins cL [("rows",.ref r),("gone",.non)])) (L.own p) (fun c=>(L.own p c∨c=a)∨c=r) :=
   ((Mv.zB ha).trans (Mv.zB hr')).trans (fC (.inl (.inr rfl)) fun c h=>.inl h)
  generalize (put (put (put J a (.ins cL [])) r (.lst [(aU.mk L.t (x:Rat) v).V])) a (.ins cL [("rows",.ref r),("gone",.non)]))=J1 at b1 l1 mv1 ⊢
  have bo1:=b1.ob
  have bd1:=b1.dc
  simp_all! only [bo1,zr,bd1]
  refine ⟨a_ (by rw [List.length_map];omega),fun ep'=>?_⟩
  have epu:sF (L.cs.map fun c=>(c.n,PV.ref c.a)) n (PV.ref a)=(L.cs ++ [Cf.mk n a r [⟨L.t,(x:Rat),v⟩] none]).map fun c=>(c.n,PV.ref c.a):=by
   have e:(L.cs.map fun c=>(c.n,PV.ref c.a))=((L.cs.map fun c=>(c.n,c.a)).map fun x=>(x.1,PV.ref x.2)):=by rw [List.map_map];rfl
   rw [e,wM (f:=PV.ref) (l:=a) (by rw [List.map_map];exact hm),List.map_append,List.map_append,List.map_map];rfl
  rw [epu]
  have hrs:r ∉ L.cs.map Cf.r:=fun h=>by
   obtain ⟨c,hc,e⟩:=List.mem_map.mp h
   have:=(b.lg c hc).l;rw [e,jr] at this;cases this
  have hro:r≠L.o:=fun e=>by have:=b.rw;rw [← e,jr] at this;cases this
  have b2:=b1.add (c:=Cf.mk n a r [⟨L.t,(x:Rat),v⟩] none) (ep:=ep') l1 hrs hro
  have ok2:aZ ⟨L.t,L.d,ep',L.o,L.cs ++ [Cf.mk n a r [⟨L.t,(x:Rat),v⟩] none],L.row ++ [n]⟩:=ok.toaZ.add (c:=Cf.mk n a r [⟨L.t,(x:Rat),v⟩] none) rfl rfl (pA.new ok.t0 ok.ts hx hv) rfl hm (by omega) hcs
  have bo2:(put J1 L.d (HQ.dct ((L.cs ++ [Cf.mk n a r [⟨L.t,(x:Rat),v⟩] none]).map fun c=>(c.n,PV.ref c.a)) ep')) p=some (.ins cN [("now",fr L.t),("logs",.ref L.d),("row",.ref L.o)]):=by rw [ak (Ne.symm b1.DW)];exact b1.ob
  have br2:(put J1 L.d (HQ.dct ((L.cs ++ [Cf.mk n a r [⟨L.t,(x:Rat),v⟩] none]).map fun c=>(c.n,PV.ref c.a)) ep')) L.o=some (.lst (L.row.map .str)):=by rw [ak (Ne.symm b1.L5)];exact b1.rw
  have mv2:Mv J1 (put (put J1 L.d (HQ.dct ((L.cs ++ [Cf.mk n a r [⟨L.t,(x:Rat),v⟩] none]).map fun c=>(c.n,PV.ref c.a)) ep')) L.o (.lst ((L.row ++ [n]).map .str))) (fun c=>(L.own p c∨c=a)∨c=r) (Ln.own ⟨L.t,L.d,ep',L.o,L.cs ++ [Cf.mk n a r [⟨L.t,(x:Rat),v⟩] none],L.row ++ [n]⟩ p):=by
   refine (fC (S':=fun c=>(L.own p c∨c=a)∨c=r) (.inl (.inl (.inr (.inl rfl)))) fun c h=>.inl h).trans (fC (.inl (.inl (.inr (.inr (.inl rfl))))) fun c h=>.inl ?_)
   rcases h with h | h | h | ⟨d,hd,h⟩
   ·exact .inl (.inl (.inl h))
   ·exact .inl (.inl (.inr (.inl h)))
   ·exact .inl (.inl (.inr (.inr (.inl h))))
   ·rcases List.mem_append.mp hd with hd | hd
    ·exact .inl (.inl (.inr (.inr (.inr ⟨d,hd,h⟩))))
    ·rw [List.mem_singleton] at hd;subst hd
     rcases h with h | h
     ·exact .inl (.inr h)
     ·exact .inr h
  have mv3:=mv1.trans mv2
  simp_all! only [bo2,rT,br2]
  refine ⟨a_ (by rw [List.length_map];omega),?_⟩
  rw [show L.row.map PV.str ++ [PV.str n]=(L.row ++ [n]).map .str by rw [List.map_append];rfl]
  have bo3:=b2.ob
  generalize (put (put J1 L.d (HQ.dct ((L.cs ++ [Cf.mk n a r [⟨L.t,(x:Rat),v⟩] none]).map fun c=>(c.n,PV.ref c.a)) ep')) L.o (.lst ((L.row ++ [n]).map .str)))=J2 at b2 mv3 bo3 ⊢
  simp_all! only [bo3]
  refine ⟨gw _ _ _ _,p,_,rfl,b2,ok2,fun J' o' b' mv'=>?_⟩
  exact q hg hB hm (by omega) J' _ b' (b_.settled ok2 o') ⟨a,r,rfl,rfl⟩ (mv3.trans mv')
 ·have hf:=qf hg hB
  by_cases h1:x.natAbs≤1000000
  ·have h2:¬ v.natAbs≤1000:=fun h=>hB ⟨h1,h⟩
   rw [if_neg (by split <;> omega),if_pos (by split <;> omega)]
   simp_all! only [fG]
   exact hf
  ·rw [if_pos (by split <;> omega)]
   simp_all! only [fG]
   exact hf
abbrev fU:Stmt:=(L2.inClass (top 42) 10)
theorem sY:L2.aw ["self","name"] ["self","name"] (L2.ai fU):=eJ
def tH (cN cL eC:Addr):cT:=fun xs J Q E=>∃ p L n,xs=[.ref p,.str n]∧a9 cN cL J p L∧(∀ j:Nat,L.row[j]?=some n→(∀ m:Nat,m < j→L.row[m]?≠some n)→Q (.int j) J)∧(n ∉ L.row→E eC J)
theorem ub {α:Type} [DecidableEq α]:∀ {l:List α} {x:α},x∈l→∃ j:Nat,l[j]?=some x∧∀ m:Nat,m < j→l[m]?≠some x
 | y :: l,x,h=>by
  by_cases e:y=x
  ·exact ⟨0,by rw [e];rfl,fun m hm=>by omega⟩
  ·rcases List.mem_cons.mp h with h | h
   ·exact absurd h.symm e
   ·obtain ⟨j,h1,h2⟩:=ub h
    refine ⟨j + 1,h1,fun m hm=>?_⟩
    cases m with
    | zero=>intro z;exact e (Option.some.inj z)
    | succ m=>exact h2 m (by omega)
theorem r_ {cN cL eC f:Addr} {fd:FuncData} (F:cq K "rank" "Lane.rank" fU f fd) (Z:cj mg) (ax:dD K mg "Lane" cN) (aD:aE K cN "row") (aH:c7 P w K mg base cN 1 "must_be_there" ["self","name"] (lB cN cL eC)):aQ P w K mg base (dt P w) 2 f fd ["self","name"] (d7 K (tH cN cL eC)):=by
 simp_arith [sY]
 ·obtain ⟨p,L,n,rfl,_⟩:=h;rfl
 obtain ⟨p,L,n,rfl,b,q,qe⟩:=h
 have bo:=b.ob
 have br:=b.rw
 refine ⟨_,(aj (bx (bD (pl:=_) aH B hr (by decide) (rv 0) (af (rv 1) ah)))
   (aq (aI (mH PySem.F.plainAttrs_list PySem.F.slot_list_index PySem.F.type_list_index Bx (aY ax.cl aD (rv 0)) (af (rv 1) ah))))),?_⟩
 simp_all! only [bo]
 refine ⟨gw _ _ _ _,p,L,n,rfl,b,fun hn=>?_,qe⟩
 obtain ⟨j,h1,h2⟩:=ub hn
 simp_all! only [bo,br,rT]
 exact ⟨L.row,rfl,j,h1,h2,q j h1 h2⟩
def aB.v (b:aB):PV:=.tup [fr b.m,.str b.h,.str b.f]
theorem qA (J:Hq) (b:aB):eO J b.v (.int 0)=some (fr b.m):=de _ _
theorem qB (J:Hq) (b:aB):eO J b.v (.int 1)=some (.str b.h):=eV _ _ _
theorem qC (J:Hq) (b:aB):eO J b.v (.int 2)=some (.str b.f):=kJ _ _ _ _
theorem KL (J:Hq) (b:aB):Ab J b.v=some "tuple":=rfl
theorem Fu (J:Hq) (b:aB):uo J b.v=some 3:=rfl
theorem FI (b:aB):l9 b.v=true:=by simp [aB.v,Et,zR,B6,wN,x8]
theorem Lm (b:aB):Gy b.v=True:=eq_true ⟨FI b,by simp [aB.v,fr,gS,jt,dep,dU]⟩
theorem Lp (a b:aB):eqQ a.v b.v=decide (a=b):=by
 unfold aB.v
 rw [rE,df,df,df,m4,ua,eq_str,eq_str,Bool.and_true,← Bool.decide_and,← Bool.decide_and]
 apply decide_eq_decide.mpr
 cases a;cases b
 simp [aB.mk.injEq]
theorem KJ (a:Rat) (h f:Str):PV.tup [fr a,.str h,.str f]=(aB.mk a h f).v:=rfl
theorem AH (J:Hq) (b:aB):∃ xs,b.v=.tup xs∧¬ (HT.dB xs.length 0 (some 1)=0∧HT.dB xs.length xs.length none=xs.length)∧mP xs (some 1) none=[b.h,b.f].map .str:=⟨_,rfl,fun h=>absurd h.1 (show HT.dB 3 0 (some 1)≠0 by decide),rfl⟩
abbrev ed:Stmt:=(top 21)
theorem oZ:L2.aw ["one","other"] ["one","other"] (L2.ai ed):=eJ
def tF:cT:=fun xs J Q _=>∃ a b:aB,xs=[a.v,b.v]∧Sz 9000 a.m∧Sz 9000 b.m∧Q (.bl (a.lt b)) J
theorem LM (a b c d:Str):j9 [a,b] [c,d]=if a=c then decide (slt b d) else decide (slt a c):=by
 rw [lY]
 by_cases h:a=c
 ·rw [if_pos h,if_pos h,lY]
  by_cases k:b=d
  ·rw [if_pos k,kX];subst k;exact (decide_eq_false (by unfold slt;exact List.lt_irrefl _)).symm
  ·rw [if_neg k];rfl
 ·rw [if_neg h,if_neg h];rfl
theorem mT {f:Addr} {fd:FuncData} (F:cq K "rings_ahead" "rings_ahead" ed f fd) (Z:cj mg) (dn:bG P w K mg base 1 "less" ["one","two"] c6):aQ P w K mg base (dt P w) 2 f fd ["one","other"] (d7 K tF):=by
 simp_arith [oZ]
 ·obtain ⟨a,b,rfl,_⟩:=h;rfl
 obtain ⟨a,b,rfl,sa,sb,q⟩:=h
 refine ⟨_,(aj (a7 (aF (mE hr.aS) (ar av (rv 0) ag (fun _ _=>rfl)) (ar av (rv 1) ag (fun _ _=>rfl)) (L2.ay _)) (aq (aI (a8 dn B hr (by decide) rfl (af (ar av (rv 0) ag (fun _ _=>rfl)) (af (ar av (rv 1) ag (fun _ _=>rfl)) ah))))) aO)
   (aq (aI (gx (D8 hr.H_) (k9 w9 (rv 0) (nq ag) nj) (k9 w9 (rv 1) (nq ag) nj) (L2.ay _))))),?_⟩
 simp_arith! only [cb,qA,qB,qC,c6,FK]
 unfold aB.lt at q
 by_cases e:a.m=b.m
 ·rw [if_pos e] at q ⊢
  obtain ⟨xs,h1,h2,h3⟩:=AH J a
  obtain ⟨ys,h4,h5,h6⟩:=AH J b
  exact ⟨xs,h1,h2,ys,h4,h5,[a.h,a.f],h3,[b.h,b.f],h6,by rw [LM];exact q⟩
 ·rw [if_neg e] at q ⊢
  exact ⟨sa,sb,q⟩
theorem Jo (v:PV):([("rows",v)]:List (Str × PV)).lookup ("rows":Str)=some v:=rfl
theorem G4 {m:Str} (v:PV) (h:(m == ("rows":Str))=false):([("rows",v)]:List (Str × PV)).lookup m=none:=by rw [List.lookup_cons,h];rfl
theorem LN (v:PV):([("rows",v)]:List (Str × PV)).lookup ("drop":Str)=none:=G4 v (by decide +kernel)
theorem LP (v:PV):([("rows",v)]:List (Str × PV)).lookup ("put":Str)=none:=G4 v (by decide +kernel)
theorem LQ (v:PV):([("rows",v)]:List (Str × PV)).lookup ("told":Str)=none:=G4 v (by decide +kernel)
theorem Eu {J:Hq} {r p:Addr} {a b c:HQ} (h:r≠p):put (put (put J r a) p b) r c=put (put J r c) p b:=by
 rw [B7 (Ne.symm h),eZ]
structure F9 (cB:Addr) (J:Hq) (p r:Addr) (rows:List aB):Prop where
 o:J p=some (.ins cB [("rows",.ref r)])
 l:J r=some (.lst (rows.map aB.v))
abbrev cZ:Stmt:=(L2.inClass (top 22) 0)
theorem lp:L2.aw ["self"] ["self"] (L2.ai cZ):=eJ
def yn (cB:Addr):cT:=fun xs J Q _=>∃ p,xs=[.ref p]∧J p=some (.ins cB [])∧∀ r,J r=none→Q .non (put (put J r (.lst [])) p (.ins cB [("rows",.ref r)]))
theorem pQ {cB f:Addr} {fd:FuncData} (F:cq K "__init__" "Bells.__init__" cZ f fd) (bj:dD K mg "Bells" cB) (aM:aE K cB "rows"):aQ P w K mg base (dt P w) 1 f fd ["self"] (d7 K (yn cB)):=by
 simp_arith [lp]
 ·obtain ⟨p,rfl,_⟩:=h;rfl
 obtain ⟨p,rfl,hp,q⟩:=h
 refine ⟨_,(aq (gy bj.cl aM (rv 0) (oR ah))),?_⟩
 simp_arith! only [cb]
 intro r hr'
 have ne:p≠r:=by intro e;subst e;rw [hp] at hr';cases hr'
 exact ⟨[],by rw [ak ne];exact hp,by decide,q r hr'⟩
abbrev dQ:Stmt:=(L2.inClass (top 22) 2)
theorem gB:L2.aw ["self","hind","fore","kept","found"] ["self","hind","fore"] (L2.ai dQ):=eJ
def ym (cB:Addr):cT:=fun xs J Q _=>∃ p r rows h f,xs=[.ref p,.str h,.str f]∧F9 cB J p r rows∧rows.length≤900∧∀ r',J r'=none→Q (.bl (decide ((dy h f rows).length < rows.length))) (put (put J r' (.lst ((dy h f rows).map aB.v))) p (.ins cB [("rows",.ref r')]))
def tail3:PV→PV
 | .tup xs=>.tup (mP xs (some 1) none)
 | _=>.non
def xS (h f:Str) (x:PV):Bool:=!eqQ (tail3 x) (.tup [.str h,.str f])
theorem GR (h f:Str) (b:aB):xS h f b.v=!uY h f b:=by
 show (!eqQ (.tup [.str b.h,.str b.f]) (.tup [.str h,.str f]))=_
 rw [rE,df,df,m4,eq_str,eq_str,Bool.and_true,← Bool.decide_and]
 rfl
theorem AU (h f:Str):∀ rows:List aB,((rows.map aB.v).filter (xS h f)).map (fun x=>x)=(dy h f rows).map aB.v
 | []=>rfl
 | b :: rows=>by
  have ih:=AU h f rows
  unfold dy at ih ⊢
  rw [List.map_cons,List.filter_cons,List.filter_cons,GR]
  cases uY h f b <;> simp at ih ⊢ <;> exact ih
theorem pP {cB f:Addr} {fd:FuncData} (F:cq K "drop" "Bells.drop" dQ f fd) (Z:cj mg) (bj:dD K mg "Bells" cB) (aM:aE K cB "rows"):aQ P w K mg base (dt P w) 1 f fd ["self","hind","fore"] (d7 K (ym cB)):=by
 simp_arith [gB]
 ·obtain ⟨p,r,rows,h,f,rfl,_⟩:=h;rfl
 obtain ⟨p,r,rows,h,f,rfl,b,hl,q⟩:=h
 have bo:=b.o
 have bl:=b.l
 refine ⟨_,(aj (EH (i:=3) (L2.ai dQ) ["self","hind","fore","kept","found"] [("hind",1),("fore",2)] rfl rfl rfl gB.nd rfl (Or.inl rfl) (fQ (aY bj.cl aM (rv 0))) (fun _ _ _ _ _ _=>(rv 0)) (fun _ _ _ _ _ _=>(aF (mE hr.aS) (k9 w9 (rv 0) (nq ag) nj) (cA (af (rv 1) (af (rv 2) ah))) (L2.ay _))))
   (aj (aT (i:=4) gB.nd rfl (Or.inl rfl) (gx iH (aP bW rfl Z.len boot_len (af (rv 3) ah)) (aP bW rfl Z.len boot_len (af (aY bj.cl aM (rv 0)) ah)) (L2.ay _)))
   (aj (gy bj.cl aM (rv 0) (rv 3))
   (aq (aI (rv 4)))))),?_⟩
 simp_arith! only [cb,HA,bo,bl,Jo]
 refine ⟨xS h f,fun x=>x,⟨by rw [List.length_map];exact a_ (by omega),fun J' sub=>⟨sub _ _ bl,fun x hx=>?_⟩⟩,fun r' hr'=>?_⟩
 ·obtain ⟨b,_,rfl⟩:=List.mem_map.mp hx
  obtain ⟨xs,h1,h2,h3⟩:=AH J' b
  have hk:xS h f b.v=!eqQ (.tup (mP xs (some 1) none)) (.tup [.str h,.str f]):=by rw [h1];rfl
  simp_arith! only [cb]
  refine ⟨⟨xs,h1,h2,?_⟩,fun _=>trivial⟩
  rw [hk,h3]
  refine ⟨⟨by simp [l9,ka],by simp [gS,jt,dep,dU]⟩,by simp [l9,ka],rfl⟩
 ·have ne:p≠r':=by intro e;subst e;rw [bo] at hr';cases hr'
  have nr:r≠r':=by intro e;subst e;rw [bl] at hr';cases hr'
  simp_arith! only [cb,ak ne,ak nr,bo,bl,Jo,AU,List.length_map,Int.ofNat_lt]
  exact ⟨by decide,q r' hr'⟩
abbrev fS:Stmt:=(L2.inClass (top 22) 1)
theorem c4:L2.aw ["self","moment","hind","fore","bell","low","high","middle"] ["self","moment","hind","fore"] (L2.ai fS):=eJ
def Cw (cB:Addr):cT:=fun xs J Q _=>∃ p r rows m h f,xs=[.ref p,fr m,.str h,.str f]∧F9 cB J p r rows∧g9 rows∧rows.length≤800∧Sz 9000 m∧(∀ x∈rows,Sz 9000 x.m) ∧
 ∀ r',J r'=none→Q .non (put (put J r' (.lst ((j8 ⟨m,h,f⟩ (dy h f rows)).map aB.v))) p (.ins cB [("rows",.ref r')]))
theorem IU (a b:Nat):((a:Int) + (b:Int)).fdiv 2=(((a + b) / 2:Nat):Int):=by rw [Int.fdiv_eq_ediv_of_nonneg _ (by decide)];omega
theorem Nj (a:Int):CQ a 2=True:=eq_true ⟨by decide,Bd.mono (Bd.small (by decide) (by decide)) (by decide)⟩
theorem AD {rows:List aB} {i:Nat} {b:aB} (h:rows[i]?=some b):cU (rows.map aB.v) (i:Int)=some b.v:=ba (by rw [List.getElem?_map,h];rfl)
theorem rY {cB f:Addr} {fd:FuncData} (F:cq K "put" "Bells.put" fS f fd) (Z:cj mg) (bj:dD K mg "Bells" cB) (aM:aE K cB "rows") (ia:c7 P w K mg base cB 1 "drop" ["self","hind","fore"] (ym cB))
  (pE:bG P w K mg base 2 "rings_ahead" ["one","other"] tF):aQ P w K mg base (dt P w) 3 f fd ["self","moment","hind","fore"] (d7 K (Cw cB)):=by
 simp_arith [c4]
 ·obtain ⟨p,r,rows,m,h,f,rfl,_⟩:=h;rfl
 obtain ⟨p,r,rows,m,h,f,rfl,b,srt,hl,sm,sr,q⟩:=h
 have bo:=b.o
 refine ⟨_,(aj (bx (bD (pl:=_) ia B hr (by decide) (rv 0) (af (rv 2) (af (rv 3) ah))))
   (aj (aT (i:=4) c4.nd rfl (Or.inl rfl) (cA (af (rv 1) (af (rv 2) (af (rv 3) ah)))))
   (aj (HH (i:=5) (j:=6) rfl c4.nd rfl rfl (by decide) rfl rfl (af ag (af (aP bW rfl Z.len boot_len (af (aY bj.cl aM (rv 0)) ah)) ah)) rfl)
   (aj (oU dH (aF iH (rv 5) (rv 6) (L2.ay _)) (aj (aT (i:=7) c4.nd rfl (Or.inl rfl) (aX kZ (aX d5 (rv 5) (rv 6)) ag))
   (aq (a7 (bX (a8 pE B hr (by decide) rfl (af (ar av (aY bj.cl aM (rv 0)) (rv 7) (fun _ _=>rfl)) (af (rv 4) ah)))) (aq (aT (i:=5) c4.nd rfl (Or.inl rfl) (aX d5 (rv 7) ag))) (aq (aT (i:=6) c4.nd rfl (Or.inl rfl) (rv 7)))))))
   (aq (bx (mH PySem.F.plainAttrs_list PySem.F.slot_list_insert PySem.F.type_list_insert qG (aY bj.cl aM (rv 0)) (af (rv 5) (af (rv 4) ah))))))))),?_⟩
 simp_arith! only [cb,bo,LN]
 refine ⟨p,r,rows,h,f,rfl,b,by omega,fun r' hr'=>?_⟩
 have Il:r'≠p:=by intro e;subst e;rw [bo] at hr';cases hr'
 have b1:F9 cB (put (put J r' (.lst ((dy h f rows).map aB.v))) p (.ins cB [("rows",.ref r')])) p r' (dy h f rows):=⟨au,by rw [ak Il];exact au⟩
 have kl:(dy h f rows).length≤800:=Nat.le_trans (lR _ _ _) hl
 have ks:g9 (dy h f rows):=qo srt
 have kz:∀ x∈dy h f rows,Sz 9000 x.m:=fun x hx=>sr x (List.mem_filter.mp hx).1
 have q:=q r' hr'
 generalize hJ:put (put J r' (.lst ((dy h f rows).map aB.v))) p (.ins cB [("rows",.ref r')])=J1 at b1 ⊢
 have hq:put J1 r' (.lst ((j8 ⟨m,h,f⟩ (dy h f rows)).map aB.v))=put (put J r' (.lst ((j8 ⟨m,h,f⟩ (dy h f rows)).map aB.v))) p (.ins cB [("rows",.ref r')]):=by rw [← hJ,Eu Il]
 rw [← hq] at q
 clear hq hJ hr'
 have bo:=b1.o
 have bl:=b1.l
 generalize dy h f rows=ks' at *
 simp_arith! only [cb,bo,bl,Jo,KJ,List.length_map]
 refine ⟨fun k τ J'=>∃ (lo hi:Nat) (u:Option PV),τ=[some (.ref p),some (fr m),some (.str h),some (.str f),some (aB.mk m h f).v,some (.int lo),some (.int hi),u]∧J'=J1∧k=hi - lo∧lo≤hi∧hi≤ks'.length ∧
  (∀ (j:Nat) x,j < lo→ks'[j]?=some x→x.lt ⟨m,h,f⟩=true)∧(∀ (j:Nat) x,hi≤j→ks'[j]?=some x→x.lt ⟨m,h,f⟩=false),⟨_,0,ks'.length,none,rfl,rfl,rfl,Nat.zero_le _,Nat.le_refl _,fun j x hj=>absurd hj (Nat.not_lt_zero _),fun j x hj e=>by rw [List.getElem?_eq_none hj] at e;cases e⟩,?_⟩
 rintro k τ J' ⟨lo,hi,u,rfl,rfl,rfl,h1,h2,hlo,hhi⟩
 simp_arith! only [cb,bo,bl,Jo,Nj,IU,Int.ofNat_lt,tF]
 by_cases hlt:lo < hi
 ·rw [if_pos hlt]
  have hm:(lo + hi) / 2 < ks'.length:=by omega
  obtain ⟨x,hx⟩:∃ x,ks'[(lo + hi) / 2]?=some x:=⟨_,List.getElem?_eq_getElem hm⟩
  refine ⟨fun τ' J''=>∃ (lo' hi':Nat) (u:Option PV),τ'=[some (.ref p),some (fr m),some (.str h),some (.str f),some (aB.mk m h f).v,some (.int lo'),some (.int hi'),u]∧J''=J'∧lo'≤hi'∧hi'≤ks'.length∧hi' - lo' < hi - lo ∧
   (∀ (j:Nat) x,j < lo'→ks'[j]?=some x→x.lt ⟨m,h,f⟩=true)∧(∀ (j:Nat) x,hi'≤j→ks'[j]?=some x→x.lt ⟨m,h,f⟩=false),fun τ' J'' ⟨lo',hi',u,e1,e2,e3,e4,e5,e6,e7⟩=>⟨_,e5,lo',hi',u,e1,e2,rfl,e3,e4,e6,e7⟩,x.v,AD hx,x,rfl,⟨m,h,f⟩,rfl,kz x (List.mem_of_getElem? hx),sm,?_⟩
  cases hc:x.lt ⟨m,h,f⟩ with
  | true =>
   rw [if_pos rfl]
   exact ⟨(lo + hi) / 2 + 1,hi,_,rfl,rfl,by omega,h2,by omega,fun j y hj e=>yD ks hx e (by omega) hc,hhi⟩
  | false =>
   rw [if_neg Bool.false_ne_true]
   exact ⟨lo,(lo + hi) / 2,_,rfl,rfl,by omega,by omega,by omega,hlo,fun j y hj e=>CJ ks hx e hj hc⟩
 ·rw [if_neg hlt]
  have e:lo=hi:=by omega
  subst e
  refine ⟨_,lo,rfl,rfl,by rw [List.length_map];exact h2,by rw [List.length_map];exact a_ (by omega),Nat.lt_of_le_of_lt h2 (Nat.lt_of_le_of_lt kl (by decide)),?_⟩
  rw [← DG h2 hlo hhi,List.map_append,List.map_cons,List.map_take,List.map_drop] at q
  exact q
abbrev fb:Stmt:=(L2.inClass (top 22) 5)
theorem p5:L2.aw ["self"] ["self"] (L2.ai fb):=eJ
def yo (cB:Addr):cT:=fun xs J Q _=>∃ p r rows,xs=[.ref p]∧F9 cB J p r rows∧(Q (.fl (rows.map aB.v)) J∨∀ l,J l=none→Q (.ref l) (put J l (.lst (rows.map aB.v))))
theorem pR {cB f:Addr} {fd:FuncData} (F:cq K "told" "Bells.told" fb f fd) (Z:cj mg) (bj:dD K mg "Bells" cB) (aM:aE K cB "rows"):aQ P w K mg base (dt P w) 1 f fd ["self"] (d7 K (yo cB)):=by
 refine L9 F p5 (fun xs J Q E h=>?_) (fun cdv A outer s H E G xs J Q E2 hr h B=>?_)
 ·obtain ⟨p,r,rows,rfl,_⟩:=h;rfl
 obtain ⟨p,r,rows,rfl,b,q⟩:=h
 have bo:=b.o
 have bl:=b.l
 refine ⟨_,(aq (aI (jN AG rfl Z.list boot_list (af (aY bj.cl aM (rv 0)) ah)))),?_⟩
 simp_arith! only [cb,bo,bl,Jo]
 intro l hl
 rcases q with q | q
 ·exact Fg.pK (oy hl) au hl q
 ·exact Fg.same (q l hl)
def yq:cT:=fun xs J Q _=>∃ t b:Int,xs=[.int t,.int b]∧b≠0∧Bd 9000 b∧Q (fr (Rat.divInt t b)) J
theorem pO (C:pq P w K mg base 2 "fraction" ["top","bottom"] fK):bG P w K mg base 2 "fraction" ["top","bottom"] yq:=C.lift fun xs J vs H Q2 E2 Q E rs r ⟨t,b,ex,h0,h1,q⟩ kn=>by
 subst ex
 obtain ⟨v,u,rfl,r1,r2⟩:=iF rs
 cases r1;cases r2
 exact ⟨t,b,rfl,h0,h1,sO r kn q⟩
theorem uv (l l':aU) (h:l.v≠l'.v):Rat.divInt ((l'.at 0 - l.at 0).num) (((l'.at 0 - l.at 0).den:Int) * (l.v - l'.v))=kY l l':=by
 rw [Hy _ _ (by omega)];rfl
abbrev jP:Stmt:=(top 26)
theorem kj:L2.aw ["one","other","gain","gap"] ["one","other"] (L2.ai jP):=eJ
def yw:cT:=fun xs J Q _=>∃ l l':aU,xs=[l.V,l'.V]∧qd 900 l∧qd 900 l'∧(l.v=l'.v→Q .non J)∧(l.v≠l'.v→Q (fr (kY l l')) J)
theorem uD {f:Addr} {fd:FuncData} (F:cq K "meeting" "meeting" jP f fd) (Z:cj mg) (N:nQ K mg) (dq:bG P w K mg base 4 "place_on" ["leg","moment"] qO) (kE:bG P w K mg base 3 "minus" ["one","two"] (wZ fun p q=>p - q)) (bK:bG P w K mg base 2 "fraction" ["top","bottom"] yq) :
  aQ P w K mg base (dt P w) 5 f fd ["one","other"] (d7 K yw):=by
 simp_arith [kj]
 ·obtain ⟨l,l',rfl,_⟩:=h;rfl
 obtain ⟨l,l',rfl,sl,sl',q0,q1⟩:=h
 obtain ⟨aN,gN,sN⟩:=N
 have rN:∀ (J:Hq) (H:Hp),bV K J H (fr 0) (.ref aN):=fun J H=>⟨aN,_,rfl,sN H,⟨_,_,rfl,rfl,_,_,rfl,rfl,rfl⟩⟩
 refine ⟨_,(aj (aT (i:=2) kj.nd rfl (Or.inl rfl) (aX eR (ar av (rv 0) ag (fun _ _=>rfl)) (ar av (rv 1) ag (fun _ _=>rfl))))
   (aj (a7 (aF (cm hr.aS) (rv 2) ag (L2.ay _)) (aq (aI ma)) aO)
   (aj (aT (i:=3) kj.nd rfl (Or.inl rfl) (a8 kE B hr (by decide) rfl (af (a8 dq B hr (by decide) rfl (af (rv 1) (af (e8 (v:=.ref aN) (fr 0) rfl gN rfl rN) ah))) (af (a8 dq B hr (by decide) rfl (af (rv 0) (af (e8 (v:=.ref aN) (fr 0) rfl gN rfl rN) ah))) ah))))
   (aq (aI (a8 bK B hr (by decide) rfl (af (ar av (rv 3) ag (fun _ _=>rfl)) (af (aX cI (ar av (rv 3) ag (fun _ _=>rfl)) (rv 2)) ah)))))))),?_⟩
 have z1:Sz 900 (0:Rat):=⟨⟨by decide⟩,⟨by decide⟩⟩
 have s3:=lP sl z1
 have s3':=lP sl' z1
 have s4:Sz 6001 (l'.at 0 - l.at 0):=s3'.sub s3
 have bg:Bd 65 (l.v - l'.v):=sl.v.sub sl'.v
 simp_all! only [ou]
 split
 ·rename_i e;simp_all! only [];exact q0 (by omega)
 rename_i e
 have hv:l.v≠l'.v:=by omega
 simp_all! only []
 refine ⟨l',0,rfl,sl'.m,sl'.p,z1,sl'.v,l,0,rfl,sl.m,sl.p,z1,sl.v,l'.at 0,l.at 0,rfl,s3'.mono (by decide),s3.mono (by decide),?_⟩
 simp_all! only []
 refine ⟨.of s4.den bg,_,_,rfl,Int.mul_ne_zero (d3 _) e,(Bd.mul s4.den bg (k:=6100)).mono (by decide),?_⟩
 rw [uv l l' hv]
 exact q1 hv
theorem uw {l l':aU} (sl:qd 900 l) (sl':qd 900 l') (h:l.v≠l'.v):Sz 8000 (kY l l'):=by
 rw [← uv l l' h]
 have z1:Sz 900 (0:Rat):=⟨⟨by decide⟩,⟨by decide⟩⟩
 have s4:Sz 6001 (l'.at 0 - l.at 0):=(lP sl' z1).sub (lP sl z1)
 have bg:Bd 65 (l.v - l'.v):=sl.v.sub sl'.v
 exact Sz.div (s4.num.mono (by decide)) ((Bd.mul s4.den bg (k:=6100)).mono (by decide)) (Int.mul_ne_zero (d3 _) (by omega))
theorem aZ.K0 {L:Ln} (h:aZ L) {c:Cf} (hc:c∈L.cs):qd 900 c.cur:=(h.ck c hc _ (Cf.hZ (h.ne c hc)).2).Jr
abbrev fg:Stmt:=(L2.inClass (top 42) 13)
theorem jY:L2.aw ["self","name","other","met"] ["self","name","other"] (L2.ai fg):=eJ
def vh (cN cL eC:Addr):cT:=fun xs J Q E=>∃ p L n n',xs=[.ref p,.str n,.str n']∧a9 cN cL J p L∧aZ L∧(∀ c∈L.cs,∀ c'∈L.cs,c.n=n→c'.n=n'→c.g=none→c'.g=none→Q (gv (DQ L.t c.cur c'.cur)) J)∧(n ∉ L.row∨n' ∉ L.row→E eC J)
theorem pV {cN cL eC f:Addr} {fd:FuncData} (F:cq K "meets" "Lane.meets" fg f fd) (Z:cj mg) (ax:dD K mg "Lane" cN) (az:aE K cN "now") (bA:c7 P w K mg base cN 4 "leg_of" ["self","name"] (lA cN cL eC)) (yP:bG P w K mg base 5 "meeting" ["one","other"] yw) (dn:bG P w K mg base 1 "less" ["one","two"] c6):aQ P w K mg base (dt P w) 6 f fd ["self","name","other"] (d7 K (vh cN cL eC)):=by
 simp_arith [jY]
 ·obtain ⟨p,L,n,n',rfl,_⟩:=h;rfl
 obtain ⟨p,L,n,n',rfl,b,ok,q,qe⟩:=h
 have bo:=b.ob
 refine ⟨_,(aj (aT (i:=3) jY.nd rfl (Or.inl rfl) (a8 yP B hr (by decide) rfl (af (bD (pl:=_) bA B hr (by decide) (rv 0) (af (rv 1) ah)) (af (bD (pl:=_) bA B hr (by decide) (rv 0) (af (rv 2) ah)) ah))))
   (aq (aI (Kk (dh (gA (aF uF (rv 3) ma (L2.ay _)) (e_ (bX (a8 dn B hr (by decide) rfl (af (aY ax.cl az (rv 0)) (af (rv 3) ah))))))) (rv 3) ma)))),?_⟩
 simp_all! only [bo]
 refine ⟨gw _ _ _ _,p,L,n,rfl,b,ok,fun c hc e hg=>?_,fun z=>qe (.inl z)⟩
 simp_all! only [bo]
 refine ⟨gw _ _ _ _,p,L,n',rfl,b,ok,fun c' hc' e' hg'=>?_,fun z=>qe (.inr z)⟩
 have q:=q c hc c' hc' e e' hg hg'
 have sl:=ok.K0 hc
 have sl':=ok.K0 hc'
 unfold DQ at q
 refine ⟨c.cur,c'.cur,rfl,sl,sl',fun hv=>?_,fun hv=>?_⟩
 ·rw [if_neg (fun z=>z.1 hv)] at q
  simp_all! only []
  exact q
 ·simp_all! only [rJ,bo,rS,c6]
  refine ⟨ok.F7.mono (by decide),(uw sl sl' hv).mono (by decide),?_⟩
  split
  ·rename_i c1
   rw [if_pos ⟨hv,c1⟩] at q
   simp_all! only []
   exact q
  ·rename_i c1
   rw [if_neg (fun z=>c1 z.2)] at q
   exact q
theorem Nx (A:Nat):Sc gd A 0:=⟨0,by rw [Rat.zero_mul];rfl,Nat.zero_le _⟩
theorem a9.L8 {cN cL:Addr} {J:Hq} {p T:Addr} {L:Ln} (h:a9 cN cL J p L) (hT:J T=Option.some .tab):¬ L.own p T:=by
 rintro (rfl | rfl | rfl | ⟨c,hc,rfl | rfl⟩)
 ·rw [h.ob] at hT;cases hT
 ·rw [h.dc] at hT;cases hT
 ·rw [h.rw] at hT;cases hT
 ·rw [(h.lg c hc).o] at hT;cases hT
 ·rw [(h.lg c hc).l] at hT;cases hT
theorem IW {L:Ln} {n:Str} {l:aU} (h:(n,l)∈L.fs):∃ c∈L.cs,c.n=n∧c.g=none∧c.cur=l:=by
 obtain ⟨c,hc,e⟩:=List.mem_map.mp h
 have:=Ln.cX.mp hc
 cases e
 exact ⟨c,this.1,rfl,this.2,rfl⟩
def mr:cT:=fun xs J Q _=>∃ a b:Int,xs=[.int a,.int b]∧Q (.int (Int.gcd a b:Nat)) J
theorem ur (C:pq P w K mg base 1 "shared" ["one","two"] o8):bG P w K mg base 1 "shared" ["one","two"] mr:=C.lift fun xs J vs H Q2 E2 Q E rs r ⟨a,b,ex,q⟩ kn=>by
 subst ex
 obtain ⟨v,u,rfl,r1,r2⟩:=iF rs
 cases r1;cases r2
 exact ⟨a,b,rfl,kn (.int _) J _ H rfl r .refl q⟩
abbrev cO:Stmt:=(top 18)
theorem kg:L2.aw ["pair"] ["pair"] (L2.ai cO):=eJ
def ve:cT:=fun xs J Q _=>∃ a b:Int,xs=[.tup [.int a,.int b]]∧Q (.bl (decide (1≤b∧Int.gcd a b=1))) J
theorem jW {f:Addr} {fd:FuncData} (F:cq K "in_lowest_terms" "in_lowest_terms" cO f fd) (Z:cj mg) (gE:bG P w K mg base 1 "shared" ["one","two"] mr):aQ P w K mg base (dt P w) 2 f fd ["pair"] (d7 K ve):=by
 simp_arith [kg]
 ·obtain ⟨a,b,rfl,_⟩:=h;rfl
 obtain ⟨a,b,rfl,q⟩:=h
 refine ⟨_,(aq (aI (wR (gx BL (ar av (rv 0) ag (fun _ _=>rfl)) ag (L2.ay _)) (sM (gx (cm hr.aS) (a8 gE B hr (by decide) rfl (af (ar av (rv 0) ag (fun _ _=>rfl)) (af (ar av (rv 0) ag (fun _ _=>rfl)) ah))) ag (L2.ay _)))))),?_⟩
 simp_all! only []
 by_cases c:1≤b
 ·simp only [c,decide_true,true_and,if_true] at q ⊢
  simp_all! only [mr]
  have:decide (((Int.gcd a b:Nat):Int)=1)=decide (Int.gcd a b=1):=decide_eq_decide.mpr (by omega)
  rw [this];exact q
 ·simp only [c,decide_false,false_and] at q ⊢
  rw [if_neg (fun z=>z)]
  exact q
abbrev d9:Stmt:=(top 40)
theorem fI:L2.aw ["moment","top","bottom"] ["moment"] (L2.ai d9):=eJ
def gP (a b:Int):Bool:=decide (b≤60∧1≤b∧Int.gcd a b=1∧0≤a∧a≤1000000 * b)
def yr:cT:=fun xs J Q _=>∃ a b:Int,xs=[.tup [.int a,.int b]]∧Q (.bl (gP a b)) J
theorem mR {f:Addr} {fd:FuncData} (F:cq K "good_moment" "good_moment" d9 f fd) (Z:cj mg) {lE lF:Tok} (i8:mg "FINEST"=some (.int 60 lE)) (i9:mg "LATEST"=some (.int 1000000 lF)) (kB:bG P w K mg base 2 "in_lowest_terms" ["pair"] ve):aQ P w K mg base (dt P w) 3 f fd ["moment"] (d7 K yr):=by
 simp_arith [fI]
 ·obtain ⟨a,b,rfl,_⟩:=h;rfl
 obtain ⟨a,b,rfl,q⟩:=h
 refine ⟨_,(aj (wV (rv 0) (wU rfl (fH (cM (i:=1) fI.nd rfl (Or.inl rfl)) (fH (cM (i:=2) fI.nd rfl (Or.inl rfl)) sP))))
   (aj (a7 (dh (fR (aF mD (rv 2) (e8 (v:=.int 60) (.int 60) rfl i8 ⟨_,rfl⟩ (fun _ _=>rfl)) (L2.ay _)) (eS (c_ (bX (a8 kB B hr (by decide) rfl (af (rv 0) ah))))))) (aq (aI gT)) aO)
   (aq (aI (Ck BN BN ag (rv 1) (aX cI (e8 (v:=.int 1000000) (.int 1000000) rfl i9 ⟨_,rfl⟩ (fun _ _=>rfl)) (rv 2))))))),?_⟩
 unfold gP at q
 simp_all! only []
 refine ⟨rfl,?_⟩
 simp_all! only []
 by_cases c1:60 < b
 ·rw [if_pos c1]
  rw [decide_eq_false (fun z=>by omega)] at q
  exact q
 rw [if_neg c1]
 simp_all! only []
 refine ⟨a,b,rfl,?_⟩
 by_cases c2:1≤b∧Int.gcd a b=1
 ·rw [decide_eq_true c2]
  simp_all! only [sJ]
  by_cases c3:0≤a
  ·simp only [c3,decide_true,if_true]
   refine ⟨.of (.small (x:=1000000) (by decide) (by decide)) (.small (x:=b) (by omega) (by omega)),?_⟩
   have:decide (a≤1000000 * b)=decide (b≤60∧1≤b∧Int.gcd a b=1∧0≤a∧a≤1000000 * b):=decide_eq_decide.mpr ⟨fun z=>⟨by omega,c2.1,c2.2,c3,z⟩,fun z=>z.2.2.2.2⟩
   rw [this];exact q
  ·rw [decide_eq_false (fun z=>c3 z.2.2.2.1)] at q
   simp only [c3,decide_false]
   rw [if_neg (fun z=>z)]
   exact q
 ·rw [decide_eq_false c2]
  rw [decide_eq_false (fun z=>c2 ⟨z.2.1,z.2.2.1⟩)] at q
  simp_all! only []
  exact q
theorem a9.less {cN cL:Addr} {J J':Hq} {p:Addr} {L:Ln} (h:a9 cN cL J p L) (l:mM J J'):a9 cN cL J' p L:=h.keep fun a o _ e=>by
 rcases l a with z | z
 ·rw [← z];exact e
 ·rw [z] at e;cases e
theorem qE {J J':Hq} {p r:Addr} {x y:HQ} (l:mM J J') (hp:J p=none) (hr:J' r=none):mM J (put (put J' r x) p y):=fun a=>by
 by_cases e:a=p
 ·exact .inr (by rw [e];exact hp)
 by_cases e2:a=r
 ·rcases l a with z | z
  ·right;rw [z,e2];exact hr
  ·exact .inr z
 ·rw [ak e,ak e2];exact l a
theorem zm {J:Hq} {p r:Addr} {x y z:HQ} (hp:J p=none) (hr:put J p x r=none):mM J (put (put (put J p x) r y) p z):=qE (oy hp) hp hr
theorem AI (xs:List PV) (k:Nat) (h:k≤xs.length):mP xs (some (k:Int)) none=xs.drop k:=by
 unfold mP HT.dB
 simp only [Int.toNat_natCast]
 rw [if_neg (by omega),Nat.min_eq_left h]
 rw [List.take_of_length_le (by rw [List.length_drop];exact Nat.le_refl _)]
theorem b_.keys {L:Ln} (ok:b_ L):L.row.map PV.str=(dJ (L.fs.map (key L.t))).map fun k=>PV.str k.n:=by rw [ok.row];unfold cn;rw [List.map_map];rfl
theorem rO {L:Ln} (ok:aZ L) {a:Ky} (ha:a∈dJ (L.fs.map (key L.t))) {c:Cf} (hc:c∈L.cs) (hg:c.g=none) (e:c.n=a.n):a=key L.t (c.n,c.cur):=by
 obtain ⟨x,hx,rfl⟩:=List.mem_map.mp ((bp _ _).mp ha)
 obtain ⟨c0,hc0,h1,h2,h3⟩:=IW (n:=x.1) (l:=x.2) hx
 have:c0=c:=ok.uniq hc0 hc (h1.trans e.symm)
 subst this
 show key L.t (x.1,x.2)=_
 rw [← h3,← h1]
theorem nt {L:Ln} (ok:b_ L) {a:Ky} (ha:a∈dJ (L.fs.map (key L.t))):a.n∈L.row:=by
 rw [ok.row];unfold cn;exact List.mem_map.mpr ⟨a,ha,rfl⟩
theorem oC {L:Ln} (ok:b_ L) {a b:Ky} (ha:a∈dJ (L.fs.map (key L.t))) (hb:b∈dJ (L.fs.map (key L.t))) (h:b.v < a.v):Sz 9000 (eW L.t a b):=by
 obtain ⟨c,hc,hcn,hcg⟩:=ok.found (nt ok ha)
 obtain ⟨c',hc',hcn',hcg'⟩:=ok.found (nt ok hb)
 have ea:=rO ok.toaZ ha hc hcg hcn
 have eb:=rO ok.toaZ hb hc' hcg' hcn'
 have hv:c.cur.v≠c'.cur.v:=by rw [ea,eb] at h;exact fun z=>by have:c'.cur.v < c.cur.v:=h;omega
 rw [ea,eb,← m6 hv]
 exact (uw (ok.K0 hc) (ok.K0 hc') hv).mono (by decide)
theorem b_.knd {L:Ln} (ok:b_ L):((L.fs.map (key L.t)).map Ky.n).Nodup:=by rw [dA];exact ok.C8
theorem b_.LL {L:Ln} (ok:b_ L):(dJ (L.fs.map (key L.t))).length≤12:=by
 have h1:=ok.rl
 have h2:=congrArg List.length ok.keys
 rw [List.length_map,List.length_map] at h2
 omega
theorem Bw {L:Ln} (ok:b_ L) {i j:Nat} {a b:Ky} (ha:(dJ (L.fs.map (key L.t)))[i]?=some a) (hb:(dJ (L.fs.map (key L.t)))[j]?=some b) (hij:i < j) {c c':Cf} (hc:c∈L.cs) (hc':c'∈L.cs) (hg:c.g=none) (hg':c'.g=none) (e:c.n=a.n) (e':c'.n=b.n) :
  DQ L.t c.cur c'.cur=if b.v < a.v∧a.p < b.p then some (eW L.t a b) else none:=by
 have ea:=rO ok.toaZ (List.mem_of_getElem? ha) hc hg e
 have eb:=rO ok.toaZ (List.mem_of_getElem? hb) hc' hg' e'
 have hlt:a.lt b=true:=by
  obtain ⟨hil,ei⟩:=List.getElem?_eq_some_iff.mp ha
  obtain ⟨hjl,ej⟩:=List.getElem?_eq_some_iff.mp hb
  have:=List.pairwise_iff_getElem.mp (dM ok.knd) i j hil hjl hij
  rw [ei,ej] at this;exact this
 rw [ea,eb] at hlt ⊢
 have key:=DR hlt
 unfold DQ
 by_cases z:c.cur.v≠c'.cur.v∧L.t < kY c.cur c'.cur
 ·rw [if_pos z,if_pos (show (Ov.key L.t (c'.n,c'.cur)).v < (Ov.key L.t (c.n,c.cur)).v∧(Ov.key L.t (c.n,c.cur)).p < (Ov.key L.t (c'.n,c'.cur)).p from key.mp z),m6 z.1]
 ·rw [if_neg z,if_neg (show ¬ ((Ov.key L.t (c'.n,c'.cur)).v < (Ov.key L.t (c.n,c.cur)).v∧(Ov.key L.t (c.n,c.cur)).p < (Ov.key L.t (c'.n,c'.cur)).p) from fun y=>z (key.mpr y))]
abbrev dm:Stmt:=(L2.inClass (top 42) 6)
theorem bP:L2.aw ["self","moment","passings","at","hind","fore","met"] ["self","moment"] (L2.ai dm):=eJ
theorem zo {J J':Hq} {l:Addr} {o:HQ} (h:mM J J'):mM (put J l o) (put J' l o):=fun a=>by
 by_cases e:a=l
 ·subst e;rw [au,au];exact .inl rfl
 ·rw [ak e,ak e];exact h a
def yx (cN cL eM eP:Addr):cT:=fun xs J Q E=>∃ p L a b,xs=[.ref p,.tup [.int a,.int b]]∧a9 cN cL J p L∧b_ L∧(gP a b=false→E eM J)∧(∀ m:Rat,m.num=a→(m.den:Int)=b→gP a b=true→(m < L.t→E eP J)∧(L.t≤m→Q (.fl ((cF L.t (L.fs.map (key L.t)) m).map aB.v)) J∨∀ l,J l=none→Q (.ref l) (put J l (.lst ((cF L.t (L.fs.map (key L.t)) m).map aB.v)))))
theorem l3 {cN cL cB eM eP eC f:Addr} {fd:FuncData} (F:cq K "foretold" "Lane.foretold" dm f fd) (Z:cj mg) (ax:dD K mg "Lane" cN) (az:aE K cN "now") (aD:aE K cN "row") (eg:Own K mg "BadMoment" eM) (nS:Own K mg "Past" eP) (pB:bG P w K mg base 3 "good_moment" ["moment"] yr) (dn:bG P w K mg base 1 "less" ["one","two"] c6) (rg:yU P w K mg base cB 1 "Bells" ["self"] (yn cB)) (ik:c7 P w K mg base cN 6 "meets" ["self","name","other"] (vh cN cL eC)) (jb:c7 P w K mg base cB 3 "put" ["self","moment","hind","fore"] (Cw cB)) (ib:c7 P w K mg base cB 1 "told" ["self"] (yo cB)):aQ P w K mg base (dt P w) 7 f fd ["self","moment"] (d7 K (yx cN cL eM eP)):=by
 refine L9 F bP (fun xs J Q E h=>?_) (fun cdv A outer s H E G xs J Q E2 hr h B=>?_)
 ·obtain ⟨p,L,a,b,rfl,_⟩:=h;rfl
 obtain ⟨p,L,a,bb,rfl,b,ok,qe,q⟩:=h
 have bo:=b.ob
 refine ⟨_,(aj (a7 (c_ (bX (a8 pB B hr (by decide) rfl (af (rv 1) ah)))) (aq (dP eg rfl cv B.kn rfl (af bJ ah))) aO)
   (aj (a7 (bX (a8 dn B hr (by decide) rfl (af (rv 1) (af (aY ax.cl az (rv 0)) ah)))) (aq (dP nS rfl cv B.kn rfl (af bJ ah))) aO)
   (aj (aT (i:=2) bP.nd rfl (Or.inl rfl) (uT rg B hr (by decide) rfl))
   (aj (jv dH rfl (EG rfl Z.enumerate (af (aY ax.cl aD (rv 0)) ah)) (wU (n:=2) rfl (fH (cM (i:=3) bP.nd rfl (Or.inl rfl)) (fH (cM (i:=4) bP.nd rfl (Or.inl rfl)) sP))) (aq (jv dH rfl (fQ (k9 Kr (aY ax.cl aD (rv 0)) (nq (aX d5 (rv 3) ag)) nj)) (cM (i:=5) bP.nd rfl (Or.inl rfl)) (aj (aT (i:=6) bP.nd rfl (Or.inl rfl) (bD (pl:=_) ik B hr (by decide) (rv 0) (af (rv 4) (af (rv 5) ah))))
   (aq (a7 (dh (gA (aF uF (rv 6) ma (L2.ay _)) (e_ (c_ (bX (a8 dn B hr (by decide) rfl (af (rv 1) (af (rv 6) ah)))))))) (aq (bx (bD (pl:=_) jb B hr (by decide) (rv 2) (af (rv 6) (af (rv 4) (af (rv 5) ah)))))) aO))))))
   (aq (aI (gU (pl:=_) ib B hr (by decide) (rv 2)))))))),?_⟩
 simp_all! only []
 refine ⟨a,bb,rfl,?_⟩
 cases hg:gP a bb with
 | false =>
  simp_all! only [fG]
  exact qe hg
 | true =>
  have hgm:=of_decide_eq_true hg
  obtain ⟨m,hm1,hm2⟩:∃ m:Rat,m.num=a∧(m.den:Int)=bb:=⟨⟨a,bb.toNat,by omega,by
   have:=hgm.2.2.1
   unfold Int.gcd at this
   show Nat.gcd a.natAbs bb.toNat=1
   rw [show bb.toNat=bb.natAbs by omega];exact this⟩,rfl,by show ((bb.toNat:Nat):Int)=bb;omega⟩
  obtain ⟨q1,q2⟩:=q m hm1 hm2 hg
  have ef:PV.tup [.int a,.int bb]=fr m:=by rw [← hm1,← hm2];rfl
  have sm:Sz 900 m:=⟨(Bd.small (x:=m.num) (by omega) (by omega)).mono (by decide),(Bd.small (x:=(m.den:Int)) (by omega) (by omega)).mono (by decide)⟩
  simp_all! only [bo,rS,ef]
  refine ⟨_,_,rfl,sm.mono (by decide),ok.F7.mono (by decide),?_⟩
  by_cases c1:m < L.t
  ·rw [decide_eq_true c1]
   simp_all! only [fG]
   exact q1 c1
  rw [decide_eq_false c1]
  have q:=q2 (by grind)
  simp_all! only []
  intro pb hpb
  refine ⟨pb,rfl,au,fun r0 hr0=>⟨rfl,?_⟩⟩
  have l0:=zm (y:=.lst []) (z:=.ins cB [("rows",.ref r0)]) hpb hr0
  have nr0:r0≠pb:=by intro e;subst e;rw [au] at hr0;cases hr0
  have b0:F9 cB (put (put (put J pb (.ins cB [])) r0 (.lst [])) pb (.ins cB [("rows",.ref r0)])) pb r0 []:=⟨au,by rw [ak nr0];exact au⟩
  generalize put (put (put J pb (.ins cB [])) r0 (.lst [])) pb (.ins cB [("rows",.ref r0)])=J0 at l0 b0 ⊢
  simp_all! only [(b.less l0).ob,(b.less l0).rw,rT]
  obtain ⟨ks,hks⟩:∃ ks,dJ (L.fs.map (key L.t))=ks:=⟨_,rfl⟩
  have hrow:L.row.map PV.str=ks.map fun k=>PV.str k.n:=by rw [← hks];exact ok.keys
  have hkl:ks.length≤12:=by rw [← hks];exact ok.LL
  have hup:∀ {ps:List (Ky × Ky)},(∀ p∈ps,p.1∈ks∧p.2∈ks)→∀ x∈cW L.t (eu L.t m) ps,Sz 9000 x.m:=fun hp x hx=>by
   obtain ⟨p,hp',hc,rfl⟩:=qx _ hx
   have:=of_decide_eq_true hc
   exact oC ok (by rw [hks];exact (hp p hp').1) (by rw [hks];exact (hp p hp').2) this.1
  rw [hrow]
  obtain ⟨Inv,hInv⟩:∃ Inv:Nat→Sr→Hq→Prop,∀ i τ J',Inv i τ J'↔∃ (r:Addr) (u3 u4 u5 u6:Option PV),τ=[some (.ref p),some (fr m),some (.ref pb),u3,u4,u5,u6]∧mM J J'∧F9 cB J' pb r (cW L.t (eu L.t m) (vw ks i))∧(cW L.t (eu L.t m) (vw ks i)).length≤12 * i:=⟨_,fun _ _ _=>Iff.rfl⟩
  refine n9 Inv ((hInv _ _ _).mpr ⟨r0,_,_,_,_,rfl,l0,b0,Nat.le_refl _⟩) (fun i τ J' h=>?_) ?_ ?_
  ·obtain ⟨r,_,_,_,_,_,l',_⟩:=(hInv _ _ _).mp h
   rw [(b.less l').rw,hrow]
  ·intro i x τ J' hx hv
   obtain ⟨r,u3,u4,u5,u6,rfl,l',bb,hle⟩:=(hInv _ _ _).mp hv
   clear hv
   have hi:i < ks.length:=by have:=(List.getElem?_eq_some_iff.mp hx).1;rw [jF,List.length_map] at this;exact this
   have ha:ks[i]?=some ks[i]:=List.getElem?_eq_getElem hi
   rw [qs _ i (.str (ks[i]).n) (by rw [List.getElem?_map,ha];rfl)] at hx
   cases hx
   generalize ks[i]=a at ha ⊢
   simp_all! only [(b.less l').ob,(b.less l').rw,rT]
   rw [hrow,show (i:Int) + 1=((i + 1:Nat):Int) by omega,AI _ _ (by rw [List.length_map];omega),← List.map_drop]
   have eup:vw ks (i + 1)=vw ks i ++ (ks.drop (i + 1)).map fun b=>(a,b):=by show vw ks i ++ _=_;rw [ha]
   have mup:∀ j,∀ p∈vw ks i ++ ((ks.drop (i + 1)).take j).map (fun b=>(a,b)),p.1∈ks∧p.2∈ks:=fun j p hp=>by
    rcases List.mem_append.mp hp with hp | hp
    ·obtain ⟨_,_,_,_,h3,h4⟩:=lH.mp hp
     exact ⟨List.mem_of_getElem? h3,List.mem_of_getElem? h4⟩
    ·obtain ⟨y,hy,rfl⟩:=List.mem_map.mp hp
     exact ⟨List.mem_of_getElem? ha,List.mem_of_mem_drop (List.mem_of_mem_take hy)⟩
   obtain ⟨In2,hIn2⟩:∃ In2:Nat→Sr→Hq→Prop,∀ j τ J',In2 j τ J'↔∃ (r:Addr) (u5 u6:Option PV),τ=[some (.ref p),some (fr m),some (.ref pb),some (.int (i:Int)),some (.str a.n),u5,u6]∧mM J J'∧F9 cB J' pb r (cW L.t (eu L.t m) (vw ks i ++ ((ks.drop (i + 1)).take j).map fun b=>(a,b)))∧(cW L.t (eu L.t m) (vw ks i ++ ((ks.drop (i + 1)).take j).map fun b=>(a,b))).length≤12 * i + j:=⟨_,fun _ _ _=>Iff.rfl⟩
   refine n9 In2 ((hIn2 _ _ _).mpr ⟨r,_,_,rfl,l',by simpa using bb,by simpa using hle⟩) (fun _ _ _ _=>trivial) ?_ ?_
   ·intro j x τ J2 hx hv
    obtain ⟨r2,u5,u6,rfl,l2,bb2,hle2⟩:=(hIn2 _ _ _).mp hv
    clear hv
    have hj:j < (ks.drop (i + 1)).length:=by have:=(List.getElem?_eq_some_iff.mp hx).1;rw [List.length_map] at this;exact this
    have hb:(ks.drop (i + 1))[j]?=some (ks.drop (i + 1))[j]:=List.getElem?_eq_getElem hj
    rw [List.getElem?_map,hb] at hx
    cases hx
    generalize (ks.drop (i + 1))[j]=y at hb ⊢
    have hb':ks[i + 1 + j]?=some y:=by rw [List.getElem?_drop] at hb;exact hb
    have hjl:j < 12:=by rw [List.length_drop] at hj;omega
    have ej:(ks.drop (i + 1)).take (j + 1)=(ks.drop (i + 1)).take j ++ [y]:=by rw [List.take_add_one,hb];rfl
    have ef2:cW L.t (eu L.t m) (vw ks i ++ ((ks.drop (i + 1)).take (j + 1)).map fun b=>(a,b))=oP L.t (eu L.t m) (cW L.t (eu L.t m) (vw ks i ++ ((ks.drop (i + 1)).take j).map fun b=>(a,b))) (a,y):=by
     rw [ej,List.map_append,← List.append_assoc];exact fw _ _ _ _
    have srt:=lT L.t (eu L.t m) (vw ks i ++ ((ks.drop (i + 1)).take j).map fun b=>(a,b))
    have szs:=hup (mup j)
    generalize cW L.t (eu L.t m) (vw ks i ++ ((ks.drop (i + 1)).take j).map fun b=>(a,b))=rows at bb2 hle2 ef2 srt szs
    have o_:eu L.t m (a,y)=false→∀ {v5 v6},In2 (j + 1) [some (.ref p),some (fr m),some (.ref pb),some (.int (i:Int)),some (.str a.n),v5,v6] J2:=fun hc v5 v6=>by
     have e:oP L.t (eu L.t m) rows (a,y)=rows:=by unfold oP;rw [if_neg (by rw [hc];decide)]
     exact (hIn2 _ _ _).mpr ⟨r2,_,_,rfl,l2,by rw [ef2,e];exact bb2,by rw [ef2,e];omega⟩
    have b2:=b.less l2
    simp_all! only [b2.ob]
    refine ⟨gw _ _ _ _,p,L,a.n,y.n,rfl,b2,ok.toaZ,fun c hc c' hc' e e' hg hg'=>?_,fun z=>?_⟩
    ·have hmet:=Bw ok (by rw [hks];exact ha) (by rw [hks];exact hb') (by omega) hc hc' hg hg' e e'
     rw [hmet]
     by_cases c2:y.v < a.v∧a.p < y.p
     ·rw [if_pos c2]
      have smk:=oC ok (by rw [hks];exact List.mem_of_getElem? ha) (by rw [hks];exact List.mem_of_getElem? hb') c2.1
      simp_all! only [gv,rJ,c6]
      refine ⟨sm.mono (by decide),smk,?_⟩
      by_cases c3:m < eW L.t a y
      ·rw [if_pos c3]
       exact o_ (decide_eq_false (fun z=>by have:=z.2.2;grind))
      ·rw [if_neg c3]
       have hcp:eu L.t m (a,y)=true:=decide_eq_true ⟨c2.1,c2.2,by grind⟩
       have e:oP L.t (eu L.t m) rows (a,y)=j8 ⟨eW L.t a y,a.n,y.n⟩ (dy a.n y.n rows):=by unfold oP;rw [if_pos hcp];rfl
       simp_all! only [bb2.o]
       refine ⟨LP _,pb,r2,rows,eW L.t a y,a.n,y.n,rfl,bb2,srt,by omega,smk,szs,fun r' hr'=>?_⟩
       have nr:r'≠pb:=by intro z;subst z;rw [bb2.o] at hr';cases hr'
       refine (hIn2 _ _ _).mpr ⟨r',_,_,rfl,qE l2 hpb hr',⟨au,by rw [ak nr,au,ef2,e]⟩,?_⟩
       rw [ef2,e,ue]
       have:=lR a.n y.n rows
       omega
     ·rw [if_neg c2]
      simp_all! only [gv]
      exact o_ (decide_eq_false (fun z=>c2 ⟨z.1,z.2.1⟩))
    ·rcases z with z | z
     ·exact absurd (nt ok (by rw [hks];exact List.mem_of_getElem? ha)) z
     ·exact absurd (nt ok (by rw [hks];exact List.mem_of_getElem? hb')) z
   ·intro τ J2 hv
    obtain ⟨r2,u5,u6,rfl,l2,bb2,hle2⟩:=(hIn2 _ _ _).mp hv
    rw [List.length_map,List.take_length,← eup] at bb2 hle2
    rw [List.length_drop] at hle2
    exact (hInv _ _ _).mpr ⟨r2,_,_,_,_,rfl,l2,bb2,by omega⟩
  ·intro τ J' hv
   obtain ⟨r,u3,u4,u5,u6,rfl,l',bb,hle⟩:=(hInv _ _ _).mp hv
   rw [jF,List.length_map,← hks,Fb ok.knd] at bb
   simp_all! only [bb.o]
   exact ⟨LQ _,pb,r,_,rfl,bb,q.imp (fun q=>Fg.less l' q) fun q l hl=>Fg.less (zo l') (q l ((l' l).elim (fun e=>e.trans hl) id))⟩
theorem ud {m:Rat} (h:gP m.num m.den=true):Sc gd MM m∧0≤m:=by
 have h:=of_decide_eq_true h
 have hd:m.den≤60:=by omega
 constructor
 ·have h1:Sc m.den m.num.natAbs m:=⟨m.num,by have:=cast_eq m;rw [this];rfl,Nat.le_refl _⟩
  obtain ⟨k,hk⟩:=MV m.den m.den_pos hd
  have h2:=h1.scale (E:=k)
  rw [show k * m.den=gd by rw [hk,Nat.mul_comm]] at h2
  refine h2.mono ?_
  have h3:m.num.natAbs≤1000000 * m.den:=by omega
  have h4:k * m.num.natAbs≤k * (1000000 * m.den):=Nat.mul_le_mul_left _ h3
  have h5:k * (1000000 * m.den)=1000000 * gd:=by rw [hk];rw [Nat.mul_left_comm,Nat.mul_comm k]
  unfold MM
  omega
 ·exact Rat.num_nonneg.mp h.2.2.2.1
theorem aZ.IX {L:Ln} (h:aZ L) {m:Rat} (hm:L.t≤m) (hg:gP m.num m.den=true):aZ { L with t:=m } :=
 ⟨h.nd,h.ne,fun c hc l hl=>Rat.le_trans (h.le c hc l hl) hm,h.ck,h.len,fun c hc q e=>⟨(h.gz c hc q e).1,Rat.le_trans (h.gz c hc q e).2 hm⟩,(ud hg).2,(ud hg).1,h.many,h.rm,h.rn,h.rl⟩
abbrev fe:Stmt:=(L2.inClass (top 42) 5)
theorem jX:L2.aw ["self","moment","passings"] ["self","moment"] (L2.ai fe):=eJ
def F0 (cN cL eM eP:Addr):cT:=fun xs J Q E=>∃ p L a b,xs=[.ref p,.tup [.int a,.int b]]∧a9 cN cL J p L∧b_ L∧(gP a b=false→E eM J)∧(∀ m:Rat,m.num=a→(m.den:Int)=b→gP a b=true→(m < L.t→E eP J)∧(L.t≤m→∀ J' o',a9 cN cL J' p { L with t:=m,o:=o',row:=cn m L.fs }→b_ { L with t:=m,o:=o',row:=cn m L.fs }→Mv J J' (L.own p) (Ln.own { L with t:=m,o:=o',row:=cn m L.fs } p)→Q (.fl ((cF L.t (L.fs.map (key L.t)) m).map aB.v)) J'))
theorem pT {cN cL eM eP f:Addr} {fd:FuncData} (F:cq K "go_to" "Lane.go_to" fe f fd) (Z:cj mg) (ax:dD K mg "Lane" cN) (az:aE K cN "now") (eQ:c7 P w K mg base cN 7 "foretold" ["self","moment"] (yx cN cL eM eP)) (bc:c7 P w K mg base cN 7 "settle" ["self"] (gW cN cL)):aQ P w K mg base (dt P w) 8 f fd ["self","moment"] (d7 K (F0 cN cL eM eP)):=by
 simp_arith [jX]
 ·obtain ⟨p,L,a,b,rfl,_⟩:=h;rfl
 obtain ⟨p,L,a,bb,rfl,b,ok,qe,q⟩:=h
 have bo:=b.ob
 refine ⟨_,(aj (aT (i:=2) jX.nd rfl (Or.inl rfl) (bD (pl:=_) eQ B hr (by decide) (rv 0) (af (rv 1) ah)))
   (aj (gy ax.cl az (rv 0) (rv 1))
   (aj (bx (gU (pl:=_) bc B hr (by decide) (rv 0)))
   (aq (aI (rv 2)))))),?_⟩
 simp_all! only [bo]
 refine ⟨gw _ _ _ _,p,L,a,bb,rfl,b,ok,qe,fun m h1 h2 hg=>⟨(q m h1 h2 hg).1,fun hm=>.inl ?_⟩⟩
 have q:=(q m h1 h2 hg).2 hm
 have ef:PV.tup [.int a,.int bb]=fr m:=by rw [← h1,← h2];rfl
 have hgm:gP m.num m.den=true:=by rw [h1,h2];exact hg
 have ok1:=ok.toaZ.IX hm hgm
 simp_all! only [bo,ef]
 refine ⟨by show (3:Nat) < 1000;decide,?_⟩
 have b1:a9 cN cL (put J p (.ins cN [("now",fr m),("logs",.ref L.d),("row",.ref L.o)])) p { L with t:=m } :=
  ⟨au,by show put J p _ L.d=_;rw [ak b.DW];exact b.dc,by show put J p _ L.o=_;rw [ak b.DY];exact b.rw,fun c hc=>⟨by rw [ak (b.K2 hc)];exact (b.lg c hc).o,by rw [ak (b.Il hc)];exact (b.lg c hc).l⟩,b.ap,b.ao⟩
 have mv1:Mv J (put J p (.ins cN [("now",fr m),("logs",.ref L.d),("row",.ref L.o)])) (L.own p) (L.own p):=fC (.inl rfl) fun a h=>.inl h
 generalize put J p (.ins cN [("now",fr m),("logs",.ref L.d),("row",.ref L.o)])=J1 at b1 mv1 ⊢
 simp_all! only [b1.ob]
 refine ⟨gw _ _ _ _,p,{ L with t:=m },rfl,b1,ok1,fun J2 o' b2 mv2=>?_⟩
 simp_all! only []
 exact q J2 o' b2 (b_.settled ok1 o') (mv1.trans mv2)
def Cf.turn (c:Cf) (t:Rat) (v:Int):Cf:={ c with w:=turned c.w t v }
def cP (n:Str) (t:Rat) (v:Int) (c:Cf):Cf:=if c.n=n then c.turn t v else c
theorem lG (n:Str) (t:Rat) (v:Int) (c:Cf):(cP n t v c).n=c.n∧(cP n t v c).a=c.a∧(cP n t v c).r=c.r∧(cP n t v c).g=c.g:=by unfold cP;split <;> exact ⟨rfl,rfl,rfl,rfl⟩
theorem dI {α β:Type} {f:α→β} {g:α→α} (h:∀ x,f (g x)=f x) (l:List α):(l.map g).map f=l.map f:=by rw [List.map_map];exact List.map_congr_left fun x _=>h x
theorem aZ.map {L:Ln} (h:aZ L) {f:Cf→Cf} (hn:∀ c,(f c).n=c.n∧(f c).a=c.a∧(f c).r=c.r∧(f c).g=c.g) (hw:∀ c∈L.cs,(f c).w≠[]∧(∀ l∈(f c).w,l.m≤L.t∧pA l)∧(f c).w.length≤200):aZ { L with cs:=L.cs.map f }:=by
 have mem:∀ c∈L.cs.map f,∃ c0∈L.cs,f c0=c:=fun c hc=>by obtain ⟨c0,h0,e⟩:=List.mem_map.mp hc;exact ⟨c0,h0,e⟩
 have hfs:(Ln.fs { L with cs:=L.cs.map f }).map (·.1)=L.fs.map (·.1):=by
  rw [eA,eA]
  unfold Ln.Ai
  show ((L.cs.map f).filter _).map Cf.n=_
  rw [List.filter_map,List.map_map]
  have e1:(fun c:Cf=>c.g.isNone) ∘ f=fun c=>c.g.isNone:=by funext c;show (f c).g.isNone=_;rw [(hn c).2.2.2]
  rw [e1]
  exact List.map_congr_left fun c _=>(hn c).1
 refine ⟨?_,?_,?_,?_,?_,?_,h.t0,h.ts,by show (L.cs.map f).length≤100;rw [List.length_map];exact h.many,fun n=>by rw [hfs];exact h.rm n,h.rn,h.rl⟩
 ·show ((L.cs.map f).map Cf.n).Nodup
  rw [dI (fun c=>(hn c).1)];exact h.nd
 ·intro c hc;obtain ⟨c0,h0,rfl⟩:=mem c hc;exact (hw c0 h0).1
 ·intro c hc l hl;obtain ⟨c0,h0,rfl⟩:=mem c hc;exact ((hw c0 h0).2.1 l hl).1
 ·intro c hc l hl;obtain ⟨c0,h0,rfl⟩:=mem c hc;exact ((hw c0 h0).2.1 l hl).2
 ·intro c hc;obtain ⟨c0,h0,rfl⟩:=mem c hc;exact (hw c0 h0).2.2
 ·intro c hc q e;obtain ⟨c0,h0,rfl⟩:=mem c hc;exact h.gz c0 h0 q (by rw [← (hn c0).2.2.2];exact e)
theorem aZ.Fp {L:Ln} (h:aZ L) {c:Cf} (hc:c∈L.cs):c.w≠[]∧(∀ l∈c.w,l.m≤L.t∧pA l)∧c.w.length≤200:=⟨h.ne c hc,fun l hl=>⟨h.le c hc l hl,h.ck c hc l hl⟩,h.len c hc⟩
theorem aZ.F8 {L:Ln} (h:aZ L) {c:Cf} (hc:c∈L.cs) (hl:c.w.length < 200) {v:Int} (hv:v.natAbs≤1000):(c.turn L.t v).w≠[]∧(∀ l∈(c.turn L.t v).w,l.m≤L.t∧pA l)∧(c.turn L.t v).w.length≤200:=by
 refine ⟨qS (h.ne c hc),fun l hl'=>?_,?_⟩
 ·rcases xh hl' with k | ⟨l0,k,rfl⟩
  ·exact ⟨h.le c hc l k,h.ck c hc l k⟩
  ·exact ⟨Rat.le_refl,(h.ck c hc l0 k).at (h.le c hc l0 k) h.ts hv⟩
 ·have:=kr c.w L.t v
  show (turned c.w L.t v).length≤200
  omega
theorem a9.turn {cN cL:Addr} {J:Hq} {p:Addr} {L:Ln} (h:a9 cN cL J p L) (ok:aZ L) {c:Cf} (hc:c∈L.cs) {t:Rat} {v:Int}:a9 cN cL (put J c.r (.lst ((turned c.w t v).map aU.V))) p { L with cs:=L.cs.map (cP c.n t v) }:=by
 have hcs:=lG c.n t v
 refine ⟨by rw [ak (Ne.symm (h.Il hc))];exact h.ob,?_,?_,fun x hx=>?_,?_,fun x hx=>?_⟩
 ·show put J c.r _ L.d=_
  rw [ak (Ne.symm (h.MY hc)),h.dc]
  show _=Option.some (HQ.dct ((L.cs.map (cP c.n t v)).map fun c=>(c.n,PV.ref c.a)) L.e)
  rw [dI (f:=fun c:Cf=>(c.n,PV.ref c.a)) (fun x=>by rw [(hcs x).1,(hcs x).2.1])]
 ·show put J c.r _ L.o=_
  rw [ak (Ne.symm (h.ao c hc))];exact h.rw
 ·obtain ⟨x0,h0,rfl⟩:=List.mem_map.mp hx
  have hl:=h.lg x0 h0
  refine ⟨?_,?_⟩
  ·rw [(hcs x0).2.1,(hcs x0).2.2.1,(hcs x0).2.2.2,ak (h.Nt h0 hc)];exact hl.o
  ·rw [(hcs x0).2.2.1]
   by_cases e:x0.n=c.n
   ·have:x0=c:=ok.uniq h0 hc e
    subst this
    rw [au]
    unfold cP;rw [if_pos rfl];rfl
   ·have hr:x0.r≠c.r:=fun z=>e (by
     obtain ⟨i,hi,rfl⟩:=List.getElem_of_mem h0
     obtain ⟨j,hj,rfl⟩:=List.getElem_of_mem hc
     have:=(List.getElem_inj (xs:=L.cs.map Cf.r) (i:=i) (j:=j) (h₀:=by simpa using hi) (h₁:=by simpa using hj) h.ap).mp (by rw [List.getElem_map,List.getElem_map];exact z)
     subst this;rfl)
    rw [ak hr]
    unfold cP;rw [if_neg e];exact hl.l
 ·show ((L.cs.map (cP c.n t v)).map Cf.r).Nodup
  rw [dI (fun x=>(hcs x).2.2.1)];exact h.ap
 ·obtain ⟨x0,h0,rfl⟩:=List.mem_map.mp hx
  rw [(hcs x0).2.2.1];exact h.ao x0 h0
theorem su {L:Ln} {p:Addr} {f:Cf→Cf} (hn:∀ c,(f c).n=c.n∧(f c).a=c.a∧(f c).r=c.r∧(f c).g=c.g) (a:Addr):Ln.own { L with cs:=L.cs.map f } p a↔L.own p a:=by
 unfold Ln.own
 constructor
 ·rintro (h | h | h | ⟨c,hc,h⟩)
  ·exact .inl h
  ·exact .inr (.inl h)
  ·exact .inr (.inr (.inl h))
  ·obtain ⟨c0,h0,rfl⟩:=List.mem_map.mp hc
   rw [(hn c0).2.1,(hn c0).2.2.1] at h
   exact .inr (.inr (.inr ⟨c0,h0,h⟩))
 ·rintro (h | h | h | ⟨c,hc,h⟩)
  ·exact .inl h
  ·exact .inr (.inl h)
  ·exact .inr (.inr (.inl h))
  ·exact .inr (.inr (.inr ⟨f c,List.mem_map.mpr ⟨c,hc,rfl⟩,by rw [(hn c).2.1,(hn c).2.2.1];exact h⟩))
abbrev fV:Stmt:=(L2.inClass (top 42) 3)
theorem sZ:L2.aw ["self","name","pace"] ["self","name","pace"] (L2.ai fV):=eJ
def yA (cN cL eC eF:Addr):cT:=fun xs J Q E=>∃ p L n v,xs=[.ref p,.str n,.int v]∧a9 cN cL J p L∧b_ L∧(∀ c∈L.cs,c.w.length < 200)∧(n ∉ L.row→E eC J)∧(n∈L.row→¬ v.natAbs≤1000→E eF J)∧(n∈L.row→v.natAbs≤1000→∀ J' L',a9 cN cL J' p L'→b_ L'→L'.cs=L.cs.map (cP n L.t v)→L'.t=L.t→Mv J J' (L.own p) (L'.own p)→Q .non J')
theorem sd {cN cL eC eF f:Addr} {fd:FuncData} (F:cq K "turn" "Lane.turn" fV f fd) (Z:cj mg) (ax:dD K mg "Lane" cN) (aK:aE K cN "logs") (az:aE K cN "now") {fk:Tok} (dz:mg "FASTEST"=some (.int 1000 fk)) (eh:Own K mg "TooFar" eF) (aH:c7 P w K mg base cN 1 "must_be_there" ["self","name"] (lB cN cL eC)) (d4:c7 P w K mg base cL 5 "turn" ["self","moment","pace"] (tG cL)) (bc:c7 P w K mg base cN 7 "settle" ["self"] (gW cN cL)):aQ P w K mg base (dt P w) 8 f fd ["self","name","pace"] (d7 K (yA cN cL eC eF)):=by
 simp_arith [sZ]
 ·obtain ⟨p,L,n,v,rfl,_⟩:=h;rfl
 obtain ⟨p,L,n,v,rfl,b,ok,hlen,qc,qf,q⟩:=h
 have bo:=b.ob
 have bd:=b.dc
 refine ⟨_,(aj (bx (bD (pl:=_) aH B hr (by decide) (rv 0) (af (rv 1) ah)))
   (aj (a7 (aF mD (aP vW rfl Z.abs boot_abs (af (rv 2) ah)) (e8 (v:=.int 1000) (.int 1000) rfl dz ⟨_,rfl⟩ (fun _ _=>rfl)) (L2.ay _)) (aq (dP eh rfl cv B.kn rfl (af bJ ah))) aO)
   (aj (bx (bD (pl:=_) d4 B hr (by decide) (ar h_ (aY ax.cl aK (rv 0)) (rv 1) (fun _ _=>rfl)) (af (aY ax.cl az (rv 0)) (af (rv 2) ah))))
   (aq (bx (gU (pl:=_) bc B hr (by decide) (rv 0))))))),?_⟩
 simp_all! only [bo]
 refine ⟨gw _ _ _ _,p,L,n,rfl,b,fun hn=>?_,qc⟩
 simp_all! only []
 have habs:(1000 < if v < 0 then -v else v)↔¬ v.natAbs≤1000:=by split <;> omega
 by_cases hv:v.natAbs≤1000
 ·rw [if_neg (fun z=>habs.mp z hv)]
  obtain ⟨c,hc,rfl,hg⟩:=ok.found hn
  have lo:=(b.lg c hc).o
  have ok1:aZ { L with cs:=L.cs.map (cP c.n L.t v) }:=ok.toaZ.map (lG c.n L.t v) fun x hx=>by
   unfold cP
   split
   ·exact ok.toaZ.F8 hx (hlen x hx) hv
   ·exact ok.toaZ.Fp hx
  have b1:=b.turn ok.toaZ hc (t:=L.t) (v:=v)
  have mv1:Mv J (put J c.r (.lst ((turned c.w L.t v).map aU.V))) (L.own p) (Ln.own { L with cs:=L.cs.map (cP c.n L.t v) } p):=fC (.inr (.inr (.inr ⟨c,hc,.inr rfl⟩))) fun a h=>.inl ((su (lG c.n L.t v) a).mp h)
  simp_all! only [bo,rS,zr,bd,ok.va hc,lo]
  refine ⟨Jp _ _,c.a,c.r,c.w,c.g,L.t,v,rfl,b.lg c hc,ok.ne c hc,Nat.le_trans (ok.len c hc) (by decide),ok.F7,fun l hl=>(ok.ck c hc l hl).Jr,?_⟩
  generalize put J c.r (.lst ((turned c.w L.t v).map aU.V))=J1 at b1 mv1 ⊢
  simp_all! only [b1.ob]
  refine ⟨gw _ _ _ _,p,_,rfl,b1,ok1,fun J2 o' b2 mv2=>?_⟩
  exact q hn hv J2 _ b2 (b_.settled ok1 o') rfl rfl (mv1.trans mv2)
 ·rw [if_pos (habs.mpr hv)]
  simp_all! only [fG]
  exact qf hn hv
def du (t:Rat) (c:Cf):Cf:=if c.g.isNone=true then c.turn t (-c.cur.v) else c
def bN (t:Rat) (row:List Str) (c:Cf):Cf:=if c.n∈row then c.turn t (-c.cur.v) else c
theorem kH (t:Rat) (row:List Str) (c:Cf):(bN t row c).n=c.n∧(bN t row c).a=c.a∧(bN t row c).r=c.r∧(bN t row c).g=c.g:=by unfold bN;split <;> exact ⟨rfl,rfl,rfl,rfl⟩
theorem jB {L:Ln} (ok:aZ L):L.cs.map (bN L.t L.row)=L.cs.map (du L.t):=by
 refine List.map_congr_left fun c hc=>?_
 have h:c.n∈L.row↔c.g.isNone=true:=by
  rw [ok.rm,eA,List.mem_map]
  constructor
  ·rintro ⟨c',hc',e⟩
   have h':=Ln.cX.mp hc'
   rw [ok.uniq h'.1 hc e] at h'
   rw [h'.2];rfl
  ·intro e
   exact ⟨c,Ln.cX.mpr ⟨hc,by cases hg:c.g with | none=>rfl | some q=>rw [hg] at e;cases e⟩,rfl⟩
 unfold bN du
 by_cases e:c.n∈L.row
 ·rw [if_pos e,if_pos (h.mp e)]
 ·rw [if_neg e,if_neg (fun z=>e (h.mpr z))]
theorem aZ.bN {L:Ln} (ok:aZ L) (hlen:∀ c∈L.cs,c.w.length < 200) (row:List Str):aZ { L with cs:=L.cs.map (bN L.t row) }:=ok.map (kH L.t row) fun x hx=>by
 unfold Ov.bN
 split
 ·exact ok.F8 hx (hlen x hx) (by have:=(ok.ck x hx _ (Cf.hZ (ok.ne x hx)).2).v;omega)
 ·exact ok.Fp hx
abbrev fc:Stmt:=(L2.inClass (top 42) 4)
theorem gC:L2.aw ["self","name","pace"] ["self"] (L2.ai fc):=eJ
def vf (cN cL:Addr):cT:=fun xs J Q E=>∃ p L,xs=[.ref p]∧a9 cN cL J p L∧b_ L∧(∀ c∈L.cs,c.w.length < 200)∧(∀ J' L',a9 cN cL J' p L'→b_ L'→L'.cs=L.cs.map (du L.t)→L'.t=L.t→Mv J J' (L.own p) (L'.own p)→Q .non J')
theorem pS {cN cL eC f:Addr} {fd:FuncData} (F:cq K "about" "Lane.about" fc f fd) (Z:cj mg) (ax:dD K mg "Lane" cN) (aD:aE K cN "row") (aK:aE K cN "logs") (az:aE K cN "now") (bA:c7 P w K mg base cN 4 "leg_of" ["self","name"] (lA cN cL eC)) (d4:c7 P w K mg base cL 5 "turn" ["self","moment","pace"] (tG cL)) (bc:c7 P w K mg base cN 7 "settle" ["self"] (gW cN cL)):aQ P w K mg base (dt P w) 8 f fd ["self"] (d7 K (vf cN cL)):=by
 simp_arith [gC]
 ·obtain ⟨p,L,rfl,_⟩:=h;rfl
 obtain ⟨p,L,rfl,b,ok,hlen,q⟩:=h
 refine ⟨_,(aj (jv dH rfl (fQ (aY ax.cl aD (rv 0))) (cM (i:=1) gC.nd rfl (Or.inl rfl)) (aj (aT (i:=2) gC.nd rfl (Or.inl rfl) (ar av (bD (pl:=_) bA B hr (by decide) (rv 0) (af (rv 1) ah)) ag (fun _ _=>rfl)))
   (aq (bx (bD (pl:=_) d4 B hr (by decide) (ar h_ (aY ax.cl aK (rv 0)) (rv 1) (fun _ _=>rfl)) (af (aY ax.cl az (rv 0)) (af (uU pf (rv 2)) ah)))))))
   (aq (bx (gU (pl:=_) bc B hr (by decide) (rv 0))))),?_⟩
 simp_all! only [b.ob,b.rw,rT]
 have hid:L.cs.map (bN L.t (L.row.take 0))=L.cs:=by
  have:∀ c∈L.cs,bN L.t (L.row.take 0) c=c:=fun c _=>by unfold bN;rw [if_neg (by simp)]
  rw [List.map_congr_left this,List.map_id']
 obtain ⟨Inv,hInv⟩:∃ Inv:Nat→Sr→Hq→Prop,∀ i τ J',Inv i τ J'↔∃ (u1 u2:Option PV),τ=[some (.ref p),u1,u2]∧a9 cN cL J' p { L with cs:=L.cs.map (bN L.t (L.row.take i)) }∧Mv J J' (L.own p) (L.own p):=⟨_,fun _ _ _=>Iff.rfl⟩
 refine n9 Inv ((hInv _ _ _).mpr ⟨_,_,rfl,by rw [hid];exact b,Mv.refl _ _⟩) (fun i τ J' h=>?_) ?_ ?_
 ·obtain ⟨_,_,_,b',_⟩:=(hInv _ _ _).mp h
  have:=b'.rw
  simp only at this
  rw [this]
 ·intro i x τ J' hx hv
  obtain ⟨u1,u2,rfl,b',mv'⟩:=(hInv _ _ _).mp hv
  clear hv
  have hi:i < L.row.length:=by have:=(List.getElem?_eq_some_iff.mp hx).1;simpa using this
  have hget:L.row[i]?=some L.row[i]:=List.getElem?_eq_getElem hi
  rw [List.getElem?_map,hget] at hx
  cases hx
  have hn:L.row[i]∈L.row:=List.getElem_mem hi
  have et:L.row.take (i + 1)=L.row.take i ++ [L.row[i]]:=by rw [List.take_add_one,hget];rfl
  have hnd:(L.row.take (i + 1)).Nodup:=ok.rn.sublist (List.take_sublist _ _)
  rw [et] at hnd
  have hnew:=(ip hnd).2
  generalize L.row[i]=n at hn et hnew ⊢
  obtain ⟨c,hc,rfl,hg⟩:=ok.found hn
  have oki:=ok.toaZ.bN hlen (L.row.take i)
  have ecc:bN L.t (L.row.take i) c=c:=by unfold bN;rw [if_neg hnew]
  have hci:c∈L.cs.map (bN L.t (L.row.take i)):=List.mem_map.mpr ⟨c,hc,ecc⟩
  simp_all! only [b'.ob]
  refine ⟨gw _ _ _ _,p,_,c.n,rfl,b',oki,fun c' hc' e' hg'=>?_,fun z=>absurd hn z⟩
  have ec':c'=c:=oki.uniq hc' hci e'
  subst ec'
  have hcv:=(ok.ck c' hc _ (Cf.hZ (ok.ne c' hc)).2).v
  have lo:=(b'.lg c' hci).o
  have bo':=b'.ob
  have bd':=b'.dc
  simp only at bo' bd'
  simp_all! only [ou,bo',rS,zr,bd',lo]
  have hva:=oki.va hci
  simp only at hva
  simp_all! only [hva,lo,bo',rS]
  refine ⟨Jp _ _,c'.a,c'.r,c'.w,c'.g,L.t,-c'.cur.v,rfl,b'.lg c' hci,ok.ne c' hc,Nat.le_trans (ok.len c' hc) (by decide),ok.F7,fun l hl=>(ok.ck c' hc l hl).Jr,?_⟩
  have b1:=b'.turn oki hci (t:=L.t) (v:=-c'.cur.v)
  have em:(L.cs.map (bN L.t (L.row.take i))).map (cP c'.n L.t (-c'.cur.v))=L.cs.map (bN L.t (L.row.take (i + 1))):=by
   rw [List.map_map]
   refine List.map_congr_left fun x hx=>?_
   show cP c'.n L.t (-c'.cur.v) (bN L.t (L.row.take i) x)=_
   by_cases e:x.n=c'.n
   ·have:x=c':=ok.uniq hx hc e
    subst this
    rw [ecc]
    unfold cP Ov.bN
    rw [if_pos rfl,if_pos (by rw [et];simp)]
   ·unfold cP
    rw [if_neg (by rw [(kH L.t (L.row.take i) x).1];exact e)]
    unfold Ov.bN
    rw [et]
    by_cases e2:x.n∈L.row.take i
    ·rw [if_pos e2,if_pos (List.mem_append.mpr (.inl e2))]
    ·rw [if_neg e2,if_neg (fun z=>by
      rcases List.mem_append.mp z with z | z
      ·exact e2 z
      ·exact e (by simpa using z))]
  simp only [em] at b1
  refine (hInv _ _ _).mpr ⟨_,_,rfl,b1,mv'.trans (fC (.inr (.inr (.inr ⟨c',hc,.inr rfl⟩))) fun a h=>.inl h)⟩
 ·intro τ J' hv
  obtain ⟨u1,u2,rfl,b',mv'⟩:=(hInv _ _ _).mp hv
  rw [List.length_map,List.take_length,jB ok.toaZ] at b'
  have oki:aZ { L with cs:=L.cs.map (du L.t) }:=by rw [← jB ok.toaZ];exact ok.toaZ.bN hlen L.row
  simp_all! only [b'.ob]
  refine ⟨gw _ _ _ _,p,_,rfl,b',oki,fun J2 o' b2 mv2=>?_⟩
  refine q J2 _ b2 (b_.settled oki o') rfl rfl (mv'.trans ⟨fun a o e n=>mv2.keep a o e fun z=>n ?_,fun a h=>?_,mv2.mono⟩)
  ·rw [← jB ok.toaZ] at z;exact (su (kH L.t L.row) a).mp z
  ·rcases mv2.own a h with h' | h'
   ·rw [← jB ok.toaZ] at h';exact .inl ((su (kH L.t L.row) a).mp h')
   ·exact .inr h'
def bF (n:Str) (t:Rat) (c:Cf):Cf:=if c.n=n then { c with g:=some t } else c
theorem eD (n:Str) (t:Rat) (c:Cf):(bF n t c).n=c.n∧(bF n t c).a=c.a∧(bF n t c).r=c.r∧(bF n t c).w=c.w:=by unfold bF;split <;> exact ⟨rfl,rfl,rfl,rfl⟩
theorem uk {L L':Ln} {n:Str} {t:Rat} (e:L'.cs=L.cs.map (bF n t)):L'.fs=L.fs.filter fun x=>decide (x.1≠n):=by
 unfold Ln.fs Ln.Ai
 rw [e,List.filter_map,List.map_map,List.filter_map,List.filter_filter]
 have e1:(fun c:Cf=>c.g.isNone) ∘ bF n t=fun c=>((fun x:Str × aU=>decide (x.1≠n)) ∘ fun c:Cf=>(c.n,c.cur)) c && c.g.isNone:=by
  funext c
  show (bF n t c).g.isNone=(decide (c.n≠n) && c.g.isNone)
  unfold bF
  by_cases z:c.n=n
  ·rw [if_pos z];simp [z]
  ·rw [if_neg z];simp [z]
 rw [e1]
 refine List.map_congr_left fun c hc=>?_
 show ((bF n t c).n,(bF n t c).cur)=_
 unfold Cf.cur
 rw [(eD n t c).1,(eD n t c).2.2.2]
theorem mF {ks:List Ky} (h:(ks.map Ky.n).Nodup) (f:Ky→Bool):dJ (ks.filter f)=(dJ ks).filter f:=by
 have hs:((ks.filter f).map Ky.n).Nodup:=h.sublist (List.Sublist.map _ List.filter_sublist)
 refine lD (lt:=Ky.lt) Ky.zf Ky.tr (dM hs) ((dM h).filter _) fun x=>?_
 rw [bp,List.mem_filter,List.mem_filter,bp]
theorem uG {t:Rat} {fs:List (Str × aU)} (h:(fs.map (·.1)).Nodup) (n:Str):cn t (fs.filter fun x=>decide (x.1≠n))=(cn t fs).filter fun x=>decide (x≠n):=by
 unfold cn
 have e:(fs.filter fun x=>decide (x.1≠n)).map (key t)=(fs.map (key t)).filter fun k=>decide (k.n≠n):=by rw [List.filter_map];rfl
 rw [e,mF (by rw [dA];exact h),List.filter_map]
 rfl
theorem erase_filter {l:List Str} (h:l.Nodup) {j:Nat} {n:Str} (hj:l[j]?=some n):l.eraseIdx j=l.filter fun x=>decide (x≠n):=by
 obtain ⟨hl,e⟩:=List.getElem?_eq_some_iff.mp hj
 rw [List.eraseIdx_eq_take_drop_succ]
 have hd:l=l.take j ++ n :: l.drop (j + 1):=by rw [← e,← List.drop_eq_getElem_cons hl,List.take_append_drop]
 have hn:=h
 rw [hd,List.nodup_append] at hn
 have k1:∀ x∈l.take j,x≠n:=fun x hx=>hn.2.2 x hx n (by simp)
 have k2:∀ x∈l.drop (j + 1),x≠n:=fun x hx z=>(List.nodup_cons.mp hn.2.1).1 (by rw [← z];exact hx)
 conv=>rhs;rw [hd]
 rw [List.filter_append,List.filter_cons,if_neg (by simp),List.filter_eq_self.mpr fun x hx=>decide_eq_true (k1 x hx),List.filter_eq_self.mpr fun x hx=>decide_eq_true (k2 x hx)]
theorem b_.leave {L:Ln} (ok:b_ L) (n:Str):b_ { L with cs:=L.cs.map (bF n L.t),row:=L.row.filter fun x=>decide (x≠n) }:=by
 have hfs:Ln.fs { L with cs:=L.cs.map (bF n L.t),row:=L.row.filter fun x=>decide (x≠n) }=L.fs.filter fun x=>decide (x.1≠n):=uk (L:=L) (t:=L.t) rfl
 have mem:∀ c∈L.cs.map (bF n L.t),∃ c0∈L.cs,bF n L.t c0=c:=fun c hc=>by obtain ⟨c0,h0,e⟩:=List.mem_map.mp hc;exact ⟨c0,h0,e⟩
 have hw:∀ c,(bF n L.t c).w=c.w:=fun c=>(eD n L.t c).2.2.2
 refine ⟨⟨?_,?_,?_,?_,?_,?_,ok.t0,ok.ts,?_,?_,?_,?_⟩,?_⟩
 ·show ((L.cs.map (bF n L.t)).map Cf.n).Nodup
  rw [dI (fun c=>(eD n L.t c).1)];exact ok.nd
 ·intro c hc;obtain ⟨c0,h0,rfl⟩:=mem c hc;rw [hw];exact ok.ne c0 h0
 ·intro c hc l hl;obtain ⟨c0,h0,rfl⟩:=mem c hc;rw [hw] at hl;exact ok.le c0 h0 l hl
 ·intro c hc l hl;obtain ⟨c0,h0,rfl⟩:=mem c hc;rw [hw] at hl;exact ok.ck c0 h0 l hl
 ·intro c hc;obtain ⟨c0,h0,rfl⟩:=mem c hc;rw [hw];exact ok.len c0 h0
 ·intro c hc q e
  obtain ⟨c0,h0,rfl⟩:=mem c hc
  unfold bF at e
  split at e
  ·cases e;exact ⟨ok.ts,Rat.le_refl⟩
  ·exact ok.gz c0 h0 q e
 ·show (L.cs.map (bF n L.t)).length≤100
  rw [List.length_map];exact ok.many
 ·intro m
  rw [hfs]
  show m∈L.row.filter _↔_
  rw [List.mem_filter,ok.rm,List.mem_map,List.mem_map]
  constructor
  ·rintro ⟨⟨x,hx,rfl⟩,k⟩;exact ⟨x,List.mem_filter.mpr ⟨hx,k⟩,rfl⟩
  ·rintro ⟨x,hx,rfl⟩;exact ⟨⟨x,(List.mem_filter.mp hx).1,rfl⟩,(List.mem_filter.mp hx).2⟩
 ·exact ok.rn.sublist List.filter_sublist
 ·exact Nat.le_trans (List.length_filter_le _ _) ok.rl
 ·rw [hfs]
  show L.row.filter _=_
  rw [uG ok.C8,← ok.row]
theorem xD {α:Type} [DecidableEq α]:∀ {l:List α} {x:α},x∈l→∃ j:Nat,l[j]?=some x∧∀ m:Nat,m < j→l[m]?≠some x
 | y :: l,x,h=>by
  by_cases e:y=x
  ·exact ⟨0,by rw [e];rfl,fun m hm=>by omega⟩
  ·rcases List.mem_cons.mp h with h | h
   ·exact absurd h.symm e
   ·obtain ⟨j,h1,h2⟩:=xD h
    refine ⟨j + 1,h1,fun m hm=>?_⟩
    cases m with
    | zero=>intro z;exact e (Option.some.inj z)
    | succ m=>exact h2 m (by omega)
abbrev ff:Stmt:=(L2.inClass (top 42) 2)
theorem p6:L2.aw ["self","name"] ["self","name"] (L2.ai ff):=eJ
def vg (cN cL eC:Addr):cT:=fun xs J Q E=>∃ p L n,xs=[.ref p,.str n]∧a9 cN cL J p L∧b_ L∧(n ∉ L.row→E eC J)∧(n∈L.row→∀ J' L',a9 cN cL J' p L'→b_ L'→L'.cs=L.cs.map (bF n L.t)→L'.t=L.t→Mv J J' (L.own p) (L'.own p)→Q .non J')
theorem pU {cN cL eC f:Addr} {fd:FuncData} (F:cq K "leave" "Lane.leave" ff f fd) (Z:cj mg) (ax:dD K mg "Lane" cN) (aK:aE K cN "logs") (az:aE K cN "now") (aD:aE K cN "row") (aH:c7 P w K mg base cN 1 "must_be_there" ["self","name"] (lB cN cL eC)) (jf:c7 P w K mg base cL 1 "leave" ["self","moment"] (u_ cL)):aQ P w K mg base (dt P w) 2 f fd ["self","name"] (d7 K (vg cN cL eC)):=by
 simp_arith [p6]
 ·obtain ⟨p,L,n,rfl,_⟩:=h;rfl
 obtain ⟨p,L,n,rfl,b,ok,qc,q⟩:=h
 have bo:=b.ob
 have bd:=b.dc
 refine ⟨_,(aj (bx (bD (pl:=_) aH B hr (by decide) (rv 0) (af (rv 1) ah)))
   (aj (bx (bD (pl:=_) jf B hr (by decide) (ar h_ (aY ax.cl aK (rv 0)) (rv 1) (fun _ _=>rfl)) (af (aY ax.cl az (rv 0)) ah)))
   (aq (bx (mH PySem.F.plainAttrs_list PySem.F.slot_list_remove PySem.F.type_list_remove zx (aY ax.cl aD (rv 0)) (af (rv 1) ah)))))),?_⟩
 simp_all! only [bo]
 refine ⟨gw _ _ _ _,p,L,n,rfl,b,fun hn=>?_,qc⟩
 obtain ⟨c,hc,rfl,hg⟩:=ok.found hn
 have lo:=(b.lg c hc).o
 simp_all! only [bo,rS,zr,bd,ok.va hc,lo]
 refine ⟨LU _ _,c.a,c.r,c.w,c.g,L.t,rfl,b.lg c hc,?_⟩
 simp_all! only [ak (Ne.symm (b.K2 hc)),bo,rT,ak (Ne.symm (b.L4 hc)),b.rw]
 obtain ⟨j,h1,h2⟩:=xD hn
 refine ⟨L.row,rfl,j,h1,h2,?_⟩
 rw [erase_filter ok.rn h1]
 have hn':=eD c.n L.t
 have ok1:=ok.leave c.n
 refine q hn _ { L with cs:=L.cs.map (bF c.n L.t),row:=L.row.filter fun x=>decide (x≠c.n) } ⟨?_,?_,au,fun x hx=>?_,?_,fun x hx=>?_⟩ ok1 rfl rfl ?_
 ·rw [ak (Ne.symm b.DY),ak (Ne.symm (b.K2 hc))];exact bo
 ·show put (put J c.a _) L.o _ L.d=_
  rw [ak b.L5,ak (Ne.symm (b.MX hc)),bd]
  show _=some (HQ.dct ((L.cs.map (bF c.n L.t)).map fun c=>(c.n,PV.ref c.a)) L.e)
  rw [dI (f:=fun c:Cf=>(c.n,PV.ref c.a)) (fun x=>by rw [(hn' x).1,(hn' x).2.1])]
 ·obtain ⟨x0,h0,rfl⟩:=List.mem_map.mp hx
  have hl:=b.lg x0 h0
  refine ⟨?_,?_⟩
  ·rw [(hn' x0).2.1,(hn' x0).2.2.1,ak (b.L4 h0)]
   by_cases e:x0.n=c.n
   ·have:x0=c:=ok.uniq h0 hc e
    subst this
    rw [au]
    unfold bF;rw [if_pos rfl];rfl
   ·have ha:x0.a≠c.a:=fun z=>by
     have hh:=hl.o
     have hh2:=(b.lg c hc).o
     rw [z,hh2] at hh
     have hrr:c.r=x0.r:=by
      have h3:=(HQ.ins.inj (Option.some.inj hh)).2
      have h4:=(List.cons.inj h3).1
      have h5:=(Prod.mk.inj h4).2
      exact PV.ref.inj h5
     obtain ⟨i,hi,rfl⟩:=List.getElem_of_mem h0
     obtain ⟨j',hj',rfl⟩:=List.getElem_of_mem hc
     have:=(List.getElem_inj (xs:=L.cs.map Cf.r) (i:=i) (j:=j') (h₀:=by simpa using hi) (h₁:=by simpa using hj') b.ap).mp (by rw [List.getElem_map,List.getElem_map];exact hrr.symm)
     subst this;exact e rfl
    rw [ak ha]
    unfold bF;rw [if_neg e];exact hl.o
  ·rw [(hn' x0).2.2.1,(hn' x0).2.2.2,ak (b.ao x0 h0),ak (fun z=>by have h3:=hl.l;rw [z,lo] at h3;cases h3)];exact hl.l
 ·show ((L.cs.map (bF c.n L.t)).map Cf.r).Nodup
  rw [dI (fun x=>(hn' x).2.2.1)];exact b.ap
 ·obtain ⟨x0,h0,rfl⟩:=List.mem_map.mp hx
  rw [(hn' x0).2.2.1];exact b.ao x0 h0
 ·have own':∀ a,Ln.own { L with cs:=L.cs.map (bF c.n L.t),row:=L.row.filter fun x=>decide (x≠c.n) } p a→L.own p a:=fun a h=>by
   rcases h with h | h | h | ⟨x,hx,h⟩
   ·exact .inl h
   ·exact .inr (.inl h)
   ·exact .inr (.inr (.inl h))
   ·obtain ⟨c0,h0,rfl⟩:=List.mem_map.mp hx
    rw [(hn' c0).2.1,(hn' c0).2.2.1] at h
    exact .inr (.inr (.inr ⟨c0,h0,h⟩))
  refine (fC (S':=L.own p) (.inr (.inr (.inr ⟨c,hc,.inl rfl⟩))) fun a h=>.inl h).trans (fC (.inr (.inr (.inl rfl))) fun a h=>.inl (own' a h))
abbrev jQ:Stmt:=(top 50)
theorem dS:L2.aw ["_law_cell_here","_law_many","_law_signs","_law_row","_law_some","_law_body","_law_at_here","_law_out","_law_k"] ["_law_cell_here","_law_many"] (L2.ai jQ):=eJ
def yB:Sp:=fun vs H Q _=>∃ c m:Int,vs=[.int c,.int m]∧0≤m∧m≤36∧∀ (r:Addr) (H':Hp) (xs:List Str),H r=none→bt H H'→H' r=some (.lst (xs.map V.str))→(xs.length:Int)=m→xs.Nodup→(∀ x∈xs,good x=true)→Q (.ref r) H'
def menu:List Str:=["m","ab","a","zebra9","b0","0","abc","9zz","q7q7q7q7","aa","z","a1b2c3d4"]
def cE:Str:="abcdefghijklmnopqrstuvwxyz0123456789"
theorem DP:menu.Nodup:=by decide +kernel
theorem Az:cE.cps.toList.Nodup:=by decide +kernel
theorem jC:cE.cps.toList.length=36:=by decide +kernel
theorem Gv {α:Type} {xs:List α} {j:Int} (h0:0≤j) (h1:j < xs.length):cU xs j=some (xs[j.toNat]'(by omega)):=by
 have h:=ba (xs:=xs) (j:=j.toNat) (List.getElem?_eq_getElem (by omega))
 rw [show ((j.toNat:Nat):Int)=j by omega] at h
 exact h
def Fl {α:Type} (xs:List α) (z:α) (d:Int) (k:Nat):α:=xs.getD ((d + 5 * (k:Int)) % (xs.length:Int)).toNat z
section
variable {α:Type} {xs:List α} {z:α} (d:Int)
theorem nZ (h:0 < xs.length) (k:Nat):0≤(d + 5 * (k:Int)) % (xs.length:Int)∧(d + 5 * (k:Int)) % (xs.length:Int) < (xs.length:Int):=⟨Int.emod_nonneg _ (by omega),Int.emod_lt_of_pos _ (by omega)⟩
theorem kO (h:0 < xs.length) (k:Nat):xs[((d + 5 * (k:Int)) % (xs.length:Int)).toNat]?=some (Fl xs z d k):=by
 have:=nZ d h k
 unfold Fl
 rw [List.getD_eq_getElem?_getD,List.getElem?_eq_getElem (by omega)]
 rfl
theorem GF (h:0 < xs.length) (k:Nat):cU xs ((d + 5 * (k:Int)) % (xs.length:Int))=some (Fl xs z d k):=by
 have:=ba (kO (z:=z) d h k)
 rwa [Int.toNat_of_nonneg (nZ d h k).1] at this
theorem xx (h:0 < xs.length) (k:Nat):Fl xs z d k∈xs:=List.mem_of_getElem? (kO d h k)
theorem Lr {M a b d u v:Int} (g:5 * u=1 + M * v) (a0:0≤a) (a1:a < M) (b0:0≤b) (b1:b < M) (e:(d + 5 * a) % M=(d + 5 * b) % M):a=b:=by
 have h:M ∣ 5 * (a - b):=by
  have:=Int.dvd_of_emod_eq_zero (Int.emod_eq_emod_iff_emod_sub_eq_zero.mp e)
  rwa [show d + 5 * a - (d + 5 * b)=5 * (a - b) by omega] at this
 obtain ⟨c,hc⟩:M ∣ a - b:=by
  obtain ⟨c,hc⟩:=h
  refine ⟨u * c - v * (a - b),?_⟩
  have h1:5 * u * (a - b)=u * (M * c):=by rw [← hc];grind
  rw [g] at h1
  grind
 rcases Int.lt_trichotomy c 0 with k | k | k
 ·have:M * c≤M * (-1):=Int.mul_le_mul_of_nonneg_left (by omega) (by omega)
  omega
 ·subst k;omega
 ·have:M * 1≤M * c:=Int.mul_le_mul_of_nonneg_left (by omega) (by omega)
  omega
theorem xw (u v:Int) (hn:xs.Nodup) (g:5 * u=1 + (xs.length:Int) * v) {i j:Nat} (hi:i < xs.length) (hj:j < xs.length) (e:Fl xs z d i=Fl xs z d j):i=j:=by
 have h:0 < xs.length:=by omega
 have a:=kO (z:=z) d h i
 have b:=kO (z:=z) d h j
 rw [e] at a
 obtain ⟨a1,a2⟩:=List.getElem?_eq_some_iff.mp a
 obtain ⟨b1,b2⟩:=List.getElem?_eq_some_iff.mp b
 have e1:=(List.getElem_inj hn).mp (a2.trans b2.symm)
 have:=nZ d h i
 have:=nZ d h j
 exact Int.ofNat.inj (Lr g (Int.natCast_nonneg i) (Int.ofNat_lt.mpr hi) (Int.natCast_nonneg j) (Int.ofNat_lt.mpr hj) (show (d + 5 * (i:Int)) % _=(d + 5 * (j:Int)) % _ by omega))
end
theorem Bv:menu.length=12:=by decide +kernel
abbrev pick:Int→Nat→Str:=Fl menu ""
theorem Ej (d:Int) (k:Nat):cU (menu.map V.str) ((d + 5 * (k:Int)) % 12)=some (.str (pick d k)):=by
 have h:=nZ (xs:=menu) d (by decide +kernel) k
 have g:=ba (xs:=menu.map V.str) (j:=((d + 5 * (k:Int)) % (menu.length:Int)).toNat) (by rw [List.getElem?_map,kO (xs:=menu) (z:="") d (by decide +kernel) k];rfl)
 rw [Int.toNat_of_nonneg h.1,Bv] at g
 exact g
theorem B2 (d:Int) {m:Nat} (hm:m≤12):((List.range m).map (pick d)).Nodup:=by
 refine List.Pairwise.map (R:=fun i j=>i < 12∧j < 12∧i≠j) _ (fun i j ⟨a,b,c⟩ e=>c (xw d 5 2 DP (by decide +kernel) a b e)) ?_
 refine List.Pairwise.imp_of_mem (R:=fun i j=>i≠j) (fun {i j} hi hj ne=>?_) (List.nodup_range)
 rw [List.mem_range] at hi hj
 exact ⟨by omega,by omega,ne⟩
theorem zw:∀ x∈menu,good x=true:=by decide +kernel
theorem nW:∀ c∈cE.cps.toList,dw b7 c=true:=by decide +kernel
theorem zO (d:Int) (k:Nat):good (pick d k)=true:=zw _ (xx d (by decide +kernel) k)
theorem DC {cs:List Nat} (h0:0 < cs.length) (h1:cs.length≤8) (h:∀ c∈cs,dw b7 c=true):good ⟨cs.toArray⟩=true:=by
 unfold good
 rw [Bool.and_eq_true,Bool.and_eq_true]
 refine ⟨⟨decide_eq_true ?_,decide_eq_true ?_⟩,List.all_eq_true.mpr fun c hc=>h c (by simpa using hc)⟩
 ·show 1≤cs.toArray.size;rw [List.size_toArray];omega
 ·show cs.toArray.size≤8;rw [List.size_toArray];omega
abbrev sign:Int→Nat→Nat:=Fl cE.cps.toList 0
theorem EW (d:Int) (k:Nat):cU cE.cps.toList ((d + 5 * (k:Int)) % 36)=some (sign d k):=by
 have h:=GF (xs:=cE.cps.toList) (z:=0) d (by decide +kernel) k
 rw [jC] at h
 exact h
theorem zV (d:Int) (k:Nat):dw b7 (sign d k)=true:=nW _ (xx d (by decide +kernel) k)
theorem Cv (d:Int) {i j:Nat} (hi:i < 36) (hj:j < 36) (e:sign d i=sign d j):i=j:=xw d (-7) (-1) Az (by decide +kernel) (by rw [jC];exact hi) (by rw [jC];exact hj) e
theorem CZ {d:Int} {n:Nat} {xs:List Str} (hl:xs.length≤36) (h:∀ k x,xs[k]?=some x→x.cps.toList[n]?=some (sign d k)):xs.Nodup:=by
 refine List.pairwise_iff_getElem.mpr fun i j hi hj hij e=>?_
 have a:=h i _ (List.getElem?_eq_getElem hi)
 have b:=h j _ (List.getElem?_eq_getElem hj)
 rw [e] at a
 rw [a] at b
 have:=Cv d (by omega) (by omega) (Option.some.inj b)
 omega
theorem AJ {xs:List V} {k:Int} (h:0≤k):lQ xs none (some k)=xs.take k.toNat:=by
 obtain ⟨j,rfl⟩:∃ j:Nat,k=(j:Int):=⟨k.toNat,by omega⟩
 unfold lQ
 rw [HT.Cp,HT.sQ,List.drop_zero,Int.toNat_natCast]
 rcases Nat.le_total j xs.length with e | e
 ·rw [Nat.min_eq_left e]
  rfl
 ·rw [Nat.min_eq_right e,Nat.sub_zero,List.take_of_length_le (Nat.le_refl _),List.take_of_length_le e]
theorem BI (cs:List Nat):((cs.map one).map (·.length)).sum=cs.length:=by
 induction cs with
 | nil=>rfl
 | cons c cs ih =>
  rw [List.map_cons,List.map_cons,List.sum_cons,ih,List.length_cons]
  show 1 + cs.length=cs.length + 1
  omega
theorem Ko {ds:List Int} (hD:Dig ds [3,36,8,36,36,36,36,36,36,36,36,840]):∃ (d0 d1 d2 d11:Int) (es:List Int),cU (ds.map V.int) 0=some (.int d0)∧cU (ds.map V.int) 1=some (.int d1)∧cU (ds.map V.int) 2=some (.int d2)∧cU (ds.map V.int) 11=some (.int d11) ∧
  lQ (ds.map V.int) (some 3) (some 11)=es.map V.int∧es.length=8∧(∀ e∈es,0≤e∧e < 36)∧0≤d2∧d2 < 8:=by
 obtain ⟨d0,ds,rfl,_,_,hD⟩:=hD.cons
 obtain ⟨d1,ds,rfl,_,_,hD⟩:=hD.cons
 obtain ⟨d2,ds,rfl,d20,d21,hD⟩:=hD.cons
 have key:∀ (n:Nat) {ds:List Int},Dig ds (List.replicate n 36 ++ [840])→∃ es d,ds=es ++ [d]∧es.length=n∧∀ e∈es,0≤e∧e < 36:=by
  intro n
  induction n with
  | zero=>intro ds h;obtain ⟨d,ds,rfl,_,_,h⟩:=h.cons;cases h.nil;exact ⟨[],d,rfl,rfl,fun e he=>by cases he⟩
  | succ n ih =>
   intro ds h
   obtain ⟨d,ds,rfl,h0,h1,h⟩:=h.cons
   obtain ⟨es,x,rfl,hl,he⟩:=ih h
   exact ⟨d :: es,x,rfl,congrArg Nat.succ hl,List.forall_mem_cons.mpr ⟨⟨h0,h1⟩,he⟩⟩
 obtain ⟨es,d11,rfl,hl,he⟩:=key 8 hD
 refine ⟨d0,d1,d2,d11,es,ba (j:=0) rfl,ba (j:=1) rfl,ba (j:=2) rfl,ba (j:=11) ?_,?_,hl,he,d20,d21⟩
 ·rw [List.getElem?_map,List.getElem?_cons_succ,List.getElem?_cons_succ,List.getElem?_cons_succ,List.getElem?_append_right (by omega),hl];rfl
 ·have h11:((d0 :: d1 :: d2 :: (es ++ [d11])).map V.int).length=12:=by simp [hl]
  unfold lQ
  rw [show (some (3:Int))=some ((3:Nat):Int) from rfl,show (some (11:Int))=some ((11:Nat):Int) from rfl,HT.sQ,HT.sQ,h11]
  show List.take 8 ((es ++ [d11]).map V.int)=_
  rw [List.map_append,List.take_append_of_le_length (by simp [hl]),List.take_of_length_le (by simp [hl])]
theorem DJ {p q a b:Prop} [Decidable p] [Decidable q]:(if p then if q then a else b else b)=if p∧q then a else b:=by by_cases hp:p <;> by_cases hq:q <;> simp [hp,hq]
theorem BB {f:Addr} {fd:FuncData} (F:cq K "_law_names" "_law_names" jQ f fd) (Z:Ae mg) (fm:pq P w K mg base 1 "_law_digits" ["_law_cell_here","_law_sizes"] (o6 K)):aQ P w K mg base nK 2 f fd ["_law_cell_here","_law_many"] yB:=by
 refine F.ok dS (fun vs H Q E h=>?_) (fun cdv A outer s H vs Q E hr h=>?_)
 ·obtain ⟨c,m,rfl,_⟩:=h
  rfl
 obtain ⟨c,m,rfl,m0,m1,q⟩:=h
 refine ⟨_,(QB.run (aW (cy (i:=2) dS.nd rfl (Or.inr rfl) l5)
   (aW (cy (i:=3) dS.nd rfl (Or.inr rfl) (uK fm hr (by decide) rfl (aR (pv 0) (aR (jl (BU [.int 3,.int 36,.int 8,.int 36,.int 36,.int 36,.int 36,.int 36,.int 36,.int 36,.int 36,.int 840] rfl)) bB))))
   (aW (k7 (FJ (sG (cY BJ (bS fA (pv 3) aJ (fun _ _=>rfl)) aJ (ay _)) (ni (cY FF (pv 1) aJ (ay _))))) (aW (cy (i:=4) dS.nd rfl (Or.inr rfl) (jl (BU [.str "m",.str "ab",.str "a",.str "zebra9",.str "b0",.str "0",.str "abc",.str "9zz",.str "q7q7q7q7",.str "aa",.str "z",.str "a1b2c3d4"] rfl)))
   (bC (c9 (Ec (ai jQ) ["_law_cell_here","_law_many","_law_signs","_law_row","_law_some","_law_body","_law_at_here","_law_out","_law_k"] [("_law_row",3),("_law_some",4)] rfl rfl rfl (fj rfl Z.range (aR (pv 1) bB)) (fun _ _ _ _ _ _=>(bS fA (pv 2) (bh fF (bh iq (bS fA (pv 1) aJ (fun _ _=>rfl)) (bh cg aJ (pv 0))) aJ) (fun _ _=>rfl))))))) eY)
   (aW (Em (i:=5) (ai jQ) ["_law_cell_here","_law_many","_law_signs","_law_row","_law_some","_law_body","_law_at_here","_law_out","_law_k"] [("_law_signs",2)] rfl rfl rfl dS.nd rfl (Or.inl rfl) (k4 (jm tu (pv 3) (jL aJ) (jL aJ))) (fun _ _ _ _ _ _=>(bS Bh (pv 1) (pv 0) (fun _ _=>rfl))))
   (uN (k7 (cY BJ (bS fA (pv 3) aJ (fun _ _=>rfl)) aJ (ay _)) (bC (cy (i:=5) dS.nd rfl (Or.inl rfl) (jm tu (pv 5) m_ (jL (bh iq (bS fA (pv 3) aJ (fun _ _=>rfl)) aJ))))) eY)
   (aW (cy (i:=6) dS.nd rfl (Or.inl rfl) (bh fF (bS fA (pv 3) aJ (fun _ _=>rfl)) (dg hX rfl Z.len boot_len (aR (pv 5) bB))))
   (aW (cy (i:=7) dS.nd rfl (Or.inl rfl) (jl bB))
   (aW (l6 PassesOwn.never rfl (fj rfl Z.range (aR (pv 1) bB)) (jK (i:=8) dS.nd rfl (Or.inl rfl)) (aW (sD (bS Bh (pv 2) (bh fF (bh iq (bS fA (pv 3) aJ (fun _ _=>rfl)) (bh cg aJ (pv 8))) aJ) (fun _ _=>rfl)) (sx (pv 5) (pv 6) set_list))
   (bC (jM (oK PySem.F.plainAttrs_list PySem.F.slot_list_append PySem.F.type_list_append fi (pv 7) (aR (oK PySem.F.plainAttrs_str PySem.F.slot_str_join PySem.F.type_str_join DU l5 (aR (pv 5) bB)) bB))))))
   (bC (c9 (pv 7)))))))))))),?_⟩
 refine ⟨_,rfl,(by show 12≤sizeLine;decide),fun p hp=>?_⟩
 have ss:=o4 (ss:=[3,36,8,36,36,36,36,36,36,36,36,840]) (by decide)
 refine ⟨c,p,[3,36,8,36,36,36,36,36,36,36,36,840],rfl,c8.of aA,ss,by decide,fun r H1 ds _ g1 hr1 hD=>?_⟩
 obtain ⟨d0,d1,d2,d11,es,at0,at1,at2,at11,hcut,el,be,d20,d21⟩:=Ko hD
 clear hD
 generalize ds.map V.int=row at hr1 at0 at1 at2 at11 hcut
 have g1:=(bt.new hp _).trans g1
 dsimp! only [rJoin,hr1,at0,at1]
 rw [DJ]
 split
 ·refine ⟨(by show 12≤sizeLine;decide),fun p2 hp2=>?_⟩
  have g2:=bt.new hp2 (.lst (menu.map V.str))
  have h2:(upd H1 p2 (.lst (menu.map V.str))) p2=some (.lst (menu.map V.str)):=aA
  have hr2:=g2 _ _ hr1
  refine ⟨_,rfl,m,rfl,by omega,by omega,fun D hD=>?_⟩
  refine Bo (lo:=0) (n:=m.toNat) (fun i H'=>bt (upd H1 p2 (.lst (menu.map V.str))) H'∧H' D=some (.lst (((List.range i).map (pick d1)).map V.str))) ⟨bt.new hD _,aA⟩ ?_ ?_
  ·rintro i H' R hi ⟨g,hd⟩ k
   have hr3:=g _ _ hr2
   have h3:=g _ _ h2
   dsimp! only [rJoin,hr3,h3,at1,Int.zero_add]
   refine ⟨.of (Bd.small (by decide) (by decide)) (Bd.small (x:=(i:Int)) (by omega) (by omega)),_,Ej d1 i,?_⟩
   refine k _ _ _ hd (by rw [List.length_map,List.length_map,List.length_range];exact a_ (by omega)) ⟨g.Im hD _,?_⟩
   rw [aA]
   simp [List.range_succ]
  ·rintro H' ⟨g,hd⟩
   exact q D H' _ (g1.free (g2.free hD)) (g1.trans (g2.trans g)) hd (by rw [List.length_map,List.length_range];omega) (B2 d1 (by omega)) (fun x hx=>by obtain ⟨k,_,rfl⟩:=List.mem_map.mp hx;exact zO d1 k)
 refine ⟨_,rfl,3,rfl,11,rfl,r,_,rfl,c8.of hr1,fun p2 hp2=>⟨p2,rfl,⟨_,c8.of aA⟩,fun D hD=>?_⟩⟩
 rw [hcut] at hD ⊢
 have g2:=bt.new hp2 (.lst (es.map V.int))
 have hr2:=g2 _ _ hr1
 have h2:(upd H1 p2 (.lst (es.map V.int))) p2=some (.lst (es.map V.int)):=aA
 have al:=jC
 have al2:cE.length≤sizeLine:=by decide +kernel
 refine DL (K:=K) (a:=p2) (xs:=es.map V.int) (fun i H'=>bt (upd H1 p2 (.lst (es.map V.int))) H'∧∃ cs:List Nat,cs.length=i∧(∀ c∈cs,dw b7 c=true)∧H' D=some (.lst ((cs.map one).map V.str)))
  ⟨bt.new hD _,[],rfl,(fun c hc=>by cases hc),aA⟩ (fun i H' _ ⟨g,_⟩=>c8.of (g _ _ h2)) ?_ ?_
 ·rintro i y H' R hi ⟨g,cs,hcs,hca,hd⟩ k
  have hil:=(List.getElem?_eq_some_iff.mp hi).1
  obtain ⟨z,rfl,hz⟩:=oj hi
  obtain ⟨z0,z1⟩:=be z (List.mem_of_getElem? hz)
  have at1:=Gv (xs:=cE.cps.toList) z0 (by rw [al];exact z1)
  dsimp! only [rJoin]
  refine ⟨al2,_,at1,?_⟩
  refine k _ _ _ hd (by rw [List.length_map,List.length_map,hcs];rw [List.length_map] at hil;exact a_ (by omega)) ⟨g.Im hD _,cs ++ [cE.cps.toList[z.toNat]'(by rw [al];omega)],by rw [List.length_append,hcs];rfl,?_,?_⟩
  ·intro c hc
   rcases List.mem_append.mp hc with hc | hc
   ·exact hca c hc
   ·rw [List.mem_singleton] at hc;subst hc;exact nW _ (List.getElem_mem _)
  rw [aA,List.map_append,List.map_append]
  rfl
 rintro H2 ⟨g,cs,hcs,hca,hd⟩
 have hr3:=g _ _ hr2
 have g:=g1.trans (g2.trans g)
 have hcs:cs.length=8:=hcs.trans ((List.length_map _).trans el)
 obtain ⟨M,hM⟩:∃ M:L2.St→Hp→Prop,∀ σ' H',M σ' H'↔∃ (D:Addr) (cs:List Nat),σ'=[some (.int c),some (.int m),some (.str cE),some (.ref r),none,some (.ref D),none,none,none]∧bt H H'∧H D=none∧H' r=some (.lst row)∧D≠r∧0 < cs.length∧cs.length≤8∧(∀ c∈cs,dw b7 c=true)∧H' D=some (.lst ((cs.map one).map V.str)):=⟨_,fun _ _=>Iff.rfl⟩
 have fD:H D=none:=g1.free (g2.free hD)
 have nDr:D≠r:=(bR hr2 hD).symm
 refine ⟨M,?_,?_⟩
 ·dsimp! only [rJoin,hr3,at0,at2]
  split
  ·refine ⟨_,c8.of hd,fun p4 hp4=>(hM _ _).mpr ⟨p4,cs.take (d2 + 1).toNat,rfl,g.trans (bt.new hp4 _),g.free hp4,?_,?_,?_,?_,(fun c hc=>hca c (List.mem_of_mem_take hc)),?_⟩⟩
   ·exact (bt.new hp4 _) _ _ hr3
   ·exact (bR hr3 hp4).symm
   ·rw [List.length_take];omega
   ·rw [List.length_take];omega
   ·rw [aA,AJ (by omega),List.map_take,List.map_take]
  ·exact (hM _ _).mpr ⟨D,cs,rfl,g,fD,hr3,nDr,by omega,by omega,hca,hd⟩
 clear hca hd hr3 g fD nDr hcs
 intro σ5 H5 hm
 obtain ⟨D,cs,rfl,g,fD,hr3,nDr,l0,l1,hca,hd⟩:=(hM _ _).mp hm
 clear hm hM M
 have e0s:(Str.ofString "").length=0:=by decide +kernel
 have hl:((cs.map one).map V.str).length=cs.length:=by rw [List.length_map,List.length_map]
 have hlp:(0:Int) < (((cs.map one).map V.str).length:Nat):=by rw [hl];omega
 have a0:=Int.emod_nonneg d11 (show (((cs.map one).map V.str).length:Int)≠0 by omega)
 have a1:=Int.emod_lt_of_pos d11 hlp
 refine ⟨_,rfl,r,_,11,_,rfl,rfl,hr3,at11,_,rfl,D,rfl,_,.inl (c8.of hd),_,_,rfl,rfl,hlp,?_⟩
 generalize hat:d11 % (((cs.map one).map V.str).length:Int)=at' at a0 a1
 rw [hl] at a1
 refine ⟨Nat.zero_le _,fun O hO=>?_⟩
 have gO:=bt.new hO (.lst [])
 have nOD:O≠D:=(bR hd hO).symm
 have nOr:O≠r:=(bR hr3 hO).symm
 have fO:H O=none:=g.free hO
 refine ⟨_,rfl,m,rfl,by omega,by omega,qy (lo:=0) (n:=m.toNat) (fun i σ H'=>∃ (v:Option V) (cs':List Nat) (xs:List Str),σ=[some (.int c),some (.int m),some (.str cE),some (.ref r),none,some (.ref D),some (.int at'),some (.ref O),v] ∧
  bt H H'∧H' r=some (.lst row)∧cs'.length=cs.length∧(∀ c∈cs',dw b7 c=true)∧H' D=some (.lst ((cs'.map one).map V.str))∧H' O=some (.lst (xs.map V.str))∧xs.length=i∧(∀ x∈xs,good x=true)∧∀ k x,xs[k]?=some x→x.cps.toList[at'.toNat]?=some (sign d1 k)) ?_ ?_ ?_⟩
 ·exact ⟨none,cs,[],by rw [← hat];rfl,g.trans gO,gO _ _ hr3,rfl,hca,gO _ _ hd,aA,rfl,(fun x hx=>by cases hx),fun k x e=>by cases e⟩
 ·rintro i σ H' hi ⟨v,cs',xs,rfl,g',hr',hl',hca',hd',ho',hx,hxl,hs⟩
  have al2:cE.length≤sizeLine:=by decide +kernel
  have sg:=EW d1 i
  refine ⟨_,rfl,_,rfl,r,_,1,_,rfl,rfl,hr',at1,_,rfl,_,_,rfl,rfl,.of (Bd.small (by decide) (by decide)) (Bd.small (x:=0 + (i:Int)) (by omega) (by omega)),_,_,rfl,rfl,_,_,rfl,rfl,(show (0:Int) < 36 by decide),_,_,_,rfl,rfl,al2,(by rw [Int.zero_add];exact sg),?_⟩
  have ix:Ah ((cs'.map one).map V.str).length at'=some at'.toNat:=by
   unfold Ah
   rw [if_pos a0,if_pos (by rw [List.length_map,List.length_map,hl'];exact a1)]
  refine ⟨_,rfl,_,rfl,D,_,at',_,rfl,rfl,hd',ix,?_⟩
  have es:((cs'.map one).map V.str).set at'.toNat (.str ⟨#[sign d1 i]⟩)=((cs'.set at'.toNat (sign d1 i)).map one).map V.str:=by
   rw [List.map_set,List.map_set]
   rfl
  have gD:=bt.Im fD g' (.lst (((cs'.map one).map V.str).set at'.toNat (.str ⟨#[sign d1 i]⟩)))
  have hD2:(upd H' D (.lst (((cs'.map one).map V.str).set at'.toNat (.str ⟨#[sign d1 i]⟩)))) D=some (.lst (((cs'.set at'.toNat (sign d1 i)).map one).map V.str)):=by rw [aA,es]
  have hr2:(upd H' D (.lst (((cs'.map one).map V.str).set at'.toNat (.str ⟨#[sign d1 i]⟩)))) r=_:=(aG nDr.symm).trans hr'
  have ho2:(upd H' D (.lst (((cs'.map one).map V.str).set at'.toNat (.str ⟨#[sign d1 i]⟩)))) O=_:=(aG nOD).trans ho'
  have lc:(cs'.set at'.toNat (sign d1 i)).length=cs.length:=by rw [List.length_set,hl']
  have hcn:∀ c∈cs'.set at'.toNat (sign d1 i),dw b7 c=true:=fun c hc=>by
   rcases List.mem_or_eq_of_mem_set hc with h | h
   ·exact hca' c h
   ·rw [h];exact zV d1 i
  refine ⟨_,rfl,.inl ⟨rfl,_,c8.of ho2⟩,rfl,_,rfl,_,D,(cs'.set at'.toNat (sign d1 i)).map one,rfl,rfl,c8.of hD2,?_,O,_,_,rfl,rfl,ho2,?_,?_⟩
  ·rw [BI,List.length_map,lc,e0s]
   omega
  ·rw [List.length_map,hx]
   exact a_ (by omega)
  ·rw [join_ones]
   refine ⟨_,cs'.set at'.toNat (sign d1 i),xs ++ [⟨(cs'.set at'.toNat (sign d1 i)).toArray⟩],rfl,gD.Im fO _,(aG nOr.symm).trans hr2,lc,hcn,(aG nOD.symm).trans hD2,?_,by rw [List.length_append,hx];rfl,?_,?_⟩
   ·rw [aA,List.map_append]
    rfl
   ·intro x hx2
    rcases List.mem_append.mp hx2 with h | h
    ·exact hxl x h
    ·simp only [List.mem_cons,List.not_mem_nil,or_false] at h
     subst h
     exact DC (by rw [lc];exact l0) (by rw [lc];exact l1) hcn
   ·intro k x e
    rcases Nat.lt_or_ge k xs.length with hk | hk
    ·rw [List.getElem?_append_left hk] at e
     exact hs k x e
    ·rw [List.getElem?_append_right hk] at e
     have ek:k=i:=by
      cases hz:k - xs.length with
      | zero=>omega
      | succ z=>rw [hz] at e;cases e
     rw [show k - xs.length=0 by omega] at e
     have ex:=Option.some.inj e
     subst ex
     rw [ek]
     show (cs'.set at'.toNat (sign d1 i))[at'.toNat]?=some (sign d1 i)
     rw [List.getElem?_set_self (by omega)]
 ·rintro σ H' ⟨v,cs',xs,rfl,g',hr',hl',hca',hd',ho',hx,hxl,hs⟩
  exact ⟨_,rfl,q O H' xs fO g' ho' (by omega) (CZ (by omega) hs) hxl⟩
def vi:cT:=fun xs J Q _=>∃ c m:Int,xs=[.int c,.int m]∧0≤m∧m≤36∧∀ ns:List Str,(ns.length:Int)=m→ns.Nodup→(∀ x∈ns,good x=true)→Q (.fl (ns.map .str)) J
theorem qK {K:PySem.W.Frag} {J:Hq} {H:Hp}:∀ ns:List Str,aL K J H (ns.map PV.str) (ns.map V.str)
 | []=>rfl
 | n :: ns=>⟨_,_,rfl,rfl,qK ns⟩
theorem wb (C:pq P w K mg base 2 "_law_names" ["_law_cell_here","_law_many"] yB):bG P w K mg base 2 "_law_names" ["_law_cell_here","_law_many"] vi:=C.lift fun xs J vs H Q2 E2 Q E rs r ⟨c,m,ex,h0,h1,q⟩ kn=>by
 subst ex
 obtain ⟨v,u,rfl,r1,r2⟩:=iF rs
 cases r1;cases r2
 exact ⟨c,m,rfl,h0,h1,fun p H' ns hp s e hl nd lx=>kn (.fl (ns.map .str)) J (.ref p) H' ⟨p,_,rfl,.inl ⟨r.free hp,.inl e⟩,qK ns⟩ (r.same s) (.same s) (q ns hl nd lx)⟩
abbrev nE:Stmt:=(top 46)
theorem Ct:L2.aw ["_law_found"] ["_law_found"] (L2.ai nE):=eJ
def jx:cT:=fun xs J Q _=>∃ i:Int,xs=[.int i]∧Q (.bl true) J
theorem zJ {f:Addr} {fd:FuncData} (F:cq K "_law_whole" "_law_whole" nE f fd) (Z:cj mg):aQ P w K mg base (dt P w) 1 f fd ["_law_found"] (d7 K jx):=by
 simp_arith [Ct]
 ·obtain ⟨i,rfl,_⟩:=h;rfl
 obtain ⟨i,rfl,q⟩:=h
 refine ⟨_,(aq (aI (wR (aP iZ rfl Z.isinstance boot_isinstance (af (rv 0) (af (mI rfl Z.int boot_int) ah))) (sM (HE (aP iZ rfl Z.isinstance boot_isinstance (af (rv 0) (af (mI rfl Z.bool boot_bool) ah)))))))),?_⟩
 simp_arith! only [cb]
 exact q
abbrev sU:Stmt:=(top 48)
theorem EN:L2.aw ["_law_found","_law_due"] ["_law_found","_law_due"] (L2.ai sU):=eJ
def tI:cT:=fun xs J Q _=>∃ a:Rat,xs=[fr a,fr a]∧Q (.bl true) J
theorem BG {f:Addr} {fd:FuncData} (F:cq K "_law_part" "_law_part" sU f fd) (Z:cj mg) (mV:bG P w K mg base 1 "_law_whole" ["_law_found"] jx):aQ P w K mg base (dt P w) 2 f fd ["_law_found","_law_due"] (d7 K tI):=by
 simp_arith [EN]
 ·obtain ⟨a,rfl,_⟩:=h;rfl
 obtain ⟨a,rfl,q⟩:=h
 refine ⟨_,(aj (a7 (dh (fR (c_ (bX (aP iZ rfl Z.isinstance boot_isinstance (af (rv 0) (af (mI rfl Z.tuple boot_tuple) ah))))) (eS (aF (mE hr.aS) (aP bW rfl Z.len boot_len (af (rv 0) ah)) ag (L2.ay _))))) (aq (aI gT)) aO)
   (aj (a7 (dh (fR (c_ (bX (a8 mV B hr (by decide) rfl (af (ar av (rv 0) ag (fun _ _=>rfl)) ah)))) (eS (c_ (bX (a8 mV B hr (by decide) rfl (af (ar av (rv 0) ag (fun _ _=>rfl)) ah))))))) (aq (aI gT)) aO)
   (aq (aI (gx (cm hr.aS) (rv 0) (rv 1) (L2.ay _)))))),?_⟩
 simp_arith! only [cb,jx]
 exact q
abbrev lh:Stmt:=(top 51)
theorem zT:L2.aw ["_law_number","_law_mode"] ["_law_number","_law_mode"] (L2.ai lh):=eJ
def qP:cT:=fun xs J Q _=>∃ n m:Int,xs=[.int n,.int m]∧0≤n∧∀ v:Int,v.natAbs≤1000000→Q (.int v) J
theorem wy {f:Addr} {fd:FuncData} (F:cq K "_law_placed" "_law_placed" lh f fd) (Z:cj mg):aQ P w K mg base (dt P w) 1 f fd ["_law_number","_law_mode"] (d7 K qP):=by
 simp_arith [zT]
 ·obtain ⟨n,m,rfl,_⟩:=h;rfl
 obtain ⟨n,m,rfl,n0,q⟩:=h
 refine ⟨_,(aj (a7 (aF iH (rv 1) ag (L2.ay _)) (aq (aI (aX eR (aX d6 (rv 0) ag) ag))) aO)
   (aj (a7 (aF (cm hr.aS) (rv 1) ag (L2.ay _)) (aq (aI (aX eR (aX d6 (rv 0) ag) ag))) aO)
   (aq (aI (aX eR (aX d6 (rv 0) ag) ag))))),?_⟩
 simp_all! only []
 split
 ·simp_all! only [];exact ⟨by decide,q _ (by omega)⟩
 simp_all! only []
 split
 ·simp_all! only [];exact ⟨by decide,q _ (by omega)⟩
 ·simp_all! only [];exact ⟨by decide,q _ (by omega)⟩
abbrev nB:Stmt:=(top 52)
theorem Cr:L2.aw ["_law_number","_law_mode"] ["_law_number","_law_mode"] (L2.ai nB):=eJ
def vj:cT:=fun xs J Q _=>∃ n m:Int,xs=[.int n,.int m]∧0≤n∧n < 2001∧∀ v:Int,v.natAbs≤1000→Q (.int v) J
theorem zI {f:Addr} {fd:FuncData} (F:cq K "_law_paced" "_law_paced" nB f fd) (Z:cj mg):aQ P w K mg base (dt P w) 1 f fd ["_law_number","_law_mode"] (d7 K vj):=by
 simp_arith [Cr]
 ·obtain ⟨n,m,rfl,_⟩:=h;rfl
 obtain ⟨n,m,rfl,n0,n1,q⟩:=h
 refine ⟨_,(aj (a7 (aF iH (rv 1) ag (L2.ay _)) (aq (aI (aX eR (aX d6 (rv 0) ag) ag))) aO)
   (aj (a7 (aF (cm hr.aS) (rv 1) ag (L2.ay _)) (aq (aI (aX eR (aX d6 (rv 0) ag) ag))) aO)
   (aq (aI (aX eR (aX d6 (rv 0) ag) ag))))),?_⟩
 simp_all! only []
 split
 ·simp_all! only [];exact ⟨by decide,q _ (by omega)⟩
 simp_all! only []
 split
 ·simp_all! only [];exact ⟨by decide,q _ (by omega)⟩
 ·simp_all! only [];exact ⟨by decide,q _ (by omega)⟩
abbrev EJ:Stmt:=(top 55)
theorem u7:L2.aw ["_law_leg","_law_moment","_law_begun","_law_place","_law_way","_law_under"] ["_law_leg","_law_moment"] (L2.ai EJ):=eJ
theorem Hc {f:Addr} {fd:FuncData} (F:cq K "_law_at" "_law_at" EJ f fd) (Z:cj mg) (tR:bG P w K mg base 1 "_law_low" ["_law_top","_law_bottom"] o7):aQ P w K mg base (dt P w) 2 f fd ["_law_leg","_law_moment"] (d7 K qO):=by
 simp_arith [u7]
 ·obtain ⟨l,t,rfl,_⟩:=h;rfl
 obtain ⟨l,m,rfl,sb,sp,sm,bv,q⟩:=h
 refine ⟨_,(aj (aT (i:=2) u7.nd rfl (Or.inl rfl) (ar av (rv 0) ag (fun _ _=>rfl)))
   (aj (aT (i:=3) u7.nd rfl (Or.inl rfl) (ar av (rv 0) ag (fun _ _=>rfl)))
   (aj (aT (i:=4) u7.nd rfl (Or.inl rfl) (aX cI (ar av (rv 0) ag (fun _ _=>rfl)) (aX eR (aX cI (ar av (rv 1) ag (fun _ _=>rfl)) (ar av (rv 2) ag (fun _ _=>rfl))) (aX cI (ar av (rv 2) ag (fun _ _=>rfl)) (ar av (rv 1) ag (fun _ _=>rfl))))))
   (aj (aT (i:=5) u7.nd rfl (Or.inl rfl) (aX cI (ar av (rv 1) ag (fun _ _=>rfl)) (ar av (rv 2) ag (fun _ _=>rfl))))
   (aq (aI (a8 tR B hr (by decide) rfl (af (aX d5 (aX cI (ar av (rv 3) ag (fun _ _=>rfl)) (rv 5)) (aX cI (rv 4) (ar av (rv 3) ag (fun _ _=>rfl)))) (af (aX cI (ar av (rv 3) ag (fun _ _=>rfl)) (rv 5)) ah))))))))),?_⟩
 simp_arith! only [cb,xR,I_,ou,o7]
 have bn:Bd 1801 (m.num * l.m.den - l.m.num * m.den):=.sub (.mul sm.num sb.den (Nat.le_refl _)) (.mul sb.num sm.den (Nat.le_refl _))
 have bu:Bd 1800 ((m.den:Int) * l.m.den):=.mul sm.den sb.den
 have bw:Bd 1900 (l.v * (m.num * l.m.den - l.m.num * m.den)):=.mul bv bn
 refine ⟨.of sm.num sb.den,.of sb.num sm.den,.of bv bn,.of sm.den sb.den,.of sp.num bu,.of bw sp.den,.of sp.den bu,Int.mul_pos (i5 _) (Int.mul_pos (i5 _) (i5 _)),.mul sp.den bu,?_⟩
 rw [IL]
 exact q
abbrev nv:Stmt:=(top 53)
theorem ly:L2.aw ["_law_clock","_law_number","_law_bottom","_law_mode","_law_under","_law_steps"] ["_law_clock","_law_number","_law_bottom","_law_mode"] (L2.ai nv):=eJ
def yv:cT:=fun xs J Q _=>∃ (c:Rat) (n b m:Int),xs=[fr c,.int n,.int b,.int m]∧0≤n∧0≤b∧0≤m∧m < 4∧n < 2 ^ 60∧Sz 900 c∧∀ q,Later c q→Q (fr q) J
theorem zH {f:Addr} {fd:FuncData} (F:cq K "_law_later" "_law_later" nv f fd) (Z:cj mg) (tR:bG P w K mg base 1 "_law_low" ["_law_top","_law_bottom"] o7):aQ P w K mg base (dt P w) 2 f fd ["_law_clock","_law_number","_law_bottom","_law_mode"] (d7 K yv):=by
 simp_arith [ly]
 ·obtain ⟨c,n,b,m,rfl,_⟩:=h;rfl
 obtain ⟨c,n,b,m,rfl,n0,b0,m0,m1,n2,sc,q⟩:=h
 refine ⟨_,(aj (a7 (aF (cm hr.aS) (aX d6 (rv 1) ag) ag (L2.ay _)) (aq (aI (rv 0))) aO)
   (aj (aT (i:=4) ly.nd rfl (Or.inl rfl) (aX d5 ag (aX d6 (rv 2) (ar av (uS (wQ [.int 4,.int 6,.int 60,.int 60] rfl [.int 4,.int 6,.int 60,.int 60] rfl)) (rv 3) (fun _ _=>rfl)))))
   (aj (aT (i:=5) ly.nd rfl (Or.inl rfl) (aX d5 ag (aX d6 (aX kZ (rv 1) ag) (aX cI ag (rv 4)))))
   (dN (a7 (aF (cm hr.aS) (rv 3) ag (L2.ay _)) (aq (aT (i:=5) ly.nd rfl (Or.inl rfl) (aX d5 ag (aX d6 (aX kZ (rv 1) ag) (aX cI ag (rv 4)))))) aO)
   (aq (aI (a8 tR B hr (by decide) rfl (af (aX d5 (aX kZ (aX cI (ar av (rv 0) ag (fun _ _=>rfl)) (rv 4)) (ar av (rv 0) ag (fun _ _=>rfl))) (rv 5)) (af (rv 4) ah))))))))),?_⟩
 simp_arith! only [cb]
 refine ⟨by decide,?_⟩
 split
 ·exact q c (.inl rfl)
 obtain ⟨x,hx,x0,x1⟩:∃ x:Int,cU [PV.int 4,PV.int 6,PV.int 60,PV.int 60] m=some (.int x)∧1≤x∧x≤60:=by
  rcases (by omega:m=0∨m=1∨m=2∨m=3) with e | e | e | e <;> subst e
  ·exact ⟨4,de _ _,by decide,by decide⟩
  ·exact ⟨6,eV _ _ _,by decide,by decide⟩
  ·exact ⟨60,kJ _ _ _ _,by decide,by decide⟩
  ·exact ⟨60,AB _ _ _ _ _,by decide,by decide⟩
 have u0:0≤b % x:=Int.emod_nonneg _ (by omega)
 have u1:b % x < x:=Int.emod_lt_of_pos _ (by omega)
 have bu:Bd 64 (1 + b % x):=.small (by omega) (by omega)
 have b8:Bd 9000 8:=(Bd.small (x:=8) (by decide) (by decide)).mono (by decide)
 refine ⟨_,hx,x,rfl,by omega,⟨by decide,b8⟩,.of (.small (x:=2) (by decide) (by decide)) bu,by omega,?_⟩
 generalize hu:1 + b % x=u at *
 have k0:0≤n.fdiv 8:=by rw [Int.fdiv_eq_ediv_of_nonneg _ (by decide)];exact Int.ediv_nonneg n0 (by decide)
 obtain ⟨M,hM⟩:∃ M:Sr→Hq→Prop,∀ τ' J',M τ' J'↔∃ s:Int,τ'=[some (fr c),some (.int n),some (.int b),some (.int m),some (.int u),some (.int s)]∧J'=J∧1≤s∧s≤500 * u:=⟨_,fun _ _=>Iff.rfl⟩
 refine ⟨M,?_,?_⟩
 ·simp_arith! only [cb]
  have h2:0≤n.fdiv 8 % (2 * u):=Int.emod_nonneg _ (by omega)
  have h3:n.fdiv 8 % (2 * u) < 2 * u:=Int.emod_lt_of_pos _ (by omega)
  have h4:0≤n.fdiv 8 % (500 * u):=Int.emod_nonneg _ (by omega)
  have h5:n.fdiv 8 % (500 * u) < 500 * u:=Int.emod_lt_of_pos _ (by omega)
  split
  ·refine ⟨⟨by decide,b8⟩,.of (.small (x:=500) (by decide) (by decide)) bu,by omega,(hM _ _).mpr ⟨_,rfl,rfl,by omega,by omega⟩⟩
  ·exact (hM _ _).mpr ⟨_,rfl,rfl,by omega,by omega⟩
 ·intro τ' J' hm
  obtain ⟨s,rfl,rfl,s0,s1⟩:=(hM _ _).mp hm
  clear hm hM M
  simp_arith! only [cb,o7]
  refine ⟨.of sc.num bu,⟨d3 c,sc.den.mono (by decide)⟩,by omega,bu.mono (by decide),?_⟩
  obtain ⟨u',rfl⟩:=Int.eq_ofNat_of_zero_le (show 0≤u by omega)
  obtain ⟨s',rfl⟩:=Int.eq_ofNat_of_zero_le (show 0≤s by omega)
  exact q _ (.inr ⟨u',s',by omega,by omega,by omega,by omega,rfl⟩)
section
variable {X:Cx}
theorem lJ.or {f:Value→Value→Sem Value} {q q':kA} (h:lJ X f q) (h':lJ X f q'):lJ X f (fun x y J Q=>q x y J Q∨q' x y J Q):=by
 obtain ⟨r,a,lr⟩:=h
 obtain ⟨r',a',lr'⟩:=h'
 refine ⟨fun x y H Q=>r x y H Q∨r' x y H Q,fun pins s σ H x y v u Q I rx ry h=>?_,fun J H x y v w Q2 Q rx ry rr h k=>?_⟩
 ·rcases h with h | h
  ·exact a pins s σ H x y v u Q I rx ry h
  ·exact a' pins s σ H x y v u Q I rx ry h
 ·rcases h with h | h
  ·exact .inl (lr J H x y v w Q2 Q rx ry rr h k)
  ·exact .inr (lr' J H x y v w Q2 Q rx ry rr h k)
end
def Ky.V (k:Ky):PV:=.tup [fr k.p,.int k.v,.str k.n]
abbrev jR:Stmt:=(top 49)
theorem wX:L2.aw ["_law_found","_law_due"] ["_law_found","_law_due"] (L2.ai jR):=eJ
def mq:cT:=fun xs J Q _=>∃ a:aB,xs=[a.v,a.v]∧Q (.bl true) J
theorem uE {f:Addr} {fd:FuncData} (F:cq K "_law_passrow" "_law_passrow" jR f fd) (Z:cj mg) (Ga:bG P w K mg base 2 "_law_part" ["_law_found","_law_due"] tI):aQ P w K mg base (dt P w) 3 f fd ["_law_found","_law_due"] (d7 K mq):=by
 simp_arith [wX]
 ·obtain ⟨a,rfl,_⟩:=h;rfl
 obtain ⟨a,rfl,q⟩:=h
 refine ⟨_,(aj (a7 (dh (fR (c_ (bX (aP iZ rfl Z.isinstance boot_isinstance (af (rv 0) (af (mI rfl Z.tuple boot_tuple) ah))))) (eS (aF (mE hr.aS) (aP bW rfl Z.len boot_len (af (rv 0) ah)) ag (L2.ay _))))) (aq (aI gT)) aO)
   (aj (a7 (dh (fR (c_ (bX (aP iZ rfl Z.isinstance boot_isinstance (af (ar av (rv 0) ag (fun _ _=>rfl)) (af (mI rfl Z.str boot_str) ah))))) (eS (c_ (bX (aP iZ rfl Z.isinstance boot_isinstance (af (ar av (rv 0) ag (fun _ _=>rfl)) (af (mI rfl Z.str boot_str) ah)))))))) (aq (aI gT)) aO)
   (aq (aI (wR (a8 Ga B hr (by decide) rfl (af (ar av (rv 0) ag (fun _ _=>rfl)) (af (ar av (rv 1) ag (fun _ _=>rfl)) ah))) (sM (gx (cm hr.aS) (rv 0) (rv 1) (L2.ay _)))))))),?_⟩
 simp_arith! only [cb,tI,qA,qB,qC,KL,Fu,Lm,FI,Lp]
 exact q
theorem b_.IV {L:Ln} (ok:b_ L):L.fs.length≤12:=by
 have:=ok.rl
 rw [ok.row,uH] at this;exact this
def Iz (t:Rat) (fs gs:List (Str × aU)):Prop:=∀ x,x∈fs.map (key t)↔x∈gs.map (key t)
def tS:List aU→Prop
 | a :: b :: r=>b.p=a.at b.m∧tS (b :: r)
 | _=>True
theorem jE:∀ (ls:List aU) (l:aU),tS (ls ++ [l])↔tS ls∧∀ k,ls.getLast?=some k→l.p=k.at l.m
 | [],l=>⟨fun _=>⟨trivial,fun k h=>nomatch h⟩,fun _=>trivial⟩
 | [a],l=>⟨fun h=>⟨trivial,fun k e=>by cases e;exact h.1⟩,fun h=>⟨h.2 a rfl,trivial⟩⟩
 | a :: b :: r,l=>by
  have ih:=jE (b :: r) l
  show (b.p=a.at b.m∧tS ((b :: r) ++ [l]))↔_
  rw [ih,List.getLast?_cons_cons]
  constructor
  ·rintro ⟨h1,h2,h3⟩;exact ⟨⟨h1,h2⟩,h3⟩
  ·rintro ⟨⟨h1,h2⟩,h3⟩;exact ⟨h1,h2,h3⟩
def gH (l l':aU):Prop:=l.v=l'.v∧∀ t,l.at t=l'.at t
theorem gH.key {l l':aU} (h:gH l l') (n:Str) (t:Rat):key t (n,l)=key t (n,l'):=by unfold Ov.key;simp only;rw [h.1,h.2 t]
theorem Dq (l:aU):l.at l.m=l.p:=by unfold aU.at;grind
theorem yi {l l':aU} {t:Rat} (hv:l.v=l'.v) (h:l.at t=l'.at t):gH l l':=⟨hv,fun s=>by
 unfold aU.at at h ⊢
 rw [hv] at h ⊢
 generalize (l'.v:Rat)=x at h ⊢
 grind⟩
theorem jy {rows:List aU} {t:Rat} {v:Int} (h:tS rows) (ne:rows≠[]):tS (turned rows t v)∧∀ l,rows.getLast?=some l→∀ l',(turned rows t v).getLast?=some l'→gH ⟨t,l.at t,v⟩ l':=by
 obtain ⟨ls,l,rfl⟩:∃ ls l,rows=ls ++ [l]:=⟨rows.dropLast,rows.getLast ne,(List.dropLast_concat_getLast ne).symm⟩
 obtain ⟨h1,h2⟩:=(jE ls l).mp h
 have new:∀ {q:List aU},(q ++ [aU.mk t (l.at t) v]).getLast?=some (aU.mk t (l.at t) v):=fun {q}=>List.getLast?_concat ..
 rw [f7]
 simp only [List.getLast?_concat,Option.some.injEq]
 split
 ·rename_i e
  have el:l.at t=l.p:=by rw [← e];exact Dq l
  split
  ·rename_i ev
   refine ⟨h1,fun l0 h0 l' h'=>?_⟩
   subst h0
   rw [h'] at ev
   have hv:l'.v=v:=Option.some.inj ev
   have hp:=h2 l' h'
   rw [e] at hp
   refine yi (t:=t) hv.symm ?_
   show l.at t + (t - t) * (v:Rat)=_
   rw [← hp,el];grind
  ·refine ⟨(jE _ _).mpr ⟨h1,fun k hk=>?_⟩,fun l0 h0 l' h'=>?_⟩
   ·show l.at t=k.at t
    rw [el,h2 k hk,e]
   ·subst h0
    rw [new] at h';cases h';exact ⟨rfl,fun _=>rfl⟩
 ·split
  ·rename_i ev
   refine ⟨h,fun l0 h0 l' h'=>?_⟩
   subst h0
   rw [List.getLast?_concat] at h';cases h'
   refine yi (t:=t) ev.symm ?_
   show l.at t + (t - t) * (v:Rat)=_
   grind
  ·refine ⟨(jE _ _).mpr ⟨h,fun k hk=>?_⟩,fun l0 h0 l' h'=>?_⟩
   ·rw [List.getLast?_concat] at hk;cases hk;rfl
   ·subst h0
    rw [new] at h';cases h';exact ⟨rfl,fun _=>rfl⟩
structure Rl (L:Ln) (gs:List (Str × aU)):Prop where
 nm:gs.map (·.1)=L.fs.map (·.1)
 ln:∀ n l l',(n,l)∈gs→(n,l')∈L.fs→gH l l'
 ck:∀ x∈gs,pA x.2
 le:∀ x∈gs,x.2.m≤L.t
 ct:∀ c∈L.cs,tS c.w
theorem Rl.same {L:Ln} {gs:List (Str × aU)} (h:Rl L gs) (t:Rat):Iz t L.fs gs:=fun x=>by
 have other:∀ {as bs:List (Str × aU)},as.map (·.1)=bs.map (·.1)→∀ {n l},(n,l)∈as→∃ l',(n,l')∈bs:=fun {as bs} e {n l} hm=>by
  have:n∈bs.map (·.1):=by rw [← e];exact List.mem_map.mpr ⟨_,hm,rfl⟩
  obtain ⟨y,hy,e'⟩:=List.mem_map.mp this
  exact ⟨y.2,by rw [← e'];exact hy⟩
 rw [List.mem_map,List.mem_map]
 constructor
 ·rintro ⟨⟨n,l⟩,hm,rfl⟩
  obtain ⟨l',hl'⟩:=other h.nm.symm hm
  exact ⟨(n,l'),hl',(h.ln n l' l hl' hm).key n t⟩
 ·rintro ⟨⟨n,l⟩,hm,rfl⟩
  obtain ⟨l',hl'⟩:=other h.nm hm
  exact ⟨(n,l'),hl',((h.ln n l l' hm hl').key n t).symm⟩
theorem Rl.sz {L:Ln} {gs:List (Str × aU)} (h:Rl L gs):∀ x∈gs,qd 240 x.2:=fun x hx=>by
 have hk:=h.ck x hx
 exact ⟨hk.MW.mono (by decide),hk.M1.mono (by decide),.small (by have:=hk.v;omega) (by have:=hk.v;omega)⟩
theorem Rl.nd {L:Ln} {gs:List (Str × aU)} (h:Rl L gs) (ok:aZ L):(gs.map (·.1)).Nodup:=by rw [h.nm];exact ok.C8
theorem Rl.len {L:Ln} {gs:List (Str × aU)} (h:Rl L gs):gs.length=L.fs.length:=by have:=congrArg List.length h.nm;rw [List.length_map,List.length_map] at this;exact this
theorem B5 {fs:List (Str × aU)} {n:Str} {l:aU} (hm:n∈fs.map (·.1)):sF (b9 fs) n l.V=b9 (fs.map fun x=>if x.1=n then (x.1,l) else x):=by
 unfold sF b9
 rw [if_pos,List.map_map,List.map_map]
 ·refine List.map_congr_left fun x _=>?_
  show (if x.1=n then (x.1,l.V) else (x.1,x.2.V))=_
  show _=((if x.1=n then (x.1,l) else x).1,(if x.1=n then (x.1,l) else x).2.V)
  split <;> rfl
 ·obtain ⟨x,hx,e⟩:=List.mem_map.mp hm
  rw [List.any_eq_true]
  exact ⟨(x.1,x.2.V),List.mem_map.mpr ⟨x,hx,rfl⟩,decide_eq_true e⟩
def qR (n:Str) (t:Rat) (v:Int) (gs:List (Str × aU)):List (Str × aU):=gs.map fun x=>if x.1=n then (x.1,⟨t,x.2.at t,v⟩) else x
def iX (t:Rat) (gs:List (Str × aU)):List (Str × aU):=gs.map fun x=>(x.1,⟨t,x.2.at t,-x.2.v⟩)
theorem AY {L:Ln} {f:Cf→Cf} (hn:∀ c,(f c).n=c.n∧(f c).a=c.a∧(f c).r=c.r∧(f c).g=c.g) {L':Ln} (e:L'.cs=L.cs.map f):L'.fs=L.Ai.map fun c=>(c.n,(f c).cur):=by
 unfold Ln.fs Ln.Ai
 rw [e,List.filter_map,List.map_map]
 have e1:(fun c:Cf=>c.g.isNone) ∘ f=fun c=>c.g.isNone:=by funext c;show (f c).g.isNone=_;rw [(hn c).2.2.2]
 rw [e1]
 exact List.map_congr_left fun c _=>by show ((f c).n,(f c).cur)=_;rw [(hn c).1]
theorem t6 {c:Cf} {t:Rat} {v:Int} (h:tS c.w) (ne:c.w≠[]):gH ⟨t,c.cur.at t,v⟩ (c.turn t v).cur:=by
 have h1:=(Cf.hZ ne).1
 have h2:=(Cf.hZ (c:=c.turn t v) (qS ne)).1
 exact (jy h ne).2 _ h1 _ h2
theorem gH.turn {l l':aU} (h:gH l l') (t:Rat) (v:Int):gH ⟨t,l.at t,v⟩ ⟨t,l'.at t,v⟩:=by rw [h.2 t];exact ⟨rfl,fun _=>rfl⟩
theorem gH.trans {l l' l'':aU} (h:gH l l') (k:gH l' l''):gH l l'':=⟨h.1.trans k.1,fun t=>(h.2 t).trans (k.2 t)⟩
theorem Rl.turn {L L':Ln} {gs:List (Str × aU)} (h:Rl L gs) (ok:aZ L) {n:Str} {v:Int} (hv:v.natAbs≤1000) (e:L'.cs=L.cs.map (cP n L.t v)) (et:L'.t=L.t):Rl L' (qR n L.t v gs):=by
 have hn:=lG n L.t v
 have hfs:=AY hn e
 have nm:(qR n L.t v gs).map (·.1)=gs.map (·.1):=by
  unfold qR;rw [List.map_map];exact List.map_congr_left fun x _=>by show (if x.1=n then (x.1,_) else x).1=x.1;split <;> rfl
 refine ⟨?_,?_,?_,?_,?_⟩
 ·rw [nm,h.nm,hfs];unfold Ln.fs;rw [List.map_map,List.map_map];rfl
 ·intro m l l' hl hl'
  obtain ⟨x,hx,ex⟩:=List.mem_map.mp hl
  rw [hfs] at hl'
  obtain ⟨c,hc,ec⟩:=List.mem_map.mp hl'
  have hcs:=(Ln.cX.mp hc).1
  have hold:(c.n,c.cur)∈L.fs:=List.mem_map.mpr ⟨c,hc,rfl⟩
  cases ec
  by_cases z:x.1=n
  ·rw [if_pos z] at ex
   have ex1:x.1=c.n:=(Prod.mk.inj ex).1
   have ex2:aU.mk L.t (x.2.at L.t) v=l:=(Prod.mk.inj ex).2
   subst ex2
   have hs:=h.ln x.1 x.2 c.cur hx (by rw [ex1];exact hold)
   have zc:c.n=n:=by rw [← z];exact ex1.symm
   unfold cP
   rw [if_pos zc]
   exact (hs.turn L.t v).trans (t6 (h.ct c hcs) (ok.ne c hcs))
  ·rw [if_neg z] at ex
   subst ex
   have zc:¬ c.n=n:=z
   unfold cP
   rw [if_neg zc]
   exact h.ln c.n l c.cur hx hold
 ·intro x hx
  obtain ⟨y,hy,rfl⟩:=List.mem_map.mp hx
  split
  ·exact (h.ck y hy).at (h.le y hy) ok.ts hv
  ·exact h.ck y hy
 ·intro x hx
  rw [et]
  obtain ⟨y,hy,rfl⟩:=List.mem_map.mp hx
  split
  ·exact Rat.le_refl
  ·exact h.le y hy
 ·intro c hc
  rw [e] at hc
  obtain ⟨c0,h0,rfl⟩:=List.mem_map.mp hc
  unfold cP
  split
  ·exact (jy (h.ct c0 h0) (ok.ne c0 h0)).1
  ·exact h.ct c0 h0
theorem tW (t:Rat) (c:Cf):(du t c).n=c.n∧(du t c).a=c.a∧(du t c).r=c.r∧(du t c).g=c.g:=by unfold du;split <;> exact ⟨rfl,rfl,rfl,rfl⟩
theorem Rl.about {L L':Ln} {gs:List (Str × aU)} (h:Rl L gs) (ok:aZ L) (e:L'.cs=L.cs.map (du L.t)) (et:L'.t=L.t):Rl L' (iX L.t gs):=by
 have hn:=tW L.t
 have hfs:=AY hn e
 have nm:(iX L.t gs).map (·.1)=gs.map (·.1):=by
  unfold iX;rw [List.map_map];rfl
 refine ⟨?_,?_,?_,?_,?_⟩
 ·rw [nm,h.nm,hfs];unfold Ln.fs;rw [List.map_map,List.map_map];rfl
 ·intro m l l' hl hl'
  obtain ⟨x,hx,ex⟩:=List.mem_map.mp hl
  rw [hfs] at hl'
  obtain ⟨c,hc,ec⟩:=List.mem_map.mp hl'
  have hcs:=Ln.cX.mp hc
  have hold:(c.n,c.cur)∈L.fs:=List.mem_map.mpr ⟨c,hc,rfl⟩
  cases ec
  obtain ⟨xn,xl⟩:=x
  cases ex
  have hs:=h.ln c.n xl c.cur hx hold
  have ea:du L.t c=c.turn L.t (-c.cur.v):=by unfold du;rw [if_pos (by rw [hcs.2];rfl)]
  rw [ea,hs.1]
  exact (hs.turn L.t _).trans (t6 (h.ct c hcs.1) (ok.ne c hcs.1))
 ·intro x hx
  obtain ⟨y,hy,rfl⟩:=List.mem_map.mp hx
  exact (h.ck y hy).at (h.le y hy) ok.ts (by have:=(h.ck y hy).v;omega)
 ·intro x hx
  rw [et]
  obtain ⟨y,hy,rfl⟩:=List.mem_map.mp hx
  exact Rat.le_refl
 ·intro c hc
  rw [e] at hc
  obtain ⟨c0,h0,rfl⟩:=List.mem_map.mp hc
  unfold du
  split
  ·exact (jy (h.ct c0 h0) (ok.ne c0 h0)).1
  ·exact h.ct c0 h0
theorem Rl.join {L L':Ln} {gs:List (Str × aU)} (h:Rl L gs) (ok':aZ L') {n:Str} {x v:Int} (hv:v.natAbs≤1000) (hx:x.natAbs≤1000000) (j:L.joined n x v L') (t0:0≤L.t) (ts:Sc gd MM L.t) (hnew:n ∉ L.fs.map (·.1)):Rl L' (gs ++ [(n,⟨L.t,(x:Rat),v⟩)]):=by
 obtain ⟨a,r,ecs,et⟩:=j
 have efs:L'.fs=L.fs ++ [(n,⟨L.t,(x:Rat),v⟩)]:=xF L ecs rfl
 refine ⟨?_,?_,?_,?_,?_⟩
 ·rw [efs,List.map_append,List.map_append,h.nm]
 ·intro m l l' hl hl'
  rw [efs] at hl'
  have h1:∀ {k},(n,k)∈gs→False:=fun hk=>hnew (by rw [← h.nm];exact List.mem_map.mpr ⟨_,hk,rfl⟩)
  have h2:∀ {k},(n,k)∈L.fs→False:=fun hk=>hnew (List.mem_map.mpr ⟨_,hk,rfl⟩)
  rcases List.mem_append.mp hl with hl | hl <;> rcases List.mem_append.mp hl' with hl' | hl'
  ·exact h.ln m l l' hl hl'
  ·rw [List.mem_singleton] at hl';cases hl';exact (h1 hl).elim
  ·rw [List.mem_singleton] at hl;cases hl;exact (h2 hl').elim
  ·rw [List.mem_singleton] at hl hl';cases hl;cases hl';exact ⟨rfl,fun _=>rfl⟩
 ·intro y hy
  rcases List.mem_append.mp hy with hy | hy
  ·exact h.ck y hy
  ·rw [List.mem_singleton] at hy;subst hy;exact pA.new t0 ts hx hv
 ·intro y hy
  rw [et]
  rcases List.mem_append.mp hy with hy | hy
  ·exact h.le y hy
  ·rw [List.mem_singleton] at hy;subst hy;exact Rat.le_refl
 ·intro c hc
  rw [ecs] at hc
  rcases List.mem_append.mp hc with hc | hc
  ·exact h.ct c hc
  ·rw [List.mem_singleton] at hc;subst hc;exact trivial
def lX (n:Str) (gs:List (Str × aU)):List (Str × aU):=gs.filter fun x=>decide (x.1≠n)
theorem Rl.leave {L L':Ln} {gs:List (Str × aU)} (h:Rl L gs) {n:Str} (e:L'.cs=L.cs.map (bF n L.t)) (et:L'.t=L.t):Rl L' (lX n gs):=by
 have hfs:L'.fs=L.fs.filter fun x=>decide (x.1≠n):=uk e
 have hf:∀ l:List (Str × aU),(l.filter fun x=>decide (x.1≠n)).map (·.1)=(l.map (·.1)).filter fun y=>decide (y≠n):=fun l=>by rw [List.filter_map];rfl
 refine ⟨?_,?_,?_,?_,?_⟩
 ·unfold lX;rw [hf,hfs,hf,h.nm]
 ·intro m l l' hl hl'
  rw [hfs] at hl'
  exact h.ln m l l' (List.mem_filter.mp hl).1 (List.mem_filter.mp hl').1
 ·intro x hx;exact h.ck x (List.mem_filter.mp hx).1
 ·intro x hx;rw [et];exact h.le x (List.mem_filter.mp hx).1
 ·intro c hc
  rw [e] at hc
  obtain ⟨c0,h0,rfl⟩:=List.mem_map.mp hc
  rw [(eD n L.t c0).2.2.2];exact h.ct c0 h0
abbrev nu:Stmt:=(top 56)
theorem uZ:L2.aw ["_law_legs","_law_clock","_law_deed_here","_law_name"] ["_law_legs","_law_clock","_law_deed_here"] (L2.ai nu):=eJ
def fB (n:Str) (x v:Int):PV:=.tup [.str "join",.str n,.int x,.int v]
def iI (n:Str) (v:Int):PV:=.tup [.str "turn",.str n,.int v]
def g_:PV:=.tup [.str "about"]
def gu (n:Str):PV:=.tup [.str "leave",.str n]
def y_ (m:Rat):PV:=.tup [.str "go",fr m]
def tE:cT:=fun xs J Q _=>∃ (D:Addr) (gs:List (Str × aU)) (ep:Nat) (t:Rat) (dv:PV),xs=[.ref D,fr t,dv]∧J D=some (.dct (b9 gs) ep)∧(gs.map (·.1)).Nodup∧gs.length≤100∧Sz 900 t∧(∀ x∈gs,qd 900 x.2) ∧
 ((∃ n x v,dv=fB n x v∧n ∉ gs.map (·.1)∧∀ ep',Q (fr t) (put J D (.dct (b9 (gs ++ [(n,⟨t,(x:Rat),v⟩)])) ep'))) ∨
  (∃ n v,dv=iI n v∧n∈gs.map (·.1)∧∀ ep',Q (fr t) (put J D (.dct (b9 (qR n t v gs)) ep'))) ∨
  (dv=g_∧∀ ep',Q (fr t) (put J D (.dct (b9 (iX t gs)) ep'))) ∨
  (∃ n,dv=gu n∧n∈gs.map (·.1)∧∀ ep',Q (fr t) (put J D (.dct (b9 (lX n gs)) ep'))) ∨
  (∃ m,dv=y_ m∧Q (fr m) J))
theorem F2:(("join":Str)="go")=False:=eq_false (by decide +kernel)
theorem F4:(("turn":Str)="go")=False:=eq_false (by decide +kernel)
theorem F1:(("about":Str)="go")=False:=eq_false (by decide +kernel)
theorem GD {c:j5} {a u:gI} {D:En} {τ:Sr} {J:Hq} (hc:∀ R:Bool→Hq→Prop,R false J→c τ J R) (hu:u D τ J):Cc (pX c a mG) u D τ J :=
 ⟨fun τ' J'=>τ'=τ∧J'=J,hc _ (by rw [if_neg (by decide)];exact ⟨rfl,rfl⟩),fun τ' J' h=>by obtain ⟨rfl,rfl⟩:=h;exact hu⟩
theorem eX {c:j5} {a u:gI} {D:En} {τ:Sr} {J:Hq} (M:Sr→Hq→Prop) (hc:∀ R:Bool→Hq→Prop,R true J→c τ J R) (ha:a { D with nx:=M } τ J) (hu:∀ τ' J',M τ' J'→u D τ' J'):Cc (pX c a mG) u D τ J :=
 ⟨M,hc _ (by rw [if_pos rfl];exact ha),hu⟩
theorem nJ {x y:Str} {i:Nat} {dv:PV} {τ:Sr} {J:Hq} (h:τ[i]?=some (some dv)) (h0:eO J dv (.int 0)=some (.str x)) (R:Bool→Hq→Prop) (hr:R (decide (x=y)) J):rB (pZ (B9 id) (pZ C_ (iu i) (rC (.int 0))) (rC (.str y))) τ J R :=
 ⟨dv,h,.str x,h0,⟨rfl,by simp [gS,dep]⟩,rfl,_,rfl,by rw [eq_str];exact hr⟩
theorem cR {x y:Str} {i:Nat} {dv:PV} {τ:Sr} {J:Hq} {a u:gI} {D:En} (h:τ[i]?=some (some dv)) (h0:eO J dv (.int 0)=some (.str x)) (n:decide (x=y)=false) (hu:u D τ J):Cc (pX (rB (pZ (B9 id) (pZ C_ (iu i) (rC (.int 0))) (rC (.str y)))) a mG) u D τ J:=GD (fun R hr'=>nJ h h0 R (by rw [n];exact hr')) hu
theorem rK {x:Str} {i:Nat} {dv:PV} {τ:Sr} {J:Hq} (h:τ[i]?=some (some dv)) (h0:eO J dv (.int 0)=some (.str x)) (R:Bool→Hq→Prop) (hr:R true J):rB (pZ (B9 id) (pZ C_ (iu i) (rC (.int 0))) (rC (.str x))) τ J R:=nJ h h0 R (by rw [decide_eq_true rfl];exact hr)
def dZ (t:Rat) (gs:List (Str × aU)) (i:Nat):List (Str × aU):=iX t (gs.take i) ++ gs.drop i
theorem qi (t:Rat) (gs:List (Str × aU)) (i:Nat):(dZ t gs i).map (·.1)=gs.map (·.1):=by
 unfold dZ iX
 rw [List.map_append,List.map_map]
 have:((gs.take i).map ((fun x:Str × aU=>x.1) ∘ fun x=>(x.1,(⟨t,x.2.at t,-x.2.v⟩:aU))))=(gs.take i).map (·.1):=List.map_congr_left fun _ _=>rfl
 rw [this,← List.map_append,List.take_append_drop]
theorem tX (t:Rat) (gs:List (Str × aU)) (hnd:(gs.map (·.1)).Nodup) (i:Nat) (h:i < gs.length):(dZ t gs i).map (fun x=>if x.1=gs[i].1 then (x.1,(⟨t,gs[i].2.at t,-gs[i].2.v⟩:aU)) else x)=dZ t gs (i + 1):=by
 have hd:gs.drop i=gs[i] :: gs.drop (i + 1):=List.drop_eq_getElem_cons h
 have ht:gs.take (i + 1)=gs.take i ++ [gs[i]]:=by rw [List.take_add_one,List.getElem?_eq_getElem h];rfl
 have hn2:(gs.map (·.1))=(gs.take i).map (·.1) ++ (gs[i].1 :: (gs.drop (i + 1)).map (·.1)):=by
  rw [← List.map_cons (f:=fun x:Str × aU=>x.1),← hd,← List.map_append,List.take_append_drop]
 rw [hn2,List.nodup_append] at hnd
 unfold dZ iX
 rw [hd,ht,List.map_append,List.map_append,List.map_cons,if_pos rfl,List.append_assoc]
 congr 1
 ·rw [List.map_map]
  refine List.map_congr_left fun x hx=>?_
  show (if x.1=gs[i].1 then _ else _)=_
  rw [if_neg (hnd.2.2 x.1 (List.mem_map.mpr ⟨x,hx,rfl⟩) gs[i].1 (by simp))]
 ·show _ :: _=_ :: _
  congr 1
  have hno:=(List.nodup_cons.mp hnd.2.1).1
  have:∀ x∈gs.drop (i + 1),(if x.1=gs[i].1 then (x.1,(⟨t,gs[i].2.at t,-gs[i].2.v⟩:aU)) else x)=x:=fun x hx=>if_neg fun z=>hno (by rw [← z];exact List.mem_map.mpr ⟨x,hx,rfl⟩)
  rw [List.map_congr_left this,List.map_id']
  rfl
theorem F3:(("leave":Str)="go")=False:=eq_false (by decide +kernel)
theorem zG {f:Addr} {fd:FuncData} (F:cq K "_law_acted" "_law_acted" nu f fd) (Z:cj mg) (Ir:bG P w K mg base 2 "_law_at" ["_law_leg","_law_moment"] qO):aQ P w K mg base (dt P w) 3 f fd ["_law_legs","_law_clock","_law_deed_here"] (d7 K tE):=by
 simp_arith [uZ]
 ·obtain ⟨D,gs,ep,t,dv,rfl,_⟩:=h;rfl
 obtain ⟨D,gs,ep,t,dv,rfl,hD,hnd,hlen,st,sl,h⟩:=h
 refine ⟨_,(dN (a7 (aF (cm hr.aS) (ar av (rv 2) ag (fun _ _=>rfl)) bJ (L2.ay _)) (aq (oT nG (rv 0) (ar av (rv 2) ag (fun _ _=>rfl)) (cA (af (rv 1) (af (cA (af (ar av (rv 2) ag (fun _ _=>rfl)) (af ag ah))) (af (ar av (rv 2) ag (fun _ _=>rfl)) ah)))))) aO)
   (dN (a7 (aF (cm hr.aS) (ar av (rv 2) ag (fun _ _=>rfl)) bJ (L2.ay _)) (aq (bx (mH PySem.F.plainAttrs_dict PySem.F.slot_dict_pop PySem.F.type_dict_pop DT (rv 0) (af (ar av (rv 2) ag (fun _ _=>rfl)) ah)))) aO)
   (dN (a7 (aF (cm hr.aS) (ar av (rv 2) ag (fun _ _=>rfl)) bJ (L2.ay _)) (aq (oT nG (rv 0) (ar av (rv 2) ag (fun _ _=>rfl)) (cA (af (rv 1) (af (a8 Ir B hr (by decide) rfl (af (ar h_ (rv 0) (ar av (rv 2) ag (fun _ _=>rfl)) (fun _ _=>rfl)) (af (rv 1) ah))) (af (ar av (rv 2) ag (fun _ _=>rfl)) ah)))))) aO)
   (dN (a7 (aF (cm hr.aS) (ar av (rv 2) ag (fun _ _=>rfl)) bJ (L2.ay _)) (aq (jv dH rfl (fQ (jN (nY rfl) rfl Z.list boot_list (af (rv 0) ah))) (cM (i:=3) uZ.nd rfl (Or.inl rfl)) (aq (oT nG (rv 0) (rv 3) (cA (af (rv 1) (af (a8 Ir B hr (by decide) rfl (af (ar h_ (rv 0) (rv 3) (fun _ _=>rfl)) (af (rv 1) ah))) (af (uU pf (ar av (ar h_ (rv 0) (rv 3) (fun _ _=>rfl)) ag (fun _ _=>rfl))) ah)))))))) aO)
   (aj (a7 (aF (cm hr.aS) (ar av (rv 2) ag (fun _ _=>rfl)) bJ (L2.ay _)) (aq (aI (ar av (rv 2) ag (fun _ _=>rfl)))) aO)
   (aq (aI (rv 1)))))))),?_⟩
 rcases h with ⟨n,x,v,rfl,hn,q⟩ | ⟨n,v,rfl,hn,q⟩ | ⟨rfl,q⟩ | ⟨n,rfl,hn,q⟩ | ⟨m,rfl,q⟩
 ·have i0:∀ J,eO J (fB n x v) (.int 0)=some (.str "join"):=fun J=>de _ _
  have i1:∀ J,eO J (fB n x v) (.int 1)=some (.str n):=fun J=>eV _ _ _
  have i2:∀ J,eO J (fB n x v) (.int 2)=some (.int x):=fun J=>kJ _ _ _ _
  have i3:∀ J,eO J (fB n x v) (.int 3)=some (.int v):=fun J=>rfl
  refine eX (fun τ' J'=>∃ ep',τ'=[some (.ref D),some (fr t),some (fB n x v),none]∧J'=put J D (.dct (b9 (gs ++ [(n,⟨t,(x:Rat),v⟩)])) ep')) (rK rfl (i0 _)) ?_ ?_
  ·simp_all! only [i1,i2,i3,hD,GK,vo]
   refine ⟨a_ (by unfold b9;rw [List.length_map];omega),fun ep'=>⟨ep',?_⟩⟩
   have epu:sF (b9 gs) n (aU.mk t (x:Rat) v).V=b9 (gs ++ [(n,⟨t,(x:Rat),v⟩)]):=wM (f:=aU.V) (l:=⟨t,(x:Rat),v⟩) hn
   rw [epu]
  rintro τ' J' ⟨ep',rfl,rfl⟩
  refine cR rfl (i0 _) (by decide +kernel) ?_
  refine cR rfl (i0 _) (by decide +kernel) ?_
  refine cR rfl (i0 _) (by decide +kernel) ?_
  simp_all! only [i0,F2,if_false]
  exact q ep'
 ·have i0:∀ J,eO J (iI n v) (.int 0)=some (.str "turn"):=fun J=>de _ _
  have i1:∀ J,eO J (iI n v) (.int 1)=some (.str n):=fun J=>eV _ _ _
  have i2:∀ J,eO J (iI n v) (.int 2)=some (.int v):=fun J=>kJ _ _ _ _
  refine cR rfl (i0 _) (by decide +kernel) ?_
  refine cR rfl (i0 _) (by decide +kernel) ?_
  refine eX (fun τ' J'=>∃ ep',τ'=[some (.ref D),some (fr t),some (iI n v),none]∧J'=put J D (.dct (b9 (qR n t v gs)) ep')) (rK rfl (i0 _)) ?_ ?_
  ·obtain ⟨l,hl,hvl⟩:=tN (f:=aU.V) hnd hn
   have hvl:lK (b9 gs) n=some l.V:=hvl
   have sll:=sl _ hl
   simp_all! only [i1,i2,hD,hvl]
   refine ⟨l,t,rfl,sll.m,sll.p,st,sll.v,?_⟩
   simp_all! only [i1,i2,hD,vo]
   refine ⟨a_ (by unfold b9;rw [List.length_map];omega),fun ep'=>⟨ep',?_⟩⟩
   rw [B5 hn]
   have:(gs.map fun x=>if x.1=n then (x.1,(⟨t,l.at t,v⟩:aU)) else x)=qR n t v gs:=List.map_congr_left fun x hx=>by
    by_cases z:x.1=n
    ·have hx':lK (b9 gs) n=some x.2.V:=mx (f:=aU.V) hnd (by rw [← z];exact hx)
     rw [hvl] at hx'
     have ex:l=x.2:=by have:=Option.some.inj hx';rw [IB] at this;exact this
     rw [if_pos z,if_pos z,ex]
    ·rw [if_neg z,if_neg z]
   rw [this]
  rintro τ' J' ⟨ep',rfl,rfl⟩
  refine cR rfl (i0 _) (by decide +kernel) ?_
  simp_all! only [i0,F4,if_false]
  exact q ep'
 ·have i0:∀ J,eO J g_ (.int 0)=some (.str "about"):=fun J=>de _ _
  refine cR rfl (i0 _) (by decide +kernel) ?_
  refine cR rfl (i0 _) (by decide +kernel) ?_
  refine cR rfl (i0 _) (by decide +kernel) ?_
  refine eX (fun τ' J'=>∃ u ep',τ'=[some (.ref D),some (fr t),some g_,u]∧J'=put J D (.dct (b9 (iX t gs)) ep')) (rK rfl (i0 _)) ?_ ?_
  ·simp_all! only [hD]
   have hkv:(b9 gs).map (fun kv=>PV.str kv.1)=gs.map fun x=>PV.str x.1:=by unfold b9;rw [List.map_map];rfl
   rw [hkv]
   obtain ⟨Inv,hInv⟩:∃ Inv:Nat→Sr→Hq→Prop,∀ i τ J',Inv i τ J'↔∃ (u:Option PV) (ep':Nat),τ=[some (.ref D),some (fr t),some g_,u]∧J'=put J D (.dct (b9 (dZ t gs i)) ep'):=⟨_,fun _ _ _=>Iff.rfl⟩
   refine n9 Inv ((hInv _ _ _).mpr ⟨_,ep,rfl,by show J=put J D (.dct (b9 gs) ep);rw [wO hD]⟩) (fun _ _ _ _=>trivial) ?_ ?_
   ·intro i x τ J' hx hv
    obtain ⟨u,ep',rfl,rfl⟩:=(hInv _ _ _).mp hv
    clear hv
    have hi:i < gs.length:=by have:=(List.getElem?_eq_some_iff.mp hx).1;simpa using this
    rw [List.getElem?_map,List.getElem?_eq_getElem hi] at hx
    cases hx
    have hnd':((dZ t gs i).map (·.1)).Nodup:=by rw [qi];exact hnd
    have hmem:gs[i]∈dZ t gs i:=by unfold dZ;rw [List.drop_eq_getElem_cons hi];exact List.mem_append.mpr (.inr List.mem_cons_self)
    have hva:lK (b9 (dZ t gs i)) gs[i].1=some gs[i].2.V:=mx (f:=aU.V) hnd' hmem
    have hstep:=tX t gs hnd i hi
    have hin:gs[i].1∈(dZ t gs i).map (·.1):=List.mem_map.mpr ⟨_,hmem,rfl⟩
    have hlen':(dZ t gs i).length=gs.length:=by have:=congrArg List.length (qi t gs i);rw [List.length_map,List.length_map] at this;exact this
    have sll:=sl _ (List.getElem_mem hi)
    generalize gs[i]=y at hva hstep hin sll ⊢
    simp_all! only [au,hva]
    refine ⟨y.2,t,rfl,sll.m,sll.p,st,sll.v,?_⟩
    simp_all! only [au,hva,ou,vo]
    refine ⟨a_ (by unfold b9;rw [List.length_map];omega),fun ep2=>(hInv _ _ _).mpr ⟨_,ep2,rfl,?_⟩⟩
    rw [eZ,B5 hin,hstep]
   ·intro τ J' hv
    obtain ⟨u,ep',rfl,rfl⟩:=(hInv _ _ _).mp hv
    refine ⟨u,rfl,ep',?_⟩
    rw [List.length_map]
    unfold dZ
    rw [List.take_length,List.drop_length,List.append_nil]
  rintro τ' J' ⟨u,ep',rfl,rfl⟩
  simp_all! only [i0,F1,if_false]
  exact q ep'
 ·have i0:∀ J,eO J (gu n) (.int 0)=some (.str "leave"):=fun J=>de _ _
  have i1:∀ J,eO J (gu n) (.int 1)=some (.str n):=fun J=>eV _ _ _
  refine cR rfl (i0 _) (by decide +kernel) ?_
  refine eX (fun τ' J'=>∃ ep',τ'=[some (.ref D),some (fr t),some (gu n),none]∧J'=put J D (.dct (b9 (lX n gs)) ep')) (rK rfl (i0 _)) ?_ ?_
  ·obtain ⟨l,hl,hvl⟩:=tN (f:=aU.V) hnd hn
   have hvl:lK (b9 gs) n=some l.V:=hvl
   simp_all! only [i1,hD,hvl]
   have edr:AL (b9 gs) n=b9 (lX n gs):=by unfold AL b9 lX;rw [List.filter_map];rfl
   intro ep'
   exact ⟨ep',by rw [edr]⟩
  rintro τ' J' ⟨ep',rfl,rfl⟩
  refine cR rfl (i0 _) (by decide +kernel) ?_
  refine cR rfl (i0 _) (by decide +kernel) ?_
  simp_all! only [i0,F3,if_false]
  exact q ep'
 ·have i0:∀ J,eO J (y_ m) (.int 0)=some (.str "go"):=fun J=>de _ _
  have i1:∀ J,eO J (y_ m) (.int 1)=some (fr m):=fun J=>eV _ _ _
  refine cR rfl (i0 _) (by decide +kernel) ?_
  refine cR rfl (i0 _) (by decide +kernel) ?_
  refine cR rfl (i0 _) (by decide +kernel) ?_
  refine cR rfl (i0 _) (by decide +kernel) ?_
  simp_all! only [i0,i1,if_true]
  exact q
abbrev sS:Stmt:=(top 57)
theorem EL:L2.aw ["_law_lane","_law_deed_here"] ["_law_lane","_law_deed_here"] (L2.ai sS):=eJ
def w6 (cN cL T:Addr):cT:=fun xs J Q _=>∃ p L dv,xs=[.ref p,dv]∧a9 cN cL J p L∧b_ L ∧
 ((∃ n x v,dv=fB n x v∧J T=some .tab∧good n=true∧Ih x v∧n ∉ L.cs.map Cf.n∧L.row.length < 12∧L.cs.length < 100∧n.length≤sizeLine∧∀ J' L',a9 cN cL J' p L'→b_ L'→L.joined n x v L'→Mv J J' (L.own p) (L'.own p)→Q (.fl []) J') ∨
  (∃ n v,dv=iI n v∧n∈L.row∧v.natAbs≤1000∧(∀ c∈L.cs,c.w.length < 200)∧∀ J' L',a9 cN cL J' p L'→b_ L'→L'.cs=L.cs.map (cP n L.t v)→L'.t=L.t→Mv J J' (L.own p) (L'.own p)→Q (.fl []) J') ∨
  (dv=g_∧(∀ c∈L.cs,c.w.length < 200)∧∀ J' L',a9 cN cL J' p L'→b_ L'→L'.cs=L.cs.map (du L.t)→L'.t=L.t→Mv J J' (L.own p) (L'.own p)→Q (.fl []) J') ∨
  (∃ n,dv=gu n∧n∈L.row∧∀ J' L',a9 cN cL J' p L'→b_ L'→L'.cs=L.cs.map (bF n L.t)→L'.t=L.t→Mv J J' (L.own p) (L'.own p)→Q (.fl []) J') ∨
  (∃ m:Rat,dv=y_ m∧gP m.num m.den=true∧L.t≤m∧∀ J' o',a9 cN cL J' p { L with t:=m,o:=o',row:=cn m L.fs }→b_ { L with t:=m,o:=o',row:=cn m L.fs }→Mv J J' (L.own p) (Ln.own { L with t:=m,o:=o',row:=cn m L.fs } p)→Q (.fl ((cF L.t (L.fs.map (key L.t)) m).map aB.v)) J'))
theorem BF {cN cL T eB eF eT eU eC eM eP f:Addr} {fd:FuncData} (F:cq K "_law_done" "_law_done" sS f fd) (Z:cj mg) (jc:c7 P w K mg base cN 8 "join" ["self","name","place","pace"] (yz cN cL T eB eF eT eU)) (ij:c7 P w K mg base cN 2 "leave" ["self","name"] (vg cN cL eC)) (je:c7 P w K mg base cN 8 "turn" ["self","name","pace"] (yA cN cL eC eF)) (ie:c7 P w K mg base cN 8 "about" ["self"] (vf cN cL)) (ig:c7 P w K mg base cN 8 "go_to" ["self","moment"] (F0 cN cL eM eP)):aQ P w K mg base (dt P w) 9 f fd ["_law_lane","_law_deed_here"] (d7 K (w6 cN cL T)):=by
 simp_arith [EL]
 ·obtain ⟨p,L,dv,rfl,_⟩:=h;rfl
 obtain ⟨p,L,dv,rfl,b,ok,h⟩:=h
 have bo:=b.ob
 refine ⟨_,(dN (a7 (aF (cm hr.aS) (ar av (rv 1) ag (fun _ _=>rfl)) bJ (L2.ay _)) (aq (bx (bD (pl:=_) jc B hr (by decide) (rv 0) (af (ar av (rv 1) ag (fun _ _=>rfl)) (af (ar av (rv 1) ag (fun _ _=>rfl)) (af (ar av (rv 1) ag (fun _ _=>rfl)) ah)))))) aO)
   (dN (a7 (aF (cm hr.aS) (ar av (rv 1) ag (fun _ _=>rfl)) bJ (L2.ay _)) (aq (bx (bD (pl:=_) ij B hr (by decide) (rv 0) (af (ar av (rv 1) ag (fun _ _=>rfl)) ah)))) aO)
   (dN (a7 (aF (cm hr.aS) (ar av (rv 1) ag (fun _ _=>rfl)) bJ (L2.ay _)) (aq (bx (bD (pl:=_) je B hr (by decide) (rv 0) (af (ar av (rv 1) ag (fun _ _=>rfl)) (af (ar av (rv 1) ag (fun _ _=>rfl)) ah))))) aO)
   (dN (a7 (aF (cm hr.aS) (ar av (rv 1) ag (fun _ _=>rfl)) bJ (L2.ay _)) (aq (bx (gU (pl:=_) ie B hr (by decide) (rv 0)))) aO)
   (aj (a7 (aF (cm hr.aS) (ar av (rv 1) ag (fun _ _=>rfl)) bJ (L2.ay _)) (aq (aI (bD (pl:=_) ig B hr (by decide) (rv 0) (af (ar av (rv 1) ag (fun _ _=>rfl)) ah)))) aO)
   (aq (aI (uS ah)))))))),?_⟩
 rcases h with ⟨n,x,v,rfl,hT,hg,hb,hn,hr12,hc,hl,q⟩ | ⟨n,v,rfl,hn,hv,hw,q⟩ | ⟨rfl,hw,q⟩ | ⟨n,rfl,hn,q⟩ | ⟨m,rfl,hg,hm,q⟩
 ·have i0:∀ J,eO J (fB n x v) (.int 0)=some (.str "join"):=fun J=>de _ _
  have i1:∀ J,eO J (fB n x v) (.int 1)=some (.str n):=fun J=>eV _ _ _
  have i2:∀ J,eO J (fB n x v) (.int 2)=some (.int x):=fun J=>kJ _ _ _ _
  have i3:∀ J,eO J (fB n x v) (.int 3)=some (.int v):=fun J=>rfl
  refine eX (fun τ' J'=>τ'=[some (.ref p),some (fB n x v)]∧Q (.fl []) J') (rK rfl (i0 _)) ?_ ?_
  ·simp_all! only [bo,i1,i2,i3]
   exact ⟨gw _ _ _ _,p,L,n,x,v,rfl,b,ok,hT,hl,hc,(fun z=>by rw [hg] at z;cases z),(fun _ z=>absurd hb z),(fun _ _ z=>absurd z hn),(fun _ _ _ z=>by omega),fun _ _ _ _ J1 L1 b1 ok1 jn mv=>q J1 L1 b1 ok1 jn mv⟩
  rintro τ' J' ⟨rfl,hq⟩
  refine cR rfl (i0 _) (by decide +kernel) ?_
  refine cR rfl (i0 _) (by decide +kernel) ?_
  refine cR rfl (i0 _) (by decide +kernel) ?_
  simp_all! only [i0,F2,if_false]
  exact hq
 ·have i0:∀ J,eO J (iI n v) (.int 0)=some (.str "turn"):=fun J=>de _ _
  have i1:∀ J,eO J (iI n v) (.int 1)=some (.str n):=fun J=>eV _ _ _
  have i2:∀ J,eO J (iI n v) (.int 2)=some (.int v):=fun J=>kJ _ _ _ _
  refine cR rfl (i0 _) (by decide +kernel) ?_
  refine cR rfl (i0 _) (by decide +kernel) ?_
  refine eX (fun τ' J'=>τ'=[some (.ref p),some (iI n v)]∧Q (.fl []) J') (rK rfl (i0 _)) ?_ ?_
  ·simp_all! only [bo,i1,i2]
   exact ⟨gw _ _ _ _,p,L,n,v,rfl,b,ok,hw,fun z=>absurd hn z,fun _ z=>absurd hv z,fun _ _ J1 L1 b1 ok1 e t1 mv=>q J1 L1 b1 ok1 e t1 mv⟩
  rintro τ' J' ⟨rfl,hq⟩
  refine cR rfl (i0 _) (by decide +kernel) ?_
  simp_all! only [i0,F4,if_false]
  exact hq
 ·have i0:∀ J,eO J g_ (.int 0)=some (.str "about"):=fun J=>de _ _
  refine cR rfl (i0 _) (by decide +kernel) ?_
  refine cR rfl (i0 _) (by decide +kernel) ?_
  refine cR rfl (i0 _) (by decide +kernel) ?_
  refine eX (fun τ' J'=>τ'=[some (.ref p),some (g_)]∧Q (.fl []) J') (rK rfl (i0 _)) ?_ ?_
  ·simp_all! only [bo]
   exact ⟨gw _ _ _ _,p,L,rfl,b,ok,hw,fun J1 L1 b1 ok1 e t1 mv=>q J1 L1 b1 ok1 e t1 mv⟩
  rintro τ' J' ⟨rfl,hq⟩
  simp_all! only [i0,F1,if_false]
  exact hq
 ·have i0:∀ J,eO J (gu n) (.int 0)=some (.str "leave"):=fun J=>de _ _
  have i1:∀ J,eO J (gu n) (.int 1)=some (.str n):=fun J=>eV _ _ _
  refine cR rfl (i0 _) (by decide +kernel) ?_
  refine eX (fun τ' J'=>τ'=[some (.ref p),some (gu n)]∧Q (.fl []) J') (rK rfl (i0 _)) ?_ ?_
  ·simp_all! only [bo,i1]
   exact ⟨gw _ _ _ _,p,L,n,rfl,b,ok,fun z=>absurd hn z,fun _ J1 L1 b1 ok1 e t1 mv=>q J1 L1 b1 ok1 e t1 mv⟩
  rintro τ' J' ⟨rfl,hq⟩
  refine cR rfl (i0 _) (by decide +kernel) ?_
  refine cR rfl (i0 _) (by decide +kernel) ?_
  simp_all! only [i0,F3,if_false]
  exact hq
 ·have i0:∀ J,eO J (y_ m) (.int 0)=some (.str "go"):=fun J=>de _ _
  have i1:∀ J,eO J (y_ m) (.int 1)=some (fr m):=fun J=>eV _ _ _
  refine cR rfl (i0 _) (by decide +kernel) ?_
  refine cR rfl (i0 _) (by decide +kernel) ?_
  refine cR rfl (i0 _) (by decide +kernel) ?_
  refine cR rfl (i0 _) (by decide +kernel) ?_
  simp_all! only [i0,i1,if_true,bo]
  refine ⟨gw _ _ _ _,p,L,m.num,m.den,rfl,b,ok,(fun z=>by rw [hg] at z;cases z),fun m' e1 e2 _=>?_⟩
  obtain rfl:m'=m:=Rat.ext e1 (by omega)
  exact ⟨fun z=>absurd z (Rat.not_lt.mpr hm),fun _ J1 o1 b1 ok1 mv1=>q J1 o1 b1 ok1 mv1⟩
abbrev oV:Stmt:=(top 54)
theorem nF:L2.aw ["_law_row","_law_mode","_law_names_here","_law_used","_law_legs","_law_clock","_law_there","_law_fresh","_law_name"] ["_law_row","_law_mode","_law_names_here","_law_used","_law_legs","_law_clock"] (L2.ai oV):=eJ
def Am (names used:List Str) (gs:List (Str × aU)) (t:Rat) (dv:PV):Prop :=
 (∃ n x v,dv=fB n x v∧n∈names∧n ∉ used∧gs.length < 12∧x.natAbs≤1000000∧v.natAbs≤1000) ∨
 (∃ n v,dv=iI n v∧n∈gs.map (·.1)∧v.natAbs≤1000)∨dv=g_∨(∃ n,dv=gu n∧n∈gs.map (·.1))∨∃ m,dv=y_ m∧Later t m
def Cy:cT:=fun xs J Q _=>∃ (r0 r1 r2 r3 r4 r5 m:Int) (names used:List Str) (U D:Addr) (gs:List (Str × aU)) (ep:Nat) (t:Rat),xs=[.fl [.int r0,.int r1,.int r2,.int r3,.int r4,.int r5],.int m,.fl (names.map .str),.ref U,.ref D,fr t]∧J U=some (.lst (used.map .str))∧J D=some (.dct (b9 gs) ep)∧names.length≤40∧gs.length≤100 ∧
 0≤r1∧0≤r2∧0≤r3∧r3 < 2001∧0≤r4∧r4 < 2 ^ 60∧0≤r5∧0≤m∧m < 4∧Sz 900 t∧∀ dv,Am names used gs t dv→Q dv J
theorem rG {c:j5} {a u:gI} {D:En} {τ:Sr} {J:Hq} (b:Prop) [Decidable b] (hc:∀ R:Bool→Hq→Prop,R (decide b) J→c τ J R) (h1:b→∀ N,a { D with nx:=N } τ J) (h2:¬ b→u D τ J):cb (pX c a mG) u D τ J:=by
 refine hc _ ?_
 by_cases h:b
 ·rw [decide_eq_true h,if_pos rfl];exact h1 h _
 ·rw [decide_eq_false h,if_neg (by decide)];exact h2 h
theorem EB {R:Bool→Hq→Prop} {b c:Bool} {J:Hq} (h:R b J) (e:b=true↔c=true):R c J:=by rw [← Bool.eq_iff_iff.mpr e];exact h
theorem sA {xs:List Str} {r:Int} (h0:0≤r) (hl:0 < xs.length):∃ n∈xs,cU (xs.map PV.str) (r % (xs.length:Int))=some (.str n):=by
 obtain ⟨j,hj⟩:∃ j:Nat,r % (xs.length:Int)=j:=⟨(r % (xs.length:Int)).toNat,by have:=Int.emod_nonneg r (b:=(xs.length:Int)) (by omega);omega⟩
 have hjl:j < xs.length:=by have:=Int.emod_lt_of_pos r (b:=(xs.length:Int)) (by omega);omega
 exact ⟨xs[j],List.getElem_mem hjl,by rw [hj];exact ba (by rw [List.getElem?_map,List.getElem?_eq_getElem hjl];rfl)⟩
theorem BE {f:Addr} {fd:FuncData} (F:cq K "_law_deed" "_law_deed" oV f fd) (Z:cj mg) (Aj:bG P w K mg base 1 "_law_placed" ["_law_number","_law_mode"] qP) (xi:bG P w K mg base 1 "_law_paced" ["_law_number","_law_mode"] vj) (De:bG P w K mg base 2 "_law_later" ["_law_clock","_law_number","_law_bottom","_law_mode"] yv):aQ P w K mg base (dt P w) 3 f fd ["_law_row","_law_mode","_law_names_here","_law_used","_law_legs","_law_clock"] (d7 K Cy):=by
 simp_arith [nF]
 ·obtain ⟨r0,r1,r2,r3,r4,r5,m,names,used,U,D,gs,ep,t,rfl,_⟩:=h;rfl
 obtain ⟨r0,r1,r2,r3,r4,r5,m,names,used,U,D,gs,ep,t,rfl,hU,hD,hnl,hgl,r10,r20,r30,r31,r40,r41,r50,m0,m1,st,q⟩:=h
 have hkv:(b9 gs).map (fun kv=>PV.str kv.1)=(gs.map (·.1)).map PV.str:=by unfold b9;rw [List.map_map,List.map_map];rfl
 refine ⟨_,(aj (aT (i:=6) nF.nd rfl (Or.inl rfl) (jN (nY rfl) rfl Z.list boot_list (af (rv 4) ah)))
   (aj (HG (i:=7) (L2.ai oV) ["_law_row","_law_mode","_law_names_here","_law_used","_law_legs","_law_clock","_law_there","_law_fresh","_law_name"] [("_law_used",3)] rfl rfl rfl nF.nd rfl (Or.inl rfl) (fQ (rv 2)) (fun _ _ _ _ _ _=>(rv 0)) (fun _ _ _ _ _ _=>(aF xY (rv 0) (rv 1) (by with_unfolding_all rfl))))
   (aj (a7 (dh (gA (aF mD (aP bW rfl Z.len boot_len (af (rv 7) ah)) ag (L2.ay _)) (gA (aF iH (aP bW rfl Z.len boot_len (af (rv 6) ah)) ag (L2.ay _)) (e_ (dh (fR (aF iH (ar av (rv 0) ag (fun _ _=>rfl)) ag (L2.ay _)) (eS (dh (gA (aF iH (aP bW rfl Z.len boot_len (af (rv 6) ah)) ag (L2.ay _)) (e_ (aF iH (ar av (rv 0) ag (fun _ _=>rfl)) ag (L2.ay _)))))))))))) (aj (aT (i:=8) nF.nd rfl (Or.inl rfl) (ar av (rv 7) (aX d6 (ar av (rv 0) ag (fun _ _=>rfl)) (aP bW rfl Z.len boot_len (af (rv 7) ah))) (fun _ _=>rfl)))
   (aq (aI (cA (af bJ (af (rv 8) (af (a8 Aj B hr (by decide) rfl (af (ar av (rv 0) ag (fun _ _=>rfl)) (af (rv 1) ah))) (af (a8 xi B hr (by decide) rfl (af (ar av (rv 0) ag (fun _ _=>rfl)) (af (rv 1) ah))) ah)))))))) aO)
   (aj (a7 (dh (gA (aF Hk (ar av (rv 0) ag (fun _ _=>rfl)) (cA (af ag (af ag ah))) (by with_unfolding_all rfl)) (e_ (aF mD (aP bW rfl Z.len boot_len (af (rv 6) ah)) ag (L2.ay _))))) (aq (aI (cA (af bJ (af (ar av (rv 6) (aX d6 (ar av (rv 0) ag (fun _ _=>rfl)) (aP bW rfl Z.len boot_len (af (rv 6) ah))) (fun _ _=>rfl)) (af (a8 xi B hr (by decide) rfl (af (ar av (rv 0) ag (fun _ _=>rfl)) (af (rv 1) ah))) ah)))))) aO)
   (aj (a7 (dh (gA (aF (cm hr.aS) (ar av (rv 0) ag (fun _ _=>rfl)) ag (L2.ay _)) (e_ (aF mD (aP bW rfl Z.len boot_len (af (rv 6) ah)) ag (L2.ay _))))) (aq (aI (cA (af bJ (af (ar av (rv 6) (aX d6 (ar av (rv 0) ag (fun _ _=>rfl)) (aP bW rfl Z.len boot_len (af (rv 6) ah))) (fun _ _=>rfl)) ah))))) aO)
   (aj (a7 (aF (cm hr.aS) (ar av (rv 0) ag (fun _ _=>rfl)) ag (L2.ay _)) (aq (aI (cA (af bJ ah)))) aO)
   (aq (aI (cA (af bJ (af (a8 De B hr (by decide) rfl (af (rv 5) (af (ar av (rv 0) ag (fun _ _=>rfl)) (af (ar av (rv 0) ag (fun _ _=>rfl)) (af (rv 1) ah))))) ah))))))))))),?_⟩
 simp_all! only [hD,hkv,pY]
 obtain ⟨pn,hpn⟩:∃ pn:Str→Bool,∀ x,pn x=!decide (x∈used):=⟨_,fun _=>rfl⟩
 refine ⟨fun x=>match x with | .str s=>pn s | _=>false,id,⟨by rw [List.length_map];exact Nat.lt_of_le_of_lt hnl (by decide),fun J' sub=>⟨trivial,fun x hx=>?_⟩⟩,?_⟩
 ·obtain ⟨s,hs,rfl⟩:=List.mem_map.mp hx
  have hU':=sub _ _ hU
  simp_all! only [km]
  refine ⟨⟨s,used,rfl,by show (match J' U with | some (.lst xs)=>some xs | _=>none)=_;rw [hU'],⟨_,rfl,(hpn s).symm,rfl⟩⟩,fun _=>trivial⟩
 have ef:((names.map PV.str).filter fun x=>match x with | .str s=>pn s | _=>false).map id=(names.filter pn).map PV.str:=by rw [List.map_id,List.filter_map];rfl
 rw [ef]
 have hfr:∀ n∈names.filter pn,n∈names∧n ∉ used:=fun n hn=>by
  obtain ⟨h1,h2⟩:=List.mem_filter.mp hn
  rw [hpn] at h2
  exact ⟨h1,by simpa using h2⟩
 generalize names.filter pn=fresh at hfr ⊢
 have gl:(gs.map (·.1)).length=gs.length:=List.length_map _
 generalize hgn:gs.map (·.1)=gn at gl q ⊢
 refine rG (0 < fresh.length∧gs.length < 12∧(r0 < 3∨gs.length < 2∧r0 < 8)) (fun R hR=>?_) (fun hb N=>?_) (fun hb=>?_)
 ·simp_all! only [List.length_map]
  (repeat' split) <;> exact EB hR (by simp only [decide_eq_true_eq,Bool.false_eq_true,eq_self,iff_true,iff_false];omega)
 ·obtain ⟨n,hn,ha⟩:=sA r10 hb.1
  simp_all! only [List.length_map,ha]
  refine ⟨by omega,r2,m,rfl,r20,fun x hx=>⟨r3,m,rfl,r30,r31,fun v hv=>?_⟩⟩
  exact q _ (.inl ⟨n,x,v,rfl,(hfr n hn).1,(hfr n hn).2,hb.2.1,hx,hv⟩)
 refine rG ((r0=3∨r0=4)∧0 < gs.length) (fun R hR=>?_) (fun hb N=>?_) (fun hb=>?_)
 ·simp_all! only [List.length_map]
  refine ⟨r0,[3,4],rfl,rfl,_,rfl,?_⟩
  (repeat' split) <;> exact EB hR (by simp only [decide_eq_true_eq,Bool.false_eq_true,id_eq,List.mem_cons,List.not_mem_nil,or_false,eq_self,iff_true,iff_false] at *;omega)
 ·obtain ⟨n,hn,ha⟩:=sA (xs:=gn) r10 (by omega)
  simp_all! only [List.length_map,ha]
  refine ⟨by omega,r3,m,rfl,r30,r31,fun v hv=>?_⟩
  exact q _ (.inr (.inl ⟨n,v,rfl,by rw [hgn];exact hn,hv⟩))
 refine rG (r0=5∧2 < gs.length) (fun R hR=>?_) (fun hb N=>?_) (fun hb=>?_)
 ·simp_all! only [List.length_map]
  (repeat' split) <;> exact EB hR (by simp only [decide_eq_true_eq,Bool.false_eq_true,eq_self,iff_true,iff_false];omega)
 ·obtain ⟨n,hn,ha⟩:=sA (xs:=gn) r10 (by omega)
  simp_all! only [List.length_map,ha]
  exact ⟨by omega,q _ (.inr (.inr (.inr (.inl ⟨n,rfl,by rw [hgn];exact hn⟩))))⟩
 refine rG (r0=6) (fun R hR=>?_) (fun hb N=>?_) (fun hb=>?_)
 ·simp_all! only []
  exact EB hR (by simp only [decide_eq_true_eq,Bool.false_eq_true])
 ·simp_all! only []
  exact q _ (.inr (.inr (.inl rfl)))
 simp_all! only []
 exact ⟨t,r4,r5,m,rfl,r40,r50,m0,m1,r41,st,fun m' hm'=>q _ (.inr (.inr (.inr (.inr ⟨m',rfl,hm'⟩))))⟩
theorem zM (t m:Rat) (ks:List Ky) (h:(ks.map Ky.n).Nodup) (hl:ks.length≤12):(cF t ks m).length≤900:=by
 rw [← Ay h]
 have h1:=y9 t (eu t m) (ks.flatMap fun a=>ks.map fun b=>(a,b))
 have h2:(ks.flatMap fun a=>ks.map fun b=>(a,b)).length=ks.length * ks.length:=by
  rw [List.length_flatMap]
  have:(ks.map fun a=>(ks.map fun b=>(a,b)).length)=List.replicate ks.length ks.length:=by
   rw [List.eq_replicate_iff]
   refine ⟨by rw [List.length_map],fun b hb=>?_⟩
   obtain ⟨_,_,rfl⟩:=List.mem_map.mp hb
   rw [List.length_map]
  rw [this,List.sum_replicate_nat]
 have h3:ks.length * ks.length≤12 * 12:=Nat.mul_le_mul hl hl
 omega
theorem A6 {m:Rat} (h0:0≤m) (hd:m.den≤60) (h1:m.num≤1000000 * (m.den:Int)):gP m.num m.den=true:=by
 refine decide_eq_true ⟨by omega,by have:=m.den_pos;omega,?_,Rat.num_nonneg.mpr h0,h1⟩
 have:=m.reduced
 unfold Int.gcd
 exact this
theorem zi {c q:Rat} (h:Later c q) (hc:c.den≤60):q.den≤60:=by
 rcases h with rfl | ⟨u,s,u0,u1,s0,s1,rfl⟩
 ·exact hc
 ·have:=rD (t:=(c.num * (u:Int)).fdiv (c.den:Int) + (s:Int)) (b:=(u:Int)) (by omega)
  omega
theorem GY {q:Rat}:q.num≤1000000 * (q.den:Int)↔q≤1000000:=by
 rw [Rat.le_iff]
 have h3:(1000000:Rat).num=1000000:=rfl
 have h4:((1000000:Rat).den:Int)=1:=rfl
 rw [h3,h4]
 omega
structure Wk (cN cL:Addr) (J0:Hq) (S0:Addr→Prop) (J:Hq) (p:Addr) (L:Ln) (D U:Addr) (gs:List (Str × aU)) (ep:Nat) (used:List Str) (k:Nat):Prop where
 b:a9 cN cL J p L
 ok:b_ L
 rl:Rl L gs
 hD:J D=some (.dct (b9 gs) ep)
 hU:J U=some (.lst (used.map .str))
 nD:¬ L.own p D
 nU:¬ L.own p U
 mv:Mv J0 J S0 (fun a=>L.own p a∨a=D∨a=U)
 td:L.t.den≤60
 tl:L.t≤((500 * k:Nat):Rat)
 wl:∀ c∈L.cs,c.w.length≤1 + k
theorem Rl.go {L:Ln} {gs:List (Str × aU)} (h:Rl L gs) {m:Rat} (hm:L.t≤m) {o:Addr} {row:List Str}:Rl { L with t:=m,o:=o,row:=row } gs:=⟨h.nm,h.ln,h.ck,fun x hx=>Rat.le_trans (h.le x hx) hm,h.ct⟩
theorem Bj {c q:Rat} (h:Later c q) (c0:0≤c):q≤c + 500:=by
 rcases h with rfl | ⟨u,s,u0,u1,s0,s1,rfl⟩
 ·grind
 rw [Rat.divInt_eq_div]
 have hu:(0:Rat) < ((u:Int):Rat):=by exact_mod_cast (show (0:Int) < u by omega)
 have h1:((s:Int):Rat)≤500 * ((u:Int):Rat):=by exact_mod_cast (show (s:Int)≤500 * u by omega)
 have hd:(0:Rat) < ((c.den:Int):Rat):=by exact_mod_cast (show (0:Int) < c.den by have:=c.den_pos;omega)
 have h2:((((c.num * (u:Int)).fdiv (c.den:Int)):Int):Rat)≤c * ((u:Int):Rat):=by
  have e1:(c.num * (u:Int)).fdiv (c.den:Int) * (c.den:Int)≤c.num * u:=by
   rw [Int.fdiv_eq_ediv_of_nonneg _ (by omega)]
   exact Int.ediv_mul_le _ (by have:=c.den_pos;omega)
  have e2:((((c.num * (u:Int)).fdiv (c.den:Int)):Int):Rat) * ((c.den:Int):Rat)≤(c.num:Rat) * ((u:Int):Rat):=by
   rw [← Rat.intCast_mul,← Rat.intCast_mul];exact Rat.intCast_le_intCast.mpr e1
  have e3:(c.num:Rat)=c * ((c.den:Int):Rat):=cast_eq c
  rw [e3] at e2
  generalize ((((c.num * (u:Int)).fdiv (c.den:Int)):Int):Rat)=x at e2 ⊢
  generalize ((c.den:Int):Rat)=y at e2 hd
  generalize ((u:Int):Rat)=z at e2 ⊢
  by_cases k:c * z < x
  ·have:0 < (x - c * z) * y:=Rat.mul_pos (by grind) hd
   grind
  ·grind
 rw [Rat.intCast_add]
 generalize ((((c.num * (u:Int)).fdiv (c.den:Int)):Int):Rat)=a at h2 ⊢
 generalize ((s:Int):Rat)=x at h1 ⊢
 generalize ((u:Int):Rat)=y at h1 h2 hu ⊢
 have e:(a + x) / y * y=a + x:=by grind
 generalize (a + x) / y=z at e ⊢
 by_cases k:c + 500 < z
 ·have:0 < (z - (c + 500)) * y:=Rat.mul_pos (by grind) hu
  grind
 ·grind
section
variable {cN cL:Addr} {J0 J:Hq} {S0:Addr→Prop} {p:Addr} {L:Ln} {D U:Addr} {gs:List (Str × aU)} {ep:Nat} {used:List Str} {k:Nat}
theorem Wk.ne (h:Wk cN cL J0 S0 J p L D U gs ep used k):U≠D:=fun e=>by have:=h.hU;rw [e,h.hD] at this;cases this
theorem Wk.kept (h:Wk cN cL J0 S0 J p L D U gs ep used k) {T:Addr} {o:HQ} (hT:J0 T=some o) (nT:¬ S0 T):J T=some o:=h.mv.keep _ _ hT nT
theorem Wk.next (h:Wk cN cL J0 S0 J p L D U gs ep used k) {J1:Hq} {L1:Ln} {gs1:List (Str × aU)} {k1:Nat} (b1:a9 cN cL J1 p L1) (ok1:b_ L1) (mv:Mv J J1 (L.own p) (L1.own p)) (rl1:Rl L1 gs1) (td:L1.t.den≤60) (tl:L1.t≤((500 * k1:Nat):Rat)) (wl:∀ c∈L1.cs,c.w.length≤1 + k1) (ep':Nat):Wk cN cL J0 S0 (put J1 D (.dct (b9 gs1) ep')) p L1 D U gs1 ep' used k1:=by
 have new:∀ {x o},J x=some o→¬ L.own p x→¬ L1.own p x:=fun hx nx z=>by
  rcases mv.own _ z with q | q
  ·exact nx q
  ·rw [hx] at q;cases q
 have nD1:=new h.hD h.nD
 have hD1:=mv.keep _ _ h.hD h.nD
 have hU1:=mv.keep _ _ h.hU h.nU
 have mv1:Mv J J1 (fun a=>L.own p a∨a=D∨a=U) (fun a=>L1.own p a∨a=D∨a=U) :=
  ⟨fun a o e n=>mv.keep a o e fun z=>n (.inl z),fun a z=>z.elim (fun z=>(mv.own a z).imp .inl id) (fun z=>.inl (.inr z)),mv.mono⟩
 refine ⟨b1.keep fun a u ow e=>?_,ok1,rl1,au,?_,nD1,new h.hU h.nU,(h.mv.trans mv1).trans (fC (.inr (.inl rfl)) fun a z=>.inl z),td,tl,wl⟩
 ·rw [ak (fun z=>by subst z;exact nD1 ow)];exact e
 ·rw [ak h.ne];exact hU1
theorem Wk.push (h:Wk cN cL J0 S0 J p L D U gs ep used k) (n:Str):Wk cN cL J0 S0 (put J U (.lst ((used ++ [n]).map .str))) p L D U gs ep (used ++ [n]) k:=by
 refine ⟨h.b.keep fun a u ow e=>?_,h.ok,h.rl,?_,au,h.nD,h.nU,h.mv.trans (fC (.inr (.inr rfl)) fun a z=>.inl z),h.td,h.tl,h.wl⟩
 ·rw [ak (fun z=>by subst z;exact h.nU ow)];exact e
 ·rw [ak (fun e=>h.ne e.symm)];exact h.hD
theorem Wk.up (h:Wk cN cL J0 S0 J p L D U gs ep used k):Sz 900 L.t∧(gs.map (·.1)).Nodup∧gs.length≤12∧∀ x∈gs,qd 900 x.2 :=
 ⟨h.ok.F7,h.rl.nd h.ok.toaZ,by rw [h.rl.len];exact h.ok.IV,fun x hx=>(h.rl.sz x hx).mono (by decide)⟩
end
theorem wu {q:Rat} {k:Nat} (hk:k≤2000) (h:q≤((500 * k:Nat):Rat)):q≤1000000:=by
 refine Rat.le_trans h ?_
 have:((500 * k:Nat):Rat)≤((1000000:Nat):Rat):=by exact_mod_cast (show 500 * k≤1000000 by omega)
 exact this
theorem yE {a b:Rat} {k:Nat} (h:b≤a + 500) (ha:a≤((500 * k:Nat):Rat)):b≤((500 * (k + 1):Nat):Rat):=by
 have e:((500 * (k + 1):Nat):Rat)=((500 * k:Nat):Rat) + 500:=by
  rw [show 500 * (k + 1)=500 * k + 500 by omega];exact Rat.natCast_add _ _
 rw [e];grind
theorem EX {a:Rat} {k:Nat} (ha:a≤((500 * k:Nat):Rat)):a≤((500 * (k + 1):Nat):Rat):=yE (a:=a) (by grind) ha
theorem kK (l:aU) (t m:Rat):l.at m=l.at t + (m - t) * (l.v:Rat):=by unfold aU.at;grind
def uM (t m:Rat) (x y:Str × aU):Prop:=y.2.v < x.2.v∧x.2.at t < y.2.at t∧eW t (key t x) (key t y)≤m
theorem nh {t m:Rat} {x y:Str × aU} (htm:t≤m):uM t m x y↔y.2.v < x.2.v∧x.2.at t < y.2.at t∧y.2.at m≤x.2.at m:=by
 unfold uM
 refine and_congr_right fun hv=>and_congr_right fun _=>?_
 have hp:(0:Rat) < ((x.2.v - y.2.v:Int):Rat):=by exact_mod_cast (show (0:Int) < x.2.v - y.2.v by omega)
 show t + (y.2.at t - x.2.at t) / ((x.2.v - y.2.v:Int):Rat)≤m↔_
 rw [kK x.2 t m,kK y.2 t m]
 rw [Rat.intCast_sub] at hp ⊢
 generalize (x.2.v:Rat)=v at hp ⊢
 generalize (y.2.v:Rat)=w at hp ⊢
 generalize x.2.at t=p
 generalize y.2.at t=q
 have e:(q - p) / (v - w) * (v - w)=q - p:=by grind
 generalize (q - p) / (v - w)=z at e ⊢
 constructor
 ·intro h
  have:0≤(m - t - z) * (v - w):=Rat.mul_nonneg (by grind) (Rat.le_of_lt hp)
  grind
 ·intro h
  by_cases c:m - t < z
  ·have:0 < (z - (m - t)) * (v - w):=Rat.mul_pos (by grind) hp
   grind
  ·grind
theorem CN {t m:Rat} {x y:Str × aU} (htm:t≤m):(key m y).lt (key m x)=true↔((key t y).lt (key t x)=true∧¬ uM t m y x)∨((key t x).lt (key t y)=true∧uM t m x y):=by
 rw [nh htm,nh htm,Ky.lt_iff,Ky.lt_iff,Ky.lt_iff]
 show (y.2.at m < x.2.at m∨y.2.at m=x.2.at m∧(y.2.v < x.2.v∨y.2.v=x.2.v∧slt y.1 x.1))↔((y.2.at t < x.2.at t∨y.2.at t=x.2.at t∧(y.2.v < x.2.v∨y.2.v=x.2.v∧slt y.1 x.1))∧¬ (x.2.v < y.2.v∧y.2.at t < x.2.at t∧x.2.at m≤y.2.at m))∨((x.2.at t < y.2.at t∨x.2.at t=y.2.at t∧(x.2.v < y.2.v∨x.2.v=y.2.v∧slt x.1 y.1))∧(y.2.v < x.2.v∧x.2.at t < y.2.at t∧y.2.at m≤x.2.at m))
 have hx:=kK x.2 t m
 have hy:=kK y.2 t m
 have h0:0≤m - t:=by grind
 rcases Int.lt_trichotomy x.2.v y.2.v with c | c | c
 ·have hv:(x.2.v:Rat) < (y.2.v:Rat):=by exact_mod_cast c
  have hm:0≤(m - t) * ((y.2.v:Rat) - (x.2.v:Rat)):=Rat.mul_nonneg h0 (by grind)
  have n1:¬ y.2.v < x.2.v:=by omega
  have n2:¬ y.2.v=x.2.v:=by omega
  have n3:¬ x.2.v=y.2.v:=by omega
  simp only [n1,n2,n3,c,false_and,or_false,and_false,true_and,false_or,true_or,and_true,or_true]
  generalize (x.2.v:Rat)=v at *
  generalize (y.2.v:Rat)=w at *
  generalize x.2.at t=p at *
  generalize y.2.at t=q at *
  generalize x.2.at m=p' at *
  generalize y.2.at m=q' at *
  constructor
  ·intro h;exact ⟨by grind,by grind⟩
  ·rintro ⟨h1,h2⟩
   by_cases k:p'≤q'
   ·exact absurd ⟨h1,k⟩ h2
   ·grind
 ·rw [c] at hx
  have n1:¬ y.2.v < x.2.v:=by omega
  have n2:¬ x.2.v < y.2.v:=by omega
  have n3:y.2.v=x.2.v:=c.symm
  simp only [n1,n2,n3,false_and,or_false,and_false,true_and,false_or,not_false_eq_true,and_true]
  generalize (y.2.v:Rat)=w at *
  generalize x.2.at t=p at *
  generalize y.2.at t=q at *
  generalize x.2.at m=p' at *
  generalize y.2.at m=q' at *
  have e1:q' < p'↔q < p:=⟨fun h=>by grind,fun h=>by grind⟩
  have e2:q'=p'↔q=p:=⟨fun h=>by grind,fun h=>by grind⟩
  rw [e1,e2]
  simp only [Int.lt_irrefl,false_and,and_false,or_false,false_or,not_false_eq_true,and_true]
 ·have hv:(y.2.v:Rat) < (x.2.v:Rat):=by exact_mod_cast c
  have hm:0≤(m - t) * ((x.2.v:Rat) - (y.2.v:Rat)):=Rat.mul_nonneg h0 (by grind)
  have n1:¬ x.2.v < y.2.v:=by omega
  have n2:¬ y.2.v=x.2.v:=by omega
  have n3:¬ x.2.v=y.2.v:=by omega
  simp only [n1,n2,n3,c,false_and,or_false,and_false,true_and,false_or,true_or,and_true,or_true,not_false_eq_true]
  generalize (x.2.v:Rat)=v at *
  generalize (y.2.v:Rat)=w at *
  generalize x.2.at t=p at *
  generalize y.2.at t=q at *
  generalize x.2.at m=p' at *
  generalize y.2.at m=q' at *
  constructor
  ·intro h
   rcases (Rat.le_total:q≤p∨p≤q) with k | k
   ·left;grind
   ·by_cases e:q=p
    ·left;exact .inr e
    ·right;exact ⟨by grind,by grind,by grind⟩
  ·rintro (h | ⟨h1,h2,h3⟩)
   ·have:q≤p:=by rcases h with h | h <;> grind
    have:q'≤p':=by grind
    grind
   ·grind
theorem gQ:∀ {l m:List Str},l.Nodup→(∀ x∈l,x∈m)→l.length≤m.length
 | [],_,_,_=>Nat.zero_le _
 | a :: l,m,h,hs=>by
  have ha:=hs a List.mem_cons_self
  have hn:=List.nodup_cons.mp h
  have:=gQ (l:=l) (m:=m.erase a) hn.2 fun x hx=>(List.mem_erase_of_ne (fun e=>hn.1 (by rw [← e];exact hx))).mpr (hs x (List.mem_cons_of_mem _ hx))
  rw [List.length_erase_of_mem ha] at this
  have:=List.length_pos_of_mem ha
  rw [List.length_cons]
  omega
def Cn (t:Rat) (fs:List (Str × aU)) (x:Str × aU):Nat:=(fs.filter fun y=>(key t y).lt (key t x)).length
theorem E8 {ks:List Ky} (s:nV Ky.lt ks) {j:Nat} {a:Ky} (ha:ks[j]?=some a):(ks.filter fun y=>y.lt a)=ks.take j:=by
 obtain ⟨hj,e⟩:=List.getElem?_eq_some_iff.mp ha
 have hs:ks=ks.take j ++ ks.drop j:=(List.take_append_drop j ks).symm
 conv=>lhs;rw [hs]
 rw [List.filter_append]
 have h1:(ks.take j).filter (fun y=>y.lt a)=ks.take j:=List.filter_eq_self.mpr fun y hy=>by
  obtain ⟨i,hi⟩:=List.mem_iff_getElem?.mp hy
  rw [List.getElem?_take] at hi
  split at hi
  ·rename_i hij
   obtain ⟨h2,e2⟩:=List.getElem?_eq_some_iff.mp hi
   rw [← e2,← e]
   exact List.pairwise_iff_getElem.mp s i j h2 hj hij
  ·cases hi
 have h2:(ks.drop j).filter (fun y=>y.lt a)=[]:=List.filter_eq_nil_iff.mpr fun y hy=>by
  obtain ⟨i,hi⟩:=List.mem_iff_getElem?.mp hy
  rw [List.getElem?_drop] at hi
  obtain ⟨h2,e2⟩:=List.getElem?_eq_some_iff.mp hi
  rcases Nat.eq_zero_or_pos i with z | z
  ·subst z
   have:y=a:=by rw [← e2,← e];rfl
   rw [this,Ky.zf];decide
  ·have:=List.pairwise_iff_getElem.mp s j (j + i) hj h2 (by omega)
   rw [e,e2] at this
   intro k
   have:=Ky.tr k this
   rw [Ky.zf] at this;cases this
 rw [h1,h2,List.append_nil]
theorem ye {t:Rat} {fs:List (Str × aU)} (h:(fs.map (·.1)).Nodup) {x:Str × aU} (hx:x∈fs) {j:Nat} (hj:(cn t fs)[j]?=some x.1):j=Cn t fs x:=by
 have kn:((fs.map (key t)).map Ky.n).Nodup:=by rw [dA];exact h
 unfold cn at hj
 rw [List.getElem?_map] at hj
 obtain ⟨a,ha,e⟩:=Option.map_eq_some_iff.mp hj
 have hk:key t x∈dJ (fs.map (key t)):=(bp _ _).mpr (List.mem_map.mpr ⟨x,hx,rfl⟩)
 have ea:a=key t x:=ji kn _ ((bp _ _).mp (List.mem_of_getElem? ha)) _ ((bp _ _).mp hk) e
 subst ea
 have h1:=congrArg List.length (E8 (dM kn) ha)
 rw [← mF kn,oH,List.filter_map,List.length_map,List.length_take] at h1
 have hl:=(List.getElem?_eq_some_iff.mp ha).1
 unfold Cn
 have h2:(fs.filter fun y=>(key t y).lt (key t x))=fs.filter ((fun y:Ky=>y.lt (key t x)) ∘ key t):=rfl
 rw [h2]
 omega
open Classical in
theorem EC {t m:Rat} {fs:List (Str × aU)} (htm:t≤m) (x:Str × aU):Cn m fs x + (fs.filter fun y=>decide (uM t m y x)).length=Cn t fs x + (fs.filter fun y=>decide (uM t m x y)).length:=by
 unfold Cn
 induction fs with
 | nil=>rfl
 | cons y fs ih =>
  have hs:=CN (x:=x) (y:=y) htm
  have hp:uM t m y x→(key t y).lt (key t x)=true:=fun h=>by
   rw [nh htm] at h
   rw [Ky.lt_iff];exact .inl h.2.1
  have hq:uM t m x y→(key t x).lt (key t y)=true:=fun h=>by
   rw [nh htm] at h
   rw [Ky.lt_iff];exact .inl h.2.1
  have hno:(key t y).lt (key t x)=true→(key t x).lt (key t y)=true→False:=fun a b=>by
   have:=Ky.tr a b
   rw [Ky.zf] at this;cases this
  rw [List.filter_cons,List.filter_cons,List.filter_cons,List.filter_cons]
  by_cases a:(key m y).lt (key m x)=true <;> by_cases b:uM t m y x <;> by_cases c:(key t y).lt (key t x)=true <;> by_cases d:uM t m x y <;> simp only [a,b,c,d,decide_true,decide_false,if_true,if_false,Bool.false_eq_true,List.length_cons] at ih ⊢ <;> first
   | omega
   | (exfalso;first | exact c (hp b) | exact hno c (hq d) | (rcases hs.mp a with ⟨h1,h2⟩ | ⟨h1,h2⟩ <;> first | exact h2 b | exact c h1 | exact d h2) | (exact a (hs.mpr (.inl ⟨c,b⟩))) | (exact a (hs.mpr (.inr ⟨hq d,d⟩))))
theorem cG {t m:Rat} {fs:List (Str × aU)} {b:aB}:b∈cF t (fs.map (key t)) m↔∃ x∈fs,∃ y∈fs,uM t m x y∧b=gJ t (key t x) (key t y):=by
 rw [jI]
 constructor
 ·rintro ⟨a,ha,c,hc,h1,h2,h3,rfl⟩
  obtain ⟨x,hx,rfl⟩:=List.mem_map.mp ha
  obtain ⟨y,hy,rfl⟩:=List.mem_map.mp hc
  exact ⟨x,hx,y,hy,⟨h1,h2,h3⟩,rfl⟩
 ·rintro ⟨x,hx,y,hy,⟨h1,h2,h3⟩,rfl⟩
  exact ⟨_,List.mem_map.mpr ⟨x,hx,rfl⟩,_,List.mem_map.mpr ⟨y,hy,rfl⟩,h1,h2,h3,rfl⟩
theorem oE {l:List aB} (s:g9 l):l.Nodup:=List.Pairwise.imp (fun {a b} h e=>by subst e;rw [aB.wg] at h;cases h) s
theorem gr {fs:List (Str × aU)} (h:(fs.map (·.1)).Nodup) {x y:Str × aU} (hx:x∈fs) (hy:y∈fs) (e:x.1=y.1):x=y:=by
 obtain ⟨i,hi,rfl⟩:=List.getElem_of_mem hx
 obtain ⟨j,hj,rfl⟩:=List.getElem_of_mem hy
 have:=(List.getElem_inj (xs:=fs.map (·.1)) (i:=i) (j:=j) (h₀:=by simpa using hi) (h₁:=by simpa using hj) h).mp (by rw [List.getElem_map,List.getElem_map];exact e)
 subst this;rfl
open Classical in
theorem ups {t m:Rat} {fs:List (Str × aU)} (h:(fs.map (·.1)).Nodup) {x:Str × aU} (hx:x∈fs):((cF t (fs.map (key t)) m).filter fun b=>decide (b.h=x.1)).length=(fs.filter fun y=>decide (uM t m x y)).length:=by
 have hl:(((cF t (fs.map (key t)) m).filter fun b=>decide (b.h=x.1)).map aB.f).Nodup:=by
  refine List.pairwise_map.mpr ?_
  refine List.Pairwise.imp_of_mem (fun {a b} ha hb ne e=>?_) ((oE (gR t m (fs.map (key t)))).filter _)
  obtain ⟨ha,ea⟩:=List.mem_filter.mp ha
  obtain ⟨hb,eb⟩:=List.mem_filter.mp hb
  obtain ⟨x1,hx1,y1,hy1,_,rfl⟩:=cG.mp ha
  obtain ⟨x2,hx2,y2,hy2,_,rfl⟩:=cG.mp hb
  have e1:x1.1=x.1:=of_decide_eq_true ea
  have e2:x2.1=x.1:=of_decide_eq_true eb
  have:=gr h hx1 hx2 (e1.trans e2.symm)
  have:=gr h hy1 hy2 e
  subst x2 y2
  exact ne rfl
 have hr:((fs.filter fun y=>decide (uM t m x y)).map (·.1)).Nodup:=h.sublist (List.Sublist.map _ List.filter_sublist)
 have mem:∀ n,n∈((cF t (fs.map (key t)) m).filter fun b=>decide (b.h=x.1)).map aB.f↔n∈(fs.filter fun y=>decide (uM t m x y)).map (·.1):=fun n=>by
  rw [List.mem_map,List.mem_map]
  constructor
  ·rintro ⟨b,hb,rfl⟩
   obtain ⟨hb,eb⟩:=List.mem_filter.mp hb
   obtain ⟨x2,hx2,y2,hy2,hp,rfl⟩:=cG.mp hb
   have e2:x2.1=x.1:=of_decide_eq_true eb
   cases gr h hx2 hx e2
   exact ⟨y2,List.mem_filter.mpr ⟨hy2,decide_eq_true hp⟩,rfl⟩
  ·rintro ⟨y,hy,rfl⟩
   obtain ⟨hy,hp⟩:=List.mem_filter.mp hy
   exact ⟨gJ t (key t x) (key t y),List.mem_filter.mpr ⟨cG.mpr ⟨x,hx,y,hy,of_decide_eq_true hp,rfl⟩,decide_eq_true rfl⟩,rfl⟩
 have a:=gQ hl fun n hn=>(mem n).mp hn
 have b:=gQ hr fun n hn=>(mem n).mpr hn
 rw [List.length_map,List.length_map] at a b
 omega
open Classical in
theorem downs {t m:Rat} {fs:List (Str × aU)} (h:(fs.map (·.1)).Nodup) {x:Str × aU} (hx:x∈fs):((cF t (fs.map (key t)) m).filter fun b=>decide (b.f=x.1)).length=(fs.filter fun y=>decide (uM t m y x)).length:=by
 have hl:(((cF t (fs.map (key t)) m).filter fun b=>decide (b.f=x.1)).map aB.h).Nodup:=by
  refine List.pairwise_map.mpr ?_
  refine List.Pairwise.imp_of_mem (fun {a b} ha hb ne e=>?_) ((oE (gR t m (fs.map (key t)))).filter _)
  obtain ⟨ha,ea⟩:=List.mem_filter.mp ha
  obtain ⟨hb,eb⟩:=List.mem_filter.mp hb
  obtain ⟨x1,hx1,y1,hy1,_,rfl⟩:=cG.mp ha
  obtain ⟨x2,hx2,y2,hy2,_,rfl⟩:=cG.mp hb
  have e1:y1.1=x.1:=of_decide_eq_true ea
  have e2:y2.1=x.1:=of_decide_eq_true eb
  have:=gr h hy1 hy2 (e1.trans e2.symm)
  have:=gr h hx1 hx2 e
  subst x2 y2
  exact ne rfl
 have hr:((fs.filter fun y=>decide (uM t m y x)).map (·.1)).Nodup:=h.sublist (List.Sublist.map _ List.filter_sublist)
 have mem:∀ n,n∈((cF t (fs.map (key t)) m).filter fun b=>decide (b.f=x.1)).map aB.h↔n∈(fs.filter fun y=>decide (uM t m y x)).map (·.1):=fun n=>by
  rw [List.mem_map,List.mem_map]
  constructor
  ·rintro ⟨b,hb,rfl⟩
   obtain ⟨hb,eb⟩:=List.mem_filter.mp hb
   obtain ⟨x2,hx2,y2,hy2,hp,rfl⟩:=cG.mp hb
   have e2:y2.1=x.1:=of_decide_eq_true eb
   cases gr h hy2 hx e2
   exact ⟨x2,List.mem_filter.mpr ⟨hx2,decide_eq_true hp⟩,rfl⟩
  ·rintro ⟨y,hy,rfl⟩
   obtain ⟨hy,hp⟩:=List.mem_filter.mp hy
   exact ⟨gJ t (key t y) (key t x),List.mem_filter.mpr ⟨cG.mpr ⟨y,hy,x,hx,of_decide_eq_true hp,rfl⟩,decide_eq_true rfl⟩,rfl⟩
 have a:=gQ hl fun n hn=>(mem n).mp hn
 have b:=gQ hr fun n hn=>(mem n).mpr hn
 rw [List.length_map,List.length_map] at a b
 omega
theorem uQ {t m:Rat} {fs:List (Str × aU)} (htm:t≤m) (h:(fs.map (·.1)).Nodup) {x:Str × aU} (hx:x∈fs):Cn m fs x + ((cF t (fs.map (key t)) m).filter fun b=>decide (b.f=x.1)).length=Cn t fs x + ((cF t (fs.map (key t)) m).filter fun b=>decide (b.h=x.1)).length:=by
 rw [ups h hx,downs h hx];exact EC htm x
def Fi (ns:List Int) (k:Int):Int:=if k < (ns.length:Int) then ns.getD k.toNat 0 else 5 + 17 * k
def yp:cT:=fun xs J Q _=>∃ (ns:List Int) (k:Int),xs=[.fl (ns.map .int),.int k]∧0≤k∧k < 1000∧Q (.int (Fi ns k)) J
theorem BD {f:Addr} {fd:FuncData} (F:cq K "_law_cell" "_law_cell" sR f fd) (Z:cj mg):aQ P w K mg base (dt P w) 1 f fd ["_law_script","_law_k"] (d7 K yp):=by
 simp_arith [EK]
 ·obtain ⟨ns,k,rfl,_⟩:=h;rfl
 obtain ⟨ns,k,rfl,h0,h1,q⟩:=h
 unfold Fi at q
 refine ⟨_,(aj (a7 (aF iH (rv 1) (aP bW rfl Z.len boot_len (af (rv 0) ah)) (L2.ay _)) (aq (aI (ar av (rv 0) (rv 1) (fun _ _=>rfl)))) aO)
   (aq (aI (aX d5 ag (aX cI ag (rv 1)))))),?_⟩
 simp_arith! only [cb,List.length_map]
 split
 ·rename_i c
  rw [if_pos c] at q
  obtain ⟨j,rfl⟩:=Int.eq_ofNat_of_zero_le h0
  have hj:j < ns.length:=by omega
  refine ⟨.int ns[j],ba (by rw [List.getElem?_map,List.getElem?_eq_getElem hj];rfl),?_⟩
  simpa [List.getD,hj] using q
 ·rename_i c
  rw [if_neg c] at q
  exact ⟨.of (.small (x:=17) (by decide) (by decide)) (.small (x:=k) (by omega) (by omega)),q⟩
theorem JB {j:Int} (h0:0≤j) (h1:j < 8):∃ x:Int,cU [PV.int 2,PV.int 3,PV.int 4,PV.int 5,PV.int 6,PV.int 7,PV.int 9,PV.int 20] j=some (.int x)∧2≤x∧x≤20:=by
 rcases (by omega:j=0∨j=1∨j=2∨j=3∨j=4∨j=5∨j=6∨j=7) with e | e | e | e | e | e | e | e <;> subst e <;> exact ⟨_,rfl,by decide,by decide⟩
theorem Wk.start {cN cL p D U:Addr} {J:Hq} {L0:Ln} {ep:Nat} (b:a9 cN cL J p L0) (ok:b_ L0) (cs0:L0.cs=[]) (t0:L0.t=0) (hD:J D=none) (hU:(put J D (.dct [] ep)) U=none):Wk cN cL J (L0.own p) (put (put J D (.dct [] ep)) U (.lst [])) p L0 D U [] ep [] 0:=by
 have nDU:D≠U:=fun e=>by subst e;rw [au] at hU;cases hU
 have hU0:J U=none:=by rw [ak (fun e=>nDU e.symm)] at hU;exact hU
 refine ⟨(b.fresh hD).fresh hU,ok,⟨by unfold Ln.fs Ln.Ai;rw [cs0];rfl,(by simp),(by simp),(by simp),(by rw [cs0];simp)⟩,by rw [ak nDU];exact au,au,fun z=>b.some z hD,fun z=>b.some z hU0,?_,by rw [t0];decide,by rw [t0];decide,by rw [cs0];simp⟩
 have hh:=(Mv.zB (S:=L0.own p) (o:=.dct [] ep) hD).trans (Mv.zB (o:=.lst []) hU)
 exact ⟨hh.keep,fun a z=>hh.own a (z.elim (fun z=>.inl (.inl z)) fun z=>z.elim (fun z=>.inl (.inr z)) .inr),hh.mono⟩
abbrev sW:Stmt:=(top 58)
theorem jS:L2.aw ["_law_told","_law_clock","_law_moment","_law_seen","_law_last","_law_k","_law_row"] ["_law_told","_law_clock","_law_moment"] (L2.ai sW):=eJ
def Apart (a b:aB):Prop:=a.m≤b.m∧¬ (a.h=b.h∧a.f=b.f)∧¬ (a.h=b.f∧a.f=b.h)
def CF:cT:=fun xs J Q _=>∃ (rows:List aB) (t m:Rat),xs=[.fl (rows.map aB.v),fr t,fr m]∧rows.length≤900∧rows.Pairwise Apart∧t≤m∧Sz 9000 t∧Sz 9000 m∧(∀ b∈rows,t < b.m∧b.m≤m∧Sz 9000 b.m)∧Q (.bl true) J
theorem y3 (p q:Rat):(p.num * (q.den:Int) < q.num * (p.den:Int))=(p < q):=propext (Rat.lt_iff p q).symm
theorem y0 (p q:Rat):(p.num * (q.den:Int)≤q.num * (p.den:Int))=(p≤q):=propext (Rat.le_iff p q).symm
theorem BH {f:Addr} {fd:FuncData} (F:cq K "_law_tidy" "_law_tidy" sW f fd) (Z:cj mg) (yQ:bG P w K mg base 3 "_law_passrow" ["_law_found","_law_due"] mq):aQ P w K mg base (dt P w) 4 f fd ["_law_told","_law_clock","_law_moment"] (d7 K CF):=by
 refine L9 F jS (fun xs J Q E h=>?_) (fun cdv A outer s H E G xs J Q E2 hr h B=>?_)
 ·obtain ⟨rows,t,m,rfl,_⟩:=h;rfl
 obtain ⟨rows,t,m,rfl,hl,hap,htm,st,sm,hb,q⟩:=h
 refine ⟨_,(aj (aT (i:=3) jS.nd rfl (Or.inl rfl) EF)
   (aj (aT (i:=4) jS.nd rfl (Or.inl rfl) (rv 1))
   (aj (jv dH rfl (mf rfl Z.range (af (aP bW rfl Z.len boot_len (af (rv 0) ah)) ah)) (cM (i:=5) jS.nd rfl (Or.inl rfl)) (aj (aT (i:=6) jS.nd rfl (Or.inl rfl) (ar av (rv 0) (rv 5) (fun _ _=>rfl)))
   (aj (a7 (dh (fR (c_ (bX (aP iZ rfl Z.isinstance boot_isinstance (af (rv 6) (af (mI rfl Z.tuple boot_tuple) ah))))) (fR (aF (mE hr.aS) (aP bW rfl Z.len boot_len (af (rv 6) ah)) ag (L2.ay _)) (eS (c_ (bX (a8 yQ B hr (by decide) rfl (af (rv 6) (af (rv 6) ah))))))))) (aq (aI gT)) aO)
   (aj (a7 (dh (fR (aF (BM hr.aS) (cA (af (ar av (rv 6) ag (fun _ _=>rfl)) (af (ar av (rv 6) ag (fun _ _=>rfl)) ah))) (rv 3) (by with_unfolding_all rfl)) (fR (aF (BM hr.aS) (cA (af (ar av (rv 6) ag (fun _ _=>rfl)) (af (ar av (rv 6) ag (fun _ _=>rfl)) ah))) (rv 3) (by with_unfolding_all rfl)) (eS (aF iH (ar av (ar av (rv 6) ag (fun _ _=>rfl)) ag (fun _ _=>rfl)) ag (L2.ay _)))))) (aq (aI gT)) aO)
   (aj (oT (HS hr.aS) (rv 3) (cA (af (ar av (rv 6) ag (fun _ _=>rfl)) (af (ar av (rv 6) ag (fun _ _=>rfl)) ah))) gT)
   (aj (a7 (dh (fR (aF iH (aX cI (ar av (ar av (rv 6) ag (fun _ _=>rfl)) ag (fun _ _=>rfl)) (ar av (rv 4) ag (fun _ _=>rfl))) (aX cI (ar av (rv 4) ag (fun _ _=>rfl)) (ar av (ar av (rv 6) ag (fun _ _=>rfl)) ag (fun _ _=>rfl))) (L2.ay _)) (eS (aF (cm hr.aS) (ar av (rv 6) ag (fun _ _=>rfl)) (rv 1) (L2.ay _))))) (aq (aI gT)) aO)
   (aq (aT (i:=4) jS.nd rfl (Or.inl rfl) (ar av (rv 6) ag (fun _ _=>rfl))))))))))
   (aq (aI (gx BN (aX cI (ar av (rv 4) ag (fun _ _=>rfl)) (ar av (rv 2) ag (fun _ _=>rfl))) (aX cI (ar av (rv 2) ag (fun _ _=>rfl)) (ar av (rv 4) ag (fun _ _=>rfl))) (L2.ay _))))))),?_⟩
 simp_all! only [FU]
 intro S hS
 simp_all! only [List.length_map]
 refine ⟨by omega,by omega,?_⟩
 generalize zX _=hs
 rw [Int.toNat_natCast]
 obtain ⟨Inv,hInv⟩:∃ Inv:Nat→Sr→Hq→Prop,∀ i τ J',Inv i τ J'↔∃ (l:Rat) (u5 u6:Option PV),τ=[some (.fl (rows.map aB.v)),some (fr t),some (fr m),some (.ref S),some (fr l),u5,u6]∧J'=put J S (.dtp hs ((rows.take i).map fun b=>[b.h,b.f]))∧l≤m∧Sz 9000 l∧∀ b∈rows.drop i,l≤b.m:=⟨_,fun _ _ _=>Iff.rfl⟩
 refine rF Inv ((hInv _ _ _).mpr ⟨t,_,_,rfl,rfl,htm,st,fun b h=>Rat.le_of_lt (hb b (List.mem_of_mem_drop h)).1⟩) ?_ ?_
 ·intro i τ J' hi hv
  obtain ⟨l,u5,u6,rfl,rfl,hlm,sl,hd⟩:=(hInv _ _ _).mp hv
  clear hv
  have hx:rows[i]?=some rows[i]:=List.getElem?_eq_getElem hi
  have hmem:rows[i]∈rows:=List.getElem_mem hi
  have hdi:rows.drop i=rows[i] :: rows.drop (i + 1):=List.drop_eq_getElem_cons hi
  have hta:(rows.take (i + 1)).map (fun b=>[b.h,b.f])=(rows.take i).map (fun b=>[b.h,b.f]) ++ [[rows[i].h,rows[i].f]]:=by rw [List.take_add_one,hx,List.map_append];rfl
  have hpw:∀ a∈rows.take i,Apart a rows[i]:=fun a ha=>by
   obtain ⟨j,hj,rfl⟩:=List.mem_take_iff_getElem.mp ha
   exact List.pairwise_iff_getElem.mp hap j i (by omega) hi (by omega)
  have hnx:∀ b∈rows.drop (i + 1),rows[i].m≤b.m:=fun b hb'=>by
   have:=List.Pairwise.sublist (List.drop_sublist i rows) hap
   rw [hdi] at this
   exact ((List.pairwise_cons.mp this).1 b hb').1
  have hlb:l≤rows[i].m:=hd _ (by rw [hdi];exact List.mem_cons_self)
  have ha:cU (rows.map aB.v) (0 + (i:Int))=some (rows[i].v):=by rw [Int.zero_add];exact AD hx
  obtain ⟨b1,b2,b3⟩:=hb _ hmem
  have n1:[rows[i].h,rows[i].f] ∉ (rows.take i).map fun b=>[b.h,b.f]:=fun z=>by
   obtain ⟨a,ha',e⟩:=List.mem_map.mp z
   simp only [List.cons.injEq,and_true] at e
   exact (hpw a ha').2.1 e
  have n2:[rows[i].f,rows[i].h] ∉ (rows.take i).map fun b=>[b.h,b.f]:=fun z=>by
   obtain ⟨a,ha',e⟩:=List.mem_map.mp z
   simp only [List.cons.injEq,and_true] at e
   exact (hpw a ha').2.2 e
  have hkl:((rows.take i).map fun b=>[b.h,b.f]).length < 1000:=by rw [List.length_map,List.length_take];omega
  generalize rows[i]=row at *
  generalize (rows.take i).map (fun b=>[b.h,b.f])=ks at *
  simp_all! only [ha,mq,qA,qB,qC,KL,Fu]
  rw [if_pos (show ((3:Nat):Int)=3 from rfl)]
  refine ⟨row,rfl,rfl,?_⟩
  simp_all! only [JG,au,qA,qB,qC]
  refine ⟨S,[row.h,row.f],rfl,rfl,ks,au,?_⟩
  rw [if_neg n1]
  refine ⟨S,[row.f,row.h],rfl,rfl,ks,au,?_⟩
  rw [if_neg n2,if_neg (show ¬ (row.m.den:Int) < 1 by have:=i5 row.m;omega)]
  simp_all! only [FO,au,qA,qB,qC]
  refine ⟨[row.h,row.f],rfl,ks,rfl,n1,Nat.lt_of_lt_of_le hkl (by decide),?_⟩
  rw [eZ,← hta]
  simp_all! only [qA,y3,ua,Fj]
  refine ⟨.of b3.num sl.den,.of sl.num b3.den,?_⟩
  rw [if_neg (Rat.not_lt.mpr hlb),if_neg (fun e=>by rw [e] at b1;exact absurd b1 (Rat.lt_irrefl))]
  exact (hInv _ _ _).mpr ⟨row.m,_,_,rfl,rfl,b2,b3,hnx⟩
 ·intro τ J' hv
  obtain ⟨l,u5,u6,rfl,rfl,hlm,sl,hd⟩:=(hInv _ _ _).mp hv
  simp_all! only [y0]
  refine ⟨.of sl.num sm.den,.of sm.num sl.den,?_⟩
  rw [decide_eq_true hlm]
  exact Fg.less (oy hS) q
theorem DD {n:Str} (hg:good n=true):n.length≤sizeLine:=by
 have h8:n.cps.size≤8:=by
  unfold good at hg
  rw [Bool.and_eq_true,Bool.and_eq_true] at hg
  exact of_decide_eq_true hg.1.2
 exact Nat.le_trans h8 (by decide)
theorem tq {x y:Str} {i:Nat} {dv:PV} {τ:Sr} {J:Hq} {a e u:gI} {D:En} (h:τ[i]?=some (some dv)) (h0:eO J dv (.int 0)=some (.str x)) (n:decide (x=y)=false) (hu:cb e u D τ J):cb (pX (rB (pZ (B9 id) (pZ C_ (iu i) (rC (.int 0))) (rC (.str y)))) a e) u D τ J :=
 nJ h h0 _ (by rw [n,if_neg (by decide)];exact hu)
theorem EU {y:Str} {i:Nat} {dv:PV} {τ:Sr} {J:Hq} {a e u:gI} {D:En} (h:τ[i]?=some (some dv)) (h0:eO J dv (.int 0)=some (.str y)) (ha:cb a u D τ J):cb (pX (rB (pZ (B9 id) (pZ C_ (iu i) (rC (.int 0))) (rC (.str y)))) a e) u D τ J :=
 nJ h h0 _ (by rw [decide_eq_true rfl,if_pos rfl];exact ha)
theorem vq {cN cL T p D U:Addr} {J0 J:Hq} {S0:Addr→Prop} {L:Ln} {gs:List (Str × aU)} {ep:Nat} {used names:List Str} {i:Nat} {dv:PV} {E2:Addr→Hq→Prop} {Dn:En} {τ:Sr} {iL iU iD iC iV iR iT:Nat} {RK CH:gI} {RV:PV}
  (hU:τ[iU]?=some (some (.ref U))) (hV:τ[iV]?=some (some dv))
  (gL:(τ.set iR (some RV))[iL]?=some (some (.ref p))) (gV:(τ.set iR (some RV))[iV]?=some (some dv))
  (kD:((τ.set iR (some RV)).set iT (some (.fl [])))[iD]?=some (some (.ref D))) (kC:((τ.set iR (some RV)).set iT (some (.fl [])))[iC]?=some (some (fr L.t))) (kV:((τ.set iR (some RV)).set iT (some (.fl [])))[iV]?=some (some dv))
  (hR:∀ J2 used2,Wk cN cL J0 S0 J2 p L D U gs ep used2 i→∀ D':En,D'.nx (τ.set iR (some RV)) J2→RK D' τ J2)
  (wk:Wk cN cL J0 S0 J p L D U gs ep used i) (hun:L.cs.map Cf.n=used) (hus:∀ n∈used,n∈names) (hul:used.length≤i) (hi:i < 90) (hng:∀ n∈names,good n=true) (hT:J0 T=some .tab) (nT:¬ S0 T) (hdv:Am names used gs L.t dv) (hgo:∀ m,dv≠y_ m)
  (fin:∀ J1 L1 gs1 ep1 used1 t1,L1.t=t1→Wk cN cL J0 S0 J1 p L1 D U gs1 ep1 used1 (i + 1)→L1.cs.map Cf.n=used1→(∀ n∈used1,n∈names)→used1.length≤i + 1→Dn.nx (((τ.set iR (some RV)).set iT (some (.fl []))).set iC (some (fr t1))) J1) :
  Cc (pX (rB (pZ (B9 id) (pZ C_ (iu iV) (rC (.int 0))) (rC (.str "join")))) (Cd (Mg "list" sI (iu iU) (k8 (pZ C_ (iu iV) (rC (.int 1))) sL))) mG)
   (cb RK (cb (oQ (yc (w6 cN cL T) E2 (k8 (iu iL) (k8 (iu iV) sL))) (C9 iT)) (cb (pX (rB (pZ (B9 id) (pZ C_ (iu iV) (rC (.int 0))) (rC (.str "go")))) CH mG) (oQ (yc tE E2 (k8 (iu iD) (k8 (iu iC) (k8 (iu iV) sL)))) (C9 iC))))) Dn τ J:=by
 obtain ⟨st,gnd,gl,gsz⟩:=wk.up
 have hT':∀ {J1:Hq} {L1 gs1 ep1 us k1},Wk cN cL J0 S0 J1 p L1 D U gs1 ep1 us k1→J1 T=some .tab:=fun wk'=>wk'.kept hT nT
 have hw200:∀ c∈L.cs,c.w.length < 200:=fun c hc=>by have:=wk.wl c hc;omega
 have tl1:L.t≤((500 * (i + 1):Nat):Rat):=EX wk.tl
 have hfl:L.fs.length=gs.length:=wk.rl.len.symm
 have hrow:∀ n,n∈gs.map (·.1)→n∈L.row:=fun n hn=>(wk.ok.rm n).mpr (by rw [← wk.rl.nm];exact hn)
 rcases hdv with ⟨n,x,v,rfl,hn,hnu,hgl,hx,hv⟩ | ⟨n,v,rfl,hn,hv⟩ | rfl | ⟨n,rfl,hn⟩ | ⟨m',rfl,hm'⟩
 ·have i0:∀ J,eO J (fB n x v) (.int 0)=some (.str "join"):=fun J=>de _ _
  have i1:∀ J,eO J (fB n x v) (.int 1)=some (.str n):=fun J=>eV _ _ _
  refine eX (fun τ' J2=>τ'=τ∧J2=put J U (.lst ((used ++ [n]).map .str))) (rK hV (i0 _)) ?_ ?_
  ·simp_all! only [hU,hV,i1,wk.hU,List.length_map]
   exact ⟨Nat.lt_of_lt_of_le (show used.length < 100 by omega) (by decide),by rw [List.map_append];rfl⟩
  rintro τ' J2 ⟨rfl,rfl⟩
  have wk2:=wk.push n
  generalize put J U (.lst ((used ++ [n]).map .str))=J2 at wk2 ⊢
  have hnc:n ∉ L.cs.map Cf.n:=by rw [hun];exact hnu
  have hcl':L.cs.length < 100:=by have:=congrArg List.length hun;rw [List.length_map] at this;omega
  have hnf:n ∉ L.fs.map (·.1):=fun z=>hnc (by
   rw [eA,List.mem_map] at z
   obtain ⟨c',hc',e'⟩:=z
   exact List.mem_map.mpr ⟨c',(Ln.cX.mp hc').1,e'⟩)
  refine mj (hR _ _ wk2 _ ?_)
  simp_all! only [gL,gV]
  refine ⟨p,L,_,rfl,wk2.b,wk2.ok,.inl ⟨n,x,v,rfl,hT' wk2,hng n hn,⟨hx,hv⟩,hnc,by rw [wk.ok.row,uH];omega,hcl',DD (hng n hn),fun J3 L3 b3 ok3 jn mv3=>?_⟩⟩
  have rl3:=wk2.rl.join ok3.toaZ hv hx jn wk.ok.t0 wk.ok.ts hnf
  obtain ⟨a,r,ecs,et⟩:=jn
  refine tq kV (i0 _) (by decide +kernel) ?_
  simp_all! only [kD,kC,kV]
  refine ⟨D,gs,ep,L.t,_,rfl,mv3.keep _ _ wk2.hD wk2.nD,gnd,by omega,st,gsz,.inl ⟨n,x,v,rfl,by rw [wk.rl.nm];exact hnf,fun ep'=>?_⟩⟩
  refine fin _ L3 _ ep' (used ++ [n]) _ et (wk2.next b3 ok3 mv3 rl3 (by rw [et];exact wk.td) (by rw [et];exact tl1) (fun c hc=>?_) ep') ?_ (fun y hy=>?_) (by rw [List.length_append];show used.length + 1≤_;omega)
  ·rw [ecs] at hc
   rcases List.mem_append.mp hc with hc | hc
   ·have:=wk.wl c hc;omega
   ·rw [List.mem_singleton] at hc;subst hc;show 1≤_;omega
  ·rw [ecs,List.map_append,hun];rfl
  ·rcases List.mem_append.mp hy with hy | hy
   ·exact hus y hy
   ·rw [List.mem_singleton] at hy;subst hy;exact hn
 ·have i0:∀ J,eO J (iI n v) (.int 0)=some (.str "turn"):=fun J=>de _ _
  refine cR hV (i0 _) (by decide +kernel) ?_
  refine mj (hR _ _ wk _ ?_)
  simp_all! only [gL,gV]
  refine ⟨p,L,_,rfl,wk.b,wk.ok,.inr (.inl ⟨n,v,rfl,hrow n hn,hv,hw200,fun J3 L3 b3 ok3 e t1 mv3=>?_⟩)⟩
  refine tq kV (i0 _) (by decide +kernel) ?_
  simp_all! only [kD,kC,kV]
  refine ⟨D,gs,ep,L.t,_,rfl,mv3.keep _ _ wk.hD wk.nD,gnd,by omega,st,gsz,.inr (.inl ⟨n,v,rfl,hn,fun ep'=>?_⟩)⟩
  refine fin _ L3 _ ep' used _ t1 (wk.next b3 ok3 mv3 (wk.rl.turn wk.ok.toaZ hv e t1) (by rw [t1];exact wk.td) (by rw [t1];exact tl1) (fun c hc=>?_) ep') (by rw [e,dI (fun c=>(lG n L.t v c).1)];exact hun) hus (by omega)
  rw [e] at hc
  obtain ⟨c0,h0,rfl⟩:=List.mem_map.mp hc
  have h1:=wk.wl c0 h0
  unfold cP
  split
  ·have:=kr c0.w L.t v
   show (turned c0.w L.t v).length≤_
   omega
  ·omega
 ·have i0:∀ J,eO J g_ (.int 0)=some (.str "about"):=fun J=>de _ _
  refine cR hV (i0 _) (by decide +kernel) ?_
  refine mj (hR _ _ wk _ ?_)
  simp_all! only [gL,gV]
  refine ⟨p,L,_,rfl,wk.b,wk.ok,.inr (.inr (.inl ⟨rfl,hw200,fun J3 L3 b3 ok3 e t1 mv3=>?_⟩))⟩
  refine tq kV (i0 _) (by decide +kernel) ?_
  simp_all! only [kD,kC,kV]
  refine ⟨D,gs,ep,L.t,_,rfl,mv3.keep _ _ wk.hD wk.nD,gnd,by omega,st,gsz,.inr (.inr (.inl ⟨rfl,fun ep'=>?_⟩))⟩
  refine fin _ L3 _ ep' used _ t1 (wk.next b3 ok3 mv3 (wk.rl.about wk.ok.toaZ e t1) (by rw [t1];exact wk.td) (by rw [t1];exact tl1) (fun c hc=>?_) ep') (by rw [e,dI (fun c=>(tW L.t c).1)];exact hun) hus (by omega)
  rw [e] at hc
  obtain ⟨c0,h0,rfl⟩:=List.mem_map.mp hc
  have h1:=wk.wl c0 h0
  unfold du
  split
  ·have:=kr c0.w L.t (-c0.cur.v)
   show (turned c0.w L.t (-c0.cur.v)).length≤_
   omega
  ·omega
 ·have i0:∀ J,eO J (gu n) (.int 0)=some (.str "leave"):=fun J=>de _ _
  refine cR hV (i0 _) (by decide +kernel) ?_
  refine mj (hR _ _ wk _ ?_)
  simp_all! only [gL,gV]
  refine ⟨p,L,_,rfl,wk.b,wk.ok,.inr (.inr (.inr (.inl ⟨n,rfl,hrow n hn,fun J3 L3 b3 ok3 e t1 mv3=>?_⟩)))⟩
  refine tq kV (i0 _) (by decide +kernel) ?_
  simp_all! only [kD,kC,kV]
  refine ⟨D,gs,ep,L.t,_,rfl,mv3.keep _ _ wk.hD wk.nD,gnd,by omega,st,gsz,.inr (.inr (.inr (.inl ⟨n,rfl,hn,fun ep'=>?_⟩)))⟩
  refine fin _ L3 _ ep' used _ t1 (wk.next b3 ok3 mv3 (wk.rl.leave e t1) (by rw [t1];exact wk.td) (by rw [t1];exact tl1) (fun c hc=>?_) ep') (by rw [e,dI (fun c=>(eD n L.t c).1)];exact hun) hus (by omega)
  rw [e] at hc
  obtain ⟨c0,h0,rfl⟩:=List.mem_map.mp hc
  have h1:=wk.wl c0 h0
  rw [(eD n L.t c0).2.2.2];omega
 ·exact absurd rfl (hgo m')
theorem wA {t m:Rat} {fs:List (Str × aU)} (h:(fs.map (·.1)).Nodup):(cF t (fs.map (key t)) m).Pairwise Apart:=by
 refine List.Pairwise.imp_of_mem (fun {a b} ha hb lt=>?_) (gR t m (fs.map (key t)))
 obtain ⟨x1,hx1,y1,hy1,p1,rfl⟩:=cG.mp ha
 obtain ⟨x2,hx2,y2,hy2,p2,rfl⟩:=cG.mp hb
 refine ⟨?_,fun ⟨e1,e2⟩=>?_,fun ⟨e1,e2⟩=>?_⟩
 ·rcases (aB.lt_iff _ _).mp lt with k | ⟨k,_⟩
  ·exact Rat.le_of_lt k
  ·rw [k];exact Rat.le_refl
 ·cases gr h hx1 hx2 e1
  cases gr h hy1 hy2 e2
  rw [aB.wg] at lt;cases lt
 ·cases gr h hx1 hy2 e1
  cases gr h hy1 hx2 e2
  have:=p1.1;have:=p2.1;omega
theorem Ea {L:Ln} (ok:b_ L) {m:Rat} {b:aB} (h:b∈cF L.t (L.fs.map (key L.t)) m):L.t < b.m∧b.m≤m∧Sz 9000 b.m:=by
 obtain ⟨a,ha,c,hc,hv,hp,hm,rfl⟩:=jI.mp h
 refine ⟨?_,hm,oC ok ((bp _ _).mpr ha) ((bp _ _).mpr hc) hv⟩
 show L.t < eW L.t a c
 unfold eW
 have:0 < (c.p - a.p) / ((a.v - c.v:Int):Rat):=uR (by grind) (by exact_mod_cast (show (0:Int) < a.v - c.v by omega))
 grind
abbrev oW:Stmt:=(top 59)
theorem cD:L2.aw ["_law_script","_law_head","_law_names_here","_law_many","_law_lane","_law_legs","_law_used","_law_clock","_law_k","_law_row","_law_deed_here","_law_ranks","_law_told","_law_ahead","_law_j","_law_up","_law_down","_law_rank"] ["_law_script"] (L2.ai oW):=eJ
theorem D4 {cN cL T eC f:Addr} {fd:FuncData} (F:cq K "law" "law" oW f fd) (Z:cj mg) (vA:bG P w K mg base 1 "_law_cell" ["_law_script","_law_k"] yp) (fm:bG P w K mg base 1 "_law_digits" ["_law_cell_here","_law_sizes"] Cz) (qW:bG P w K mg base 2 "_law_names" ["_law_cell_here","_law_many"] vi) (F_:bG P w K mg base 3 "_law_deed" ["_law_row","_law_mode","_law_names_here","_law_used","_law_legs","_law_clock"] Cy) (F':bG P w K mg base 9 "_law_done" ["_law_lane","_law_deed_here"] (w6 cN cL T)) (Dd:bG P w K mg base 3 "_law_acted" ["_law_legs","_law_clock","_law_deed_here"] tE) (vQ:yU P w K mg base cN 1 "Lane" ["self"] (yy cN cL)) (Gb:bG P w K mg base 4 "_law_tidy" ["_law_told","_law_clock","_law_moment"] CF) (mV:bG P w K mg base 1 "_law_whole" ["_law_found"] jx) (fP:c7 P w K mg base cN 2 "rank" ["self","name"] (tH cN cL eC)) :
  aQ P w K mg base (dt P w) 10 f fd ["_law_script"] (d7 K (w8 [T])):=by
 simp_arith [cD]
 ·obtain ⟨ns,rfl,_⟩:=h;rfl
 obtain ⟨ns,rfl,hl,hT,hJ,q⟩:=h
 have hT:J T=some .tab:=hT T (by simp)
 refine ⟨_,(aj (aT (i:=1) cD.nd rfl (Or.inl rfl) (a8 fm B hr (by decide) rfl (af (a8 vA B hr (by decide) rfl (af (rv 0) (af ag ah))) (af (uS (af ag (af ag (af ag ah)))) ah))))
   (aj (aT (i:=2) cD.nd rfl (Or.inl rfl) (a8 qW B hr (by decide) rfl (af (a8 vA B hr (by decide) rfl (af (rv 0) (af ag ah))) (af (ar av (uS (wQ [.int 2,.int 3,.int 4,.int 5,.int 6,.int 7,.int 9,.int 20] rfl [.int 2,.int 3,.int 4,.int 5,.int 6,.int 7,.int 9,.int 20] rfl)) (ar av (rv 1) ag (fun _ _=>rfl)) (fun _ _=>rfl)) ah))))
   (aj (aT (i:=3) cD.nd rfl (Or.inl rfl) (aX d5 (aX d5 ag (ar av (rv 1) ag (fun _ _=>rfl))) (aX cI ag (aX kZ (ar av (rv 1) ag (fun _ _=>rfl)) ag))))
   (aj (aT (i:=4) cD.nd rfl (Or.inr rfl) (uT vQ B hr (by decide) rfl))
   (aj (aT (i:=5) cD.nd rfl (Or.inl rfl) yf)
   (aj (aT (i:=6) cD.nd rfl (Or.inl rfl) (oR ah))
   (aj (aT (i:=7) cD.nd rfl (Or.inl rfl) (cA (af ag (af ag ah))))
   (aj (jv dH rfl (mf rfl Z.range (af (rv 3) ah)) (cM (i:=8) cD.nd rfl (Or.inl rfl)) (aj (aT (i:=9) cD.nd rfl (Or.inl rfl) (a8 fm B hr (by decide) rfl (af (a8 vA B hr (by decide) rfl (af (rv 0) (af (aX d5 ag (rv 8)) ah))) (af (uS (wQ [.int 10,.int 97,.int 2000001,.int 2001,.int 400000,.int 60] rfl [.int 10,.int 97,.int 2000001,.int 2001,.int 400000,.int 60] rfl)) ah))))
   (aj (aT (i:=10) cD.nd rfl (Or.inl rfl) (a8 F_ B hr (by decide) rfl (af (rv 9) (af (ar av (rv 1) ag (fun _ _=>rfl)) (af (rv 2) (af (rv 6) (af (rv 5) (af (rv 7) ah))))))))
   (dN (a7 (aF (cm hr.aS) (ar av (rv 10) ag (fun _ _=>rfl)) bJ (L2.ay _)) (aq (bx (mH PySem.F.plainAttrs_list PySem.F.slot_list_append PySem.F.type_list_append lZ (rv 6) (af (ar av (rv 10) ag (fun _ _=>rfl)) ah)))) aO)
   (aj (Kp (i:=11) (L2.ai oW) ["_law_script","_law_head","_law_names_here","_law_many","_law_lane","_law_legs","_law_used","_law_clock","_law_k","_law_row","_law_deed_here","_law_ranks","_law_told","_law_ahead","_law_j","_law_up","_law_down","_law_rank"] [("_law_lane",4)] rfl rfl rfl cD.nd rfl (Or.inl rfl) (yg (rv 5)) (fun _ _ _ _ _ _=>(bD (pl:=_) fP IQ hr (by decide) (rv 1) (af (rv 0) ah))))
   (aj (aT (i:=12) cD.nd rfl (Or.inl rfl) (a8 F' B hr (by decide) rfl (af (rv 4) (af (rv 10) ah))))
   (aj (a7 (aF (cm hr.aS) (ar av (rv 10) ag (fun _ _=>rfl)) bJ (L2.ay _)) (aj (a7 (dh (fR (c_ (bX (aP iZ rfl Z.isinstance boot_isinstance (af (rv 12) (af (mI rfl Z.list boot_list) ah))))) (eS (c_ (bX (a8 Gb B hr (by decide) rfl (af (rv 12) (af (rv 7) (af (ar av (rv 10) ag (fun _ _=>rfl)) ah))))))))) (aq (aI gT)) aO)
   (aj (aT (i:=13) cD.nd rfl (Or.inr rfl) (jN (nY rfl) rfl Z.list boot_list (af (rv 5) ah)))
   (aq (jv dH rfl (mf rfl Z.range (af (aP bW rfl Z.len boot_len (af (rv 13) ah)) ah)) (cM (i:=14) cD.nd rfl (Or.inr rfl)) (aj (aT (i:=15) cD.nd rfl (Or.inl rfl) (aP bW rfl Z.len boot_len (af (Cm (L2.ai oW) ["_law_script","_law_head","_law_names_here","_law_many","_law_lane","_law_legs","_law_used","_law_clock","_law_k","_law_row","_law_deed_here","_law_ranks","_law_told","_law_ahead","_law_j","_law_up","_law_down","_law_rank"] [("_law_ahead",13),("_law_j",14)] rfl rfl rfl (fQ (rv 12)) (fun _ _ _ _ _ _=>(rv 0)) (fun _ _ _ _ _ _=>(aF (cm hr.aS) (ar av (rv 0) ag (fun _ _=>rfl)) (ar av (rv 1) (rv 2) (fun _ _=>rfl)) (L2.ay _)))) ah)))
   (aj (aT (i:=16) cD.nd rfl (Or.inl rfl) (aP bW rfl Z.len boot_len (af (Cm (L2.ai oW) ["_law_script","_law_head","_law_names_here","_law_many","_law_lane","_law_legs","_law_used","_law_clock","_law_k","_law_row","_law_deed_here","_law_ranks","_law_told","_law_ahead","_law_j","_law_up","_law_down","_law_rank"] [("_law_ahead",13),("_law_j",14)] rfl rfl rfl (fQ (rv 12)) (fun _ _ _ _ _ _=>(rv 0)) (fun _ _ _ _ _ _=>(aF (cm hr.aS) (ar av (rv 0) ag (fun _ _=>rfl)) (ar av (rv 1) (rv 2) (fun _ _=>rfl)) (L2.ay _)))) ah)))
   (aj (aT (i:=17) cD.nd rfl (Or.inl rfl) (bD (pl:=_) fP B hr (by decide) (rv 4) (af (ar av (rv 13) (rv 14) (fun _ _=>rfl)) ah)))
   (aq (a7 (dh (fR (c_ (bX (a8 mV B hr (by decide) rfl (af (rv 17) ah)))) (eS (aF (mE hr.aS) (rv 17) (aX eR (aX d5 (ar av (rv 11) (rv 14) (fun _ _=>rfl)) (rv 15)) (rv 16)) (L2.ay _))))) (aq (aI gT)) aO))))))))) aO)
   (aq (aT (i:=7) cD.nd rfl (Or.inl rfl) (a8 Dd B hr (by decide) rfl (af (rv 5) (af (rv 7) (af (rv 10) ah)))))))))))))
   (aq (aI gT)))))))))),?_⟩
 simp_all! only []
 refine ⟨ns,0,rfl,by decide,by decide,_,[16,8,4],rfl,o4 (by decide),by decide,fun ds hD=>?_⟩
 obtain ⟨d0,ds,rfl,d00,d01,hD⟩:=hD.cons
 obtain ⟨d1,ds,rfl,d10,d11,hD⟩:=hD.cons
 obtain ⟨d2,ds,rfl,d20,d21,hD⟩:=hD.cons
 cases hD.nil
 obtain ⟨m0,hm0,m00,m01⟩:=JB d10 d11
 have q6:0≤d1.fdiv 7∧d1.fdiv 7≤1:=by rw [Int.fdiv_eq_ediv_of_nonneg _ (by decide)];omega
 simp_all! only [hm0]
 refine ⟨ns,1,rfl,by decide,by decide,_,m0,rfl,by omega,by omega,fun names nl nd ng=>?_⟩
 simp_all! only []
 generalize d1.fdiv 7=k6 at q6 ⊢
 refine ⟨⟨by decide,(Bd.small (x:=7) (by decide) (by decide)).mono (by decide)⟩,.of (.small (x:=30) (by decide) (by decide)) (.small (x:=k6) (by omega) (by omega)),?_⟩
 obtain ⟨many,hmany,mn0,mn1⟩:∃ many:Nat,4 + d0 + 30 * k6=(many:Int)∧0≤many∧many≤49:=⟨(4 + d0 + 30 * k6).toNat,by omega,by omega,by omega⟩
 rw [hmany]
 simp_all! only []
 intro p hp
 refine ⟨p,rfl,au,fun J1 d e o b mv=>?_⟩
 have mvJ:Mv J J1 (fun _=>False) (Ln.own ⟨0,d,e,o,[],[]⟩ p):=by
  refine (Mv.zB (S:=fun _=>False) hp).trans ⟨fun a u h n=>mv.keep a u h fun z=>n (.inr z),fun a z=>(mv.own a z).imp .inr id,mv.mono⟩
 have ok0:b_ ⟨0,d,e,o,[],[]⟩:=⟨⟨List.nodup_nil,(by simp),(by simp),(by simp),(by simp),(by simp),Rat.le_refl,Nx _,(by show 0≤100;decide),(by intro n;simp [Ln.fs,Ln.Ai]),List.nodup_nil,(by show 0≤12;decide)⟩,rfl⟩
 have hT1:J1 T=some .tab:=mvJ.keep _ _ hT fun z=>z
 have nT:=b.L8 hT1
 simp_all! only []
 intro D hD ep
 simp_all! only []
 intro U hU
 have w0:=Wk.start b ok0 rfl rfl hD hU
 generalize put (put J1 D (.dct [] ep)) U (.lst [])=J2 at w0 ⊢
 generalize hL0:(⟨0,d,e,o,[],[]⟩:Ln)=L0 at b w0 nT
 have ht0:L0.t=0:=by rw [← hL0]
 have hc0:L0.cs=[]:=by rw [← hL0]
 clear mvJ mv ok0
 simp_all! only []
 refine ⟨by omega,by omega,?_⟩
 obtain ⟨Inv,hInv⟩:∃ Inv:Nat→Sr→Hq→Prop,∀ i τ J',Inv i τ J'↔∃ (L:Ln) (gs:List (Str × aU)) (ep:Nat) (used:List Str) (u8 u9 u10 u11 u12 u13 u14 u15 u16 u17:Option PV),τ=[some (.fl (ns.map .int)),some (.fl [.int d0,.int d1,.int d2]),some (.fl (names.map .str)),some (.int (many:Int)),some (.ref p),some (.ref D),some (.ref U),some (fr L.t),u8,u9,u10,u11,u12,u13,u14,u15,u16,u17]∧Wk cN cL J1 (L0.own p) J' p L D U gs ep used i∧L.cs.map Cf.n=used∧(∀ n∈used,n∈names)∧used.length≤i:=⟨_,fun _ _ _=>Iff.rfl⟩
 refine rF Inv ((hInv _ _ _).mpr ⟨L0,[],ep,[],_,_,_,_,_,_,_,_,_,_,by rw [ht0];rfl,w0,by rw [hc0];rfl,(by simp),Nat.le_refl _⟩) ?_ ?_
 ·clear w0 ht0 hc0 hL0
  intro i τ J' hi hv
  obtain ⟨L,gs,ep,used,u8,u9,u10,u11,u12,u13,u14,u15,u16,u17,rfl,wk,hun,hus,hul⟩:=(hInv _ _ _).mp hv
  clear hv
  obtain ⟨st,gnd,gl,gsz⟩:=wk.up
  simp_all! only []
  refine ⟨ns,2 + (0 + (i:Int)),rfl,by omega,by omega,_,[10,97,2000001,2001,400000,60],rfl,o4 (by decide),by decide,fun ds hG=>?_⟩
  obtain ⟨r0,ds,rfl,_,_,hG⟩:=hG.cons
  obtain ⟨r1,ds,rfl,r10,_,hG⟩:=hG.cons
  obtain ⟨r2,ds,rfl,r20,_,hG⟩:=hG.cons
  obtain ⟨r3,ds,rfl,r30,r31,hG⟩:=hG.cons
  obtain ⟨r4,ds,rfl,r40,r41,hG⟩:=hG.cons
  obtain ⟨r5,ds,rfl,r50,_,hG⟩:=hG.cons
  cases hG.nil
  simp_all! only []
  refine ⟨r0,r1,r2,r3,r4,r5,d2,names,used,U,D,gs,ep,L.t,rfl,wk.hU,wk.hD,by omega,by omega,r10,r20,r30,r31,r40,by omega,r50,d20,d21,st,fun dv hdv=>?_⟩
  have hkv:(b9 gs).map (fun kv=>PV.str kv.1)=(gs.map (·.1)).map PV.str:=by unfold b9;rw [List.map_map,List.map_map];rfl
  have hfsN:∀ n∈gs.map (·.1),(n,L.jV n)∈L.fs:=fun n hn=>by
   rw [wk.rl.nm] at hn
   obtain ⟨⟨n',l⟩,hx,rfl⟩:=List.mem_map.mp hn
   obtain ⟨c,hc,e⟩:=List.mem_map.mp hx
   cases e
   rw [wk.ok.jV (Ln.cX.mp hc).1];exact hx
  obtain ⟨g,hg⟩:∃ g:PV→PV,∀ n,g (.str n)=.int (Cn L.t L.fs (n,L.jV n):Nat):=⟨fun y=>match y with | .str n=>.int (Cn L.t L.fs (n,L.jV n):Nat) | _=>.non,fun _=>rfl⟩
  have hrow:∀ n,n∈gs.map (·.1)→n∈L.row:=fun n hn=>(wk.ok.rm n).mpr (by rw [← wk.rl.nm];exact hn)
  have hR:∀ J2 used2,Wk cN cL J1 (L0.own p) J2 p L D U gs ep used2 i→∀ D':En,D'.nx ([some (.fl (ns.map .int)),some (.fl [.int d0,.int d1,.int d2]),some (.fl (names.map .str)),some (.int (many:Int)),some (.ref p),some (.ref D),some (.ref U),some (fr L.t),some (.int (0 + (i:Int))),some (.fl [.int r0,.int r1,.int r2,.int r3,.int r4,.int r5]),some dv,some (.fl ((gs.map (·.1)).map fun n=>g (.str n))),u12,u13,u14,u15,u16,u17]) J2→oQ (pY (Lu (iu 5)) [("_law_lane",4)] uP (Ce cN "rank" (tH cN cL eC) (fun _ _=>False) (iu 1) (k8 (iu 0) sL))) (C9 11) D' [some (.fl (ns.map .int)),some (.fl [.int d0,.int d1,.int d2]),some (.fl (names.map .str)),some (.int (many:Int)),some (.ref p),some (.ref D),some (.ref U),some (fr L.t),some (.int (0 + (i:Int))),some (.fl [.int r0,.int r1,.int r2,.int r3,.int r4,.int r5]),some dv,u11,u12,u13,u14,u15,u16,u17] J2:=by
   intro J2 us w D' q'
   have hDw:=w.hD
   simp_all! only [pY,hDw,hkv]
   refine ⟨fun _=>true,g,⟨by rw [List.length_map,List.length_map];exact a_ (by omega),fun J' sub=>⟨sub _ _ hDw,fun y hy=>⟨⟨rfl,rfl⟩,fun _=>?_⟩⟩⟩,?_⟩
   ·obtain ⟨n,hn,rfl⟩:=List.mem_map.mp hy
    have b':a9 cN cL J' p L:=w.b.keep fun a o _ e=>sub a o e
    simp_all! only [km,b'.ob]
    refine ⟨gw _ _ _ _,p,L,n,rfl,b',fun j hj _=>⟨show PV.int j=g (.str n) from ?_,rfl⟩,fun z=>absurd (hrow n hn) z⟩
    have hj2:(cn L.t L.fs)[j]?=some (n,L.jV n).1:=by rw [← wk.ok.row];exact hj
    have hj3:=ye wk.ok.C8 (hfsN n hn) hj2
    rw [hg n,hj3]
   ·have e:(((gs.map (·.1)).map PV.str).filter fun _=>true).map g=(gs.map (·.1)).map fun n=>g (.str n):=by rw [List.filter_eq_self.mpr (fun _ _=>rfl),List.map_map];rfl
    rw [e];exact q'
  by_cases hgo:∃ m,dv=y_ m
  ·obtain ⟨m',rfl⟩:=hgo
   have hm':Later L.t m':=by
    rcases hdv with ⟨n,x,v,e,_⟩ | ⟨n,v,e,_⟩ | e | ⟨n,e,_⟩ | ⟨m2,e,h⟩
    ·cases e
    ·cases e
    ·cases e
    ·cases e
    ·unfold y_ at e
     rw [PV.tup.injEq,List.cons.injEq,List.cons.injEq,AX] at e
     rw [e.2.1];exact h
   have i0:∀ J,eO J (y_ m') (.int 0)=some (.str "go"):=fun J=>de _ _
   have i1:∀ J,eO J (y_ m') (.int 1)=some (fr m'):=fun J=>eV _ _ _
   refine cR rfl (i0 _) (by decide +kernel) ?_
   refine mj (hR _ _ wk _ ?_)
   clear hR
   have tl3:=yE (Bj hm' wk.ok.t0) wk.tl
   have td3:=zi hm' wk.td
   have hgm:gP m'.num m'.den=true:=A6 (Rat.le_trans wk.ok.t0 (hm'.le)) td3 (GY.mpr (wu (by omega) tl3))
   simp_all! only []
   refine ⟨p,L,_,rfl,wk.b,wk.ok,.inr (.inr (.inr (.inr ⟨m',rfl,hgm,hm'.le,fun J3 o3 b3 ok3 mv3=>?_⟩)))⟩
   refine EU rfl (i0 _) ?_
   have hD3:=mv3.keep _ _ wk.hD wk.nD
   have w3:=wk.next b3 ok3 mv3 (wk.rl.go hm'.le) td3 tl3 (fun c hc=>by have:=wk.wl c hc;omega) ep
   rw [wO hD3] at w3
   have hap:=wA (t:=L.t) (m:=m') wk.ok.C8
   have hin:∀ b∈cF L.t (L.fs.map (key L.t)) m',L.t < b.m∧b.m≤m'∧Sz 9000 b.m:=fun b hb=>Ea wk.ok hb
   have hpl:=zM L.t m' _ wk.ok.knd (by rw [List.length_map];exact wk.ok.IV)
   have hrk:∀ n∈gs.map (·.1),∀ j:Nat,(cn m' L.fs)[j]?=some n→(j:Int)=(Cn L.t L.fs (n,L.jV n):Nat) + ((cF L.t (L.fs.map (key L.t)) m').filter fun b=>decide (b.h=n)).length - ((cF L.t (L.fs.map (key L.t)) m').filter fun b=>decide (b.f=n)).length:=fun n hn j hj=>by
    have h1:=ye wk.ok.C8 (hfsN n hn) hj
    have h2:=uQ (m:=m') hm'.le wk.ok.C8 (hfsN n hn)
    simp only at h2
    omega
   have hno:∀ n∈gs.map (·.1),n∈cn m' L.fs:=fun n hn=>(ok3.rm n).mpr (by show n∈L.fs.map (·.1);rw [← wk.rl.nm];exact hn)
   have b3r:=b3.rw
   generalize hbs:cF L.t (L.fs.map (key L.t)) m'=bs at hap hin hpl hrk ⊢
   have st2:Sz 240 L.t:=(xU wk.ok.ts).mono (by decide)
   simp_all! only [i1]
   refine ⟨bs,L.t,m',rfl,hpl,hap,hm'.le,st2.mono (by decide),ok3.F7.mono (by decide),hin,?_⟩
   simp_all! only [hD3,hkv]
   have hgl:(gs.map (·.1)).length≤12:=by rw [List.length_map];exact gl
   rw [List.length_map]
   refine ⟨by omega,by omega,?_⟩
   have h1:L.cs.map Cf.n=used:=hun
   generalize gs.map (·.1)=gn at hkv hfsN hrow hrk hno hgl ⊢
   clear hD3
   generalize hL3:({ L with t:=m',o:=o3,row:=cn m' L.fs }:Ln)=L3 at w3 b3 ok3
   have hr3:L3.row=cn m' L.fs:=by rw [← hL3]
   have ht3:L3.t=m':=by rw [← hL3]
   have hc3:L3.cs.map Cf.n=used:=by rw [← hL3];exact hun
   obtain ⟨In2,hIn2⟩:∃ In2:Nat→Sr→Hq→Prop,∀ j τ Jb,In2 j τ Jb↔∃ u14 u15 u16 u17:Option PV,τ=[some (.fl (ns.map .int)),some (.fl [.int d0,.int d1,.int d2]),some (.fl (names.map .str)),some (.int (many:Int)),some (.ref p),some (.ref D),some (.ref U),some (fr L.t),some (.int (0 + (i:Int))),some (.fl [.int r0,.int r1,.int r2,.int r3,.int r4,.int r5]),some (y_ m'),some (.fl (gn.map fun n=>g (.str n))),some (.fl (bs.map aB.v)),some (.fl (gn.map .str)),u14,u15,u16,u17]∧Jb=J3:=⟨_,fun _ _ _=>Iff.rfl⟩
   refine rF In2 ((hIn2 _ _ _).mpr ⟨_,_,_,_,rfl,rfl⟩) ?_ ?_
   ·intro j τ Jb hj hv
    obtain ⟨v14,v15,v16,v17,rfl,rfl⟩:=(hIn2 _ _ _).mp hv
    clear hv
    have hj:j < gn.length:=by omega
    have hn:=List.getElem_mem hj
    have hxj:gn[j]?=some gn[j]:=List.getElem?_eq_getElem hj
    have ha:cU (gn.map PV.str) (0 + (j:Int))=some (.str gn[j]):=by rw [Int.zero_add];exact ba (by rw [List.getElem?_map,hxj];rfl)
    have hb:cU (gn.map fun n=>g (.str n)) (0 + (j:Int))=some (.int (Cn L.t L.fs (gn[j],L.jV gn[j]):Nat)):=by rw [Int.zero_add];exact ba (by rw [List.getElem?_map,hxj];exact congrArg some (hg _))
    have hrk:=hrk _ hn
    have hno:=hno _ hn
    generalize gn[j]=n at *
    have cnt:∀ k:aB→Str,((bs.map aB.v).filter fun y=>match y with | .tup [_,.str a,.str b]=>decide (k ⟨0,a,b⟩=n) | _=>false)=(bs.filter fun b=>decide (k ⟨0,b.h,b.f⟩=n)).map aB.v:=fun k=>by rw [List.filter_map];rfl
    simp_all! only [pY]
    refine ⟨fun y=>match y with | .tup [_,.str a,.str b]=>decide (a=n) | _=>false,id,⟨by rw [List.length_map];exact a_ (by omega),fun J' sub=>⟨trivial,fun y hy=>?_⟩⟩,?_⟩
    ·obtain ⟨b,hb,rfl⟩:=List.mem_map.mp hy
     simp_all! only [km,qB,ha]
     exact ⟨rfl,fun _=>trivial⟩
    rw [cnt (fun b=>b.h),List.map_id,List.length_map]
    simp_all! only [pY]
    refine ⟨fun y=>match y with | .tup [_,.str a,.str b]=>decide (b=n) | _=>false,id,⟨by rw [List.length_map];exact a_ (by omega),fun J' sub=>⟨trivial,fun y hy=>?_⟩⟩,?_⟩
    ·obtain ⟨b,hb,rfl⟩:=List.mem_map.mp hy
     simp_all! only [km,qC,ha]
     exact ⟨rfl,fun _=>trivial⟩
    rw [cnt (fun b=>b.f),List.map_id,List.length_map]
    simp_all! only [ha,b3.ob]
    refine ⟨gw _ _ _ _,p,L3,n,rfl,b3,fun r hr _=>?_,fun z=>absurd (by rw [hr3];exact hno) z⟩
    simp_all! only [jx,hb]
    rw [if_pos (hrk r (by rw [← hr3];exact hr))]
    exact (hIn2 _ _ _).mpr ⟨_,_,_,_,rfl,rfl⟩
   ·intro τ Jb hv
    obtain ⟨v14,v15,v16,v17,rfl,rfl⟩:=(hIn2 _ _ _).mp hv
    simp_all! only []
    refine ⟨D,gs,ep,L.t,_,rfl,w3.hD,gnd,by omega,st,gsz,.inr (.inr (.inr (.inr ⟨m',rfl,?_⟩)))⟩
    exact (hInv _ _ _).mpr ⟨L3,gs,ep,used,_,_,_,_,_,_,_,_,_,_,by rw [ht3],w3,hc3,hus,by omega⟩
  refine vq (iL:=4) (iU:=6) (iD:=5) (iC:=7) (iV:=10) (iR:=11) (iT:=12) rfl rfl rfl rfl rfl rfl rfl hR wk hun hus hul (by omega) ng hT1 nT hdv (fun m e=>hgo ⟨m,e⟩) fun J3 L3 gs3 ep3 used3 t3 e3 wk3 h1 h2 h3=>?_
  subst e3
  exact (hInv _ _ _).mpr ⟨L3,gs3,ep3,used3,_,_,_,_,_,_,_,_,_,_,rfl,wk3,h1,h2,h3⟩
 ·intro τ J' hv
  obtain ⟨L,gs,ep,used,u8,u9,u10,u11,u12,u13,u14,u15,u16,u17,rfl,wk,hun,hus,hul⟩:=(hInv _ _ _).mp hv
  simp_all! only []
  exact q J' (by simpa using wk.kept hT1 nT)
end
theorem Gq {P:Program} {w:World} {K:PySem.W.Frag} {mg:Str→Option Value} (Z:cj mg) (N:nQ K mg) {iE:Tok} (fz:mg "FARTHEST"=some (.int 1000000 iE)) {fk:Tok} (dz:mg "FASTEST"=some (.int 1000 fk)) {lE:Tok} (i8:mg "FINEST"=some (.int 60 lE)) {lF:Tok} (i9:mg "LATEST"=some (.int 1000000 lF)) {jU:Tok} (gM:mg "LONGEST"=some (.int 8 jU)) {tL:Tok} (og:mg "MOST"=some (.int 12 tL)) {nI:Tok} (kR:mg "SIGNS"=some (.str "abcdefghijklmnopqrstuvwxyz0123456789" nI)) {mz:Addr} (eg:Own K mg "BadMoment" mz) {qp:Addr} (gF:Own K mg "BadName" qp) {AN:Addr} (nR:Own K mg "Full" AN) {qr:Addr} (gG:Own K mg "NoCraft" qr) {n6:Addr} (ft:Own K mg "NotThere" n6) {AO:Addr} (nS:Own K mg "Past" AO) {xC:Addr} (kG:Own K mg "Taken" xC) {t8:Addr} (eh:Own K mg "TooFar" t8) {iY:Addr} (bz:dD K mg "Log" iY) {cV:Addr} (ax:dD K mg "Lane" cV) {hW:Addr} (bj:dD K mg "Bells" hW) (aV:aE K iY "rows") (bE:aE K iY "gone") (az:aE K cV "now") (aK:aE K cV "logs") (aD:aE K cV "row") (aM:aE K hW "rows") (vD:Def K mg "_law_cell" sR) (nL:Def K mg "_law_digits" la) (nN:Def K mg "shared" lj) (jZ:Def K mg "fraction" iy) (Al:Def K mg "_law_low" yh) (vG:Def K mg "less" sT) (vI:Def K mg "plus" sV) (q9:Def K mg "minus" nA) (rb:Def K mg "times" nC) {fM:Addr} (fL:vK K mg "good_name" fZ fM) (q_:Def K mg "_law_names" jQ) (j1:Def K mg "place_on" iA) (lL:Def K mg "last_by" jO) (f_:Def K mg "lies_behind" d_) (j0:Def K mg "in_order" iz) (f':Def K mg "rings_ahead" ed) (lM:Def K mg "meeting" jP) (dC:Def K mg "in_lowest_terms" cO) (f9:Def K mg "good_moment" d9) (rd:Def K mg "_law_whole" nE) (vH:Def K mg "_law_part" sU) (lN:Def K mg "_law_passrow" jR) (vJ:Def K mg "_law_tidy" sW) (nM:Def K mg "_law_placed" lh) (ra:Def K mg "_law_paced" nB) (Gf:Def K mg "_law_at" EJ) (qZ:Def K mg "_law_later" nv) (qY:Def K mg "_law_acted" nu) (vF:Def K mg "_law_done" sS) (vE:Def K mg "_law_deed" oV) (eK:bQ K iY "__init__" "Log.__init__" dR) (iW:bQ K iY "turn" "Log.turn" iw) (g7:bQ K iY "leave" "Log.leave" fW) (g8:bQ K iY "there" "Log.there" fY) (gq:bQ K iY "leg_at" "Log.leg_at" fh) (dX:bQ K cV "__init__" "Lane.__init__" dk) (cH:bQ K cV "must_be_there" "Lane.must_be_there" bZ) (fo:bQ K cV "leg_of" "Lane.leg_of" d8) (fq:bQ K cV "settle" "Lane.settle" di) (gY:bQ K cV "join" "Lane.join" fT) (dF:bQ K hW "__init__" "Bells.__init__" cZ) (gf:bQ K hW "drop" "Bells.drop" dQ) (gX:bQ K hW "put" "Bells.put" fS) (gg:bQ K hW "told" "Bells.told" fb) (gm:bQ K cV "meets" "Lane.meets" fg) (dY:bQ K cV "foretold" "Lane.foretold" dm) (gi:bQ K cV "go_to" "Lane.go_to" fe) (gZ:bQ K cV "rank" "Lane.rank" fU) (g6:bQ K cV "turn" "Lane.turn" fV) (gh:bQ K cV "about" "Lane.about" fc) (gj:bQ K cV "leave" "Lane.leave" ff) {f:Addr} {fd:FuncData} (F:cq K "law" "law" oW f fd) (base:Heap) (Bm:BMain mg base) :
  aQ P w K mg base (dt P w) 10 f fd ["_law_script"] (d7 K (w8 [fM])):=by
 have Gh:=vD.gK (P:=P) (w:=w) (base:=base) (fun _ _ F=>BD F Z) fun _ _ _ _ _ _=>j6 fun _ _=>rfl
 have fm:=nL.AE (P:=P) (w:=w) (base:=base) (fun _ _ F=>zE F Z.toAe) fun _ _ _ _ _ _=>j6 fun _ _=>rfl
 have Ap:=uq fm
 have gE:=nN.AE (P:=P) (w:=w) (base:=base) (fun _ _ F=>zF F Z.toAe) fun _ _ _ _ _ _=>j6 fun _ _=>rfl
 have Ar:=ur gE
 have bK:=jZ.AE (P:=P) (w:=w) (base:=base) (fun _ _ F=>uB F Z.toAe gE) fun _ _ _ _ _ _=>j6 fun _ _=>rfl
 have vN:=pO bK
 have tR:=Al.AE (P:=P) (w:=w) (base:=base) (fun _ _ F=>Hb F Z.toAe) fun _ _ _ _ _ _=>j6 fun _ _=>rfl
 have Fe:=Bq tR
 have dn:=vG.AE (P:=P) (w:=w) (base:=base) (fun _ _ F=>D1 F Z.toAe) fun _ _ _ _ _ _=>j6 fun _ _=>rfl
 have lO:=zp dn
 have vC:=vI.AE (P:=P) (w:=w) (base:=base) (fun _ _ F=>D3 F Z.toAe bK) fun _ _ _ _ _ _=>j6 fun _ _=>rfl
 have kE:=q9.AE (P:=P) (w:=w) (base:=base) (fun _ _ F=>BA F Z.toAe bK) fun _ _ _ _ _ _=>j6 fun _ _=>rfl
 have qX:=rb.AE (P:=P) (w:=w) (base:=base) (fun _ _ F=>BC F Z.toAe bK) fun _ _ _ _ _ _=>j6 fun _ _=>rfl
 have Gm:=zq vC
 have xk:=wa kE
 have Dm:=wc qX
 have iS:=fL.AE (P:=P) (w:=w) (base:=base) (fun _ _ _ F=>sh F Z.toAe Bm gM kR) fun _ _ _ _ _ _=>C6 fun _=>rfl
 have tT:=oz iS
 have qW:=q_.AE (P:=P) (w:=w) (base:=base) (fun _ _ F=>BB F Z.toAe fm) fun _ _ _ _ _ _=>j6 fun _ _=>rfl
 have Dk:=wb qW
 have j2:=j1.gK (P:=P) (w:=w) (base:=base) (fun _ _ F=>sj F Z Gm xk Dm) fun _ _ _ _ _ _=>j6 fun _ _=>rfl
 have yR:=lL.gK (P:=P) (w:=w) (base:=base) (fun _ _ F=>uC F Z lO) fun _ _ _ _ _ _=>j6 fun _ _=>rfl
 have pG:=f_.gK (P:=P) (w:=w) (base:=base) (fun _ _ F=>mS F Z j2 lO) fun _ _ _ _ _ _=>MO fun _ _ _ _ _=>rfl
 have vO:=j0.gK (P:=P) (w:=w) (base:=base) (fun _ _ F=>si F Z pG) fun _ _ _ _ _ _=>j6 fun _ _=>rfl
 have As:=eK.LZ (P:=P) (w:=w) (base:=base) bz (fun _ _ F=>uz F bz aV bE) fun _ _ _ _ _ _=>ID fun _ _ _ _=>rfl
 have d4:=iW.tQ (P:=P) (w:=w) (base:=base) (mg:=mg) bz.cl (fun _ _ F=>uA F Z bz aV j2) fun _ _ _ _ _ _=>Gr fun _ _ _=>rfl
 have jf:=g7.tQ (P:=P) (w:=w) (base:=base) (mg:=mg) bz.cl (fun _ _ F=>se F Z bz bE) fun _ _ _ _ _ _=>j6 fun _ _=>rfl
 have jg:=g8.tQ (P:=P) (w:=w) (base:=base) (mg:=mg) bz.cl (fun _ _ F=>sf F Z bz aV bE lO) fun _ _ _ _ _ _=>j6 fun _ _=>rfl
 have il:=gq.tQ (P:=P) (w:=w) (base:=base) (mg:=mg) bz.cl (fun _ _ F=>pW F Z bz aV ft jg yR) fun _ _ _ _ _ _=>j6 fun _ _=>rfl
 have vQ:=dX.LZ (P:=P) (w:=w) (base:=base) ax (fun _ _ F=>rZ F (cL:=iY) N ax az aK aD) fun _ _ _ _ _ _=>C6 fun _=>rfl
 have aH:=cH.tQ (P:=P) (w:=w) (base:=base) (mg:=mg) ax.cl (fun _ _ F=>iO F Z (cL:=iY) ax aD gG) fun _ _ _ _ _ _=>j6 fun _ _=>rfl
 have bA:=fo.tQ (P:=P) (w:=w) (base:=base) (mg:=mg) ax.cl (fun _ _ F=>oF F Z ax aK az aH il) fun _ _ _ _ _ _=>j6 fun _ _=>rfl
 have bc:=fq.tQ (P:=P) (w:=w) (base:=base) (mg:=mg) ax.cl (fun _ _ F=>oG F Z ax aD az bA vO) fun _ _ _ _ _ _=>C6 fun _=>rfl
 have jc:=gY.tQ (P:=P) (w:=w) (base:=base) (mg:=mg) ax.cl (fun _ _ F=>r8 F Z ax aD az aK fz dz og gF eh kG nR tT As bc) fun _ _ _ _ _ _=>ID fun _ _ _ _=>rfl
 have pH:=f'.gK (P:=P) (w:=w) (base:=base) (fun _ _ F=>mT F Z lO) fun _ _ _ _ _ _=>j6 fun _ _=>rfl
 have rg:=dF.LZ (P:=P) (w:=w) (base:=base) bj (fun _ _ F=>pQ F bj aM) fun _ _ _ _ _ _=>C6 fun _=>rfl
 have ia:=gf.tQ (P:=P) (w:=w) (base:=base) (mg:=mg) bj.cl (fun _ _ F=>pP F Z bj aM) fun _ _ _ _ _ _=>Gr fun _ _ _=>rfl
 have jb:=gX.tQ (P:=P) (w:=w) (base:=base) (mg:=mg) bj.cl (fun _ _ F=>rY F Z bj aM ia pH) fun _ _ _ _ _ _=>ID fun _ _ _ _=>rfl
 have ib:=gg.tQ (P:=P) (w:=w) (base:=base) (mg:=mg) bj.cl (fun _ _ F=>pR F Z bj aM) fun _ _ _ _ _ _=>C6 fun _=>rfl
 have yS:=lM.gK (P:=P) (w:=w) (base:=base) (fun _ _ F=>uD F Z N j2 xk vN) fun _ _ _ _ _ _=>j6 fun _ _=>rfl
 have ik:=gm.tQ (P:=P) (w:=w) (base:=base) (mg:=mg) ax.cl (fun _ _ F=>pV F Z ax az bA yS lO) fun _ _ _ _ _ _=>Gr fun _ _ _=>rfl
 have kF:=dC.gK (P:=P) (w:=w) (base:=base) (fun _ _ F=>jW F Z Ar) fun _ _ _ _ _ _=>C6 fun _=>rfl
 have pF:=f9.gK (P:=P) (w:=w) (base:=base) (fun _ _ F=>mR F Z i8 i9 kF) fun _ _ _ _ _ _=>C6 fun _=>rfl
 have eQ:=dY.tQ (P:=P) (w:=w) (base:=base) (mg:=mg) ax.cl (fun _ _ F=>l3 F Z ax az aD eg nS pF lO rg ik jb ib) fun _ _ _ _ _ _=>j6 fun _ _=>rfl
 have ig:=gi.tQ (P:=P) (w:=w) (base:=base) (mg:=mg) ax.cl (fun _ _ F=>pT F Z ax az eQ bc) fun _ _ _ _ _ _=>j6 fun _ _=>rfl
 have fP:=gZ.tQ (P:=P) (w:=w) (base:=base) (mg:=mg) ax.cl (fun _ _ F=>r_ F Z ax aD aH) fun _ _ _ _ _ _=>j6 fun _ _=>rfl
 have je:=g6.tQ (P:=P) (w:=w) (base:=base) (mg:=mg) ax.cl (fun _ _ F=>sd F Z ax aK az dz eh aH d4 bc) fun _ _ _ _ _ _=>Gr fun _ _ _=>rfl
 have ie:=gh.tQ (P:=P) (w:=w) (base:=base) (mg:=mg) ax.cl (fun _ _ F=>pS F Z ax aD aK az bA d4 bc) fun _ _ _ _ _ _=>C6 fun _=>rfl
 have ij:=gj.tQ (P:=P) (w:=w) (base:=base) (mg:=mg) ax.cl (fun _ _ F=>pU F Z ax aK az aD aH jf) fun _ _ _ _ _ _=>j6 fun _ _=>rfl
 have xm:=rd.gK (P:=P) (w:=w) (base:=base) (fun _ _ F=>zJ F Z) fun _ _ _ _ _ _=>C6 fun _=>rfl
 have Gk:=vH.gK (P:=P) (w:=w) (base:=base) (fun _ _ F=>BG F Z xm) fun _ _ _ _ _ _=>j6 fun _ _=>rfl
 have yT:=lN.gK (P:=P) (w:=w) (base:=base) (fun _ _ F=>uE F Z Gk) fun _ _ _ _ _ _=>j6 fun _ _=>rfl
 have Gn:=vJ.gK (P:=P) (w:=w) (base:=base) (fun _ _ F=>BH F Z yT) fun _ _ _ _ _ _=>Gr fun _ _ _=>rfl
 have Aq:=nM.gK (P:=P) (w:=w) (base:=base) (fun _ _ F=>wy F Z) fun _ _ _ _ _ _=>j6 fun _ _=>rfl
 have Dl:=ra.gK (P:=P) (w:=w) (base:=base) (fun _ _ F=>zI F Z) fun _ _ _ _ _ _=>j6 fun _ _=>rfl
 have Lf:=Gf.gK (P:=P) (w:=w) (base:=base) (fun _ _ F=>Hc F Z Fe) fun _ _ _ _ _ _=>j6 fun _ _=>rfl
 have Dj:=qZ.gK (P:=P) (w:=w) (base:=base) (fun _ _ F=>zH F Z Fe) fun _ _ _ _ _ _=>ID fun _ _ _ _=>rfl
 have Di:=qY.gK (P:=P) (w:=w) (base:=base) (fun _ _ F=>zG F Z Lf) fun _ _ _ _ _ _=>Gr fun _ _ _=>rfl
 have Gj:=vF.gK (P:=P) (w:=w) (base:=base) (fun _ _ F=>BF F Z jc ij je ie ig) fun _ _ _ _ _ _=>j6 fun _ _=>rfl
 have Gi:=vE.gK (P:=P) (w:=w) (base:=base) (fun _ _ F=>BE F Z Aq Dl Dj) fun _ _ _ _ _ _=>Nh fun _ _ _ _ _ _=>rfl
 exact D4 F Z Gh Ap Dk Gi Gj Di vQ Gn xm fP
end Ov
namespace PySem.W.Fast
def tw3576910958841969103:=Nat
def tw15692249273316088998:=Nat
def tw1518657093326930564:=Nat
def tw11455256485103093413:=Nat
def tw15016509603091236471:=Nat
def tw1003928152824637519:=Nat
def tw9573039198107491627:=Nat
def tw18054672334841139555:=Nat
def tw15257625026870135912:=Nat
def tw2070608747265972786:=Nat
def tw17132017085166432560:=Nat
def tw12748253552135613365:=Nat
def tw790471252198788850:=Nat
def tw18413899085956043860:=Nat
def tw12271197773295802377:=Nat
def tw2243332551530275367:=Nat
def tw2208024912780883164:=Nat
def tw4931411102105457120:=Nat
def tw8853494471507715796:=Nat
def tw10675754204942258005:=Nat
def tw16823666920697432157:=Nat
def tw2699940844144449296:=Nat
def tw9661831057921765687:=Nat
def tw17843783671746755963:=Nat
def tw11710738148846778239:=Nat
def tw15194926532179709765:=Nat
def tw8336305507555569430:=Nat
def tw3199170303596462813:=Nat
def tw1354569203242760758:=Nat
def tw3839552205839313106:=Nat
def tw16765146556080294199:=Nat
def tw13326358688318589103:=Nat
def tw17066211292069235714:=Nat
def tw16210674922747190340:=Nat
def tw340093625294456265:=Nat
def tw2181766155437321055:=Nat
def tw10711341492458364230:=Nat
def tw7252404012295283023:=Nat
def tw5816089977923220465:=Nat
def tw10910192754229090469:=Nat
def tw4549440610828591261:=Nat
def tw13257006954350651211:=Nat
def tw8375563291191934532:=Nat
def tw4198408563796107079:=Nat
def tw2788665970739895689:=Nat
def tw8197039234062906456:=Nat
def tw11578074132676446854:=Nat
def tw12062768460372487469:=Nat
def tw14382229942770409837:=Nat
def tw10255039931660285190:=Nat
def tw3531368896473016359:=Nat
def tw15966054585921561981:=Nat
def tw3624834952092719163:=Nat
def tw2511002697602769711:=Nat
def tw2737403551070486028:=Nat
def tw13430015887814062893:=Nat
def tw13288727758775539063:=Nat
def tw11181424397781883544:=Nat
def tw6344781783111761905:=Nat
def tw13225457138815041353:=Nat
def tw2516186714594094165:=Nat
def tw8095198497530910037:=Nat
def tw11140215251868808461:=Nat
def tw15581560943790742719:=Nat
def tw8975191533041274328:=Nat
def tw2290946321063974205:=Nat
def tw6166062095232875882:=Nat
def tw1438782001159668633:=Nat
def tw18217170229455484967:=Nat
def tw9035380448035332372:=Nat
def tw17704534399887310891:=Nat
def tw675900141260106279:=Nat
def tw18000933877258603611:=Nat
def tw2984039873719281975:=Nat
def tw13521920945356318366:=Nat
def tw11335148561831737206:=Nat
def tw14087595415943845270:=Nat
def tw11186991242815385010:=Nat
def tw16959587411800616934:=Nat
def tw16977592013821881281:=Nat
def tw8512906005926502995:=Nat
def tw8850639031526360590:=Nat
def tw3445166339388860876:=Nat
def tw6880430711092929865:=Nat
def tw12010225546717296848:=Nat
def tw3747381508983872299:=Nat
def tw10302084598077304498:=Nat
def tw8060706553587036685:=Nat
def tw7285292471293594499:=Nat
def tw17318615642114764825:=Nat
def tw3720085502586566862:=Nat
def tw9710134257510053392:=Nat
def tw9751069414835504433:=Nat
def tw935375334238103634:=Nat
def tw5752462683207503157:=Nat
def tw12621121088073487808:=Nat
def tw197412401136884354:=Nat
def tw17954403898585239244:=Nat
def tw8648854461945213435:=Nat
def tw738468490826216402:=Nat
def tw9301614741722922770:=Nat
def tw2022518965414991153:=Nat
def tw13092738303272636009:=Nat
def tw2132109728287072307:=Nat
def tw8022789311924237520:=Nat
def tw14689874561281389976:=Nat
def tw15475080102222175280:=Nat
def tw205168466816628780:=Nat
def tw336202005519688343:=Nat
def tw13888576999507354351:=Nat
def tw9653262987088689803:=Nat
def tw7295948157986427694:=Nat
def tw16329672135109904187:=Nat
def tw6605710160621396262:=Nat
def tw16765681023916080918:=Nat
def tw12133564770618837557:=Nat
def tw281336796823801323:=Nat
def tw101022215600373402:=Nat
def tw5575261381153543432:=Nat
def tw13079147937017910087:=Nat
def tw9634666846149438907:=Nat
def tw3518634977998566946:=Nat
def tw6788942941287538286:=Nat
def tw16469868408975454011:=Nat
def tw16235661479316958926:=Nat
def tw14780278793874011853:=Nat
def tw17372157503104144686:=Nat
def tw3738614605151024058:=Nat
def tw10443884278707855994:=Nat
def tw2734829205580743197:=Nat
def tw18384873439828735274:=Nat
def tw17237388550639967006:=Nat
def tw2385736343221661666:=Nat
def tw7950837109109322226:=Nat
def tw3627939706796062506:=Nat
def tw3345380914046883791:=Nat
def tw3019125839685419624:=Nat
def tw7312874150710301282:=Nat
def tw17207444558751368142:=Nat
def tw6279756539736014858:=Nat
def tw14760646289431609476:=Nat
def tw3086099934374701177:=Nat
def tw7566718288376566645:=Nat
def tw2196502486131997825:=Nat
def tw7747712135074218715:=Nat
def tw9217336829278167314:=Nat
def tw6843870562926095174:=Nat
def tw2471678768351858530:=Nat
def tw4790158035531748843:=Nat
def tw17515391105899314788:=Nat
def tw3165940431798379504:=Nat
def tw7933641396015998238:=Nat
def tw3745032260247567596:=Nat
def tw2743275991577343194:=Nat
def tw14100523025909079014:=Nat
def tw14917899652348158712:=Nat
def tw12700993658073426104:=Nat
def tw11214509775545836046:=Nat
def tw9634823902308886913:=Nat
def tw17382969748007923047:=Nat
def tw12369359689811805849:=Nat
def tw16292807564455781352:=Nat
def tw16002709487760187170:=Nat
def tw5235193267731157564:=Nat
def tw16396988394460065144:=Nat
def tw14745705448062961844:=Nat
def tw5360399785161045404:=Nat
def tw14522788132842677018:=Nat
def tw2079563747930405439:=Nat
def tw8638135959902530759:=Nat
def tw237210993786142074:=Nat
def tw12476330217194977632:=Nat
def tw14502043223838112969:=Nat
def tw13916653141798837018:=Nat
def tw2566422457286937405:=Nat
def tw12198701726377937354:=Nat
def tw10546810863588287136:=Nat
def tw4505128197940557075:=Nat
def tw678615526554859120:=Nat
def tw12845785343608120242:=Nat
def tw10365560424437552507:=Nat
def tw10865909523333185794:=Nat
def tw16062229672666486256:=Nat
def tw10592692814058334256:=Nat
def tw11502112857874030106:=Nat
def tw13175860469846036305:=Nat
def tw6293492555595433880:=Nat
def tw7115258282446670961:=Nat
def tw5020493607538608332:=Nat
def tw11598664004815619611:=Nat
def tw11569926243805110898:=Nat
def tw4958492308753827204:=Nat
def tw13177972659479695494:=Nat
def tw12470098746658749638:=Nat
def tw6540846318510979303:=Nat
def tw13303873164408613516:=Nat
def tw15188786532465741434:=Nat
def tw4295321587843714955:=Nat
def tw10191704916350328061:=Nat
def tw4436992401602208043:=Nat
def tw4957968279682930880:=Nat
def tw9834368804001100855:=Nat
def tw4655969379762348763:=Nat
def tw10501918037559633179:=Nat
def tw9039932386888682122:=Nat
def tw14432496477438592878:=Nat
def tw2218705999092500074:=Nat
def tw18333510871337734556:=Nat
def tw11415093610705865846:=Nat
def tw7326506102466221291:=Nat
def tw16228575613786582393:=Nat
def tw9095731582439561315:=Nat
def tw4540246018524697765:=Nat
def tw3835823634951134622:=Nat
def tw14196640808871305237:=Nat
def tw6531087808732453042:=Nat
def tw691149113952384086:=Nat
def tw851684105105730949:=Nat
def tw840281939517646229:=Nat
def tw48066665601011068:=Nat
def tw14922703868254100138:=Nat
def tw17483990532208291604:=Nat
def tw10505372792899009570:=Nat
def tw4289827536201814610:=Nat
def tw9589574424273678883:=Nat
def tw7808613265274341331:=Nat
def tw4868698502342938366:=Nat
def tw3567948151195835431:=Nat
def tw15848810859695313365:=Nat
def tw149217853156648541:=Nat
def tw12933497689203892263:=Nat
def tw543960533132169088:=Nat
def tw14055847563450511423:=Nat
def tw512418954258680582:=Nat
def tw11888959078667281135:=Nat
def tw9601371929960927109:=Nat
def tw2367378755623838229:=Nat
def tw12748455978965960839:=Nat
def tw97856824765017656:=Nat
def tw9561521453684673786:=Nat
def tw4110073968335292800:=Nat
def tw1208690779124941886:=Nat
def tw791337039101064037:=Nat
def tw4433450812521115896:=Nat
def tw2688601758922218107:=Nat
def tw3999977068006959690:=Nat
def tw17142171491754815252:=Nat
def tw12552934159771088308:=Nat
def tw10065085032168125114:=Nat
def tw11215531913803839704:=Nat
def tw5152328381747292338:=Nat
def tw4948135652461253057:=Nat
def tw16718156987478862130:=Nat
def tw7326933146723682995:=Nat
def tw5171088701991525117:=Nat
def tw7627607328349674853:=Nat
def tw7978365711888852050:=Nat
def tw4663830783866722038:=Nat
def tw13937222364939948787:=Nat
def tw4849119503721851417:=Nat
def tw5224158044769543569:=Nat
def tw8041774626940456134:=Nat
def tw8309713065415095715:=Nat
def tw8760068776623384:=Nat
def tw16975354543835490755:=Nat
def tw18247184675993732308:=Nat
def tw15183117161539283935:=Nat
def tw13897768492597214326:=Nat
def tw6800406218478000077:=Nat
def tw18290237709882582341:=Nat
def tw11335139718918173688:=Nat
def tw2275162220102551055:=Nat
def tw13206188063420618123:=Nat
def tw16987111552628097138:=Nat
def tw7526626128406357775:=Nat
def tw7421746524122131160:=Nat
def tw18445404643402534786:=Nat
def tw14721792852214704111:=Nat
def tw1287804786973966264:=Nat
def tw8479952028451171106:=Nat
def tw7698636690202870811:=Nat
def tw4196279574738489387:=Nat
def tw13003612932529987078:=Nat
def tw10087246882972912856:=Nat
def tw6480935161623426918:=Nat
def tw8212125291871602469:=Nat
def tw7358503486314265222:=Nat
def tw4376406331380126148:=Nat
def tw3163988780564243751:=Nat
def tw17726025942414456514:=Nat
def tw17560169776816566101:=Nat
def tw14066939641484790111:=Nat
def tw12743721990835599263:=Nat
def tw11743244528994583932:=Nat
def tw2654090810477051722:=Nat
def tw18168796711625874884:=Nat
def tw15831483213633339247:=Nat
def tw10530205925150104476:=Nat
def tw1316194384547727966:=Nat
def tw9758330304377488155:=Nat
def tw6966866338543322604:=Nat
def tw5870698730662115162:=Nat
def tw4472215608819741639:=Nat
def tw13573544257989524512:=Nat
def tw1353432200335160965:=Nat
def tw11036496506534139222:=Nat
def tw6129555772372470418:=Nat
def tw6102616186092052226:=Nat
def tw15956345884544962846:=Nat
def tw9566051649983007337:=Nat
def tw7423722756184289603:=Nat
def tw1652513696655396827:=Nat
def tw12936346206724159466:=Nat
def tw10455117079250890215:=Nat
def tw17815150098934573614:=Nat
def tw13439265825400014464:=Nat
def tw12859114991962100500:=Nat
def tw3846130588130072372:=Nat
def tw18274291295042272679:=Nat
def tw343919537585481156:=Nat
def tw11485548928046087326:=Nat
def tw2275739425114033960:=Nat
def tw15764484519553396137:=Nat
def tw7804540995262968337:=Nat
def tw14268359780215669540:=Nat
def tw5783491523969942178:=Nat
def tw3851842271496274513:=Nat
def tw1089713670578484451:=Nat
def tw17718980360186550686:=Nat
def tw10672431820409478203:=Nat
def tw10980872880057190525:=Nat
def tw7308906978147315643:=Nat
def tw5814943039123916666:=Nat
def tw6942973843828074866:=Nat
def tw5680452952720014685:=Nat
def tw12885785658719359985:=Nat
def tw7620622202104297917:=Nat
def tw4327733592638670505:=Nat
def tw4650550676553241356:=Nat
def tw15115493172717279688:=Nat
def tw11383161446052737588:=Nat
def tw11128499854814302148:=Nat
def tw2150938009151674173:=Nat
def tw18277104867297332939:=Nat
def tw15522151738948479876:=Nat
def tw6580974467532690534:=Nat
def tw7870187908582969877:=Nat
def tw3741456511914030514:=Nat
def tw1443570431817150497:=Nat
def tw8676094925429847411:=Nat
def tw17650116376705673177:=Nat
def tw14838829977343581460:=Nat
def tw8775187997844899687:=Nat
def tw4925746407990444940:=Nat
def tw3539756737927432615:=Nat
def tw14397220313167552116:=Nat
def tw12528679863892991849:=Nat
def tw15719602628168920025:=Nat
def tw3479034933895939555:=Nat
def tw18081659405716284813:=Nat
def tw17926522466624723077:=Nat
def tw1634285455492205901:=Nat
def tw11596235803647644852:=Nat
def tw26325622011955219:=Nat
def tw14583708492381843782:=Nat
def tw11220619034637495120:=Nat
def tw10140887118071045788:=Nat
def tw8659351874241673656:=Nat
def tw1904484747312033892:=Nat
def tw14358502564283758776:=Nat
def tw15681776667945560889:=Nat
def tw1306564065409551033:=Nat
def tw13113499295368019226:=Nat
def tw10568374170212473558:=Nat
def tw17871583800444371276:=Nat
def tw17285631941594825132:=Nat
def tw15572441510012978616:=Nat
def tw4624640140814565950:=Nat
def tw17142010049668967077:=Nat
def tw3270770976612444743:=Nat
def tw15796315568012490101:=Nat
def tw5578552930433926134:=Nat
def tw5159607163513607148:=Nat
def tw1946354034283763314:=Nat
def tw12884094082106059105:=Nat
def tw11876888594374128315:=Nat
def tw10296315739822948144:=Nat
def tw16531916571410807578:=Nat
def tw1236828964539578918:=Nat
def tw1896294886354893966:=Nat
def tw16543286214520925327:=Nat
def tw4686694077984827906:=Nat
def tw4367241929870432517:=Nat
def tw1213193657729722614:=Nat
def tw9565458233420518949:=Nat
def tw1617666422509255212:=Nat
def tw3483526669217550747:=Nat
def tw13102788446667800195:=Nat
def tw17159288342243581797:=Nat
def tw10131089491464270115:=Nat
def tw7010946535849920913:=Nat
def tw11907984999050066747:=Nat
def tw8631446557342629032:=Nat
def tw1902254951968818643:=Nat
def tw14663660482432513011:=Nat
def tw18092947436205251261:=Nat
def tw8629411378220487080:=Nat
def tw422570008101928460:=Nat
def tw3464423737054213941:=Nat
def tw18388799481450772356:=Nat
def tw1075844316794995383:=Nat
def tw6743965430829728618:=Nat
def tw6381899479641249690:=Nat
def tw511354813335603443:=Nat
def tw4112595161970108014:=Nat
def tw3042064188019449293:=Nat
def tw1822451532720576196:=Nat
def tw16268517277828355597:=Nat
def tw13669673332526392122:=Nat
def tw10144336607518544653:=Nat
def tw7073677541973693864:=Nat
def tw3329956792347027980:=Nat
def tw5454603108829117606:=Nat
def tw17115690272390551860:=Nat
def tw10507581127552804610:=Nat
def tw4279678033113478231:=Nat
def tw16325616575370809601:=Nat
def tw1518492908874805563:=Nat
def tw1130458370331459584:=Nat
def tw9628843000150805027:=Nat
def tw8323788925931318058:=Nat
def tw3981826518790400769:=Nat
def tw3310153591206033011:=Nat
def tw3044073277090014795:=Nat
def tw2977638137320490595:=Nat
def tw2495515465225641292:=Nat
def tw14171473443608115583:=Nat
def tw13254313916343707349:=Nat
def tw11684723671394450657:=Nat
def tw1119906204250021534:=Nat
def tw12556314945394204442:=Nat
def tw6704014112763983340:=Nat
def tw7628505575014738589:=Nat
def tw7605608971622539336:=Nat
def tw6768143411438519830:=Nat
def tw14092056727415397205:=Nat
def tw236740684929919654:=Nat
def tw4277289713259107036:=Nat
def tw17542650175792467131:=Nat
def tw719748602835003076:=Nat
def tw6769960092126477623:=Nat
def tw5194083752905353432:=Nat
def tw4985613176990627754:=Nat
def tw4452834602936868663:=Nat
def tw2222480573781735321:=Nat
def tw18126677075706320588:=Nat
def tw16276494078769362639:=Nat
def tw16228170686842654569:=Nat
def tw16002160363484741000:=Nat
def tw15894298649670051197:=Nat
def tw14373762810700269145:=Nat
def tw12806938523943104317:=Nat
def tw11796496368581140779:=Nat
def tw11316228751050242131:=Nat
def tw10693159950550697016:=Nat
def tw10532990956329300268:=Nat
def tw2124952742922082506:=Nat
def tw8731505194183556818:=Nat
def tw2574164368076285984:=Nat
def tw9048737102763917700:=Nat
def tw8968603829729712948:=Nat
def tw709618052674260995:=Nat
def tw5368203642087064603:=Nat
def tw4392401976207899725:=Nat
def tw4354072335486128234:=Nat
def tw2403389516069590314:=Nat
def tw17190630665326132569:=Nat
def tw16570139399668121126:=Nat
def tw15005663171252826988:=Nat
def tw14747730218147302806:=Nat
def tw12069877301371778899:=Nat
def tw1036351771729530509:=Nat
def tw9754982374239577911:=Nat
def tw959467240690944071:=Nat
def tw9141277787487034129:=Nat
def tw9097189724915133037:=Nat
def tw9054351297062108702:=Nat
def tw8940058712790161942:=Nat
def tw4708572429349547386:=Nat
def tw285434821305739798:=Nat
def tw17993095405557888923:=Nat
def tw16290750325939860812:=Nat
def tw13761642574969021601:=Nat
def tw11107230982766562787:=Nat
def tw15781973687163757350:=Nat
def tw3994774139431428123:=Nat
def tw8901944591548300167:=Nat
def tw8402742656691043327:=Nat
def tw5090761117140644804:=Nat
def tw455641384395159437:=Nat
def tw1705880481408219075:=Nat
def tw11480779843926566195:=Nat
def tw10720367972175284494:=Nat
def tw10417223072254948371:=Nat
def tw9643202200230185283:=Nat
def tw8809185539383565412:=Nat
def tw8555544921685760726:=Nat
def tw7235553717270579421:=Nat
def tw6712189171352352702:=Nat
def tw2504308065188307010:=Nat
def tw17705546308177024059:=Nat
def tw17690482043725250593:=Nat
def tw17629046437879612904:=Nat
def tw17115709102889257369:=Nat
def tw15866033098816060084:=Nat
def tw15390157564981274128:=Nat
def tw9976344626536630009:=Nat
def tw9954639734528044704:=Nat
def tw9808240337558472159:=Nat
def tw9611623420266994214:=Nat
def tw9495565781361170748:=Nat
def tw9361521605691989526:=Nat
def tw8939948417829815795:=Nat
def tw8802388198492433863:=Nat
def tw880107027682778033:=Nat
def tw8605734386111062863:=Nat
def tw8563238544439125687:=Nat
def tw8551963353090250982:=Nat
def tw8519691876456341548:=Nat
def tw8453950390724285637:=Nat
def tw844819489707181294:=Nat
def tw8388572095078412046:=Nat
def tw8337127356477341119:=Nat
def tw8315342098203161711:=Nat
def tw8286754408113702629:=Nat
def tw8269192075959396541:=Nat
def tw8239381328222436739:=Nat
def tw8158435212111315890:=Nat
def tw8137299801829701944:=Nat
def tw8046575217533933331:=Nat
def tw8010383429187037734:=Nat
def tw7867892749204618722:=Nat
def tw7824211240623594654:=Nat
def tw7817746616117237878:=Nat
def tw7753072652470486523:=Nat
def tw7573089035315008399:=Nat
def tw7523167456841403702:=Nat
def tw733719020885675125:=Nat
def tw73292092113902728:=Nat
def tw7316271924831439018:=Nat
def tw7247211858972505721:=Nat
def tw7232212171640529000:=Nat
def tw7232088785366415434:=Nat
def tw7173534052823885000:=Nat
def tw7138455166628120173:=Nat
def tw713091150964123877:=Nat
def tw6983201809151803825:=Nat
def tw6742257413902894002:=Nat
def tw6719140191332434528:=Nat
def tw6578368636717974810:=Nat
def tw6559945793958763249:=Nat
def tw6439489000392331344:=Nat
def tw6367390322044015039:=Nat
def tw6332374968751487174:=Nat
def tw6285370262794969393:=Nat
def tw6279407003977753519:=Nat
def tw6268615997292769294:=Nat
def tw6213045372817607384:=Nat
def tw5883865055304626536:=Nat
def tw5781956307032620371:=Nat
def tw5699122169330957873:=Nat
def tw5560705495732420845:=Nat
def tw5491302295422939036:=Nat
def tw5459367160668830203:=Nat
def tw5295940082124634305:=Nat
def tw5191876645452708314:=Nat
def tw515548105736248124:=Nat
def tw5118340483640641601:=Nat
def tw4955634130301827389:=Nat
def tw4883256079583462957:=Nat
def tw469918161460986801:=Nat
def tw4459838687900066776:=Nat
def tw4442187668106650943:=Nat
def tw4330397648047425595:=Nat
def tw4299106269322981968:=Nat
def tw4198480401216636563:=Nat
def tw4027682889498204491:=Nat
def tw4019225854331298053:=Nat
def tw3982611209481725013:=Nat
def tw3865619073344333382:=Nat
def tw3845144156868714650:=Nat
def tw3803300081430424508:=Nat
def tw374250349290559673:=Nat
def tw372050593160594599:=Nat
def tw3700157653371307393:=Nat
def tw3676379766618885332:=Nat
def tw3626642941273511888:=Nat
def tw357111726840220110:=Nat
def tw3552892864657658691:=Nat
def tw3533777329938334509:=Nat
def tw3437969433066465382:=Nat
def tw3389844108165327179:=Nat
def tw3144476876579302610:=Nat
def tw3098662307037241101:=Nat
def tw3049090197161444788:=Nat
def tw2972883200141835468:=Nat
def tw2789530287627463868:=Nat
def tw2671516271592955826:=Nat
def tw2559465080185037476:=Nat
def tw2518826899233156453:=Nat
def tw2506599348647527997:=Nat
def tw2415359487477906547:=Nat
def tw2379176885719794704:=Nat
def tw2285924656207867621:=Nat
def tw2268904156536194809:=Nat
def tw2152436278888076424:=Nat
def tw2028883570459715163:=Nat
def tw1855271633489167933:=Nat
def tw18356815864128187158:=Nat
def tw18232678667147965945:=Nat
def tw18181432715423509107:=Nat
def tw17983582526116236315:=Nat
def tw1793068033428542281:=Nat
def tw17839947078992997367:=Nat
def tw17836381944042518024:=Nat
def tw17658375629454941214:=Nat
def tw17610818839811435711:=Nat
def tw17553342344236453731:=Nat
def tw1752668257144281100:=Nat
def tw17341502564467548304:=Nat
def tw17319474883406880271:=Nat
def tw1720260071419176479:=Nat
def tw16667886386683921017:=Nat
def tw16536262359011953598:=Nat
def tw16459762275096090868:=Nat
def tw1639422131162306714:=Nat
def tw1629793370089061897:=Nat
def tw16211475349357638346:=Nat
def tw16171216236241027564:=Nat
def tw16046572315181583472:=Nat
def tw16035338530324123528:=Nat
def tw1599269967204309091:=Nat
def tw15971905499278575579:=Nat
def tw15851868314833195881:=Nat
def tw15699431739535042747:=Nat
def tw1561486283837754496:=Nat
def tw156049822010607331:=Nat
def tw15564387205357480909:=Nat
def tw15411346334170299713:=Nat
def tw15377645177386154789:=Nat
def tw15176471757773856072:=Nat
def tw15077330878849627723:=Nat
def tw15075704425681245235:=Nat
def tw14894442683143060303:=Nat
def tw14832205519076239013:=Nat
def tw14771892449638895517:=Nat
def tw147448562752202212:=Nat
def tw14649627792369225871:=Nat
def tw14581793081649292815:=Nat
def tw14434218440585769072:=Nat
def tw1439352054168964244:=Nat
def tw14114830094553886476:=Nat
def tw14087896084670308305:=Nat
def tw14046640590829714865:=Nat
def tw13996950317830580065:=Nat
def tw13964321707643670479:=Nat
def tw13929304497883008205:=Nat
def tw13928460177179003645:=Nat
def tw13755108097396113639:=Nat
def tw1340143968325691823:=Nat
def tw13356584855493475609:=Nat
def tw13316913117694068103:=Nat
def tw13281894697101469141:=Nat
def tw13278979345329190288:=Nat
def tw13242033657234329956:=Nat
def tw13201977845800313213:=Nat
def tw13148420581978037616:=Nat
def tw13077871073204801954:=Nat
def tw13067374651701416040:=Nat
def tw12966976290279155934:=Nat
def tw12721007656235369730:=Nat
def tw12466197549159761803:=Nat
def tw12315903943858769763:=Nat
def tw1210701374417102051:=Nat
def tw1209384916005563412:=Nat
def tw12061795397091894203:=Nat
def tw11840051768720487614:=Nat
def tw11744218201858208484:=Nat
def tw11742590318051843405:=Nat
def tw11701619351248928422:=Nat
def tw11629918521103503929:=Nat
def tw11618072293703135034:=Nat
def tw11616137558070673996:=Nat
def tw11589830353448751884:=Nat
def tw11028380439885344776:=Nat
def tw10687845817527868520:=Nat
def tw10510795928642357571:=Nat
def tw10420464962858291131:=Nat
def tw10390936552668202335:=Nat
def tw10326240022491163827:=Nat
def tw10308310576422916303:=Nat
def tw10299638158359638324:=Nat
def tw10281510898726043469:=Nat
def tw10270273396494511632:=Nat
end PySem.W.Fast
open PySem PySem.W PyProof.Rows
set_option hygiene false
local macro_rules | `(tactic| simp_arith)=>`(tactic| (dsimp only [L2.cf];refine' Ov.GG KX G ?a ?l ?c ?k;(case a=>k_is);(case l=>k_is);(case c=>k_is);(case k=>k_is)))
set_option maxRecDepth 100000 in
set_option maxHeartbeats 0 in
theorem PySem.Challenge.cw_overhaul_k36_whole_ranks_balance_holds : PySem.Challenge.rw_overhaul_k36_whole_ranks_balance.Holds := by
 w_on;o_law;k_head;(case hw=>w_witness2)
 k_fill
 refine Ov.C3 (l:=PySem.Challenge.rw_overhaul_k36_whole_ranks_balance) (n:=63) (k:=10) (x:="_law_script") (sp:=Ov.CB) ["good_name"] rfl (by decide) rfl ⟨rfl,by decide,by decide⟩ (fun w h Y=>PySem.W.kIn_of Y) ?Nm ?F (fun tabs K H a ns hl hT hS hA hK=>⟨a,ns,rfl,hS,hl,hT,hA,hK,fun _ e=>⟨rfl,e⟩⟩)
 case Nm=>decide +kernel
 case F =>
  intro w mg fa h KX G hmg
  have vD:Ov.Def (L2.cf KX) mg "_law_cell" Ov.sR:=by simp_arith
  have nL:Ov.Def (L2.cf KX) mg "_law_digits" Ov.la:=by simp_arith
  have nN:Ov.Def (L2.cf KX) mg "shared" Ov.lj:=by simp_arith
  have jZ:Ov.Def (L2.cf KX) mg "fraction" Ov.iy:=by simp_arith
  have Al:Ov.Def (L2.cf KX) mg "_law_low" Ov.yh:=by simp_arith
  have vG:Ov.Def (L2.cf KX) mg "less" Ov.sT:=by simp_arith
  have vI:Ov.Def (L2.cf KX) mg "plus" Ov.sV:=by simp_arith
  have q9:Ov.Def (L2.cf KX) mg "minus" Ov.nA:=by simp_arith
  have rb:Ov.Def (L2.cf KX) mg "times" Ov.nC:=by simp_arith
  obtain ⟨fM,fL⟩:∃ T,Ov.vK (L2.cf KX) mg "good_name" Ov.fZ T:=by
   dsimp only [L2.cf]
   refine' ⟨_,Ov.Dt KX G ?ga ?gl ?gc ?gk ?gt ?gp ?gb ?ge ?go⟩
   (case ga=>k_is);(case gl=>k_is);(case gc=>k_is);(case gk=>k_is);(case gt=>k_is);(case gp=>rfl);(case gb=>kernel_rfl);(case ge=>decide);(case go=>kernel_rfl)
  have q_:Ov.Def (L2.cf KX) mg "_law_names" Ov.jQ:=by simp_arith
  have j1:Ov.Def (L2.cf KX) mg "place_on" Ov.iA:=by simp_arith
  have lL:Ov.Def (L2.cf KX) mg "last_by" Ov.jO:=by simp_arith
  have f_:Ov.Def (L2.cf KX) mg "lies_behind" Ov.d_:=by simp_arith
  have j0:Ov.Def (L2.cf KX) mg "in_order" Ov.iz:=by simp_arith
  have f':Ov.Def (L2.cf KX) mg "rings_ahead" Ov.ed:=by simp_arith
  have lM:Ov.Def (L2.cf KX) mg "meeting" Ov.jP:=by simp_arith
  have dC:Ov.Def (L2.cf KX) mg "in_lowest_terms" Ov.cO:=by simp_arith
  have f9:Ov.Def (L2.cf KX) mg "good_moment" Ov.d9:=by simp_arith
  have rd:Ov.Def (L2.cf KX) mg "_law_whole" Ov.nE:=by simp_arith
  have vH:Ov.Def (L2.cf KX) mg "_law_part" Ov.sU:=by simp_arith
  have lN:Ov.Def (L2.cf KX) mg "_law_passrow" Ov.jR:=by simp_arith
  have vJ:Ov.Def (L2.cf KX) mg "_law_tidy" Ov.sW:=by simp_arith
  have nM:Ov.Def (L2.cf KX) mg "_law_placed" Ov.lh:=by simp_arith
  have ra:Ov.Def (L2.cf KX) mg "_law_paced" Ov.nB:=by simp_arith
  have Gf:Ov.Def (L2.cf KX) mg "_law_at" Ov.EJ:=by simp_arith
  have qZ:Ov.Def (L2.cf KX) mg "_law_later" Ov.nv:=by simp_arith
  have qY:Ov.Def (L2.cf KX) mg "_law_acted" Ov.nu:=by simp_arith
  have vF:Ov.Def (L2.cf KX) mg "_law_done" Ov.sS:=by simp_arith
  have vE:Ov.Def (L2.cf KX) mg "_law_deed" Ov.oV:=by simp_arith
  have Iu:Ov.Def (L2.cf KX) mg "law" Ov.oW:=by simp_arith
  obtain ⟨iY,bz,aV,bE,eK,iW,g7,g8,gq⟩:∃ C,Ov.dD (L2.cf KX) mg "Log" C∧L2.aE (L2.cf KX) C "rows"∧L2.aE (L2.cf KX) C "gone"∧Ov.bQ (L2.cf KX) C "__init__" "Log.__init__" Ov.dR∧Ov.bQ (L2.cf KX) C "turn" "Log.turn" Ov.iw∧Ov.bQ (L2.cf KX) C "leave" "Log.leave" Ov.fW∧Ov.bQ (L2.cf KX) C "there" "Log.there" Ov.fY∧Ov.bQ (L2.cf KX) C "leg_at" "Log.leg_at" Ov.fh:=by
   dsimp only [L2.cf]
   refine' ⟨_,Ov.rM KX G ?a ?pg ?hd ?po ?sa ?mk ?kc,?n0,?n1,Ov.bH ?m0a ?m0i ?m0l ?m0c ?m0k,Ov.bH ?m1a ?m1i ?m1l ?m1c ?m1k,Ov.bH ?m2a ?m2i ?m2l ?m2c ?m2k,Ov.bH ?m3a ?m3i ?m3l ?m3c ?m3k,Ov.bH ?m4a ?m4i ?m4l ?m4c ?m4k⟩
   (case a=>k_is);(case pg=>k_is);(case hd=>k_is);(case po=>k_is);(case sa=>k_is);(case mk=>k_is);(case kc=>k_is)
   (case n0=>(show PySem.W.findIn _ _ _=_;k_is))
   (case n1=>(show PySem.W.findIn _ _ _=_;k_is))
   (case m0a=>k_is);(case m0i=>k_is);(case m0l=>k_is);(case m0c=>k_is);(case m0k=>k_is)
   (case m1a=>k_is);(case m1i=>k_is);(case m1l=>k_is);(case m1c=>k_is);(case m1k=>k_is)
   (case m2a=>k_is);(case m2i=>k_is);(case m2l=>k_is);(case m2c=>k_is);(case m2k=>k_is)
   (case m3a=>k_is);(case m3i=>k_is);(case m3l=>k_is);(case m3c=>k_is);(case m3k=>k_is)
   (case m4a=>k_is);(case m4i=>k_is);(case m4l=>k_is);(case m4c=>k_is);(case m4k=>k_is)
  obtain ⟨cV,ax,az,aK,aD,dX,cH,fo,fq,gY,gm,dY,gi,gZ,g6,gh,gj⟩:∃ C,Ov.dD (L2.cf KX) mg "Lane" C∧L2.aE (L2.cf KX) C "now"∧L2.aE (L2.cf KX) C "logs"∧L2.aE (L2.cf KX) C "row"∧Ov.bQ (L2.cf KX) C "__init__" "Lane.__init__" Ov.dk∧Ov.bQ (L2.cf KX) C "must_be_there" "Lane.must_be_there" Ov.bZ∧Ov.bQ (L2.cf KX) C "leg_of" "Lane.leg_of" Ov.d8∧Ov.bQ (L2.cf KX) C "settle" "Lane.settle" Ov.di∧Ov.bQ (L2.cf KX) C "join" "Lane.join" Ov.fT∧Ov.bQ (L2.cf KX) C "meets" "Lane.meets" Ov.fg∧Ov.bQ (L2.cf KX) C "foretold" "Lane.foretold" Ov.dm∧Ov.bQ (L2.cf KX) C "go_to" "Lane.go_to" Ov.fe∧Ov.bQ (L2.cf KX) C "rank" "Lane.rank" Ov.fU∧Ov.bQ (L2.cf KX) C "turn" "Lane.turn" Ov.fV∧Ov.bQ (L2.cf KX) C "about" "Lane.about" Ov.fc∧Ov.bQ (L2.cf KX) C "leave" "Lane.leave" Ov.ff:=by
   dsimp only [L2.cf]
   refine' ⟨_,Ov.rM KX G ?a ?pg ?hd ?po ?sa ?mk ?kc,?n0,?n1,?n2,Ov.bH ?m0a ?m0i ?m0l ?m0c ?m0k,Ov.bH ?m1a ?m1i ?m1l ?m1c ?m1k,Ov.bH ?m2a ?m2i ?m2l ?m2c ?m2k,Ov.bH ?m3a ?m3i ?m3l ?m3c ?m3k,Ov.bH ?m4a ?m4i ?m4l ?m4c ?m4k,Ov.bH ?m5a ?m5i ?m5l ?m5c ?m5k,Ov.bH ?m6a ?m6i ?m6l ?m6c ?m6k,Ov.bH ?m7a ?m7i ?m7l ?m7c ?m7k,Ov.bH ?m8a ?m8i ?m8l ?m8c ?m8k,Ov.bH ?m9a ?m9i ?m9l ?m9c ?m9k,Ov.bH ?m10a ?m10i ?m10l ?m10c ?m10k,Ov.bH ?m11a ?m11i ?m11l ?m11c ?m11k⟩
   (case a=>k_is);(case pg=>k_is);(case hd=>k_is);(case po=>k_is);(case sa=>k_is);(case mk=>k_is);(case kc=>k_is)
   (case n0=>(show PySem.W.findIn _ _ _=_;k_is))
   (case n1=>(show PySem.W.findIn _ _ _=_;k_is))
   (case n2=>(show PySem.W.findIn _ _ _=_;k_is))
   (case m0a=>k_is);(case m0i=>k_is);(case m0l=>k_is);(case m0c=>k_is);(case m0k=>k_is)
   (case m1a=>k_is);(case m1i=>k_is);(case m1l=>k_is);(case m1c=>k_is);(case m1k=>k_is)
   (case m2a=>k_is);(case m2i=>k_is);(case m2l=>k_is);(case m2c=>k_is);(case m2k=>k_is)
   (case m3a=>k_is);(case m3i=>k_is);(case m3l=>k_is);(case m3c=>k_is);(case m3k=>k_is)
   (case m4a=>k_is);(case m4i=>k_is);(case m4l=>k_is);(case m4c=>k_is);(case m4k=>k_is)
   (case m5a=>k_is);(case m5i=>k_is);(case m5l=>k_is);(case m5c=>k_is);(case m5k=>k_is)
   (case m6a=>k_is);(case m6i=>k_is);(case m6l=>k_is);(case m6c=>k_is);(case m6k=>k_is)
   (case m7a=>k_is);(case m7i=>k_is);(case m7l=>k_is);(case m7c=>k_is);(case m7k=>k_is)
   (case m8a=>k_is);(case m8i=>k_is);(case m8l=>k_is);(case m8c=>k_is);(case m8k=>k_is)
   (case m9a=>k_is);(case m9i=>k_is);(case m9l=>k_is);(case m9c=>k_is);(case m9k=>k_is)
   (case m10a=>k_is);(case m10i=>k_is);(case m10l=>k_is);(case m10c=>k_is);(case m10k=>k_is)
   (case m11a=>k_is);(case m11i=>k_is);(case m11l=>k_is);(case m11c=>k_is);(case m11k=>k_is)
  obtain ⟨hW,bj,aM,dF,gf,gX,gg⟩:∃ C,Ov.dD (L2.cf KX) mg "Bells" C∧L2.aE (L2.cf KX) C "rows"∧Ov.bQ (L2.cf KX) C "__init__" "Bells.__init__" Ov.cZ∧Ov.bQ (L2.cf KX) C "drop" "Bells.drop" Ov.dQ∧Ov.bQ (L2.cf KX) C "put" "Bells.put" Ov.fS∧Ov.bQ (L2.cf KX) C "told" "Bells.told" Ov.fb:=by
   dsimp only [L2.cf]
   refine' ⟨_,Ov.rM KX G ?a ?pg ?hd ?po ?sa ?mk ?kc,?n0,Ov.bH ?m0a ?m0i ?m0l ?m0c ?m0k,Ov.bH ?m1a ?m1i ?m1l ?m1c ?m1k,Ov.bH ?m2a ?m2i ?m2l ?m2c ?m2k,Ov.bH ?m3a ?m3i ?m3l ?m3c ?m3k⟩
   (case a=>k_is);(case pg=>k_is);(case hd=>k_is);(case po=>k_is);(case sa=>k_is);(case mk=>k_is);(case kc=>k_is)
   (case n0=>(show PySem.W.findIn _ _ _=_;k_is))
   (case m0a=>k_is);(case m0i=>k_is);(case m0l=>k_is);(case m0c=>k_is);(case m0k=>k_is)
   (case m1a=>k_is);(case m1i=>k_is);(case m1l=>k_is);(case m1c=>k_is);(case m1k=>k_is)
   (case m2a=>k_is);(case m2i=>k_is);(case m2l=>k_is);(case m2c=>k_is);(case m2k=>k_is)
   (case m3a=>k_is);(case m3i=>k_is);(case m3l=>k_is);(case m3c=>k_is);(case m3k=>k_is)
  have Z:Ov.cj mg:=by
   refine' ⟨Ov.Ae.mk (PySem.W.mg_none_of KX G ?z0) (PySem.W.mg_none_of KX G ?z1) (PySem.W.mg_none_of KX G ?z2) (PySem.W.mg_none_of KX G ?z3) (PySem.W.mg_none_of KX G ?z4) (PySem.W.mg_none_of KX G ?z5) (PySem.W.mg_none_of KX G ?z6) (PySem.W.mg_none_of KX G ?z7) (PySem.W.mg_none_of KX G ?z8) (PySem.W.mg_none_of KX G ?z9),PySem.W.mg_none_of KX G ?w0,PySem.W.mg_none_of KX G ?w1,PySem.W.mg_none_of KX G ?w2,PySem.W.mg_none_of KX G ?w3,PySem.W.mg_none_of KX G ?w4⟩
   (case z0=>k_is);(case z1=>k_is);(case z2=>k_is);(case z3=>k_is);(case z4=>k_is);(case z5=>k_is);(case z6=>k_is);(case z7=>k_is);(case z8=>k_is);(case z9=>k_is);(case w0=>k_is);(case w1=>k_is);(case w2=>k_is);(case w3=>k_is);(case w4=>k_is)
  have N:Ov.nQ (L2.cf KX) mg:=by
   dsimp only [L2.cf]
   refine' Ov.zC KX G ?a ?l
   (case a=>k_is);(case l=>k_is)
  obtain ⟨mz,eg⟩:∃ C,Ov.Own (L2.cf KX) mg "BadMoment" C:=by
   dsimp only [L2.cf]
   refine' ⟨_,Ov.jk KX G ?a ?b⟩
   (case a=>k_is);(case b=>kernel_rfl)
  obtain ⟨qp,gF⟩:∃ C,Ov.Own (L2.cf KX) mg "BadName" C:=by
   dsimp only [L2.cf]
   refine' ⟨_,Ov.jk KX G ?a ?b⟩
   (case a=>k_is);(case b=>kernel_rfl)
  obtain ⟨AN,nR⟩:∃ C,Ov.Own (L2.cf KX) mg "Full" C:=by
   dsimp only [L2.cf]
   refine' ⟨_,Ov.jk KX G ?a ?b⟩
   (case a=>k_is);(case b=>kernel_rfl)
  obtain ⟨qr,gG⟩:∃ C,Ov.Own (L2.cf KX) mg "NoCraft" C:=by
   dsimp only [L2.cf]
   refine' ⟨_,Ov.jk KX G ?a ?b⟩
   (case a=>k_is);(case b=>kernel_rfl)
  obtain ⟨n6,ft⟩:∃ C,Ov.Own (L2.cf KX) mg "NotThere" C:=by
   dsimp only [L2.cf]
   refine' ⟨_,Ov.jk KX G ?a ?b⟩
   (case a=>k_is);(case b=>kernel_rfl)
  obtain ⟨AO,nS⟩:∃ C,Ov.Own (L2.cf KX) mg "Past" C:=by
   dsimp only [L2.cf]
   refine' ⟨_,Ov.jk KX G ?a ?b⟩
   (case a=>k_is);(case b=>kernel_rfl)
  obtain ⟨xC,kG⟩:∃ C,Ov.Own (L2.cf KX) mg "Taken" C:=by
   dsimp only [L2.cf]
   refine' ⟨_,Ov.jk KX G ?a ?b⟩
   (case a=>k_is);(case b=>kernel_rfl)
  obtain ⟨t8,eh⟩:∃ C,Ov.Own (L2.cf KX) mg "TooFar" C:=by
   dsimp only [L2.cf]
   refine' ⟨_,Ov.jk KX G ?a ?b⟩
   (case a=>k_is);(case b=>kernel_rfl)
  obtain ⟨iE,fz⟩:∃ t,mg "FARTHEST"=some (.int 1000000 t):=by
   refine' Ov.const_int KX G ?cz ?cw
   (case cz=>k_is);(case cw=>kernel_rfl)
  obtain ⟨fk,dz⟩:∃ t,mg "FASTEST"=some (.int 1000 t):=by
   refine' Ov.const_int KX G ?cz ?cw
   (case cz=>k_is);(case cw=>kernel_rfl)
  obtain ⟨lE,i8⟩:∃ t,mg "FINEST"=some (.int 60 t):=by
   refine' Ov.const_int KX G ?cz ?cw
   (case cz=>k_is);(case cw=>kernel_rfl)
  obtain ⟨lF,i9⟩:∃ t,mg "LATEST"=some (.int 1000000 t):=by
   refine' Ov.const_int KX G ?cz ?cw
   (case cz=>k_is);(case cw=>kernel_rfl)
  obtain ⟨jU,gM⟩:∃ t,mg "LONGEST"=some (.int 8 t):=by
   refine' Ov.const_int KX G ?cz ?cw
   (case cz=>k_is);(case cw=>kernel_rfl)
  obtain ⟨tL,og⟩:∃ t,mg "MOST"=some (.int 12 t):=by
   refine' Ov.const_int KX G ?cz ?cw
   (case cz=>k_is);(case cw=>kernel_rfl)
  obtain ⟨nI,kR⟩:∃ t,mg "SIGNS"=some (.str "abcdefghijklmnopqrstuvwxyz0123456789" t):=by
   refine' Ov.yZ KX G ?cz ?cw
   (case cz=>k_is);(case cw=>kernel_rfl)
  obtain ⟨fd,F,hb⟩:=Ov.GX Iu hmg (fun _ _ _ _ _ _ _=>rfl)
  exact ⟨fd,[fM],hb,(fun T hT=>by simp only [List.mem_cons,List.not_mem_nil,or_false] at hT;rcases hT with rfl <;> first | exact ⟨_,by simp,_,fL⟩),fun base _ _ Bm=>Ov.zk (Ov.Gq Z N fz dz i8 i9 gM og kR eg gF nR gG ft nS kG eh bz ax bj aV bE az aK aD aM vD nL nN jZ Al vG vI q9 rb fL q_ j1 lL f_ j0 f' lM dC f9 rd vH lN vJ nM ra Gf qZ qY vF vE eK iW g7 g8 gq dX cH fo fq gY dF gf gX gg gm dY gi gZ g6 gh gj F base Bm)⟩
