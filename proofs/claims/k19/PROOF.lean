import PyProof.Rows.All
import Wide.All
import OpenK.AllK
import Wide.FinOn
import Lean
import PyProof.EqAt
import PyProof.EqKinds
import PyProof.TupleCall
import PyProof.NeKinds
import PyProof.CompFree
import PyProof.ListRange
import PyProof.Rows.SortWalk
import PyProof.ExcArgsOwn
import PyProof.ExcAttrAll.ValueError
import KE.KTryMore
import PyProof.GenCompD
import PyProof.StrWalks
import PyProof.ConsumeS
import PyProof.StrOps2
import PyProof.CompMap
import KE.KRevIter
import PyProof.ZipIter
import PyProof.DictWalks
import PyProof.DictCompW
import PyProof.DictRoads
import PyProof.MeetsDictList
import KE.KDictList
import PyProof.EnumFor
import PyProof.EnumMake
import PyProof.WalksEnum
import PySem.Challenge.RW_overhaul_k19_goings_refused
noncomputable section
set_option compiler.extract_closed false
set_option Elab.async false
set_option linter.all false
set_option maxRecDepth 100000
namespace L2
open PySem PySem.Spec PyProof.Rows
abbrev Key:=Sum Int Str
def JL:Key→Value→Bool
 | .inl k,v=>Value.isInt k v
 | .inr x,v=>Value.isStrOf x v
def QN (w:World):Key→Int
 | .inl k=>hashInt k
 | .inr x=>hashStr w x
theorem cH:∀ {k:Key} {v:Value},JL k v=true→(∃ i t,k=Sum.inl i∧v=Value.int i t)∨(∃ x t,k=Sum.inr x∧v=Value.str x t)
 | .inl i,v,h=>by
  obtain ⟨t,e⟩:=Value.isInt_shape (k:=i) (v:=v) h
  exact .inl ⟨i,t,rfl,e⟩
 | .inr x,v,h=>by
  obtain ⟨t,e⟩:=Value.isStrOf_shape (x:=x) (v:=v) h
  exact .inr ⟨x,t,rfl,e⟩
theorem Lu (a b:Int):decide ((Sum.inl a:Key)=Sum.inl b)=(a == b):=by
 by_cases e:a=b
 ·subst e;simp
 ·have h:¬ (Sum.inl a:Key)=Sum.inl b:=fun q=>e (Sum.inl.inj q)
  rw [decide_eq_false h]
  exact (beq_eq_false_iff_ne.mpr e).symm
theorem Lx (a b:Str):decide ((Sum.inr a:Key)=Sum.inr b)=decide (a=b):=by
 by_cases e:a=b
 ·subst e;simp
 ·have h:¬ (Sum.inr a:Key)=Sum.inr b:=fun q=>e (Sum.inr.inj q)
  rw [decide_eq_false h,decide_eq_false e]
theorem Lv (a:Int) (b:Str):decide ((Sum.inl a:Key)=Sum.inr b)=false:=decide_eq_false (fun q=>nomatch q)
theorem Lw (a:Str) (b:Int):decide ((Sum.inr a:Key)=Sum.inl b)=false:=decide_eq_false (fun q=>nomatch q)
def HM (prog:Program) (w:World):PySem.KeyKind prog w Key where
 is:=JL
 hash:=QN w
 inj:=fun v a b ha hb=>by
  rcases cH ha with ⟨i,t,rfl,rfl⟩ | ⟨x,t,rfl,rfl⟩
  ·rcases cH hb with ⟨j,u,rfl,e⟩ | ⟨y,u,rfl,e⟩
   ·injection e with e1 _;rw [e1]
   ·exact nomatch e
  ·rcases cH hb with ⟨j,u,rfl,e⟩ | ⟨y,u,rfl,e⟩
   ·exact nomatch e
   ·injection e with e1 _;rw [e1]
 byValue:=fun k v h=>by
  rcases cH h with ⟨i,t,rfl,rfl⟩ | ⟨x,t,rfl,rfl⟩ <;> rfl
 pyHash:=fun hv h=>by
  rcases cH hv with ⟨i,t,rfl,rfl⟩ | ⟨x,t,rfl,rfl⟩
  ·exact wpAny_pyHash_int h
  ·exact wpAny_pyHash_str h
 eqBool:=fun hu hv h=>by
  rcases cH hu with ⟨i,t,rfl,rfl⟩ | ⟨x,t,rfl,rfl⟩
  ·rcases cH hv with ⟨j,u,rfl,rfl⟩ | ⟨y,u,rfl,rfl⟩
   ·rw [Lu] at h;exact wpAny_eqBool_int h
   ·rw [Lv] at h;exact SeqAt.EqAt.int_str i t y u _ _ _ _ h
  ·rcases cH hv with ⟨j,u,rfl,rfl⟩ | ⟨y,u,rfl,rfl⟩
   ·rw [Lw] at h;exact SeqAt.EqAt.str_int x t j u _ _ _ _ h
   ·rw [Lx] at h;exact wpAny_eqBool_str h
 «strs»:=fun k x t v h=>by
  rcases cH h with ⟨i,u,rfl,e⟩ | ⟨y,u,rfl,e⟩
  ·exact nomatch e
  ·injection e with e1 _
   subst e1
   cases v <;> rfl
end L2
namespace L2
open PySem PySem.Spec PyProof.Rows
inductive V where
 | non | bl (b:Bool) | int (i:Int) | str (x:Str) | byt (b:Array UInt8) | flt (b:UInt64) | ref (a:Addr) | ty (n:String)
 deriving DecidableEq
def RelV:V→Value→Prop
 | .non,u=>u=Value.none
 | .bl b,u=>u=Value.bool b
 | .int i,u=>∃ t,u=Value.int i t
 | .str x,u=>∃ t,u=Value.str x t
 | .byt b,u=>∃ t,u=Value.bytes b t
 | .flt b,u=>∃ t,u=Value.float b t
 | .ref a,u=>u=Value.ref a
 | .ty n,u=>u=Value.type n
abbrev Vals:List V→List Value→Prop:=Paired RelV
theorem Vals.length {xs:List V} {us:List Value} (r:Vals xs us):xs.length=us.length:=Paired.length r
theorem Vals.get:∀ {xs:List V} {us:List Value} {i:Nat} {x:V},Vals xs us→xs[i]?=some x→∃ u,us[i]?=some u∧RelV x u
 | _,_,_,_,.nil,e=>by simp at e
 | _,_,0,_,.cons r _,e=>by simp at e;subst e;exact ⟨_,rfl,r⟩
 | _,_,i + 1,x,.cons _ t,e=>by
  obtain ⟨u,h1,h2⟩:=Vals.get (i:=i) (x:=x) t (by simpa using e)
  exact ⟨u,by simpa using h1,h2⟩
theorem Vals.set {x:V} {u:Value} (r:RelV x u):∀ {xs:List V} {us:List Value} (i:Nat),Vals xs us→Vals (xs.set i x) (us.set i u)
 | _,_,_,.nil=>.nil
 | _,_,0,.cons _ t=>.cons r t
 | _,_,i + 1,.cons q t=>.cons q (Vals.set r i t)
theorem Vals.append:∀ {xs ys:List V} {us ws:List Value},Vals xs us→Vals ys ws→Vals (xs ++ ys) (us ++ ws)
 | _,_,_,_,.nil,s=>s
 | _,_,_,_,.cons r t,s=>.cons r (Vals.append t s)
theorem Vals.take:∀ {xs:List V} {us:List Value} (n:Nat),Vals xs us→Vals (xs.take n) (us.take n)
 | _,_,0,_=>.nil
 | _,_,_ + 1,.nil=>.nil
 | _,_,n + 1,.cons r t=>.cons r (Vals.take n t)
theorem Vals.drop:∀ {xs:List V} {us:List Value} (n:Nat),Vals xs us→Vals (xs.drop n) (us.drop n)
 | _,_,0,r=>r
 | _,_,_ + 1,.nil=>.nil
 | _,_,n + 1,.cons _ t=>Vals.drop n t
def tP:Option V→Option Value→Prop
 | some v,some u=>RelV v u
 | none,none=>True
 | _,_=>False
def KV {κ:Type}:List (κ × V)→List (κ × Value)→Prop:=Paired fun (p:κ × V) (q:κ × Value)=>p.1=q.1∧RelV p.2 q.2
def kV:Key→V
 | .inl i=>.int i
 | .inr x=>.str x
inductive HO where
 | lst (xs:List V)
 | tup (xs:List V)
 | dK (kvs:List (Key × V)) | dE (kvs:List (Str × V)) (ep:Nat)
 | set (S:Int→Bool) (n:Nat)
 | ins (C dx:Addr) (fs:List (Str × V))
 | own (x:Addr)
 | xd (fs:List (Str × V))
 | met (f x:Addr)
 | Ni (lo hi:Int)
 | rQ (o:Obj) (u:HO)
 | tbl (ps:Array Value)
 | ext (φ:Heap→Prop)
abbrev Hp:=Addr→Option HO
def upd (H:Hp) (a:Addr) (o:HO):Hp:=fun b=>if b=a then some o else H b
theorem aE {H:Hp} {a:Addr} {o:HO}:upd H a o a=some o:=by unfold upd;rw [if_pos rfl]
theorem aK {H:Hp} {a b:Addr} {o:HO} (h:b≠a):upd H a o b=H b:=by unfold upd;rw [if_neg h]
theorem bE {H:Hp} {a b:Addr} {o:HO} (h:H a=some o) (h':H b=none):a≠b:=by
 intro e;subst e;rw [h] at h';cases h'
section
variable (P:Program) (w:World)
def dy (H:Hp) (h:Heap) (a:Addr):HO→Prop
 | .lst xs=>xs.length≤sizeLine∧∃ (its:List Value) (n:Nat),Vals xs its∧h.get? a=some { cls:=.type "list",data:=.seq its.toArray n }
 | .tup xs=>xs.length≤sizeLine∧∃ its:List Value,Vals xs its∧IsTup h a its.toArray
 | .dK kvs=>kvs.length≤sizeLine∧(a == sysModules)=false∧∃ vs,KV kvs vs∧h.DictOf (HM P w) a vs
 | .dE kvs ep=>kvs.length≤sizeLine∧(a == sysModules)=false∧∃ vs,KV kvs vs∧h.DictAt (strKind P w) a vs ep
 | .set S n=>h.SetOf (intKind P w) a S n
 | .ins C dx fs=>H dx=some (.own a)∧fs.length≤1000∧dx≠a∧h.get? a=some (PySem.W.instObj C dx) ∧
   ∃ mA,h.Ns1 dx mA∧(∀ f,tP (fs.lookup f) (mA f))∧PySem.Within mA (fs.map (·.1))
 | .own _=>∃ o,h.get? a=some o
 | .xd fs=>∃ mA,h.Ns1 a mA∧∀ f,tP (fs.lookup f) (mA f)
 | .Ni lo hi=>∃ t u v,h.get? a=some { cls:=.type "range",data:=.fields #[.int lo t,.int hi u,.int 1 v] }
 | .rQ o u=>h.get? a=some o∧dy H h a u
 | .tbl ps=>h.get? a=some { cls:=.none,data:=.fields ps }
 | .met f x=>h.get? a=some (PySem.W.methodObj (.ref f) (.ref x))
 | .ext φ=>φ h∧(∃ o,h.get? a=some o)∧∀ h1 h2:Heap,φ h1→(∀ o,h1.get? a=some o→h2.get? a=some o)→φ h2
def nq (H:Hp) (h:Heap):Prop:=∀ a o,H a=some o→dy P w H h a o
end
section
variable {P:Program} {w:World} {H H':Hp} {h h':Heap} {a:Addr} {o:HO}
theorem dy.lt (x:dy P w H h a o):a < h.objs.size:=by
 cases o with
 | lst xs=>obtain ⟨_,_,_,_,e⟩:=x;exact Heap.lt_size e
 | tup xs=>obtain ⟨_,_,_,p⟩:=x;exact p.lt
 | dK kvs=>obtain ⟨_,_,_,_,o,_,_,e,_⟩:=x;exact Heap.lt_size e
 | dE kvs ep=>obtain ⟨_,_,_,_,o,_,e,_⟩:=x;exact Heap.lt_size e
 | set S n=>obtain ⟨o,_,_,_,e,_⟩:=x;exact Heap.lt_size e
 | ins C dx fs=>obtain ⟨_,_,_,e,_⟩:=x;exact Heap.lt_size e
 | own y=>obtain ⟨_,e⟩:=x;exact Heap.lt_size e
 | xd fs=>obtain ⟨_,⟨_,_,_,e,_⟩,_⟩:=x;exact Heap.lt_size e
 | Ni lo hi=>obtain ⟨_,_,_,e⟩:=x;exact Heap.lt_size e
 | rQ ob u=>obtain ⟨e,_⟩:=x;exact Heap.lt_size e
 | tbl ps=>exact Heap.lt_size (show h.get? a=some _ from x)
 | met f y=>exact Heap.lt_size (show h.get? a=some _ from x)
 | ext φ=>obtain ⟨_,⟨_,e⟩,_⟩:=x;exact Heap.lt_size e
theorem dy.pZ (x:dy P w H h a o) (k:∀ b u,(b=a∨H b=some (.own a))→h.get? b=some u→h'.get? b=some u)
  (ho:∀ b,H b=some (.own a)→H' b=some (.own a)) (ht:∀ b xs,H b=some (.tup xs)→H' b=some (.tup xs)):dy P w H' h' a o:=by
 induction o with
 | lst xs=>obtain ⟨z,its,n,r,e⟩:=x;exact ⟨z,its,n,r,k _ _ (.inl rfl) e⟩
 | tup xs=>obtain ⟨z,its,r,ob,e,c⟩:=x;exact ⟨z,its,r,ob,k _ _ (.inl rfl) e,c⟩
 | dK kvs=>obtain ⟨z,y,vs,r,ob,es,ep,e,c⟩:=x;exact ⟨z,y,vs,r,ob,es,ep,k _ _ (.inl rfl) e,c⟩
 | dE kvs ep=>obtain ⟨z,y,vs,r,ob,es,e,c⟩:=x;exact ⟨z,y,vs,r,ob,es,k _ _ (.inl rfl) e,c⟩
 | set S n=>obtain ⟨ob,es,ep,t,e,c⟩:=x;exact ⟨ob,es,ep,t,k _ _ (.inl rfl) e,c⟩
 | ins C dx fs =>
  obtain ⟨d,z,ne,e,mA,⟨od,es,ep,e2,c⟩,r⟩:=x
  exact ⟨ho _ d,z,ne,k _ _ (.inl rfl) e,mA,⟨od,es,ep,k _ _ (.inr d) e2,c⟩,r⟩
 | own y=>obtain ⟨ob,e⟩:=x;exact ⟨ob,k _ _ (.inl rfl) e⟩
 | xd fs=>obtain ⟨mA,⟨od,es,ep,e,c⟩,r⟩:=x;exact ⟨mA,⟨od,es,ep,k _ _ (.inl rfl) e,c⟩,r⟩
 | Ni lo hi=>obtain ⟨t,u,v,e⟩:=x;exact ⟨t,u,v,k _ _ (.inl rfl) e⟩
 | rQ ob u ih=>obtain ⟨e,q⟩:=x;exact ⟨k _ _ (.inl rfl) e,ih q⟩
 | tbl ps =>
  have e:h.get? a=some { cls:=.none,data:=.fields ps }:=x
  show h'.get? a=some { cls:=.none,data:=.fields ps }
  exact k a _ (.inl rfl) e
 | met f y =>
  have e:h.get? a=some (PySem.W.methodObj (.ref f) (.ref y)):=x
  show h'.get? a=some (PySem.W.methodObj (.ref f) (.ref y))
  exact k a _ (.inl rfl) e
 | ext φ=>obtain ⟨p,⟨o,e⟩,st⟩:=x;exact ⟨st _ _ p fun o q=>k _ _ (.inl rfl) q,⟨o,k _ _ (.inl rfl) e⟩,st⟩
theorem nq.lt (x:nq P w H h) (e:H a=some o):a < h.objs.size:=(x a o e).lt
theorem nq.fresh (x:nq P w H h) (e:h.objs.size≤a):H a=none:=by
 cases q:H a with
 | none=>rfl
 | some u=>exact absurd (Nat.lt_of_lt_of_le (x.lt q) e) (Nat.lt_irrefl _)
theorem nq.kept (x:nq P w H h) (k:∀ b u,h.get? b=some u→h'.get? b=some u):nq P w H h':=fun a o e =>
 (x a o e).pZ (fun b u _ q=>k b u q) (fun _ q=>q) fun _ _ q=>q
theorem nq.laid (x:nq P w H h) (k:∀ b u,h.get? b=some u→h'.get? b=some u) (hp:h.objs.size≤a) (new:dy P w (upd H a o) h' a o):nq P w (upd H a o) h':=fun b u e=>by
 have hn:=x.fresh hp
 by_cases hb:b=a
 ·subst hb;rw [aE] at e;cases e;exact new
 ·rw [aK hb] at e
  exact (x b u e).pZ (fun c v _ q=>k c v q) (fun c q=>by rw [aK (bE q hn)];exact q) fun c xs q=>by rw [aK (bE q hn)];exact q
end
def Rd (H:Hp) (a:Addr) (u:HO):Prop:=H a=some u∨∃ o,H a=some (.rQ o u)
theorem Rd.ok {P:Program} {w:World} {H:Hp} {h:Heap} {a:Addr} {u:HO} (r:Rd H a u) (x:nq P w H h):dy P w H h a u:=by
 rcases r with r | ⟨o,r⟩
 ·exact x a u r
 ·obtain ⟨_,q⟩:=x a _ r
  exact q
def PR:Option HO→Prop
 | some (.lst _)=>True
 | some (.dK _)=>True
 | some (.dE _ _)=>True
 | some (.set _ _)=>True
 | some (.ins _ _ _)=>True
 | some (.ext _)=>True
 | _=>False
section
variable {P:Program} {w:World} {H:Hp} {h h':Heap} {x e:Addr} {o':HO}
theorem nq.write (ok:nq P w H h) (mu:PR (H x)) (he:e=x∨H e=some (.own x)) (k:∀ b u,b≠e→h.get? b=some u→h'.get? b=some u) (heo:∃ u,h'.get? e=some u)
  (new:dy P w (upd H x o') h' x o'):nq P w (upd H x o') h':=fun b u q=>by
 have nown:∀ c y,H c=some (.own y)→c≠x:=fun c y r z=>by subst z;rw [r] at mu;exact mu
 have ntup:∀ c xs,H c=some (.tup xs)→c≠x:=fun c xs r z=>by subst z;rw [r] at mu;exact mu
 by_cases hb:b=x
 ·subst hb;rw [aE] at q;cases q;exact new
 ·rw [aK hb] at q
  by_cases hbe:b=e
  ·have q':H b=some (.own x):=by
    rcases he with z | z
    ·exact absurd (hbe.trans z) hb
    ·rw [hbe];exact z
   rw [q] at q';cases q'
   obtain ⟨v,hv⟩:=heo
   exact ⟨v,by rw [hbe];exact hv⟩
  ·refine (ok b u q).pZ (fun c v hc r=>k c v ?_ r) (fun c r=>by rw [aK (nown c b r)];exact r) fun c xs r=>by rw [aK (ntup c xs r)];exact r
   rcases hc with rfl | hc
   ·exact hbe
   ·rintro rfl
    rcases he with z | z
    ·exact nown c b hc z
    ·rw [hc] at z;cases z;exact hb rfl
end
structure Un (fs ex:List Addr) (H H':Hp) (h h':Heap):Prop where
 keep:∀ b o,h.get? b=some o→H b=none→b ∉ fs→b ∉ ex→h'.get? b=some o
 slot:∀ b o,h.get? b=some o→H b=none→b∈fs→b ∉ ex→∃ sl,h'.get? b=some { o with slots:=sl }
 free:∀ b o,h.get? b=some o→H b=none→b ∉ ex→H' b=none
 there:∀ b o,h.get? b=some o→b ∉ ex→∃ o',h'.get? b=some o'
 tups:∀ b xs,H b=some (.tup xs)→H' b=some (.tup xs)
 frzs:∀ b o u,H b=some (.rQ o u)→H' b=some (.rQ o u)
 tbls:∀ b ps,H b=some (.tbl ps)→∃ more,H' b=some (.tbl (ps ++ more))
section
variable {fs fs' ex ex':List Addr} {H H1 H2:Hp} {h h1 h2 h':Heap} {a x e:Addr} {o:HO}
theorem Un.any (u:Un fs ex H H1 h h1) {b:Addr} {ob:Obj} (q:h.get? b=some ob) (n:H b=none) (hx:b ∉ ex):∃ sl,h1.get? b=some { ob with slots:=sl }:=by
 by_cases hb:b∈fs
 ·exact u.slot b ob q n hb hx
 ·exact ⟨ob.slots,u.keep b ob q n hb hx⟩
theorem Un.kept (k:∀ b u,h.get? b=some u→h'.get? b=some u):Un fs ex H H h h' :=
 ⟨fun b ob q _ _ _=>k b ob q,fun b ob q _ _ _=>⟨ob.slots,k b ob q⟩,fun _ _ _ n _=>n,fun b ob q _=>⟨ob,k b ob q⟩,fun _ _ q=>q,fun _ _ _ q=>q,fun _ ps q=>⟨#[],by rw [q];simp⟩⟩
theorem Un.refl:Un fs ex H H h h:=Un.kept fun _ _ q=>q
theorem Un.laid (k:∀ b u,h.get? b=some u→h'.get? b=some u) (hp:h.objs.size≤a) (hn:H a=none):Un fs ex H (upd H a o) h h' where
 keep:=fun b u q _ _ _=>k b u q
 slot:=fun b u q _ _ _=>⟨u.slots,k b u q⟩
 free:=fun b u q n _=>by rw [aK (Nat.ne_of_lt (Nat.lt_of_lt_of_le (Heap.lt_size q) hp))];exact n
 there:=fun b u q _=>⟨u,k b u q⟩
 tups:=fun b xs q=>by rw [aK (bE q hn)];exact q
 frzs:=fun b u xs q=>by rw [aK (bE q hn)];exact q
 tbls:=fun b ps q=>⟨#[],by rw [aK (bE q hn),q];simp⟩
theorem Un.write (mu:PR (H x)) (he:e=x∨H e=some (.own x)) (k:∀ b u,b≠e→h.get? b=some u→h'.get? b=some u) (heo:∃ u,h'.get? e=some u):Un fs ex H (upd H x o) h h':=by
 have hx:∀ b,H b=none→b≠x:=fun b n z=>by subst z;rw [n] at mu;exact mu
 have hb:∀ b,H b=none→b≠e:=fun b n z=>by
  subst z
  rcases he with r | r
  ·exact hx b n r
  ·rw [n] at r;cases r
 have hm:∀ b u,H b=some u→¬ PR (some u)→b≠x:=fun b u q nm z=>by subst z;rw [q] at mu;exact nm mu
 refine ⟨fun b u q n _ _=>k b u (hb b n) q,fun b u q n _ _=>⟨u.slots,k b u (hb b n) q⟩,fun b u q n _=>by rw [aK (hx b n)];exact n,fun b u q _=>?_,
  fun b xs q=>by rw [aK (hm b _ q fun z=>z)];exact q,fun b u xs q=>by rw [aK (hm b _ q fun z=>z)];exact q,fun b ps q=>⟨#[],by rw [aK (hm b _ q fun z=>z),q];simp⟩⟩
 by_cases hbe:b=e
 ·subst hbe;exact heo
 ·exact ⟨u,k b u hbe q⟩
end
def Qb (h:Heap) (H:Hp):List Addr:=(List.range h.objs.size).filter fun a=>(H a).isSome
def tR (h:Heap) (H:Hp):Heap:=PySem.W.hideAll h (Qb h H)
theorem CV (h:Heap) (H:Hp):(tR h H).objs.size=h.objs.size:=PySem.W.hideAll_size _ _
theorem EG {h:Heap} {H:Hp} {b:Addr} {o:Obj} (e:h.get? b=some o) (n:H b=none):(tR h H).get? b=some o :=
 PySem.W.hideAll_get _ e fun hm=>by
  have q:(H b).isSome=true:=(List.mem_filter.mp hm).2
  rw [n] at q;simp at q
theorem HX {h:Heap} {H:Hp} {b:Addr} {o:Obj} (e:(tR h H).get? b=some o):h.get? b=some o∧H b=none:=by
 have e':h.get? b=some o:=PySem.W.of_hideAll (Qb h H) e
 refine ⟨e',?_⟩
 cases q:H b with
 | none=>rfl
 | some x =>
  have hm:b∈Qb h H:=List.mem_filter.mpr ⟨List.mem_range.mpr (Heap.lt_size e'),by simp [q]⟩
  have z:(tR h H).get? b=none:=PySem.W.hideAll_none (Qb h H) hm
  rw [z] at e;cases e
def G9 (g h:Heap) (L:Addr):List (Addr × Obj):=(List.range h.objs.size).filterMap fun a=>if a=L∨(g.get? a).isSome=true then none else (h.get? a).map fun o=>(a,o)
def rest (g h:Heap) (L d:Addr):List (Addr × Obj):=(G9 g h L).filter fun p=>decide (p.1≠d)
end L2
namespace L2
open PySem PySem.Spec PyProof.Rows
structure Mod (K:PySem.W.Frag) (mg:Str→Option Value) (base:Heap):Prop where
 kin:K.In base
 glob:base.Ns mainGlobals mg
 blt:∃ mb,base.Ns builtinsNs mb∧∀ x:Str,x≠"__name__"→mb x=bootBuiltins x
 nolimit:base.NoLimit
structure Cx where
 prog:Program
 w:World
 K:PySem.W.Frag
 mg:Str→Option Value
 base:Heap
 A:Around
 N:List Str
 s₀:Shared
 H₀:Hp
 env:Env
 outer:List Env
 stack:List Env
 ex:List Addr
 fn:Str→Bool
 calm:Bool
 pn:List (Addr × Obj)
 xe:Value→Shared→Prop
def kB (l:List Env):List Addr:=l.filterMap (·.frame)
abbrev Cx.fs (X:Cx):List Addr:=kB X.outer
def xA (sc:Scope) (x:Str):Prop:=sc.names.lookup x=some .local∨sc.names.lookup x=some .cell∨sc.names.lookup x=some .free
def Loc (sc:Scope) (x:Str):Prop:=sc.names.lookup x=some .local∨sc.names.lookup x=some .cell
def Look (env:Env) (h:Heap) (m:Str→Option Value) (x:Str) (u:Value):Prop :=
 (env.kindOf x=some .local∧m x=some u)∨((env.kindOf x=some .cell∨env.kindOf x=some .free)∧∃ c,env.cells.lookup x=some c∧h.IsCell c (some u))
structure Cx.Ok (X:Cx):Prop where
 mod:Mod X.K X.mg X.base
 kind:X.env.scope.kind=.function
 glob:X.env.globals=mainGlobals
 blt:X.env.builtins=builtinsNs
 above:X.s₀.heap.objs.size≤X.env.locals
 inj:∀ x y c,X.env.cells.lookup x=some c→X.env.cells.lookup y=some c→x=y
 has:∀ x,(X.env.kindOf x=some .cell∨X.env.kindOf x=some .free)→∃ c,X.env.cells.lookup x=some c
 cab:∀ x c,X.fn x=true→X.env.cells.lookup x=some c→X.s₀.heap.objs.size≤c
 hd:X.calm=true→X.A.handled=none
 frames:X.A.frames=some X.stack
 stk:X.stack=X.outer∨(X.stack=X.env :: X.outer∧X.env.frame=some X.env.locals)
 exf:∀ b∈X.ex,b≠X.env.locals∧∀ x c,X.env.cells.lookup x=some c→c≠b
 bs:∀ b o,X.base.get? b=some o→X.s₀.heap.get? b=some o∧X.H₀ b=none
 bsz:X.base.objs.size≤X.s₀.heap.objs.size
 noex:∀ b o,X.base.get? b=some o→b ∉ X.ex
 exfs:∀ b∈X.ex,b ∉ X.fs
 mV:X.s₀.heap.FunFrames X.base X.outer
 frf:∀ b∈X.fs,X.H₀ b=none
structure Inv (X:Cx) (pins:List (Addr × Obj)) (σ:List (Option V)) (H:Hp) (s:Shared):Prop where
 ok:X.Ok
 os:s.os=X.s₀.os
 bare:AllBare s.gens
 base:Un X.fs X.ex X.H₀ H X.s₀.heap s.heap
 loc:∃ m,s.heap.Ns X.env.locals m∧∀ (i:Nat) (x:Str) (v:V),X.N[i]?=some x→σ[i]?=some (some v)→xA X.env.scope x→∃ u,RelV v u∧Look X.env s.heap m x u
 cell:∀ x c,X.env.cells.lookup x=some c→∃ v,s.heap.IsCell c v
 free:H X.env.locals=none
 freeC:∀ x c,X.env.cells.lookup x=some c→H c=none
 pin:∀ p∈X.pn ++ pins,s.heap.get? p.1=some p.2∧H p.1=none∧p.1≠X.env.locals∧p.1 ∉ X.fs∧∀ v,p.2.data≠.cell v
 hok:nq X.prog X.w H s.heap
 len:σ.length=X.N.length
section
variable {X:Cx} {pins:List (Addr × Obj)} {σ:List (Option V)} {H H':Hp} {s:Shared} {h':Heap}
theorem Cx.Ok.Q5 (ok:X.Ok) {b:Addr} {o:Obj} (e:X.base.get? b=some o):b ∉ X.fs:=fun hb=>by
 have:=(ok.mV.mem hb).1
 rw [e] at this;cases this
theorem Inv.bs (I:Inv X pins σ H s):∀ b o,X.base.get? b=some o→s.heap.get? b=some o∧H b=none:=fun b o e =>
 ⟨I.base.keep b o (I.ok.bs b o e).1 (I.ok.bs b o e).2 (I.ok.Q5 e) (I.ok.noex b o e),I.base.free b o (I.ok.bs b o e).1 (I.ok.bs b o e).2 (I.ok.noex b o e)⟩
theorem Inv.bk (I:Inv X pins σ H s):∀ b o,X.base.get? b=some o→s.heap.get? b=some o:=fun b o e=>(I.bs b o e).1
theorem Inv.mod (I:Inv X pins σ H s):Mod X.K X.mg X.base:=I.ok.mod
theorem Inv.mY (I:Inv X pins σ H s):X.K.In s.heap:=I.ok.mod.kin.keeps I.bk
theorem Inv.nolimit (I:Inv X pins σ H s):s.heap.NoLimit:=I.ok.mod.nolimit.keeps I.bk
theorem Inv.fr (I:Inv X pins σ H s):∃ m,Fr X.base X.env.locals s.heap m :=
 let ⟨m,hn,_⟩:=I.loc
 ⟨m,hn,I.bk,Nat.le_trans I.ok.bsz I.ok.above⟩
theorem Inv.lt (I:Inv X pins σ H s):X.env.locals < s.heap.objs.size:=let ⟨_,hn,_⟩:=I.loc;hn.lt
theorem Inv.sz (I:Inv X pins σ H s):X.s₀.heap.objs.size≤s.heap.objs.size:=Nat.le_trans I.ok.above (Nat.le_of_lt I.lt)
theorem Inv.Q6 (I:Inv X pins σ H s) {a:Addr} (h:s.heap.objs.size≤a):a ∉ X.fs:=fun hb=>by
 obtain ⟨_,o,ho,_⟩:=I.ok.mV.mem hb
 exact absurd (Nat.lt_of_lt_of_le (Heap.lt_size ho) (Nat.le_trans I.sz h)) (Nat.lt_irrefl _)
theorem Inv.Hd (I:Inv X pins σ H s):∀ x c,X.env.cells.lookup x=some c→c≠X.env.locals:=fun x c e z=>by
 obtain ⟨v,o,ho,hd⟩:=I.cell x c e
 obtain ⟨m,⟨o',es,ep,ho',hd',_⟩,_⟩:=I.loc
 rw [z,ho'] at ho;cases ho;rw [hd'] at hd;cases hd
theorem Inv.mV (I:Inv X pins σ H s):s.heap.FunFrames X.base X.outer:=by
 have all:∀ (l:List Env),(∀ b∈kB l,b∈X.fs)→X.s₀.heap.FunFrames X.base l→s.heap.FunFrames X.base l:=by
  intro l
  induction l with
  | nil=>intro _ _;trivial
  | cons env r ih =>
   intro hs hl
   obtain ⟨hk,⟨L,o,hf,hn,ho,hd⟩,hr⟩:=hl
   have hL:L∈X.fs:=hs L (by unfold kB;rw [List.filterMap_cons,hf];exact List.mem_cons_self)
   obtain ⟨sl,e⟩:=I.base.slot L o ho (I.ok.frf L hL) hL fun z=>I.ok.exfs L z hL
   exact ⟨hk,⟨L,_,hf,hn,e,hd⟩,ih (fun b hb=>hs b (by unfold kB;rw [List.filterMap_cons,hf];exact List.mem_cons_of_mem _ hb)) hr⟩
 exact all X.outer (fun _ hb=>hb) I.ok.mV
theorem Inv.stack (I:Inv X pins σ H s):s.heap.FunFrames X.base X.stack:=by
 rcases I.ok.stk with e | ⟨e,hf⟩
 ·rw [e];exact I.mV
 ·rw [e]
  obtain ⟨m,hn,_⟩:=I.loc
  refine .cons (by rw [I.ok.kind];decide) hf hn ?_ I.mV
  exact Heap.get?_none_of_le (Nat.le_trans I.ok.bsz I.ok.above)
theorem Inv.nh (I:Inv X pins σ H s):∀ b∈kB X.stack,b∈X.env.locals :: X.fs:=fun b hb=>by
 rcases I.ok.stk with e | ⟨e,hf⟩
 ·rw [e] at hb;exact List.mem_cons_of_mem _ hb
 ·rw [e] at hb
  unfold kB at hb
  rw [List.filterMap_cons,hf] at hb
  exact hb
theorem Inv.xf (I:Inv X pins σ H s):∀ b∈kB X.stack,H b=none:=fun b hb=>by
 rcases List.mem_cons.mp (I.nh b hb) with e | hb
 ·rw [e];exact I.free
 ·obtain ⟨_,o,ho,_⟩:=I.ok.mV.mem hb
  exact I.base.free b o ho (I.ok.frf b hb) fun z=>I.ok.exfs b z hb
theorem Inv.step {g':Array GenState} {t':Nat} {d':Drawn} {ch:List Addr} (I:Inv X pins σ H s)
  (hch:∀ b∈ch,(b∈X.ex∨X.s₀.heap.objs.size≤b)∧b≠X.env.locals∧(∀ x c,X.env.cells.lookup x=some c→c≠b)∧∀ p∈X.pn ++ pins,p.1≠b)
  (keep:∀ b o,b≠X.env.locals→b ∉ X.fs→b ∉ ch→s.heap.get? b=some o→H b=none→h'.get? b=some o)
  (slot:∀ b o,b≠X.env.locals→b∈X.fs→b ∉ ch→s.heap.get? b=some o→H b=none→∃ sl,h'.get? b=some { o with slots:=sl }) (free:∀ b o,b ∉ ch→s.heap.get? b=some o→H b=none→H' b=none)
  (there:∀ b o,b ∉ ch→s.heap.get? b=some o→∃ o',h'.get? b=some o')
  (tups:∀ b xs,H b=some (.tup xs)→H' b=some (.tup xs)) (frzs:∀ b o u,H b=some (.rQ o u)→H' b=some (.rQ o u)) (tbls:∀ b ps,H b=some (.tbl ps)→∃ more,H' b=some (.tbl (ps ++ more)))
  (ns:∀ m,s.heap.Ns X.env.locals m→h'.Ns X.env.locals m) (hok:nq X.prog X.w H' h') (hg:AllBare g') :
  Inv X pins σ H' { s with heap:=h',gens:=g',drawn:=d',toks:=t' }:=by
 have neL:∀ b o,X.s₀.heap.get? b=some o→b≠X.env.locals:=fun b o e=>Nat.ne_of_lt (Nat.lt_of_lt_of_le (Heap.lt_size e) I.ok.above)
 have neC:∀ b o,X.s₀.heap.get? b=some o→b ∉ X.ex→b ∉ ch:=fun b o e hx hb=>by
  rcases (hch b hb).1 with z | z
  ·exact hx z
  ·exact absurd (Nat.lt_of_lt_of_le (Heap.lt_size e) z) (Nat.lt_irrefl _)
 have cellK:∀ x c,X.env.cells.lookup x=some c→∀ v,s.heap.IsCell c v→h'.IsCell c v:=fun x c e v ⟨o,ho,hd⟩=>by
  have nch:c ∉ ch:=fun z=>(hch c z).2.2.1 x c e rfl
  by_cases hc:c∈X.fs
  ·obtain ⟨sl,q⟩:=slot c o (I.Hd x c e) hc nch ho (I.freeC x c e)
   exact ⟨_,q,hd⟩
  ·exact ⟨o,keep c o (I.Hd x c e) hc nch ho (I.freeC x c e),hd⟩
 refine ⟨I.ok,I.os,hg,⟨fun b o e n hb hx=>?_,fun b o e n hb hx=>?_,fun b o e n hx=>?_,fun b o e hx=>?_,fun b xs e=>tups b xs (I.base.tups b xs e),fun b o xs e=>frzs b o xs (I.base.frzs b o xs e),fun b ps e=>?_⟩,?_,fun x c e=>?_,?_,fun x c e=>?_,fun p hp=>?_,hok,I.len⟩
 ·exact keep b o (neL b o e) hb (neC b o e hx) (I.base.keep b o e n hb hx) (I.base.free b o e n hx)
 ·obtain ⟨sl,e1⟩:=I.base.slot b o e n hb hx
  obtain ⟨sl',e2⟩:=slot b _ (neL b o e) hb (neC b o e hx) e1 (I.base.free b o e n hx)
  exact ⟨sl',e2⟩
 ·obtain ⟨o',e1⟩:=I.base.there b o e hx
  exact free b o' (neC b o e hx) e1 (I.base.free b o e n hx)
 ·obtain ⟨o',e1⟩:=I.base.there b o e hx
  exact there b o' (neC b o e hx) e1
 ·obtain ⟨m1,e1⟩:=I.base.tbls b ps e
  obtain ⟨m2,e2⟩:=tbls b _ e1
  exact ⟨m1 ++ m2,by rw [e2,Array.append_assoc]⟩
 ·obtain ⟨m,hn,hl⟩:=I.loc
  refine ⟨m,ns m hn,fun i x v e1 e2 e3=>?_⟩
  obtain ⟨u,r,l⟩:=hl i x v e1 e2 e3
  refine ⟨u,r,?_⟩
  rcases l with l | ⟨k,c,e,z⟩
  ·exact .inl l
  ·exact .inr ⟨k,c,e,cellK x c e _ z⟩
 ·obtain ⟨v,z⟩:=I.cell x c e
  exact ⟨v,cellK x c e v z⟩
 ·obtain ⟨m,⟨o,_,_,ho,_⟩,_⟩:=I.loc
  exact free _ o (fun z=>(hch _ z).2.1 rfl) ho I.free
 ·obtain ⟨v,o,ho,hd⟩:=I.cell x c e
  exact free c o (fun z=>(hch c z).2.2.1 x c e rfl) ho (I.freeC x c e)
 ·obtain ⟨e,n,ne,nf,d⟩:=I.pin p hp
  have nch:p.1 ∉ ch:=fun z=>(hch p.1 z).2.2.2 p hp rfl
  exact ⟨keep p.1 p.2 ne nf nch e n,free p.1 p.2 nch e n,ne,nf,d⟩
theorem Inv.un {t':Nat} (I:Inv X pins σ H s) (u:Un X.fs [] H H' s.heap h') (hok:nq X.prog X.w H' h'):Inv X pins σ H' { s with heap:=h',toks:=t' }:=by
 obtain ⟨m,⟨o,es,ep,ho,r⟩,_⟩:=id I.loc
 obtain ⟨sl,hL⟩:=u.any ho I.free (by simp)
 exact I.step (g':=s.gens) (d':=s.drawn) (ch:=[]) (fun _ z=>nomatch z) (fun b o _ hb _ e n=>u.keep b o e n hb (by simp)) (fun b o _ hb _ e n=>u.slot b o e n hb (by simp)) (fun b o _ e n=>u.free b o e n (by simp)) (fun b o _ e=>u.there b o e (by simp)) u.tups u.frzs u.tbls (fun m' hm=>by
  obtain ⟨o',es',ep',ho',r'⟩:=hm
  rw [ho] at ho';cases ho'
  exact ⟨_,es',ep',hL,r'⟩) hok I.bare
theorem Inv.call {g':Array GenState} {t':Nat} {d':Drawn} {ch:List Addr} (I:Inv X pins σ H s) (u:Un (kB X.stack) ch H H' s.heap h') (hok:nq X.prog X.w H' h') (hg:AllBare g')
  (hch:∀ b∈ch,(b∈X.ex∨X.s₀.heap.objs.size≤b)∧b≠X.env.locals∧(∀ x c,X.env.cells.lookup x=some c→c≠b)∧∀ p∈X.pn ++ pins,p.1≠b) :
  Inv X pins σ H' { s with heap:=h',gens:=g',drawn:=d',toks:=t' }:=by
 obtain ⟨m,⟨o,es,ep,ho,r⟩,_⟩:=id I.loc
 obtain ⟨sl,hL⟩:=u.any ho I.free fun z=>(hch _ z).2.1 rfl
 exact I.step (ch:=ch) hch (fun b o hL hb hc e n=>u.keep b o e n (fun z=>(List.mem_cons.mp (I.nh b z)).elim hL hb) hc) (fun b o _ _ hc e n=>u.any e n hc) (fun b o hc e n=>u.free b o e n hc) (fun b o hc e=>u.there b o e hc) u.tups u.frzs u.tbls (fun m' hm=>by
  obtain ⟨o',es',ep',ho',r'⟩:=hm
  rw [ho] at ho';cases ho'
  exact ⟨_,es',ep',hL,r'⟩) hok hg
theorem Inv.turned {t':Nat} {it:Addr} (I:Inv X pins σ H s) (k:∀ b o,b≠it→s.heap.get? b=some o→h'.get? b=some o) (hn:H it=none) (hL:it≠X.env.locals)
  (h1:it∈X.ex∨X.s₀.heap.objs.size≤it) (h2:∀ x c,X.env.cells.lookup x=some c→c≠it) (h3:∀ p∈X.pn ++ pins,p.1≠it):Inv X pins σ H { s with heap:=h',toks:=t' }:=by
 have nit:∀ b u,H b=some u→b≠it:=fun b u e z=>by rw [z,hn] at e;cases e
 refine I.step (g':=s.gens) (d':=s.drawn) (ch:=[it]) (fun b hb=>?_) (fun b o _ _ hc e _=>k b o (fun z=>hc (by simp [z])) e) (fun b o _ _ hc e _=>⟨o.slots,k b o (fun z=>hc (by simp [z])) e⟩) (fun _ _ _ _ n=>n)
  (fun b o hc e=>⟨o,k b o (fun z=>hc (by simp [z])) e⟩) (fun _ _ e=>e) (fun _ _ _ e=>e) (fun b ps e=>⟨#[],by rw [e];simp⟩) (fun m hm=>?_) (fun b u e=>?_) I.bare
 ·have e:b=it:=by simpa using hb
  subst e
  exact ⟨h1,hL,h2,h3⟩
 ·obtain ⟨o,es,ep,ho,r⟩:=hm
  exact ⟨o,es,ep,k _ o (Ne.symm hL) ho,r⟩
 ·refine (I.hok b u e).pZ (fun c v hc q=>k c v ?_ q) (fun _ q=>q) fun _ _ q=>q
  rcases hc with z | z
  ·rw [z];exact nit b u e
  ·exact nit c _ z
theorem Inv.tok (I:Inv X pins σ H s) (t:Nat):Inv X pins σ H { s with toks:=t }:=I.un (h':=s.heap) (t':=t) Un.refl I.hok
theorem Inv.kept {t':Nat} (I:Inv X pins σ H s) (k:∀ b u,s.heap.get? b=some u→h'.get? b=some u):Inv X pins σ H { s with heap:=h',toks:=t' }:=I.un (Un.kept k) (I.hok.kept k)
theorem Inv.laid {a:Addr} {o:HO} {t':Nat} (I:Inv X pins σ H s) (k:∀ b u,s.heap.get? b=some u→h'.get? b=some u) (hp:s.heap.objs.size≤a) (new:dy X.prog X.w (upd H a o) h' a o) :
  Inv X pins σ (upd H a o) { s with heap:=h',toks:=t' }:=I.un (Un.laid k hp (I.hok.fresh hp)) (I.hok.laid k hp new)
theorem Inv.write {x e:Addr} {o:HO} {t':Nat} (I:Inv X pins σ H s) (mu:PR (H x)) (he:e=x∨H e=some (.own x)) (k:∀ b u,b≠e→s.heap.get? b=some u→h'.get? b=some u) (heo:∃ u,h'.get? e=some u)
  (new:dy X.prog X.w (upd H x o) h' x o):Inv X pins σ (upd H x o) { s with heap:=h',toks:=t' }:=I.un (Un.write mu he k heo) (I.hok.write mu he k heo new)
theorem Inv.weak {σ':List (Option V)} (I:Inv X pins σ H s) (hl:σ'.length=σ.length) (w:∀ (i:Nat) v,σ'[i]?=some (some v)→σ[i]?=some (some v)):Inv X pins σ' H s :=
 ⟨I.ok,I.os,I.bare,I.base,let ⟨m,hn,hl'⟩:=I.loc;⟨m,hn,fun i x v e1 e2 e3=>hl' i x v e1 (w i v e2) e3⟩,I.cell,I.free,I.freeC,I.pin,I.hok,hl.trans I.len⟩
theorem Inv.BK {pins':List (Addr × Obj)} (I:Inv X pins σ H s) (h:∀ p∈pins',s.heap.get? p.1=some p.2∧H p.1=none∧p.1≠X.env.locals∧p.1 ∉ X.fs∧∀ v,p.2.data≠.cell v):Inv X pins' σ H s :=
 ⟨I.ok,I.os,I.bare,I.base,I.loc,I.cell,I.free,I.freeC,fun p hp=>(List.mem_append.mp hp).elim (fun z=>I.pin p (List.mem_append_left _ z)) (h p),I.hok,I.len⟩
theorem sh {N:List Str} (hN:N.Nodup) {i j:Nat} {x:Str} (a:N[i]?=some x) (b:N[j]?=some x):i=j:=by
 obtain ⟨h1,e1⟩:=List.getElem?_eq_some_iff.mp a
 obtain ⟨h2,e2⟩:=List.getElem?_eq_some_iff.mp b
 exact (List.getElem_inj hN).mp (e1.trans e2.symm)
theorem p5 {M:Model} {A:Around} {E:Value→Shared→Prop} {i:Nat} {x:Str} {v:V} {u:Value} {Q:Unit→Shared→Prop} (I:Inv X pins σ H s) (hN:X.N.Nodup) (hi:X.N[i]?=some x) (hx:Loc X.env.scope x) (r:RelV v u)
  (h:∀ s',Inv X pins (σ.set i (some v)) H s'→(∃ a,Heap.SameBut a s.heap s'.heap∧(a=X.env.locals∨X.env.cells.lookup x=some a))→Q () s') (hf:X.fn x=true∨X.env.scope.names.lookup x=some .local:=by first | exact .inl rfl | exact .inr rfl | assumption):wpAny M A (storeName X.env x u) Q E s:=by
 obtain ⟨m,hn,hl⟩:=id I.loc
 have hcls:(X.env.scope.kind == .class || (X.env.scope.kind == .module && X.env.locals != X.env.globals))=false:=by rw [I.ok.kind];rfl
 have hiσ:i < σ.length:=by rw [I.len];exact (List.getElem?_eq_some_iff.mp hi).1
 have Hd:=I.Hd
 have tracked:∀ {a:Addr} {h':Heap},(∃ o,s.heap.get? a=some o∧H a=none)→Heap.SameBut a s.heap h'→nq X.prog X.w H h':=fun {a h'} ha hs b ob e=>by
  obtain ⟨_,_,hfree⟩:=ha
  refine (I.hok b ob e).pZ (fun c w' hc q=>(hs.2 c ?_).trans q) (fun _ q=>q) fun _ _ q=>q
  rintro rfl
  rcases hc with rfl | hc
  ·rw [hfree] at e;cases e
  ·rw [hfree] at hc;cases hc
 rcases hx with hk | hk
 ·refine wpAny_storeName_local hk hn (fun h' hn' hs=>?_) hcls
  obtain ⟨oL,_,_,hoL,_⟩:=id hn
  refine h _ ⟨I.ok,I.os,I.bare,⟨fun b o e n hb hx=>?_,fun b o e n hb hx=>?_,I.base.free,fun b o e hx=>?_,I.base.tups,I.base.frzs,I.base.tbls⟩,⟨_,hn',fun j y v' e1 e2 e3=>?_⟩,fun y c e=>?_,I.free,I.freeC,fun p hp=>?_,tracked ⟨oL,hoL,I.free⟩ hs,by simpa using I.len⟩ ⟨_,hs,.inl rfl⟩
  ·exact (hs.2 b (Nat.ne_of_lt (Nat.lt_of_lt_of_le (Heap.lt_size e) I.ok.above))).trans (I.base.keep b o e n hb hx)
  ·obtain ⟨sl,e1⟩:=I.base.slot b o e n hb hx
   exact ⟨sl,(hs.2 b (Nat.ne_of_lt (Nat.lt_of_lt_of_le (Heap.lt_size e) I.ok.above))).trans e1⟩
  ·obtain ⟨o',e1⟩:=I.base.there b o e hx
   exact ⟨o',(hs.2 b (Nat.ne_of_lt (Nat.lt_of_lt_of_le (Heap.lt_size e) I.ok.above))).trans e1⟩
  ·by_cases hj:j=i
   ·subst hj
    rw [hi] at e1;cases e1
    rw [List.getElem?_set_self hiσ] at e2
    cases e2
    exact ⟨u,r,.inl ⟨hk,by simp⟩⟩
   ·rw [List.getElem?_set_ne (Ne.symm hj)] at e2
    obtain ⟨u',r',q⟩:=hl j y v' e1 e2 e3
    refine ⟨u',r',?_⟩
    rcases q with ⟨k,e⟩ | ⟨k,c,e,z⟩
    ·refine .inl ⟨k,?_⟩
     have:y≠x:=fun e=>hj (sh hN e1 (e ▸ hi))
     simp [this,e]
    ·exact .inr ⟨k,c,e,z.sameBut hs (Hd y c e)⟩
  ·obtain ⟨w',z⟩:=I.cell y c e
   exact ⟨w',z.sameBut hs (Hd y c e)⟩
  ·obtain ⟨e,n,ne,nf,d⟩:=I.pin p hp
   exact ⟨(hs.2 p.1 ne).trans e,n,ne,nf,d⟩
 ·have hfn:X.fn x=true:=by
   rcases hf with z | z
   ·exact z
   ·rw [z] at hk;cases hk
  obtain ⟨c,hc⟩:=I.ok.has x (.inl hk)
  obtain ⟨w',z⟩:=I.cell x c hc
  refine wpAny_storeName_cell I.ok.kind hk hc z (fun h' hc' hs=>?_)
  obtain ⟨oc,hoc,hocd⟩:=id z
  refine h { s with heap:=h' } ⟨I.ok,I.os,I.bare,⟨fun b o e n hb hx=>?_,fun b o e n hb hx=>?_,I.base.free,fun b o e hx=>?_,I.base.tups,I.base.frzs,I.base.tbls⟩,⟨m,hn.sameBut hs (Ne.symm (Hd x c hc)),fun j y v' e1 e2 e3=>?_⟩,fun y c' e=>?_,I.free,I.freeC,fun p hp=>?_,tracked ⟨oc,hoc,I.freeC x c hc⟩ hs,by simpa using I.len⟩ ⟨c,hs,.inr hc⟩
  ·exact (hs.2 b (Nat.ne_of_lt (Nat.lt_of_lt_of_le (Heap.lt_size e) (I.ok.cab x c hfn hc)))).trans (I.base.keep b o e n hb hx)
  ·obtain ⟨sl,e1⟩:=I.base.slot b o e n hb hx
   exact ⟨sl,(hs.2 b (Nat.ne_of_lt (Nat.lt_of_lt_of_le (Heap.lt_size e) (I.ok.cab x c hfn hc)))).trans e1⟩
  ·obtain ⟨o',e1⟩:=I.base.there b o e hx
   exact ⟨o',(hs.2 b (Nat.ne_of_lt (Nat.lt_of_lt_of_le (Heap.lt_size e) (I.ok.cab x c hfn hc)))).trans e1⟩
  ·by_cases hj:j=i
   ·subst hj
    rw [hi] at e1;cases e1
    rw [List.getElem?_set_self hiσ] at e2
    cases e2
    exact ⟨u,r,.inr ⟨.inl hk,c,hc,hc'⟩⟩
   ·rw [List.getElem?_set_ne (Ne.symm hj)] at e2
    obtain ⟨u',r',q⟩:=hl j y v' e1 e2 e3
    refine ⟨u',r',?_⟩
    rcases q with q | ⟨k,c',e,z'⟩
    ·exact .inl q
    ·refine .inr ⟨k,c',e,z'.sameBut hs ?_⟩
     rintro rfl
     exact hj (sh hN e1 (I.ok.inj _ _ _ e hc ▸ hi))
  ·by_cases hcc:c'=c
   ·subst hcc;exact ⟨_,hc'⟩
   ·obtain ⟨w2,z2⟩:=I.cell y c' e
    exact ⟨w2,z2.sameBut hs hcc⟩
  ·obtain ⟨e,n,ne,nf,d⟩:=I.pin p hp
   refine ⟨(hs.2 p.1 ?_).trans e,n,ne,nf,d⟩
   intro q
   rw [q,hoc] at e
   have q':oc=p.2:=Option.some.inj e
   exact d w' (by rw [← q'];exact hocd)
theorem fm {M:Model} {A:Around} {E:Value→Shared→Prop} {i:Nat} {x:Str} {v:V} {u:Value} {Q:Unit→Shared→Prop} (I:Inv X pins σ H s) (hN:X.N.Nodup) (hi:X.N[i]?=some x) (hx:Loc X.env.scope x) (r:RelV v u)
  (h:∀ s',Inv X pins (σ.set i (some v)) H s'→Q () s') (hf:X.fn x=true∨X.env.scope.names.lookup x=some .local:=by first | exact .inl rfl | exact .inr rfl | assumption):wpAny M A (storeName X.env x u) Q E s :=
 p5 I hN hi hx r (fun s' I' _=>h s' I') hf
theorem Inv.Ei {s':Shared} {ch:List Addr} (I:Inv X pins σ H s) (ho:s'.os=s.os) (u:Un (kB X.stack) ch H H' s.heap s'.heap) (hok:nq X.prog X.w H' s'.heap) (hg:AllBare s'.gens)
  (hch:∀ b∈ch,(b∈X.ex∨X.s₀.heap.objs.size≤b)∧b≠X.env.locals∧(∀ x c,X.env.cells.lookup x=some c→c≠b)∧∀ p∈X.pn ++ pins,p.1≠b):Inv X pins σ H' s':=by
 obtain ⟨h',g',d',t',o'⟩:=s'
 have e:o'=s.os:=ho
 subst e
 exact I.call (g':=g') (t':=t') (d':=d') u hok hg hch
end
abbrev XK:=Value→Option Addr→Hp→Prop
abbrev St:=List (Option V)
abbrev VK:=V→Hp→Prop
abbrev TE:=St→Hp→VK→Prop
abbrev TT:=St→Hp→(Bool→Hp→Prop)→Prop
abbrev TA:=St→Hp→(List V→Hp→Prop)→Prop
structure Ends where
 nx:St→Hp→Prop
 rt:VK
 bk:St→Hp→Prop:=fun _ _=>False
 ct:St→Hp→Prop:=fun _ _=>False
abbrev TS:=Ends→St→Hp→Prop
def EP (X:Cx) (pins:List (Addr × Obj)) (σ:St) (Q:VK) (u:Value) (s':Shared):Prop:=∃ v H',Inv X pins σ H' s'∧RelV v u∧Q v H'
def TP (X:Cx) (pins:List (Addr × Obj)) (σ:St) (Q:Bool→Hp→Prop) (b:Bool) (s':Shared):Prop:=∃ H',Inv X pins σ H' s'∧Q b H'
def AP (X:Cx) (pins:List (Addr × Obj)) (σ:St) (Q:List V→Hp→Prop) (us:List Value) (s':Shared):Prop:=∃ vs H',Inv X pins σ H' s'∧Vals vs us∧Q vs H'
def SP (X:Cx) (pins:List (Addr × Obj)) (D:Ends) (f:Flow) (s':Shared):Prop :=
 match f with
 | .next=>∃ σ' H',Inv X pins σ' H' s'∧D.nx σ' H'
 | .brk=>∃ σ' H',Inv X pins σ' H' s'∧D.bk σ' H'
 | .cont=>∃ σ' H',Inv X pins σ' H' s'∧D.ct σ' H'
 | .ret u=>∃ v σ' H',Inv X pins σ' H' s'∧RelV v u∧D.rt v H'
def PE (X:Cx) (e:Expr) (t:TE):Prop :=
 ∀ (pins:List (Addr × Obj)) (s:Shared) (σ:St) (H:Hp) (Q:VK),Inv X pins σ H s→t σ H Q→wpAny (model X.prog X.w) X.A (eval e X.env) (EP X pins σ Q) X.xe s
def PT (X:Cx) (e:Expr) (t:TT):Prop :=
 ∀ (pins:List (Addr × Obj)) (s:Shared) (σ:St) (H:Hp) (Q:Bool→Hp→Prop),Inv X pins σ H s→t σ H Q→wpAny (model X.prog X.w) X.A (isTrue e X.env (eval e X.env)) (TP X pins σ Q) X.xe s
def PW (X:Cx) (e:Expr) (t:TT):Prop :=
 ∀ (whole:Sem Value) (pins:List (Addr × Obj)) (s:Shared) (σ:St) (H:Hp) (Q:Bool→Hp→Prop),Inv X pins σ H s→t σ H Q→wpAny (model X.prog X.w) X.A (isTrue e X.env whole) (TP X pins σ Q) X.xe s
theorem PW.pt {X:Cx} {e:Expr} {t:TT} (h:PW X e t):PT X e t:=h _
def PA (X:Cx) (es:List Expr) (t:TA):Prop :=
 ∀ (pos:Pos) (pins:List (Addr × Obj)) (s:Shared) (σ:St) (H:Hp) (Q:List V→Hp→Prop),Inv X pins σ H s→t σ H Q→wpAny (model X.prog X.w) X.A (spliced (backTo pos (starEach es X.env))) (AP X pins σ Q) X.xe s
def PS (X:Cx) (st:Stmt) (t:TS):Prop :=
 ∀ (pins:List (Addr × Obj)) (s:Shared) (σ:St) (H:Hp) (D:Ends),Inv X pins σ H s→t D σ H→wpAny (model X.prog X.w) X.A (exec st X.env) (SP X pins D) X.xe s
def tE (X:Cx) (st:List Stmt) (t:TS):Prop :=
 ∀ (pins:List (Addr × Obj)) (s:Shared) (σ:St) (H:Hp) (D:Ends),Inv X pins σ H s→t D σ H→wpAny (model X.prog X.w) X.A (execs st X.env) (SP X pins D) X.xe s
theorem cg {α:Type} {t:Sem α} {Q Q':α→Shared→Prop} {M:Model} {A:Around} {E:Value→Shared→Prop} {s:Shared} (h:wpAny M A t Q E s) (hQ:∀ a s,Q a s→Q' a s):wpAny M A t Q' E s:=wpAny_mono h hQ fun _ _ x=>x
end L2
namespace L2
open PySem PySem.Spec PyProof.Rows
section
variable {X:Cx}
def AW (i:Nat):TE:=fun σ H Q=>∃ v,σ[i]?=some (some v)∧Q v H
def tC (v:V):TE:=fun _ H Q=>Q v H
theorem Aw {i:Nat} {x:Str} {pos:Pos} (hN:X.N[i]?=some x) (hv:xA X.env.scope x) (hd:(x == ("__debug__":Str))=false:=by decide) (hcd:(x == ("__classdict__":Str))=false:=by decide):PE X (.Name x pos) (AW i):=by
 intro pins s σ H Q I h
 obtain ⟨v,e,h⟩:=h
 obtain ⟨m,hn,hl⟩:=I.loc
 obtain ⟨u,r,l⟩:=hl i x v hN e hv
 have fin:EP X pins σ Q u s:=⟨v,H,I,r,h⟩
 rcases l with ⟨hk,hm⟩ | ⟨hk,c,hc,hcell⟩
 ·exact wpAny_Name (wpAny_loadName_local I.ok.kind hk hn hm fin) hd
 ·rcases hk with hk | hk
  ·exact wpAny_Name (wpAny_loadName_cell I.ok.kind hk hc hcell fin) hd
  ·exact wpAny_Name (wpAny_loadName_free I.ok.kind hk hc hcell fin hcd) hd
theorem aP {i j pos}:PE X (.Constant (.int i) j pos) (tC (.int i)):=fun _ _ _ H _ I h=>wpAny_Constant_int ⟨.int i,H,I.tok _,⟨_,rfl⟩,h⟩
theorem yq {b j pos}:PE X (.Constant (.bool b) j pos) (tC (.bl b)):=fun _ _ _ H _ I h=>Constant_bool ⟨.bl b,H,I,rfl,h⟩
theorem As {j pos}:PE X (.Constant .none j pos) (tC .non):=fun _ _ _ H _ I h=>Constant_none ⟨.non,H,I,rfl,h⟩
theorem pK {x j pos}:PE X (.Constant (.str x) j pos) (tC (.str x)):=fun _ _ _ H _ I h=>Calls.Constant_str ⟨.str x,H,I.tok _,⟨_,rfl⟩,h⟩
def Gl (X:Cx) (x:Str):Prop:=X.env.kindOf x=some .globalImplicit
theorem lQ {E:Value→Shared→Prop} {pins:List (Addr × Obj)} {s:Shared} {σ:St} {H:Hp} {x:Str} {u:Value} {pos:Pos} {Q:Value→Shared→Prop} (I:Inv X pins σ H s) (hg:Gl X x) (hm:X.mg x=some u) (h:Q u s)
  (hd:(x == ("__debug__":Str))=false:=by decide):wpAny (model X.prog X.w) X.A (eval (.Name x pos) X.env) Q E s :=
 Calls.Name_function_global I.ok.kind hg (Calls.loadGlobal_global (by rw [I.ok.glob];exact I.mod.glob.keeps I.bk) hm h) hd
theorem mZ {E:Value→Shared→Prop} {pins:List (Addr × Obj)} {s:Shared} {σ:St} {H:Hp} {x:Str} {u:Value} {pos:Pos} {Q:Value→Shared→Prop} (I:Inv X pins σ H s) (hg:Gl X x) (hm:X.mg x=none) (hv:bootBuiltins x=some u) (h:Q u s)
  (hn:x≠"__name__":=by decide) (hd:(x == ("__debug__":Str))=false:=by decide):wpAny (model X.prog X.w) X.A (eval (.Name x pos) X.env) Q E s:=by
 obtain ⟨mb,h1,h2⟩:=I.mod.blt
 exact Calls.Name_function_global I.ok.kind hg (Calls.loadGlobal_builtin (by rw [I.ok.glob];exact I.mod.glob.keeps I.bk) hm (by rw [I.ok.blt];exact h1.keeps I.bk) ((h2 x hn).trans hv) h) hd
theorem dA {x:Str} {v:V} {u:Value} {pos:Pos} (hg:Gl X x) (hm:X.mg x=some u) (r:RelV v u) (hd:(x == ("__debug__":Str))=false:=by decide):PE X (.Name x pos) (tC v) :=
 fun _ _ _ H _ I h=>lQ I hg hm ⟨v,H,I,r,h⟩ hd
theorem qG {x:Str} {v:V} {u:Value} {pos:Pos} (hg:Gl X x) (hm:X.mg x=none) (hv:bootBuiltins x=some u) (r:RelV v u) (hn:x≠"__name__":=by decide) (hd:(x == ("__debug__":Str))=false:=by decide):PE X (.Name x pos) (tC v) :=
 fun _ _ _ H _ I h=>mZ I hg hm hv ⟨v,H,I,r,h⟩ hn hd
variable {a b:Expr} {ta tb:TE} {pos:Pos}
def tB (t:TE):TT:=fun σ H Q=>t σ H fun x H1=>∃ c,x=.bl c∧Q c H1
theorem AB {e:Expr} {t:TE} (h:PE X e t) (he:∀ whole,isTrue e X.env whole=(do let v ← whole;standAt e.pos;holding [v] (truthy v)):=by intro _;rfl):PT X e (tB t):=by
 intro pins s σ H Q I hw
 refine isTrue_plain (cg (h pins s σ H _ I hw) fun v s1 ⟨x,H1,I1,r1,q1⟩=>?_) (he _)
 obtain ⟨d,rfl,q⟩:=q1
 cases r1
 exact wpAny_truthy_bool ⟨H1,I1,q⟩
variable {tA tB':TT} {rest:List Expr}
def Gv (t u:TT):TT:=fun σ H Q=>t σ H fun c H1=>if c=true then u σ H1 Q else Q false H1
def Pt (t u:TT):TT:=fun σ H Q=>t σ H fun c H1=>if c=true then Q true H1 else u σ H1 Q
def Jn (t:TT):TT:=fun σ H Q=>t σ H fun c H1=>Q (!c) H1
theorem qL (ha:PT X a tA):PW X (.BoolOp .And [a] pos) tA:=by
 intro wh pins s σ H Q I h
 refine isTrue_and (cg (ha pins s σ H Q I h) fun c s1 e=>?_)
 cases c with
 | true=>exact isTrue_and_nil e
 | false=>exact e
theorem wu (ha:PT X a tA):PW X (.BoolOp .Or [a] pos) tA:=by
 intro wh pins s σ H Q I h
 refine isTrue_or (cg (ha pins s σ H Q I h) fun c s1 e=>?_)
 cases c with
 | false=>exact isTrue_or_nil e
 | true=>exact e
theorem wt (ha:PT X a tA) (hb:PW X (.BoolOp .And (b :: rest) pos) tB'):PW X (.BoolOp .And (a :: b :: rest) pos) (Gv tA tB'):=by
 intro wh pins s σ H Q I h
 refine isTrue_and (cg (ha pins s σ H _ I h) fun c s1 ⟨H1,I1,q1⟩=>?_)
 cases c with
 | true=>exact hb wh pins s1 σ H1 Q I1 q1
 | false=>exact ⟨H1,I1,q1⟩
theorem BM (ha:PT X a tA) (hb:PW X (.BoolOp .Or (b :: rest) pos) tB'):PW X (.BoolOp .Or (a :: b :: rest) pos) (Pt tA tB'):=by
 intro wh pins s σ H Q I h
 refine isTrue_or (cg (ha pins s σ H _ I h) fun c s1 ⟨H1,I1,q1⟩=>?_)
 cases c with
 | true=>exact ⟨H1,I1,q1⟩
 | false=>exact hb wh pins s1 σ H1 Q I1 q1
theorem AA (ha:PT X a tA):PT X (.UnaryOp .Not a pos) (Jn tA):=by
 intro pins s σ H Q I h
 exact isTrue_not (ha pins s σ H (fun c H1=>Q (!c) H1) I h)
def Ce (ta tb:TE):TE:=fun σ H Q=>ta σ H fun x H1=>∃ c,x=.bl c∧if c=true then tb σ H1 Q else Q (.bl false) H1
def Jo (ta tb:TE):TE:=fun σ H Q=>ta σ H fun x H1=>∃ c,x=.bl c∧if c=true then Q (.bl true) H1 else tb σ H1 Q
def Cj (ta:TE):TE:=fun σ H Q=>ta σ H fun x H1=>∃ c,x=.bl c∧Q (.bl (!c)) H1
theorem Av {op} {t:TE} (h:PE X a t):PE X (.BoolOp op [a] pos) t:=fun pins s σ H Q I hw=>BoolOp_one (h pins s σ H Q I hw)
theorem Ar (ha:PE X a ta) (hb:PE X (.BoolOp .And (b :: rest) pos) tb):PE X (.BoolOp .And (a :: b :: rest) pos) (Ce ta tb):=by
 intro pins s σ H Q I h
 refine BoolOp_and (cg (ha pins s σ H _ I h) fun v s1 ⟨x,H1,I1,r1,q1⟩=>?_)
 obtain ⟨c,rfl,q1⟩:=q1
 cases r1
 refine wpAny_truthy_bool ?_
 cases c with
 | true=>exact hb pins s1 σ H1 Q I1 q1
 | false=>exact ⟨.bl false,H1,I1,rfl,q1⟩
theorem FE (ha:PE X a ta) (hb:PE X (.BoolOp .Or (b :: rest) pos) tb):PE X (.BoolOp .Or (a :: b :: rest) pos) (Jo ta tb):=by
 intro pins s σ H Q I h
 refine BoolOp_or (cg (ha pins s σ H _ I h) fun v s1 ⟨x,H1,I1,r1,q1⟩=>?_)
 obtain ⟨c,rfl,q1⟩:=q1
 cases r1
 refine wpAny_truthy_bool ?_
 cases c with
 | false=>exact hb pins s1 σ H1 Q I1 q1
 | true=>exact ⟨.bl true,H1,I1,rfl,q1⟩
theorem Au (ha:PE X a ta):PE X (.UnaryOp .Not a pos) (Cj ta):=by
 intro pins s σ H Q I h
 refine UnaryOp_ (cg (ha pins s σ H _ I h) fun v s1 ⟨x,H1,I1,r1,q1⟩=>?_)
 obtain ⟨c,rfl,q1⟩:=q1
 cases r1
 exact not_of (wpAny_truthy_bool ⟨.bl (!c),H1,I1,rfl,q1⟩)
def P8 (t:TT) (ta tb:TE):TE:=fun σ H Q=>t σ H fun c H1=>if c=true then ta σ H1 Q else tb σ H1 Q
theorem sy {c:Expr} (hc:PT X c tA) (ha:PE X a ta) (hb:PE X b tb):PE X (.IfExp c a b pos) (P8 tA ta tb):=by
 intro pins s σ H Q I h
 refine wpAny_IfExp (cg (hc pins s σ H _ I h) fun d s1 ⟨H1,I1,q1⟩=>?_)
 cases d with
 | true=>exact ha pins s1 σ H1 Q I1 q1
 | false=>exact hb pins s1 σ H1 Q I1 q1
end
end L2
namespace L2
open PySem PySem.Spec PyProof.Rows
def di (K:PySem.W.Frag) (H:Hp) (a:Addr) (xs:List V):Prop :=
 Rd H a (.lst xs) ∨
  ∃ (o:Obj) (its:Array Value) (n:Nat),K.lookup a=some o∧o.cls=.type "list"∧o.dict=none∧o.data=.seq its n∧its.size≤sizeLine∧Vals xs its.toList
def g7 (K:PySem.W.Frag) (H:Hp) (a:Addr) (xs:List V):Prop :=
 Rd H a (.tup xs) ∨
  ∃ (o:Obj) (its:Array Value) (n:Nat),K.lookup a=some o∧o.cls=.type "tuple"∧o.data=.seq its n∧its.size≤sizeLine∧Vals xs its.toList
def Ql:Value→Option V
 | .none=>some .non
 | .bool b=>some (.bl b)
 | .int i _=>some (.int i)
 | .str x _=>some (.str x)
 | .bytes b _=>some (.byt b)
 | .float b _=>some (.flt b)
 | .ref a=>some (.ref a)
 | .type n=>some (.ty n)
 | _=>none
theorem RelV.abs {x:V} {u:Value} (r:RelV x u):Ql u=some x:=by
 cases x with
 | non=>cases r;rfl
 | bl _=>cases r;rfl
 | int _=>obtain ⟨t,rfl⟩:=r;rfl
 | str _=>obtain ⟨t,rfl⟩:=r;rfl
 | byt _=>obtain ⟨t,rfl⟩:=r;rfl
 | flt _=>obtain ⟨t,rfl⟩:=r;rfl
 | ref _=>cases r;rfl
 | ty _=>cases r;rfl
theorem RelV.inj {x y:V} {u:Value} (r:RelV x u) (q:RelV y u):x=y:=Option.some.inj (r.abs.symm.trans q.abs)
theorem Vals.inj:∀ {xs ys:List V} {us:List Value},Vals xs us→Vals ys us→xs=ys
 | _,_,_,.nil,.nil=>rfl
 | _,_,_,.cons r t,.cons r' t'=>by rw [r.inj r',Vals.inj t t']
section
variable {X:Cx} {pins:List (Addr × Obj)} {σ:St} {H:Hp} {s:Shared} {a:Addr} {xs ys:List V}
theorem di.of {K:PySem.W.Frag} (h:H a=some (.lst xs)):di K H a xs:=.inl (.inl h)
theorem g7.of {K:PySem.W.Frag} (h:H a=some (.tup xs)):g7 K H a xs:=.inl (.inl h)
theorem Inv.list (I:Inv X pins σ H s) (h:di X.K H a xs):∃ its:List Value,Vals xs its∧PlainL s.heap a its.toArray∧xs.length≤sizeLine:=by
 rcases h with h | ⟨o,its,n,hk,hc,hd,hs,hz,r⟩
 ·obtain ⟨z,its,n,r,e⟩:=h.ok I.hok
  exact ⟨its,r,⟨_,n,e,rfl,rfl,rfl⟩,z⟩
 ·refine ⟨its.toList,r,⟨o,n,I.mY a o hk,hc,hd,by simpa using hs⟩,?_⟩
  have e:=r.length
  simp only [Array.length_toList] at e
  omega
theorem Inv.tuple (I:Inv X pins σ H s) (h:g7 X.K H a xs):∃ its:List Value,Vals xs its∧IsTup s.heap a its.toArray∧xs.length≤sizeLine:=by
 rcases h with h | ⟨o,its,n,hk,hc,hs,hz,r⟩
 ·obtain ⟨z,its,r,p⟩:=h.ok I.hok
  exact ⟨its,r,p,z⟩
 ·refine ⟨its.toList,r,⟨o,I.mY a o hk,hc,n,by simpa using hs⟩,?_⟩
  have e:=r.length
  simp only [Array.length_toList] at e
  omega
theorem Inv.kT (I:Inv X pins σ H s) (h:di X.K H a xs) (h':di X.K H a ys):xs=ys:=by
 obtain ⟨its,r,⟨o,n,e,_,_,d⟩,_⟩:=I.list h
 obtain ⟨its',r',⟨o',n',e',_,_,d'⟩,_⟩:=I.list h'
 rw [e] at e';cases e'
 rw [d] at d'
 injection d' with d1 _
 have:its=its':=by simpa using congrArg Array.toList d1
 subst this
 exact r.inj r'
theorem Inv.uV (I:Inv X pins σ H s) (h:g7 X.K H a xs) (h':g7 X.K H a ys):xs=ys:=by
 obtain ⟨its,r,⟨o,e,_,n,d⟩,_⟩:=I.tuple h
 obtain ⟨its',r',⟨o',e',_,n',d'⟩,_⟩:=I.tuple h'
 rw [e] at e';cases e'
 rw [d] at d'
 injection d' with d1 _
 have:its=its':=by simpa using congrArg Array.toList d1
 subst this
 exact r.inj r'
end
abbrev Cx.tu (X:Cx) (E:Value→Shared→Prop):Cx:={ X with xe:=E }
abbrev Cx.LQ (X:Cx):Cx:=X.tu fun _ _=>False
theorem Cx.Ok.tu {X:Cx} (ok:X.Ok) (E:Value→Shared→Prop):(X.tu E).Ok :=
 ⟨ok.mod,ok.kind,ok.glob,ok.blt,ok.above,ok.inj,ok.has,ok.cab,ok.hd,ok.frames,ok.stk,ok.exf,ok.bs,ok.bsz,ok.noex,ok.exfs,ok.mV,ok.frf⟩
theorem Cx.Ok.lH {X:Cx} {E:Value→Shared→Prop} (ok:(X.tu E).Ok):X.Ok :=
 ⟨ok.mod,ok.kind,ok.glob,ok.blt,ok.above,ok.inj,ok.has,ok.cab,ok.hd,ok.frames,ok.stk,ok.exf,ok.bs,ok.bsz,ok.noex,ok.exfs,ok.mV,ok.frf⟩
section
variable {X:Cx} {pins:List (Addr × Obj)} {σ:St} {H:Hp} {s:Shared} {E:Value→Shared→Prop}
theorem Inv.tu (I:Inv X pins σ H s) (E:Value→Shared→Prop):Inv (X.tu E) pins σ H s:=⟨I.ok.tu E,I.os,I.bare,I.base,I.loc,I.cell,I.free,I.freeC,I.pin,I.hok,I.len⟩
theorem Inv.lH (I:Inv (X.tu E) pins σ H s):Inv X pins σ H s:=⟨I.ok.lH,I.os,I.bare,I.base,I.loc,I.cell,I.free,I.freeC,I.pin,I.hok,I.len⟩
theorem SP.lH {D:Ends} {f:Flow} {s':Shared} (h:SP (X.tu E) pins D f s'):SP X pins D f s':=by
 cases f with
 | next=>obtain ⟨σ',H',I,q⟩:=h;exact ⟨σ',H',I.lH,q⟩
 | brk=>obtain ⟨σ',H',I,q⟩:=h;exact ⟨σ',H',I.lH,q⟩
 | cont=>obtain ⟨σ',H',I,q⟩:=h;exact ⟨σ',H',I.lH,q⟩
 | ret u=>obtain ⟨v,σ',H',I,r,q⟩:=h;exact ⟨v,σ',H',I.lH,r,q⟩
theorem tE.LQ {st:List Stmt} {t:TS} (h:tE X.LQ st t):tE X st t:=fun pins s σ H D I hw =>
 wpAny_mono (h pins s σ H D (I.tu _) hw) (fun _ _ q=>q.lH) fun _ _ z=>False.elim z
end
section
variable {X:Cx} {st:Stmt} {rest:List Stmt} {t u:TS} {e:Expr} {te:TE} {pos:Pos}
def Ci:TS:=fun D σ H=>D.nx σ H
def Jr (t u:TS):TS:=fun D σ H=>t { D with nx:=u D } σ H
theorem gf:tE X [] Ci:=fun _ _ σ H _ I h=>wpAny_execs_nil ⟨σ,H,I,h⟩
theorem aW (h1:PS X st t) (h2:tE X rest u):tE X (st :: rest) (Jr t u):=by
 intro pins s σ H D I h
 refine wpAny_execs_cons (cg (h1 pins s σ H { D with nx:=u D } I h) fun f s1 q=>?_)
 cases f with
 | next =>
  obtain ⟨σ',H',I',q⟩:=q
  exact h2 pins s1 σ' H' D I' q
 | ret v=>exact q
 | brk=>exact q
 | cont=>exact q
theorem bK (h1:PS X st t):tE X [st] t:=by
 intro pins s σ H D I h
 refine wpAny_execs_cons (cg (h1 pins s σ H D I h) fun f s1 q=>?_)
 cases f with
 | next=>exact wpAny_execs_nil q
 | ret v=>exact q
 | brk=>exact q
 | cont=>exact q
def MN:TS:=fun D σ H=>D.bk σ H
def Po:TS:=fun D σ H=>D.ct σ H
theorem Inv.quiet {pins:List (Addr × Obj)} {σ:St} {H:Hp} {s:Shared} (I:Inv X pins σ H s):interactive X.env=false:=by simp [interactive,I.ok.kind]
def Cg (te:TE):TS:=fun D σ H=>te σ H fun _ H1=>D.nx σ H1
theorem lU (he:PE X e te) (hs:swapsWith e none pos.line X.env=pure false:=by rfl):PS X (.Expr e pos) (Cg te):=by
 intro pins s σ H D I h
 exact wpAny_Expr_any (cg (he pins s σ H _ I h) fun v s1 ⟨x,H1,I1,r1,q1⟩=>⟨σ,H1,I1,q1⟩) I.quiet hs
def Jq (te:TE):TS:=fun D σ H=>te σ H D.rt
theorem d6 (he:PE X e te):PS X (.Return (some e) pos) (Jq te):=by
 intro pins s σ H D I h
 exact wpAny_Return_some (cg (he pins s σ H _ I h) fun v s1 ⟨x,H1,I1,r1,q1⟩=>⟨x,σ,H1,I1,r1,q1⟩)
def Cm:TS:=fun D _ H=>D.rt .non H
theorem wm:PS X (.Return none pos) Cm:=fun _ _ σ H _ I h=>wpAny_Return_none ⟨.non,σ,H,I,rfl,h⟩
def Jm (c:TT) (t u:TS):TS:=fun D σ H=>c σ H fun b H1=>if b=true then t D σ H1 else u D σ H1
theorem ou {c:Expr} {a b:List Stmt} {tc:TT} (hc:PT X c tc) (ha:tE X a t) (hb:tE X b u):PS X (.If c a b pos) (Jm tc t u):=by
 intro pins s σ H D I h
 refine wpAny_If (cg (hc pins s σ H _ I h) fun d s1 ⟨H1,I1,q1⟩=>?_)
 cases d with
 | true=>exact ha pins s1 σ H1 D I1 q1
 | false=>exact hb pins s1 σ H1 D I1 q1
def AV:TS:=fun _ _ _=>False
theorem pN {sts:List Stmt}:tE X sts AV:=fun _ _ _ _ _ _ h=>h.elim
end
abbrev TG:=V→St→Hp→(St→Hp→Prop)→Prop
abbrev rF:=List V→St→Hp→(St→Hp→Prop)→Prop
def PG (X:Cx) (target:Expr) (t:TG):Prop :=
 ∀ (pins:List (Addr × Obj)) (s:Shared) (σ:St) (H:Hp) (v:V) (u:Value) (Q:St→Hp→Prop),Inv X pins σ H s→RelV v u→t v σ H Q →
  wpAny (model X.prog X.w) X.A (assign target X.env u) (fun _ s'=>∃ σ' H',Inv X pins σ' H' s'∧Q σ' H') X.xe s
def JC (X:Cx) (ts:List Expr) (t:rF):Prop :=
 ∀ (pins:List (Addr × Obj)) (s:Shared) (σ:St) (H:Hp) (vs:List V) (us:List Value) (Q:St→Hp→Prop),Inv X pins σ H s→Vals vs us→t vs σ H Q →
  wpAny (model X.prog X.w) X.A (assignInOrder ((assignEach ts X.env).map (·.2)) us) (fun _ s'=>∃ σ' H',Inv X pins σ' H' s'∧Q σ' H') X.xe s
abbrev me:=V→V→V→Hp→(Hp→Prop)→Prop
def md (X:Cx) (t:me):Prop :=
 ∀ (pins:List (Addr × Obj)) (s:Shared) (σ:St) (H:Hp) (o i v:V) (ov iv u:Value) (Q:Hp→Prop),Inv X pins σ H s→RelV o ov→RelV i iv→RelV v u→t o i v H Q →
  wpAny (model X.prog X.w) X.A (setItem ov iv u) (fun _ s'=>∃ H',Inv X pins σ H' s'∧Q H') X.xe s
abbrev PY:=V→V→Hp→VK→Prop
def Qh (X:Cx) (op:Operator) (t:PY):Prop :=
 ∀ (pins:List (Addr × Obj)) (s:Shared) (σ:St) (H:Hp) (x y:V) (v u:Value) (Q:VK),Inv X pins σ H s→RelV x v→RelV y u→t x y H Q →
  wpAny (model X.prog X.w) X.A (inplaceOp op v u) (EP X pins σ Q) X.xe s
section
variable {X:Cx} {pos:Pos}
def p9 (i:Nat):TG:=fun v σ H Q=>Q (σ.set i (some v)) H
theorem lS {i:Nat} {x:Str} (hN:X.N.Nodup) (hi:X.N[i]?=some x) (hx:Loc X.env.scope x) (hf:X.fn x=true∨X.env.scope.names.lookup x=some .local:=by first | exact .inl rfl | exact .inr rfl | assumption):PG X (.Name x pos) (p9 i):=by
 intro pins s σ H v u Q I r h
 exact wpAny_assign_Name (fm I hN hi hx r (fun s' I'=>⟨_,H,I',h⟩) hf)
def Hr:rF:=fun vs σ H Q=>vs=[]∧Q σ H
def Bp (t:TG) (u:rF):rF:=fun vs σ H Q=>∃ v r,vs=v :: r∧t v σ H fun σ' H'=>u r σ' H' Q
theorem wd:JC X [] Hr:=by
 intro pins s σ H vs us Q I r h
 obtain ⟨e,h⟩:=h
 subst e
 cases r
 exact assignInOrder_nil ⟨σ,H,I,h⟩
theorem sD {e:Expr} {es:List Expr} {t:TG} {u:rF} (h1:PG X e t) (h2:JC X es u)
  (hs:(assignEach (e :: es) X.env).map (·.2)=assign e X.env :: (assignEach es X.env).map (·.2):=by rfl):JC X (e :: es) (Bp t u):=by
 intro pins s σ H vs us Q I r h
 obtain ⟨v,vr,e1,h⟩:=h
 subst e1
 cases r with
 | cons r rr =>
  rw [hs]
  refine assignInOrder_cons (cg (h1 pins s σ H _ _ _ I r h) fun _ s1 ⟨σ1,H1,I1,q1⟩=>?_)
  exact h2 pins s1 σ1 H1 _ _ Q I1 rr q1
def Hu (K:PySem.W.Frag) (n:Nat) (t:rF):TG:=fun v σ H Q=>∃ a xs,v=.ref a∧g7 K H a xs∧xs.length=n∧t xs σ H Q
theorem Ax {es:List Expr} {k:Nat} {t:rF} {n:Nat} (hc:X.calm=true) (h:JC X es t)
  (hn:(assignEach es X.env).length=n:=by rfl) (hst:(assignEach es X.env).findIdx? (·.1)=none:=by rfl):PG X (.Tuple es k pos) (Hu X.K n t):=by
 intro pins s σ H v u Q I r hw
 obtain ⟨a,xs,e1,hq,hl,hw⟩:=hw
 subst e1
 cases r
 obtain ⟨its,rv,ht,hz⟩:=I.tuple hq
 refine assign_Tuple_tuple (I.ok.hd hc) ht (by simp [hn,← hl,rv.length]) hst fun h' hx=>?_
 have I1:Inv X pins σ H { s with heap:=h' }:=I.kept (t':=s.toks) fun b o e=>hx b o (Nat.ne_of_lt (Heap.lt_size e)) e
 exact h pins _ σ H xs _ Q I1 (by simpa using rv) hw
def Ht (to ti:TE) (t:me):TG:=fun v σ H Q=>to σ H fun o H1=>ti σ H1 fun i H2=>t o i v H2 fun H3=>Q σ H3
theorem wc {o i:Expr} {to ti:TE} {t:me} (ho:PE X o to) (hi:PE X i ti) (hs:md X t)
  (ha:∀ v,assign (.Subscript o i pos) X.env v=(do
   let ov ← holding [v] (eval o X.env)
   let iv ← holding [v,ov] (eval i X.env)
   standAt pos
   holding [v,ov,iv] (setItem ov iv v)
   release [v,ov,iv] []):=by intro _;rfl):PG X (.Subscript o i pos) (Ht to ti t):=by
 intro pins s σ H v u Q I r h
 rw [ha]
 refine wpAny_bind (wpAny_holding (cg (ho pins s σ H _ I h) fun ov s1 ⟨x,H1,I1,r1,q1⟩=>?_))
 refine wpAny_bind (wpAny_holding (cg (hi pins s1 σ H1 _ I1 q1) fun iv s2 ⟨y,H2,I2,r2,q2⟩=>?_))
 refine wpAny_bind (wpAny_standAt (wpAny_bind (wpAny_holding (cg (hs pins s2 σ H2 x y v ov iv u _ I2 r1 r2 r q2) fun _ s3 ⟨H3,I3,q3⟩=>?_))))
 exact wpAny_release ⟨σ,H3,I3,q3⟩
def y0 (te:TE) (g:TG):TS:=fun D σ H=>te σ H fun x H1=>g x σ H1 D.nx
theorem wj {tg e:Expr} {te:TE} {g:TG} (he:PE X e te) (hg:PG X tg g) (hs:swapsWithSole [tg] e pos.line X.env=pure false:=by rfl) (hw:swappedStores [tg] e X.env=pure none:=by rfl)
  (h1:(assignEach [tg] X.env).map (·.2)=[assign tg X.env]:=by rfl):PS X (.Assign [tg] e pos) (y0 te g):=by
 intro pins s σ H D I h
 refine wpAny_Assign_stores (cg (he pins s σ H _ I h) fun v s1 ⟨x,H1,I1,r1,q1⟩=>?_) hs hw
 rw [h1]
 exact cg (hg pins s1 σ H1 x v _ I1 r1 q1) fun _ s2 q=>q
theorem cV {i:Nat} {x:Str} {e:Expr} {te:TE} {pos':Pos} (hN:X.N.Nodup) (hi:X.N[i]?=some x) (hx:Loc X.env.scope x) (he:PE X e te) (hs:swapsWith e (some (.Name x pos')) pos.line X.env=pure false:=by rfl) (hf:X.fn x=true∨X.env.scope.names.lookup x=some .local:=by first | exact .inl rfl | exact .inr rfl | assumption) :
  PS X (.Assign [.Name x pos'] e pos) (y0 te (p9 i)):=by
 intro pins s σ H D I h
 refine wpAny_Assign_Name (cg (he pins s σ H _ I h) fun v s1 ⟨y,H1,I1,r1,q1⟩=>?_) hs
 exact fm I1 hN hi hx r1 (fun s2 I2=>⟨_,H1,I2,q1⟩) hf
def Jp (i j:Nat) (ta:TA):TS:=fun D σ H=>ta σ H fun vs H1=>∃ v w,vs=[v,w]∧D.nx ((σ.set i (some v)).set j (some w)) H1
theorem pM {i j:Nat} {x y:Str} {a b:Expr} {ta:TA} {px py pt:Pos} {kt k2 pt2} (hc:X.calm=true) (hN:X.N.Nodup) (hi:X.N[i]?=some x) (hj:X.N[j]?=some y) (hij:i≠j)
  (hx:X.env.scope.names.lookup x=some .local) (hy:X.env.scope.names.lookup y=some .local) (ha:PA X [a,b] ta)
  (hw:swappedStores [.Tuple [.Name x px,.Name y py] kt pt] (.Tuple [a,b] k2 pt2) X.env=pure (some [x,y]))
  (hs:swapsWithSole [.Tuple [.Name x px,.Name y py] kt pt] (.Tuple [a,b] k2 pt2) pos.line X.env=pure false:=by rfl) :
  PS X (.Assign [.Tuple [.Name x px,.Name y py] kt pt] (.Tuple [a,b] k2 pt2) pos) (Jp i j ta):=by
 intro pins s σ H D I h
 rw [exec_Assign_arm]
 refine wpAny_bind (wpAny_standAt ?_)
 rw [hs]
 refine wpAny_bind (wpAny_pure ?_)
 rw [if_neg (by decide)]
 refine wpAny_bind (Tuple_ (cg (ha _ pins s σ H _ I h) fun us s1 ⟨vs,H1,I1,r1,q1⟩=>?_))
 obtain ⟨v,w,e1,q1⟩:=q1
 subst e1
 obtain ⟨u1,u2,rfl,rv,rw'⟩:∃ u1 u2,us=[u1,u2]∧RelV v u1∧RelV w u2:=by
  cases r1 with
  | cons p q =>
   cases q with
   | cons p' q' =>
    cases q'
    exact ⟨_,_,rfl,p,p'⟩
 refine wpAny_newObj_type ?_ (by show 2≤sizeLine;decide)
 have I2:Inv X pins σ H1 { s1 with heap:=s1.heap.push { cls:=.type "tuple",data:=.seq [u1,u2].toArray } }:=I1.kept (t':=s1.toks) fun b o e=>Heap.get?_push_of_some _ e
 rw [hw]
 refine wpAny_bind (wpAny_pure ?_)
 show wpAny (model X.prog X.w) X.A (do rule "assign.swapped-stores";let items ← unpackItems (.ref s1.heap.objs.size) 2 none;assignInOrder [fun v=>bindName X.env y v,fun v=>bindName X.env x v] items.reverse;pure Flow.next) _ _ _
 refine wpAny_bind (wpAny_rule (wpAny_bind (unpackItems_tuple (items:=#[u1,u2]) (I.ok.hd hc) (IsTup.new s1.heap _) fun h' hx'=>?_)))
 have I3:=I2.kept (h':=h') (t':=s1.toks) fun b o e=>hx' b o (Nat.ne_of_lt (Heap.lt_size e)) e
 show wpAny _ _ (assignInOrder [fun v=>bindName X.env y v,fun v=>bindName X.env x v] [u2,u1] >>= fun _=>pure Flow.next) _ _ _
 refine wpAny_bind (assignInOrder_cons (wpAny_bindName (fm I3 hN hj (.inl hy) rw' (fun s2 I4=>?_) (.inr hy))))
 refine assignInOrder_cons (wpAny_bindName (fm I4 hN hi (.inl hx) rv (fun s3 I5=>assignInOrder_nil (wpAny_pure ?_)) (.inr hx)))
 rw [List.set_comm _ _ (Ne.symm hij)] at I5
 exact ⟨_,H1,I5,q1⟩
def Rx (i:Nat) (te:TE) (ti:PY):TS:=fun D σ H=>∃ x,σ[i]?=some (some x)∧te σ H fun y H1=>ti x y H1 fun z H2=>D.nx (σ.set i (some z)) H2
theorem Mj {i:Nat} {x:Str} {e:Expr} {te:TE} {op:Operator} {ti:PY} {pos':Pos} (hN:X.N.Nodup) (hi:X.N[i]?=some x) (hx:Loc X.env.scope x) (he:PE X e te) (ho:Qh X op ti) (hf:X.fn x=true∨X.env.scope.names.lookup x=some .local:=by first | exact .inl rfl | exact .inr rfl | assumption) :
  PS X (.AugAssign (.Name x pos') op e pos) (Rx i te ti):=by
 intro pins s σ H D I h
 obtain ⟨v,e1,h⟩:=h
 obtain ⟨m,hn,hl⟩:=I.loc
 have vis:xA X.env.scope x:=by rcases hx with k | k;exact .inl k;exact .inr (.inl k)
 obtain ⟨u,r,l⟩:=hl i x v hi e1 vis
 refine wpAny_AugAssign_Name ?_
 have go:wpAny (model X.prog X.w) X.A (eval e X.env) (fun w s₂=>wpAny (model X.prog X.w) X.A (inplaceOp op u w) (fun r s₃=>wpAny (model X.prog X.w) X.A (storeName X.env x r) (fun _=>SP X pins D .next) X.xe s₃) X.xe s₂) X.xe s:=by
  refine cg (he pins s σ H _ I h) fun w s1 ⟨y,H1,I1,r1,q1⟩=>?_
  refine cg (ho pins s1 σ H1 v y u w _ I1 r r1 q1) fun z s2 ⟨zv,H2,I2,r2,q2⟩=>?_
  exact fm I2 hN hi hx r2 (fun s3 I3=>⟨_,H2,I3,q2⟩) hf
 rcases l with ⟨hk,hm⟩ | ⟨hk,c,hc,hcell⟩
 ·exact wpAny_loadName_local I.ok.kind hk hn hm go
 ·rcases hk with hk | hk
  ·exact wpAny_loadName_cell I.ok.kind hk hc hcell go
  ·rcases hx with k | k
   ·have:X.env.scope.names.lookup x=some .free:=hk
    rw [k] at this;cases this
   ·have:X.env.scope.names.lookup x=some .free:=hk
    rw [k] at this;cases this
def SY (f:Int→Int→Int):PY:=fun x y H Q=>∃ i j,x=.int i∧y=.int j∧Q (.int (f i j)) H
theorem Lp:Qh X .Sub (SY fun i j=>i - j):=by
 intro pins s σ H x y v u Q I r1 r2 h
 obtain ⟨i,j,e1,e2,q⟩:=h
 subst e1;subst e2
 obtain ⟨t,rfl⟩:=r1
 obtain ⟨t',rfl⟩:=r2
 exact isub_int ⟨.int _,H,I.tok _,⟨_,rfl⟩,q⟩
end
section
variable {X:Cx} {pos:Pos}
def xi (c:TT) (tb:TS):TS:=fun D σ H=>∃ W:Nat→St→Hp→Prop,(∃ m,W m σ H)∧∀ m σ H,W m σ H →
 c σ H fun b H1=>if b=true then ∃ N:St→Hp→Prop,(∀ σ' H',N σ' H'→∃ m',m' < m∧W m' σ' H')∧tb { D with nx:=N,ct:=N,bk:=D.nx } σ H1 else D.nx σ H1
theorem lz {c:Expr} {body:List Stmt} {tc:TT} {tb:TS} (hp:PassesOwn (model X.prog X.w) X.A X.env X.xe) (hc:PT X c tc) (hb:tE X body tb):PS X (.While c body [] pos) (xi tc tb):=by
 intro pins s σ H D I h
 obtain ⟨W,⟨m0,w0⟩,turn⟩:=h
 refine wpAny_While (codeAny_whileLoop (fun n s'=>∃ σ' H',Inv X pins σ' H' s'∧W n σ' H') ?_ m0 ⟨σ,H,I,w0⟩)
 rintro n s1 ⟨σ1,H1,I1,w1⟩
 refine wpAny_passesOwn hp (cg (hc pins s1 σ1 H1 _ I1 (turn n σ1 H1 w1)) fun b s2 ⟨H2,I2,q2⟩=>?_)
 cases b with
 | true =>
  obtain ⟨N,hN,q2⟩:=q2
  rw [if_pos rfl]
  refine wpAny_passesOwn hp (cg (hb pins s2 σ1 H2 _ I2 q2) fun f s3 q3=>?_)
  cases f with
  | next =>
   obtain ⟨σ3,H3,I3,n3⟩:=q3
   obtain ⟨m',hm,w3⟩:=hN σ3 H3 n3
   exact ⟨m',hm,σ3,H3,I3,w3⟩
  | cont =>
   obtain ⟨σ3,H3,I3,n3⟩:=q3
   obtain ⟨m',hm,w3⟩:=hN σ3 H3 n3
   exact ⟨m',hm,σ3,H3,I3,w3⟩
  | brk=>exact q3
  | ret v=>exact q3
 | false =>
  rw [if_neg Bool.false_ne_true]
  exact wpAny_execs_nil ⟨σ1,H2,I2,q2⟩
end
structure It where
 go:Nat→Hp→Prop
 yld:Nat→Hp→V→Hp→Prop
 stop:Nat→Hp→Prop
def jy (X:Cx) (pins:List (Addr × Obj)) (H:Hp) (b:Addr):Prop :=
 H b=none∧b≠X.env.locals∧b ∉ X.fs∧(b∈X.ex∨X.s₀.heap.objs.size≤b)∧(∀ x c,X.env.cells.lookup x=some c→c≠b)∧∀ p∈X.pn ++ pins,p.1≠b
theorem Inv.CT {X:Cx} {pins:List (Addr × Obj)} {σ:St} {H H':Hp} {s:Shared} {b:Addr} (I:Inv X pins σ H s) (hb:s.heap.objs.size≤b) (hn:H' b=none):jy X pins H' b:=by
 refine ⟨hn,Nat.ne_of_gt (Nat.lt_of_lt_of_le I.lt hb),I.Q6 hb,.inr (Nat.le_trans I.sz hb),fun x c e z=>?_,fun p hp z=>?_⟩
 ·obtain ⟨v,q⟩:=I.cell x c e
  exact absurd (Nat.lt_of_lt_of_le q.lt (by rw [z];exact hb)) (Nat.lt_irrefl _)
 ·exact absurd (Nat.lt_of_lt_of_le (Heap.lt_size (I.pin p hp).1) (by rw [z];exact hb)) (Nat.lt_irrefl _)
structure Turn (P:Program) (w:World) (K:PySem.W.Frag) (tg:Expr) (J:It) (fp:List Addr) (it:Addr) (tn:Nat→Heap→Prop):Prop where
 mem:it∈fp
 obj:∀ i h,tn i h→∀ b∈fp,∃ o,h.get? b=some o∧∀ v,o.data≠.cell v
 keep:∀ i h h',tn i h→(∀ b∈fp,∀ o,h.get? b=some o→h'.get? b=some o)→tn i h'
 item:∀ (X:Cx),X.prog=P→X.w=w→X.K=K→X.calm=true→∀ (i:Nat) (pins:List (Addr × Obj)) (s:Shared) (σ:St) (H:Hp) (E:Value→Shared→Prop),Inv X pins σ H s→(∀ b∈fp,jy X pins H b)→tn i s.heap→J.go i H →
  wpAny (model P w) X.A (pyNext (.ref it)) (fun r s1=>∃ u,r=some u ∧
   wpAny (model P w) X.A (letOwnedTupleGo tg (.ref it) u) (fun _ s2=>∃ x H',Inv X pins σ H' s2∧RelV x u∧J.yld i H x H'∧tn (i + 1) s2.heap∧∀ b∈fp,H' b=none) E s1) E s
 done:∀ (X:Cx),X.prog=P→X.w=w→X.K=K→X.calm=true→∀ (i:Nat) (pins:List (Addr × Obj)) (s:Shared) (σ:St) (H:Hp) (E:Value→Shared→Prop),Inv X pins σ H s→(∀ b∈fp,jy X pins H b)→tn i s.heap→J.stop i H →
  wpAny (model P w) X.A (pyNext (.ref it)) (fun r s1=>r=none∧Inv X pins σ H s1) E s
 self:∀ (A:Around) (i:Nat) (s:Shared) (Q:Value→Shared→Prop) (E:Value→Shared→Prop),tn i s.heap→Q (.ref it) s→wpAny (model P w) A (pyIter (.ref it)) Q E s
abbrev TI:=St→Hp→(It→Hp→Prop)→Prop
def Se (X:Cx) (pins:List (Addr × Obj)) (σ:St) (tg:Expr) (R:It→Hp→Prop) (itv:Value) (s2:Shared):Prop :=
 ∃ (it:Addr) (fp:List Addr) (tn:Nat→Heap→Prop) (J:It) (H':Hp),itv=.ref it∧Inv X pins σ H' s2∧Turn X.prog X.w X.K tg J fp it tn∧tn 0 s2.heap∧(∀ b∈fp,jy X pins H' b)∧R J H'
def PI (X:Cx) (tg iter:Expr) (wi:TI):Prop :=
 ∀ (pins:List (Addr × Obj)) (s:Shared) (σ:St) (H:Hp) (R:It→Hp→Prop),Inv X pins σ H s→wi σ H R →
  wpAny (model X.prog X.w) X.A (eval iter X.env) (fun v s1=>wpAny (model X.prog X.w) X.A (pyIter v) (Se X pins σ tg R) X.xe s1) X.xe s
theorem Bs {M:Model} {A:Around} {E:Value→Shared→Prop} {s:Shared} {tg:Expr} {it:Addr} {u:Value} {o:Obj} {n:String} {vs:Array Value} {Q:Unit→Shared→Prop} (ho:s.heap.get? it=some o) (hc:o.cls=.type n) (hd:o.data=.fields vs)
  (hn:["enumerate","zip","dict_itemiterator","dict_reverseitemiterator","odict_iterator","itertools.zip_longest","itertools.pairwise"].contains n=false) (hQ:Q () s):wpAny M A (letOwnedTupleGo tg (.ref it) u) Q E s:=by
 unfold letOwnedTupleGo
 cases tg <;> first
  | exact wpAny_pure hQ
  | (cases u <;> first
    | exact wpAny_pure hQ
    | (refine wpAny_bind (wpAny_load ho ?_)
       rw [hc,hd]
       show wpAny M A (if (["enumerate","zip","dict_itemiterator","dict_reverseitemiterator","odict_iterator","itertools.zip_longest","itertools.pairwise"].contains n && vs[0]? == some (rawInt _))=true then _ else _) Q E s
       rw [if_neg (by intro h;rw [hn,Bool.false_and] at h;cases h)]
       exact wpAny_pure hQ))
def GY (K:PySem.W.Frag) (a:Addr):It :=
 ⟨fun i H=>∃ xs x,di K H a xs∧xs[i]?=some x,fun i H x H'=>H'=H∧∀ xs,di K H a xs→xs[i]?=some x,fun i H=>∃ xs,di K H a xs∧xs.length≤i⟩
def R_ (K:PySem.W.Frag) (a:Addr):It :=
 ⟨fun i H=>∃ xs x,g7 K H a xs∧xs[i]?=some x,fun i H x H'=>H'=H∧∀ xs,g7 K H a xs→xs[i]?=some x,fun i H=>∃ xs,g7 K H a xs∧xs.length≤i⟩
def D6 (lo:Int) (n:Nat):It:=⟨fun i _=>i < n,fun i H x H'=>H'=H∧x=.int (lo + i),fun i _=>n≤i⟩
theorem DN {P:Program} {w:World} {K:PySem.W.Frag} {tg:Expr} (a it:Addr):Turn P w K tg (GY K a) [it] it (fun i h=>h.IsListIter it a i) where
 mem:=by simp
 obj:=fun i h st b hb=>by
  have e:b=it:=by simpa using hb
  subst e
  obtain ⟨o,e,c,d⟩:=st
  exact ⟨o,e,fun v z=>by rw [d] at z;cases z⟩
 keep:=fun i h h' st k=>st.at fun o e=>k it (by simp) o e
 item:=by
  intro X hP hw hK hc i pins s σ H E I hf st hg
  subst hP hw hK
  obtain ⟨xs,x,hq,hx⟩:=hg
  obtain ⟨its,rv,p,hz⟩:=I.list hq
  obtain ⟨u,hu,ru⟩:=rv.get hx
  obtain ⟨f0,f1,f2,f3,f4,f5⟩:=hf it (by simp)
  refine wpAny_pyNext_list_item st p.isList (x:=u) (by simpa using hu) fun h' st' sb=>?_
  have I1:Inv X pins σ H { s with heap:=h' }:=I.turned (t':=s.toks) (fun b o hb e=>(sb.2 b hb).trans e) f0 f1 f3 f4 f5
  obtain ⟨o,e,c,d⟩:=id st'
  exact ⟨u,rfl,Bs (s:={ s with heap:=h' }) e c d (by decide) ⟨x,H,I1,ru,⟨rfl,fun ys hy=>by rw [I.kT hy hq];exact hx⟩,st',fun b hb=>(hf b hb).1⟩⟩
 done:=by
  intro X hP hw hK hc i pins s σ H E I hf st hg
  subst hP hw hK
  obtain ⟨xs,hq,hx⟩:=hg
  obtain ⟨its,rv,p,hz⟩:=I.list hq
  obtain ⟨f0,f1,f2,f3,f4,f5⟩:=hf it (by simp)
  have hl:=rv.length
  exact wpAny_pyNext_list_end (I.ok.hd hc) st p.isList (by simp;omega) fun h' eb=>⟨rfl,I.turned (t':=s.toks) (fun b o hb e=>eb b o hb e) f0 f1 f3 f4 f5⟩
 self:=fun _ _ _ _ _ st h=>wpAny_pyIter_listiter st h
theorem AY {P:Program} {w:World} {K:PySem.W.Frag} {tg:Expr} (a it:Addr):Turn P w K tg (R_ K a) [it] it (fun i h=>h.IsTupleIter it a i) where
 mem:=by simp
 obj:=fun i h st b hb=>by
  have e:b=it:=by simpa using hb
  subst e
  obtain ⟨o,e,c,d⟩:=st
  exact ⟨o,e,fun v z=>by rw [d] at z;cases z⟩
 keep:=fun i h h' st k=>st.at fun o e=>k it (by simp) o e
 item:=by
  intro X hP hw hK hc i pins s σ H E I hf st hg
  subst hP hw hK
  obtain ⟨xs,x,hq,hx⟩:=hg
  obtain ⟨its,rv,p,hz⟩:=I.tuple hq
  obtain ⟨u,hu,ru⟩:=rv.get hx
  obtain ⟨f0,f1,f2,f3,f4,f5⟩:=hf it (by simp)
  refine wpAny_pyNext_tuple_item st (show s.heap.IsTuple a its.toArray from p) (x:=u) (by simpa using hu) fun h' st' sb=>?_
  have I1:Inv X pins σ H { s with heap:=h' }:=I.turned (t':=s.toks) (fun b o hb e=>(sb.2 b hb).trans e) f0 f1 f3 f4 f5
  obtain ⟨o,e,c,d⟩:=id st'
  exact ⟨u,rfl,Bs (s:={ s with heap:=h' }) e c d (by decide) ⟨x,H,I1,ru,⟨rfl,fun ys hy=>by rw [I.uV hy hq];exact hx⟩,st',fun b hb=>(hf b hb).1⟩⟩
 done:=by
  intro X hP hw hK hc i pins s σ H E I hf st hg
  subst hP hw hK
  obtain ⟨xs,hq,hx⟩:=hg
  obtain ⟨its,rv,p,hz⟩:=I.tuple hq
  obtain ⟨f0,f1,f2,f3,f4,f5⟩:=hf it (by simp)
  have hl:=rv.length
  exact wpAny_pyNext_tuple_end (I.ok.hd hc) st (show s.heap.IsTuple a its.toArray from p) (by simp;omega) fun h' eb=>⟨rfl,I.turned (t':=s.toks) (fun b o hb e=>eb b o hb e) f0 f1 f3 f4 f5⟩
 self:=fun _ _ _ _ _ st h=>wpAny_pyIter_tupleiter st h
theorem AX {P:Program} {w:World} {K:PySem.W.Frag} {tg:Expr} (it:Addr) (lo:Int) (n:Nat):Turn P w K tg (D6 lo n) [it] it (fun i h=>IsRangeIter h it (lo + (i:Nat) * 1) ((n:Int) - (i:Nat)) 1) where
 mem:=by simp
 obj:=fun i h st b hb=>by
  have e:b=it:=by simpa using hb
  subst e
  exact ⟨_,st,fun v z=>by
   have z':Data.fields _=Data.cell v:=z
   cases z'⟩
 keep:=fun i h h' st k=>k it (by simp) _ st
 item:=by
  intro X hP hw hK hc i pins s σ H E I hf st hg
  subst hP hw hK
  obtain ⟨f0,f1,f2,f3,f4,f5⟩:=hf it (by simp)
  have W:=Walks.range (prog:=X.prog) (w:=X.w) (I.ok.hd hc) it lo 1 n
  refine W.item i s _ _ hg st fun v h' tk hv st' kk=>?_
  obtain ⟨t,rfl⟩:=hv
  have I1:Inv X pins σ H { s with heap:=h',toks:=tk }:=I.turned (fun b o hb e=>kk b o (by simpa using hb) e) f0 f1 f3 f4 f5
  refine ⟨_,rfl,Bs (s:={ s with heap:=h',toks:=tk }) (n:="range_iterator") st' rfl rfl (by decide) ⟨.int (lo + i),H,I1,⟨t,?_⟩,⟨rfl,rfl⟩,st',fun b hb=>(hf b hb).1⟩⟩
  rw [Int.mul_one]
 done:=by
  intro X hP hw hK hc i pins s σ H E I hf st hg
  subst hP hw hK
  obtain ⟨f0,f1,f2,f3,f4,f5⟩:=hf it (by simp)
  exact wpAny_pyNext_range_end (I.ok.hd hc) st (by have:n≤i:=hg;omega) fun h' eb=>⟨rfl,I.turned (t':=s.toks) (fun b o hb e=>eb b o hb e) f0 f1 f3 f4 f5⟩
 self:=fun _ _ _ _ _ st h=>wpAny_pyIter_rangeiter st h
end L2
namespace L2
open PySem PySem.Spec PyProof.Rows
section
variable {X:Cx} {tg:Expr}
def Bu (K:PySem.W.Frag) (tl:TE):TI:=fun σ H R=>tl σ H fun x H1=>∃ a,x=.ref a∧(∃ xs,di K H1 a xs)∧R (GY K a) H1
def Lm (K:PySem.W.Frag) (tl:TE):TI:=fun σ H R=>tl σ H fun x H1=>∃ a,x=.ref a∧(∃ xs,g7 K H1 a xs)∧R (R_ K a) H1
theorem n9 {l:Expr} {tl:TE} (hl:PE X l tl):PI X tg l (Bu X.K tl):=by
 intro pins s σ H R I h
 refine cg (hl pins s σ H _ I h) fun v s1 ⟨x,H1,I1,r1,q1⟩=>?_
 obtain ⟨a,e,⟨xs,hq⟩,q⟩:=q1
 subst e
 cases r1
 obtain ⟨its,rv,p,hz⟩:=I1.list hq
 refine wpAny_pyIter_list p.isList ?_
 refine ⟨s1.heap.objs.size,[s1.heap.objs.size],_,_,H1,rfl,I1.kept (t':=s1.toks) fun b o e=>Heap.get?_push_of_some _ e,DN a _,⟨_,Heap.get?_push_size _ rfl,rfl,rfl⟩,fun b hb=>?_,q⟩
 have e:b=s1.heap.objs.size:=by simpa using hb
 subst e
 exact I1.CT (Nat.le_refl _) (I1.hok.fresh (Nat.le_refl _))
theorem Ay {l:Expr} {tl:TE} (hl:PE X l tl):PI X tg l (Lm X.K tl):=by
 intro pins s σ H R I h
 refine cg (hl pins s σ H _ I h) fun v s1 ⟨x,H1,I1,r1,q1⟩=>?_
 obtain ⟨a,e,⟨xs,hq⟩,q⟩:=q1
 subst e
 cases r1
 obtain ⟨its,rv,p,hz⟩:=I1.tuple hq
 refine wpAny_pyIter_tuple (show s1.heap.IsTuple a its.toArray from p) ?_
 refine ⟨s1.heap.objs.size,[s1.heap.objs.size],_,_,H1,rfl,I1.kept (t':=s1.toks) fun b o e=>Heap.get?_push_of_some _ e,AY a _,⟨_,Heap.get?_push_size _ rfl,rfl,rfl⟩,fun b hb=>?_,q⟩
 have e:b=s1.heap.objs.size:=by simpa using hb
 subst e
 exact I1.CT (Nat.le_refl _) (I1.hok.fresh (Nat.le_refl _))
theorem FY {pins:List (Addr × Obj)} {σ:St} {H:Hp} {s:Shared} {R:It→Hp→Prop} {E:Value→Shared→Prop} {lo hi:Int} {t u v:Tok} {tk:Nat} (I:Inv X pins σ H s) (h1:-(2 ^ 62)≤lo) (h2:lo < 2 ^ 62) (h3:-(2 ^ 62)≤hi) (h4:hi < 2 ^ 62)
  (q:R (D6 lo (hi - lo).toNat) H):wpAny (model X.prog X.w) X.A (pyIter (.ref s.heap.objs.size)) (Se X pins σ tg R) E { s with heap:=s.heap.push { cls:=.type "range",data:=.fields #[.int lo t,.int hi u,.int 1 v] },toks:=tk }:=by
 refine wpAny_pyIter_range (IsRange.new ..) (small_one h1 h2 h3 h4) ?_
 have I1:Inv X pins σ H { s with heap:=s.heap.push { cls:=.type "range",data:=.fields #[.int lo t,.int hi u,.int 1 v] },toks:=tk }:=I.kept fun b o e=>Heap.get?_push_of_some _ e
 refine ⟨(s.heap.push { cls:=.type "range",data:=.fields #[.int lo t,.int hi u,.int 1 v] }).objs.size,[(s.heap.push { cls:=.type "range",data:=.fields #[.int lo t,.int hi u,.int 1 v] }).objs.size],_,_,H,rfl,
  I1.kept (t':=tk) fun b o e=>Heap.get?_push_of_some _ e,AX _ lo (hi - lo).toNat,?_,fun b hb=>?_,q⟩
 ·have e1:lo + ((0:Nat):Int) * 1=lo:=by simp
  have e2:(((hi - lo).toNat:Nat):Int) - ((0:Nat):Int)=Builtin.Range.rangeSize lo hi 1:=by rw [rangeSize_one];split <;> omega
  show IsRangeIter _ _ (lo + ((0:Nat):Int) * 1) ((((hi - lo).toNat:Nat):Int) - ((0:Nat):Int)) 1
  rw [e1,e2]
  exact Heap.get?_push_size _ rfl
 ·have e:b=(s.heap.push { cls:=.type "range",data:=.fields #[.int lo t,.int hi u,.int 1 v] }).objs.size:=by simpa using hb
  subst e
  exact I1.CT (Nat.le_refl _) (I1.hok.fresh (Nat.le_refl _))
def Bv (ta:TA):TI:=fun σ H R=>ta σ H fun vs H1=>∃ j:Int,vs=[.int j]∧-(2 ^ 62)≤j∧j < 2 ^ 62∧R (D6 0 j.toNat) H1
def JH (ta:TA):TI:=fun σ H R=>ta σ H fun vs H1=>∃ i j:Int,vs=[.int i,.int j]∧(-(2 ^ 62)≤i∧i < 2 ^ 62∧-(2 ^ 62)≤j∧j < 2 ^ 62)∧R (D6 i (j - i).toNat) H1
theorem gB {a:Expr} {ta:TA} {p pos:Pos} (hg:Gl X "range") (hm:X.mg "range"=none) (ha:PA X [a] ta) (hs:starEach [a] X.env=[(false,eval a X.env)]:=by rfl):PI X tg (.Call (.Name "range" p) [a] [] pos) (Bv ta):=by
 intro pins s σ H R I h
 refine Call_ (mZ I hg hm boot_range (PyProof.Rows.callWith_type1 (cg (ha pos pins s σ H _ I h) fun us s1 ⟨vs,H1,I1,r1,q1⟩=>?_) hs rfl))
 obtain ⟨j,e,q1,q2,q⟩:=q1
 subst e
 cases r1 with
 | cons r rr =>
  cases rr
  obtain ⟨t,rfl⟩:=r
  exact call_range_1 (FY I1 (by omega) (by omega) q1 q2 (by simpa using q))
def MO (wi:TI) (g:TG) (tb:TS):TS:=fun D σ H=>wi σ H fun J H1=>∃ W:Nat→Nat→St→Hp→Prop,(∃ m,W 0 m σ H1)∧∀ i m σ H,W i m σ H →
 (J.stop i H∧D.nx σ H)∨(J.go i H∧∃ N:St→Hp→Prop,(∀ σ' H',N σ' H'→∃ m',m' < m∧W (i + 1) m' σ' H')∧∀ x H',J.yld i H x H'→g x σ H' fun σ2 H2=>tb { D with nx:=N,ct:=N,bk:=D.nx } σ2 H2)
def wg (fp:List Addr) (h:Heap):List (Addr × Obj):=fp.filterMap fun b=>(h.get? b).map fun o=>(b,o)
theorem b9 {fp:List Addr} {h:Heap} {b:Addr} {o:Obj} (hb:b∈fp) (e:h.get? b=some o):(b,o)∈wg fp h:=List.mem_filterMap.mpr ⟨b,hb,by rw [e];rfl⟩
theorem Dh {fp:List Addr} {h:Heap} {p:Addr × Obj} (hp:p∈wg fp h):p.1∈fp∧h.get? p.1=some p.2:=by
 obtain ⟨b,hb,e⟩:=List.mem_filterMap.mp hp
 cases q:h.get? b with
 | none=>rw [q] at e;cases e
 | some o =>
  rw [q] at e
  have e':(b,o)=p:=Option.some.inj e
  subst e'
  exact ⟨hb,q⟩
theorem Inv.pinned {pins:List (Addr × Obj)} {σ:St} {H:Hp} {s:Shared} {fp:List Addr} (I:Inv X pins σ H s) (hf:∀ b∈fp,jy X pins H b) (ho:∀ b∈fp,∃ o,s.heap.get? b=some o∧∀ v,o.data≠.cell v):Inv X (pins ++ wg fp s.heap) σ H s :=
 I.BK fun p hp=>(List.mem_append.mp hp).elim (fun z=>I.pin p (List.mem_append_right _ z)) fun z=>by
  obtain ⟨hb,e⟩:=Dh z
  obtain ⟨f0,f1,f2,_⟩:=hf p.1 hb
  obtain ⟨o,e',d⟩:=ho p.1 hb
  rw [e] at e';cases e'
  exact ⟨e,f0,f1,f2,d⟩
theorem Inv.fS {pins pl:List (Addr × Obj)} {σ:St} {H:Hp} {s:Shared} (I:Inv X (pins ++ pl) σ H s):Inv X pins σ H s:=I.BK fun p hp=>I.pin p (List.mem_append_right _ (List.mem_append_left _ hp))
theorem pL {iter:Expr} {body:List Stmt} {wi:TI} {g:TG} {tb:TS} {pos:Pos} (hp:PassesOwn (model X.prog X.w) X.A X.env X.xe) (hc:X.calm=true) (hi:PI X tg iter wi) (hg:PG X tg g) (hb:tE X body tb)
  (hs:∀ x,foldedSetIterable iter X.env x=pure x:=by intro _;rfl):PS X (.For tg iter body [] pos) (MO wi g tb):=by
 intro pins s σ H D I h
 refine wpAny_For (cg (hi pins s σ H _ I h) fun v s1 h1=>cg h1 fun itv s2 h2=>?_) hs
 obtain ⟨it,fp,tn,J,H2,e,I2,T,st2,f2,W,⟨m0,w0⟩,turn⟩:=h2
 subst e
 have stat:∀ {H':Hp},(∀ b∈fp,H' b=none)→∀ b∈fp,jy X pins H' b:=fun hn b hb=>⟨hn b hb,(f2 b hb).2⟩
 refine codeAny_forLoop_any (fun n s'=>∃ i σ' H',Inv X pins σ' H' s'∧tn i s'.heap∧(∀ b∈fp,H' b=none)∧W i n σ' H') ?_ m0 ⟨0,σ,H2,I2,st2,fun b hb=>(f2 b hb).1,w0⟩
 rintro n s3 ⟨i,σ3,H3,I3,st3,fr3,w3⟩
 rcases turn i n σ3 H3 w3 with ⟨stop,qn⟩ | ⟨go,N,hN,step⟩
 ·refine wpAny_passesOwn hp (cg (T.done X rfl rfl rfl hc i pins s3 σ3 H3 X.xe I3 (stat fr3) st3 stop) fun r s4 ⟨hr,I4⟩=>?_)
  subst hr
  exact wpAny_execs_nil ⟨σ3,H3,I4,qn⟩
 ·refine wpAny_passesOwn hp (cg (T.item X rfl rfl rfl hc i pins s3 σ3 H3 X.xe I3 (stat fr3) st3 go) fun r s4 ⟨u,hr,h4⟩=>?_)
  subst hr
  refine wpAny_passesOwn hp (cg h4 fun _ s5 ⟨x,H5,I5,r5,y5,st5,fr5⟩=>?_)
  have I5':=I5.pinned (stat fr5) (T.obj _ _ st5)
  refine wpAny_passesOwn hp (cg (hg _ s5 σ3 H5 x u _ I5' r5 (step x H5 y5)) fun _ s6 ⟨σ6,H6,I6,q6⟩=>?_)
  refine wpAny_passesOwn hp (cg (hb _ s6 σ6 H6 _ I6 q6) fun f s7 q7=>?_)
  have again:∀ {σ7:St} {H7:Hp},Inv X (pins ++ wg fp s5.heap) σ7 H7 s7→N σ7 H7→∃ m,m < n∧∃ i σ' H',Inv X pins σ' H' s7∧tn i s7.heap∧(∀ b∈fp,H' b=none)∧W i m σ' H':=fun {σ7 H7} I7 n7=>by
   obtain ⟨m',hm,w7⟩:=hN σ7 H7 n7
   refine ⟨m',hm,i + 1,σ7,H7,I7.fS,T.keep _ _ _ st5 fun b hb o e=>(I7.pin (b,o) (List.mem_append_right _ (List.mem_append_right _ (b9 hb e)))).1,fun b hb=>?_,w7⟩
   obtain ⟨o,e,d⟩:=T.obj _ _ st5 b hb
   exact (I7.pin (b,o) (List.mem_append_right _ (List.mem_append_right _ (b9 hb e)))).2.1
  cases f with
  | next=>obtain ⟨σ7,H7,I7,n7⟩:=q7;exact again I7 n7
  | cont=>obtain ⟨σ7,H7,I7,n7⟩:=q7;exact again I7 n7
  | brk=>obtain ⟨σ7,H7,I7,q7⟩:=q7;exact ⟨σ7,H7,I7.fS,q7⟩
  | ret v=>obtain ⟨x7,σ7,H7,I7,r7,q7⟩:=q7;exact ⟨x7,σ7,H7,I7.fS,r7,q7⟩
end
theorem Ey {K:PySem.W.Frag} {a:Addr} {xs:List V} {g:TG} {tb:TS} {D:Ends} {σ:St} {H:Hp} (Pv:Nat→St→Hp→Prop) (h0:Pv 0 σ H) (hl:∀ i σ H,i≤xs.length→Pv i σ H→di K H a xs)
  (hs:∀ i x σ H,xs[i]?=some x→Pv i σ H→g x σ H fun σ2 H2=>tb { D with nx:=Pv (i + 1),ct:=Pv (i + 1),bk:=D.nx } σ2 H2) (hd:∀ σ H,Pv xs.length σ H→D.nx σ H) :
  ∃ W:Nat→Nat→St→Hp→Prop,(∃ m,W 0 m σ H)∧∀ i m σ H,W i m σ H →
   ((GY K a).stop i H∧D.nx σ H)∨((GY K a).go i H∧∃ N:St→Hp→Prop,(∀ σ' H',N σ' H'→∃ m',m' < m∧W (i + 1) m' σ' H')∧∀ x H',(GY K a).yld i H x H'→g x σ H' fun σ2 H2=>tb { D with nx:=N,ct:=N,bk:=D.nx } σ2 H2):=by
 refine ⟨fun i m σ H=>m=xs.length - i∧i≤xs.length∧Pv i σ H,⟨xs.length,by simp,Nat.zero_le _,h0⟩,?_⟩
 rintro i m σ H ⟨rfl,hi,p⟩
 have q:=hl i σ H hi p
 by_cases hlt:i < xs.length
 ·refine .inr ⟨⟨xs,xs[i],q,by simp [hlt]⟩,Pv (i + 1),fun σ' H' p'=>⟨xs.length - (i + 1),by omega,rfl,hlt,p'⟩,fun x H' y=>?_⟩
  obtain ⟨e,y⟩:=y
  subst e
  exact hs i x σ _ (y xs q) p
 ·have e:i=xs.length:=by omega
  subst e
  exact .inl ⟨⟨xs,q,Nat.le_refl _⟩,hd σ H p⟩
theorem uF {lo:Int} {n:Nat} {g:TG} {tb:TS} {D:Ends} {σ:St} {H:Hp} (Pv:Nat→St→Hp→Prop) (h0:Pv 0 σ H)
  (hs:∀ i σ H,i < n→Pv i σ H→g (.int (lo + i)) σ H fun σ2 H2=>tb { D with nx:=Pv (i + 1),ct:=Pv (i + 1),bk:=D.nx } σ2 H2) (hd:∀ σ H,Pv n σ H→D.nx σ H) :
  ∃ W:Nat→Nat→St→Hp→Prop,(∃ m,W 0 m σ H)∧∀ i m σ H,W i m σ H →
   ((D6 lo n).stop i H∧D.nx σ H)∨((D6 lo n).go i H∧∃ N:St→Hp→Prop,(∀ σ' H',N σ' H'→∃ m',m' < m∧W (i + 1) m' σ' H')∧∀ x H',(D6 lo n).yld i H x H'→g x σ H' fun σ2 H2=>tb { D with nx:=N,ct:=N,bk:=D.nx } σ2 H2):=by
 refine ⟨fun i m σ H=>m=n - i∧i≤n∧Pv i σ H,⟨n,by simp,Nat.zero_le _,h0⟩,?_⟩
 rintro i m σ H ⟨rfl,hi,p⟩
 by_cases hlt:i < n
 ·refine .inr ⟨hlt,Pv (i + 1),fun σ' H' p'=>⟨n - (i + 1),by omega,rfl,hlt,p'⟩,fun x H' y=>?_⟩
  obtain ⟨e,y⟩:=y
  subst e y
  exact hs i σ _ hlt p
 ·have e:i=n:=by omega
  subst e
  exact .inl ⟨Nat.le_refl _,hd σ H p⟩
theorem y3 {c:TT} {tb:TS} {D:Ends} {σ:St} {H:Hp} (Pv:St→Hp→Prop) (μ:St→Hp→Nat) (h0:Pv σ H)
  (hs:∀ σ H,Pv σ H→c σ H fun b H1=>if b=true then tb { D with nx:=fun σ' H'=>Pv σ' H'∧μ σ' H' < μ σ H,ct:=fun σ' H'=>Pv σ' H'∧μ σ' H' < μ σ H,bk:=D.nx } σ H1 else D.nx σ H1)
  (mono:∀ σ H Q Q',(∀ b H1,Q b H1→Q' b H1)→c σ H Q→c σ H Q'):xi c tb D σ H:=by
 refine ⟨fun m σ H=>m=μ σ H∧Pv σ H,⟨_,rfl,h0⟩,?_⟩
 rintro m σ H ⟨rfl,p⟩
 refine mono σ H _ _ (fun b H1 q=>?_) (hs σ H p)
 cases b with
 | true=>exact ⟨_,fun σ' H' ⟨p',l⟩=>⟨_,l,rfl,p'⟩,q⟩
 | false=>exact q
end L2
namespace L2
open PySem PySem.Spec PyProof.Rows
abbrev R2:=V→V→Hp→VK→Prop
def fT (X:Cx) (f:Value→Value→Sem Value) (r:R2):Prop :=
 ∀ (pins:List (Addr × Obj)) (s:Shared) (σ:St) (H:Hp) (x y:V) (v u:Value) (Q:VK),Inv X pins σ H s→RelV x v→RelV y u→r x y H Q →
  wpAny (model X.prog X.w) X.A (f v u) (EP X pins σ Q) X.xe s
def y6 (X:Cx) (f:Value→Sem Value) (r:V→Hp→VK→Prop):Prop :=
 ∀ (pins:List (Addr × Obj)) (s:Shared) (σ:St) (H:Hp) (x:V) (v:Value) (Q:VK),Inv X pins σ H s→RelV x v→r x H Q →
  wpAny (model X.prog X.w) X.A (f v) (EP X pins σ Q) X.xe s
def cD (X:Cx) (f:Value) (r:List V→Hp→VK→Prop):Prop :=
 ∀ (pins:List (Addr × Obj)) (s:Shared) (σ:St) (H:Hp) (xs:List V) (us:List Value) (Q:VK),Inv X pins σ H s→Vals xs us→r xs H Q →
  wpAny (model X.prog X.w) X.A (call f us) (EP X pins σ Q) X.xe s
def Qk (X:Cx) (r:V→Hp→(Bool→Hp→Prop)→Prop):Prop :=
 ∀ (pins:List (Addr × Obj)) (s:Shared) (σ:St) (H:Hp) (x:V) (v:Value) (Q:Bool→Hp→Prop),Inv X pins σ H s→RelV x v→r x H Q →
  wpAny (model X.prog X.w) X.A (truthy v) (TP X pins σ Q) X.xe s
def Gz (r:R2) (ta tb:TE):TE:=fun σ H Q=>ta σ H fun x H1=>tb σ H1 fun y H2=>r x y H2 Q
def Qa (r:V→Hp→VK→Prop) (ta:TE):TE:=fun σ H Q=>ta σ H fun x H1=>r x H1 Q
def rI (C:Int→Int→Prop) (g:Int→Int→V):R2:=fun x y H Q=>∃ i j,x=.int i∧y=.int j∧C i j∧Q (g i j) H
def GQ (g:Int→Int→V):R2:=fun x y H Q=>∃ i j,x=.int i∧y=.int j∧Q (g i j) H
def rU (g:Int→V):V→Hp→VK→Prop:=fun x H Q=>∃ i,x=.int i∧Q (g i) H
section
variable {X:Cx} {a b c:Expr} {ta tb tc:TE} {pos:Pos}
theorem K9 (ha:PE X a ta) (hb:PE X b tb) {pins:List (Addr × Obj)} {s:Shared} {σ:St} {H:Hp} {R:V→V→Hp→Prop} (I:Inv X pins σ H s)
  (h:ta σ H fun x H1=>tb σ H1 fun y H2=>R x y H2) {Q:Value→Shared→Prop} {f:Value→Value→Sem Value}
  (hf:∀ v u s2 x y H2,Inv X pins σ H2 s2→RelV x v→RelV y u→R x y H2→wpAny (model X.prog X.w) X.A (f v u) Q X.xe s2) :
  wpAny (model X.prog X.w) X.A (eval a X.env) (fun v s₁=>wpAny (model X.prog X.w) X.A (eval b X.env) (fun u s₂=>wpAny (model X.prog X.w) X.A (f v u) Q X.xe s₂) X.xe s₁) X.xe s:=by
 refine cg (ha pins s σ H _ I h) fun v s1 ⟨x,H1,I1,r1,q1⟩=>?_
 refine cg (hb pins s1 σ H1 _ I1 q1) fun u s2 ⟨y,H2,I2,r2,q2⟩=>?_
 exact hf v u s2 x y H2 I2 r1 r2 q2
theorem bB {op:Operator} {r:R2} (ho:fT X (binaryOp op) r) (ha:PE X a ta) (hb:PE X b tb):PE X (.BinOp a op b pos) (Gz r ta tb):=by
 intro pins s σ H Q I h
 exact wpAny_BinOp (K9 ha hb I h fun v u s2 x y H2 I2 rx ry q=>ho pins s2 σ H2 x y v u Q I2 rx ry q)
theorem BJ {op:UnaryOp} {r:V→Hp→VK→Prop} (ho:y6 X (unaryOp op) r) (ha:PE X a ta):PE X (.UnaryOp op a pos) (Qa r ta):=by
 intro pins s σ H Q I h
 exact UnaryOp_ (cg (ha pins s σ H _ I h) fun v s1 ⟨x,H1,I1,r1,q1⟩=>ho pins s1 σ H1 x v Q I1 r1 q1)
theorem P5 {f:Value→Value→Sem Value} {C:Int→Int→Prop} {g:Int→Int→Int}
  (rule:∀ (i j:Int) (t u:Tok) (s:Shared) (Q:Value→Shared→Prop) (E:Value→Shared→Prop),C i j→Q (.int (g i j) s.toks) { s with toks:=s.toks + 1 }→wpAny (model X.prog X.w) X.A (f (.int i t) (.int j u)) Q E s) :
  fT X f (rI C fun i j=>.int (g i j)):=by
 intro pins s σ H x y v u Q I rx ry h
 obtain ⟨i,j,rfl,rfl,hc,q⟩:=h
 obtain ⟨t,rfl⟩:=rx
 obtain ⟨t',rfl⟩:=ry
 exact rule i j t t' s _ _ hc ⟨.int (g i j),H,I.tok _,⟨_,rfl⟩,q⟩
theorem OE {f:Value→Value→Sem Value} {g:Int→Int→Int}
  (rule:∀ (i j:Int) (t u:Tok) (s:Shared) (Q:Value→Shared→Prop) (E:Value→Shared→Prop),Q (.int (g i j) s.toks) { s with toks:=s.toks + 1 }→wpAny (model X.prog X.w) X.A (f (.int i t) (.int j u)) Q E s) :
  fT X f (GQ fun i j=>.int (g i j)):=by
 intro pins s σ H x y v u Q I rx ry h
 obtain ⟨i,j,rfl,rfl,q⟩:=h
 obtain ⟨t,rfl⟩:=rx
 obtain ⟨t',rfl⟩:=ry
 exact rule i j t t' s _ _ ⟨.int (g i j),H,I.tok _,⟨_,rfl⟩,q⟩
theorem Ib {f:Value→Value→Sem Value} {g:Int→Int→Bool}
  (rule:∀ (i j:Int) (t u:Tok) (s:Shared) (Q:Value→Shared→Prop) (E:Value→Shared→Prop),Q (.bool (g i j)) s→wpAny (model X.prog X.w) X.A (f (.int i t) (.int j u)) Q E s) :
  fT X f (GQ fun i j=>.bl (g i j)):=by
 intro pins s σ H x y v u Q I rx ry h
 obtain ⟨i,j,rfl,rfl,q⟩:=h
 obtain ⟨t,rfl⟩:=rx
 obtain ⟨t',rfl⟩:=ry
 exact rule i j t t' s _ _ ⟨.bl (g i j),H,I,rfl,q⟩
def Qd (i j:Int):Prop:=0≤j∧j≤1000000∧i.natAbs < 2 ^ 64
theorem jX:fT X (binaryOp .Add) (GQ fun i j=>.int (i + j)):=OE fun _ _ _ _ _ _ _ q=>add_int q
theorem Ap:fT X (binaryOp .Sub) (GQ fun i j=>.int (i - j)):=OE fun _ _ _ _ _ _ _ q=>sub_int q
theorem gM:fT X (binaryOp .Mod) (rI (fun _ j=>0 < j) fun i j=>.int (i % j)):=P5 fun i j _ _ _ _ _ hc q=>by
 have h1:(0:Int) < j:=hc
 exact mod_int' (by omega) (by rw [Int.fmod_eq_emod_of_nonneg i (by omega)];exact q)
theorem Ft:fT X (binaryOp .Pow) (rI Qd fun i j=>.int (i ^ j.toNat)):=P5 fun _ _ _ _ _ _ _ hc q=>pow_int_small hc.1 hc.2.1 hc.2.2 q
theorem Ta {f:Value→Sem Value} {g:Int→Int}
  (rule:∀ (i:Int) (t:Tok) (s:Shared) (Q:Value→Shared→Prop) (E:Value→Shared→Prop),Q (.int (g i) s.toks) { s with toks:=s.toks + 1 }→wpAny (model X.prog X.w) X.A (f (.int i t)) Q E s) :
  y6 X f (rU fun i=>.int (g i)):=by
 intro pins s σ H x v Q I rx h
 obtain ⟨i,rfl,q⟩:=h
 obtain ⟨t,rfl⟩:=rx
 exact rule i t s _ _ ⟨.int (g i),H,I.tok _,⟨_,rfl⟩,q⟩
theorem GF:y6 X (unaryOp .USub) (rU fun i=>.int (-i)):=Ta fun _ _ _ _ _ q=>neg_int q
end
def F9:V→V→Bool
 | .non,.non=>true | .non,.int _=>true | .int _,.non=>true | .non,.bl _=>true | .bl _,.non=>true | .non,.str _=>true | .str _,.non=>true
 | .int _,.int _=>true | .bl _,.bl _=>true | .str _,.str _=>true | .byt _,.byt _=>true
 | .int _,.str _=>true | .str _,.int _=>true | .bl _,.str _=>true | .str _,.bl _=>true
 | _,_=>false
def SF:R2:=fun x y H Q=>F9 x y=true∧Q (.bl (decide (x=y))) H
def SJ:R2:=fun x y H Q=>F9 x y=true∧Q (.bl (!decide (x=y))) H
theorem Bi {i j:Int}:decide (V.int i=V.int j)=(i == j):=by
 rw [Bool.eq_iff_iff]
 simp
theorem Eo {i j:Bool}:decide (V.bl i=V.bl j)=(i == j):=by
 rw [Bool.eq_iff_iff]
 simp
theorem Bj {i j:Str}:decide (V.str i=V.str j)=(i == j):=by
 rw [Bool.eq_iff_iff]
 simp
theorem Bh {i j:Array UInt8}:decide (V.byt i=V.byt j)=(i.toList == j.toList):=by
 rw [Bool.eq_iff_iff]
 cases i
 cases j
 simp
section
variable {X:Cx} {a b c:Expr} {ta tb tc:TE} {pos:Pos}
theorem bD {pins:List (Addr × Obj)} {σ:St} {H:Hp} {s:Shared} {Q:VK} {k k':Bool} (I:Inv X pins σ H s) (q:Q (.bl k) H) (e:k=k'):EP X pins σ Q (.bool k') s:=by
 subst e
 exact ⟨.bl k,H,I,rfl,q⟩
theorem Fs:fT X (compareOp .Eq) SF:=by
 intro pins s σ H x y v u Q I rx ry h
 obtain ⟨hs,q⟩:=h
 cases x with
 | non =>
  cases rx
  cases y with
  | non=>cases ry;exact PySem.EqNone.eq_none_none (bD I q (by simp))
  | bl j=>cases ry;exact PySem.EqNone.eq_none_bool (bD I q (by simp))
  | int j=>obtain ⟨t',rfl⟩:=ry;exact PySem.EqNone.eq_none_int (bD I q (by simp))
  | str j=>obtain ⟨t',rfl⟩:=ry;exact PySem.EqNone.eq_none_str (bD I q (by simp))
  | _=>exact absurd (show false=true from hs) Bool.false_ne_true
 | bl i =>
  cases rx
  cases y with
  | non=>cases ry;exact PySem.EqNone.eq_bool_none (bD I q (by simp))
  | bl j=>cases ry;exact eq_bool (bD I q Eo)
  | str j=>obtain ⟨t',rfl⟩:=ry;exact PySem.EqMixed.eq_bool_str (bD I q (by simp))
  | _=>exact absurd (show false=true from hs) Bool.false_ne_true
 | int i =>
  obtain ⟨t,rfl⟩:=rx
  cases y with
  | non=>cases ry;exact PySem.EqNone.eq_int_none (bD I q (by simp))
  | int j=>obtain ⟨t',rfl⟩:=ry;exact eq_int (bD I q Bi)
  | str j=>obtain ⟨t',rfl⟩:=ry;exact PySem.EqMixed.eq_int_str (bD I q (by simp))
  | _=>exact absurd (show false=true from hs) Bool.false_ne_true
 | str i =>
  obtain ⟨t,rfl⟩:=rx
  cases y with
  | non=>cases ry;exact PySem.EqNone.eq_str_none (bD I q (by simp))
  | bl j=>cases ry;exact PySem.EqMixed.eq_str_bool (bD I q (by simp))
  | int j=>obtain ⟨t',rfl⟩:=ry;exact PySem.EqMixed.eq_str_int (bD I q (by simp))
  | str j=>obtain ⟨t',rfl⟩:=ry;exact eq_str (bD I q Bj)
  | _=>exact absurd (show false=true from hs) Bool.false_ne_true
 | byt i =>
  obtain ⟨t,rfl⟩:=rx
  cases y with
  | byt j=>obtain ⟨t',rfl⟩:=ry;exact PySem.W.eq_bytes (bD I q Bh)
  | _=>exact absurd (show false=true from hs) Bool.false_ne_true
 | _=>cases y <;> exact absurd (show false=true from hs) Bool.false_ne_true
theorem Kc:fT X (compareOp .NotEq) SJ:=by
 intro pins s σ H x y v u Q I rx ry h
 obtain ⟨hs,q⟩:=h
 cases x with
 | non =>
  cases rx
  cases y with
  | non=>cases ry;exact PySem.EqNone.ne_none_none (bD I q (by simp))
  | bl j=>cases ry;exact PySem.EqNone.ne_none_bool (bD I q (by simp))
  | int j=>obtain ⟨t',rfl⟩:=ry;exact PySem.EqNone.ne_none_int (bD I q (by simp))
  | str j=>obtain ⟨t',rfl⟩:=ry;exact PySem.EqNone.ne_none_str (bD I q (by simp))
  | _=>exact absurd (show false=true from hs) Bool.false_ne_true
 | bl i =>
  cases rx
  cases y with
  | non=>cases ry;exact PySem.EqNone.ne_bool_none (bD I q (by simp))
  | bl j=>cases ry;exact ne_bool (bD I q (congrArg not Eo))
  | str j=>obtain ⟨t',rfl⟩:=ry;exact PySem.EqMixed.ne_bool_str (bD I q (by simp))
  | _=>exact absurd (show false=true from hs) Bool.false_ne_true
 | int i =>
  obtain ⟨t,rfl⟩:=rx
  cases y with
  | non=>cases ry;exact PySem.EqNone.ne_int_none (bD I q (by simp))
  | int j=>obtain ⟨t',rfl⟩:=ry;exact ne_int (bD I q (congrArg not Bi))
  | str j=>obtain ⟨t',rfl⟩:=ry;exact PySem.EqMixed.ne_int_str (bD I q (by simp))
  | _=>exact absurd (show false=true from hs) Bool.false_ne_true
 | str i =>
  obtain ⟨t,rfl⟩:=rx
  cases y with
  | non=>cases ry;exact PySem.EqNone.ne_str_none (bD I q (by simp))
  | bl j=>cases ry;exact PySem.EqMixed.ne_str_bool (bD I q (by simp))
  | int j=>obtain ⟨t',rfl⟩:=ry;exact PySem.EqMixed.ne_str_int (bD I q (by simp))
  | str j=>obtain ⟨t',rfl⟩:=ry;exact ne_str (bD I q (congrArg not Bj))
  | _=>exact absurd (show false=true from hs) Bool.false_ne_true
 | byt i =>
  obtain ⟨t,rfl⟩:=rx
  cases y with
  | byt j=>obtain ⟨t',rfl⟩:=ry;exact PySem.W.ne_bytes (bD I q (congrArg not Bh))
  | _=>exact absurd (show false=true from hs) Bool.false_ne_true
 | _=>cases y <;> exact absurd (show false=true from hs) Bool.false_ne_true
theorem BG:fT X (compareOp .Lt) (GQ fun i j=>.bl (decide (i < j))):=Ib fun _ _ _ _ _ _ _ q=>lt_int q
theorem Kb:fT X (compareOp .LtE) (GQ fun i j=>.bl (decide (i≤j))):=Ib fun _ _ _ _ _ _ _ q=>le_int q
theorem Ka:fT X (compareOp .Gt) (GQ fun i j=>.bl (decide (j < i))):=Ib fun _ _ _ _ _ _ _ q=>gt_int q
theorem J_:fT X (compareOp .GtE) (GQ fun i j=>.bl (decide (j≤i))):=Ib fun _ _ _ _ _ _ _ q=>ge_int q
theorem Dw:fT X (compareOp .Lt) (fun x y H Q=>∃ i j,x=.str i∧y=.str j∧Q (.bl (decide (i.cps.toList < j.cps.toList))) H):=by
 intro pins s σ H x y v u Q I rx ry h
 obtain ⟨i,j,rfl,rfl,q⟩:=h
 obtain ⟨t,rfl⟩:=rx
 obtain ⟨t',rfl⟩:=ry
 exact lt_str (bD I q rfl)
theorem Mc:fT X (compareOp .Is) (fun x y H Q=>y=.non∧Q (.bl (decide (x=.non))) H):=by
 intro pins s σ H x y v u Q I rx ry h
 obtain ⟨rfl,q⟩:=h
 cases ry
 refine is_none_gen (bD I q ?_)
 cases x <;> first
  | (cases rx;rfl)
  | (obtain ⟨t,rfl⟩:=rx;rfl)
theorem Ig:fT X (compareOp .IsNot) (fun x y H Q=>y=.non∧Q (.bl (!decide (x=.non))) H):=by
 intro pins s σ H x y v u Q I rx ry h
 obtain ⟨rfl,q⟩:=h
 cases ry
 refine isnot_none_gen (bD I q ?_)
 cases x <;> first
  | (cases rx;rfl)
  | (obtain ⟨t,rfl⟩:=rx;rfl)
theorem fT.or {f:Value→Value→Sem Value} {r r':R2} (h:fT X f r) (h':fT X f r'):fT X f (fun x y H Q=>r x y H Q∨r' x y H Q):=by
 intro pins s σ H x y v u Q I rx ry q
 rcases q with q | q
 ·exact h pins s σ H x y v u Q I rx ry q
 ·exact h' pins s σ H x y v u Q I rx ry q
theorem fz (b:Expr) {op:CmpOp} (h:op≠.In:=by decide) (h2:op≠.NotIn:=by decide):behindInMarks op b=false:=by
 have e1:(op == CmpOp.In)=false:=by cases op <;> first | rfl | exact absurd rfl h
 have e2:(op == CmpOp.NotIn)=false:=by cases op <;> first | rfl | exact absurd rfl h2
 cases b <;> simp [behindInMarks,e1,e2]
theorem qH {op:CmpOp} {r:R2} (ho:fT X (compareOp op) r) (ha:PE X a ta) (hb:PE X b tb) (hm:behindInMarks op b=false):PE X (.Compare a [op] [b] pos) (Gz r ta tb):=by
 intro pins s σ H Q I h
 exact wpAny_Compare1 (K9 ha hb I h fun v u s2 x y H2 I2 rx ry q=>ho pins s2 σ H2 x y v u Q I2 rx ry q) hm
def Cn (t:TE):TT:=fun σ H Q=>t σ H fun x H'=>∃ k,x=.bl k∧Q k H'
theorem dW {op:CmpOp} {r:R2} (ho:fT X (compareOp op) r) (ha:PE X a ta) (hb:PE X b tb) (hm:behindInMarks op b=false):PT X (.Compare a [op] [b] pos) (Cn (Gz r ta tb)):=by
 intro pins s σ H Q I h
 refine wpAny_isTrue_Compare1 (cg (ha pins s σ H _ I h) fun v s1 ⟨x,H1,I1,r1,q1⟩=>cg (hb pins s1 σ H1 _ I1 q1) fun u s2 ⟨y,H2,I2,r2,q2⟩ =>
  cg (ho pins s2 σ H2 x y v u _ I2 r1 r2 q2) fun c s3 ⟨z,H3,I3,r3,k,e,q3⟩=>?_) hm
 subst e
 cases r3
 exact wpAny_truthy_bool ⟨H3,I3,q3⟩
def Gw (r r':R2) (ta tb tc:TE):TE:=fun σ H Q=>ta σ H fun x H1=>tb σ H1 fun y H2=>r x y H2 fun z H3=>∃ k,z=.bl k ∧
 (if k=true then tc σ H3 fun w' H4=>r' y w' H4 Q else Q (.bl false) H3)
theorem FA {op op':CmpOp} {r r':R2} (ho:fT X (compareOp op) r) (ho':fT X (compareOp op') r') (ha:PE X a ta) (hb:PE X b tb) (hc:PE X c tc)
  (hm:lastMarks [op,op'] [b,c]=false:=by with_unfolding_all rfl):PE X (.Compare a [op,op'] [b,c] pos) (Gw r r' ta tb tc):=by
 intro pins s σ H Q I h
 refine Compare_chain (cg (ha pins s σ H _ I h) fun v s1 ⟨x,H1,I1,r1,q1⟩=>chain_link (cg (hb pins s1 σ H1 _ I1 q1) fun u s2 ⟨y,H2,I2,r2,q2⟩ =>
  cg (ho pins s2 σ H2 x y v u _ I2 r1 r2 q2) fun d s3 ⟨z,H3,I3,r3,k,e,q3⟩=>?_)) hm
 subst e
 cases r3
 refine wpAny_truthy_bool ?_
 cases k with
 | false=>exact ite_ff ⟨.bl false,H3,I3,rfl,q3⟩
 | true=>exact ite_tt (chain_last (cg (hc pins s3 σ H3 _ I3 q3) fun w' s4 ⟨z',H4,I4,r4,q4⟩=>ho' pins s4 σ H4 y z' u w' Q I4 r2 r4 q4))
def K4 (K:PySem.W.Frag) (x:V) (H:Hp) (k:Bool):Prop :=
 match x with
 | .non=>k=false
 | .bl b=>k=b
 | .int i=>k=(i != 0)
 | .str y=>y.length≤sizeLine∧k=((y.length:Int) != 0)
 | .byt y=>y.size≤sizeLine∧k=((y.size:Int) != 0)
 | .ref p=>(∃ xs,di K H p xs∧k=!xs.isEmpty)∨(∃ xs,g7 K H p xs∧k=!xs.isEmpty)∨∃ kvs ep,H p=some (.dE kvs ep)∧k=!kvs.isEmpty
 | _=>False
theorem zX {κ:Type} {kvs:List (κ × V)} {vs:List (κ × Value)} (r:KV kvs vs):(!vs.isEmpty)=!kvs.isEmpty:=by
 cases r <;> rfl
theorem rY {xs:List V} {its:List Value} (r:Vals xs its):(!its.toArray.isEmpty)=!xs.isEmpty:=by
 cases r <;> simp
theorem m4:(sizeLine:Nat) < 2 ^ 63:=by rw [sizeLine_eq];decide
theorem MT:Qk X (fun x H Q=>∃ k,K4 X.K x H k∧Q k H):=by
 intro pins s σ H x v Q I rx h
 obtain ⟨k,e,q⟩:=h
 have hl:=m4
 have hs:sizeLine=16777216:=sizeLine_eq
 cases x with
 | non =>
  cases rx
  have e':k=false:=e
  subst e'
  exact truthy_none ⟨H,I,q⟩
 | bl b =>
  cases rx
  have e':k=b:=e
  subst e'
  exact wpAny_truthy_bool ⟨H,I,q⟩
 | int i =>
  obtain ⟨t,rfl⟩:=rx
  have e':k=(i != 0):=e
  subst e'
  exact PySem.P.truthy_int ⟨H,I,q⟩
 | str y =>
  obtain ⟨t,rfl⟩:=rx
  obtain ⟨hy,e'⟩:y.length≤sizeLine∧k=((y.length:Int) != 0):=e
  subst e'
  exact PySem.P.truthy_str (by omega) ⟨H,I.tok _,q⟩
 | byt y =>
  obtain ⟨t,rfl⟩:=rx
  obtain ⟨hy,e'⟩:y.size≤sizeLine∧k=((y.size:Int) != 0):=e
  subst e'
  exact PySem.W.truthy_bytes (by omega) ⟨H,I.tok _,q⟩
 | ref p =>
  cases rx
  have e':(∃ xs,di X.K H p xs∧k=!xs.isEmpty)∨(∃ xs,g7 X.K H p xs∧k=!xs.isEmpty)∨∃ kvs ep,H p=some (.dE kvs ep)∧k=!kvs.isEmpty:=e
  rcases e' with ⟨xs,hx,e'⟩ | ⟨xs,hx,e'⟩ | ⟨kvs,ep,hx,e'⟩
  ·subst e'
   obtain ⟨its,r,pl,hz⟩:=I.list hx
   have hlen:=r.length
   exact wpAny_truthy_list pl.isList (by simp only [List.size_toArray];omega) ⟨H,I.tok _,by rw [rY r];exact q⟩
  ·subst e'
   obtain ⟨its,r,pl,hz⟩:=I.tuple hx
   have hlen:=r.length
   exact truthy_tuple pl (by simp only [List.size_toArray];omega) ⟨H,I.tok _,by rw [rY r];exact q⟩
  ·subst e'
   obtain ⟨hz,hS,vs,r,m⟩:kvs.length≤sizeLine∧(p == sysModules)=false∧∃ vs,KV kvs vs∧s.heap.DictAt (strKind X.prog X.w) p vs ep:=I.hok p _ hx
   have hlen:kvs.length=vs.length:=Paired.length r
   exact wpAny_truthy_dict hS m.dictOf (by omega) ⟨H,I.tok _,by rw [zX r];exact q⟩
 | _=>exact (show False from e).elim
theorem FI (ha:PE X a ta) (he:∀ whole,isTrue a X.env whole=(do let v ← whole;standAt a.pos;holding [v] (truthy v))) :
  PT X a (fun σ H Q=>ta σ H fun x H'=>∃ k,K4 X.K x H' k∧Q k H'):=by
 intro pins s σ H Q I h
 exact isTrue_plain (cg (ha pins s σ H _ I h) fun v s1 ⟨x,H1,I1,r1,q1⟩=>MT pins s1 σ H1 x v Q I1 r1 q1) (he _)
theorem vals1 {x:V} {us:List Value} (r:Vals [x] us):∃ u,us=[u]∧RelV x u:=by
 cases r with
 | cons r1 r2=>cases r2;exact ⟨_,rfl,r1⟩
theorem vals2 {x y:V} {us:List Value} (r:Vals [x,y] us):∃ u w',us=[u,w']∧RelV x u∧RelV y w':=by
 cases r with
 | cons r1 r2 =>
  cases r2 with
  | cons r3 r4=>cases r4;exact ⟨_,_,rfl,r1,r3⟩
theorem nG:cD X (.builtin "abs") (fun xs H Q=>∃ i,xs=[.int i]∧Q (.int (if i < 0 then -i else i)) H):=by
 intro pins s σ H xs us Q I r h
 obtain ⟨i,rfl,q⟩:=h
 obtain ⟨u,rfl,t,rfl⟩:=vals1 r
 exact call_abs_int fun u tk=>⟨.int (if i < 0 then -i else i),H,I.tok _,⟨_,rfl⟩,q⟩
end
end L2
namespace L2
open PySem PySem.Spec PyProof.Rows
structure zF (h:Heap) (x dx C:Addr) (mA:Str→Option Value):Prop where
 obj:h.get? x=some (PySem.W.instObj C dx)
 ns:h.Ns1 dx mA
 ne:dx≠x
theorem C9 {h:Heap} {dx:Addr} {mA:Str→Option Value} (n:h.Ns1 dx mA):∃ od,h.get? dx=some od∧∀ name,PySem.W.lookIn name od=some (mA name):=by
 obtain ⟨o,es,ep,ho,hd,hk,_,hm⟩:=n
 refine ⟨o,ho,fun name=>?_⟩
 have e:=hm name
 unfold nsFind findBy at e
 rw [← Array.find?_toList] at e
 unfold PySem.W.lookIn
 rw [hd]
 dsimp only
 split
 ·rename_i y q
  rw [q] at e
  exact congrArg some e
 ·rename_i q
  rw [q] at e
  have a:es.toList.any (·.refKey)=false:=by
   rw [List.any_eq_false]
   intro y hy
   obtain ⟨z,t,hkey⟩:=hk y (Array.mem_toList_iff.mp hy)
   simp [DictEntry.refKey,hkey]
  have a':¬ es.toList.any (·.refKey)=true:=by rw [a];exact Bool.false_ne_true
  rw [if_neg a']
  exact congrArg some e
theorem zF.look {h:Heap} {x dx C:Addr} {mA:Str→Option Value} (I:zF h x dx C mA):∃ od,PySem.W.InstAt h x (PySem.W.instObj C dx) C (some od)∧∀ name,PySem.W.lookIn name od=some (mA name) :=
 let ⟨od,ho,hl⟩:=C9 I.ns
 ⟨od,⟨I.obj,rfl,rfl,ho⟩,hl⟩
section
variable {prog:Program} {w:World} {A:Around} {E:Value→Shared→Prop} {s:Shared} {K:PySem.W.Frag} {x dx C f:Addr} {mA:Str→Option Value} {name:Str} {v:Value}
theorem get_map {expr:Bool} {Q:Value→Shared→Prop} (X:K.In s.heap) (I:zF s.heap x dx C mA) (hg:PySem.W.plainGet K C name=true) (hh:PySem.W.hasDictIn K C=true)
  (ha:PySem.W.findIn K (.ref C) name=some none) (hv:mA name=some v) (hv':PySem.W.handedIn v=true) (h:Q v { s with toks:=s.toks + 1 }) :
  wpAny (model prog w) A (getAttr (.ref x) name expr) Q E s:=by
 obtain ⟨od,J,hl⟩:=I.look
 exact PySem.W.get_value X J (PySem.W.plainGet_of hg).1 (PySem.W.findObj_own hh ha rfl (by rw [hl,hv])) hv' h
theorem EE {pl:Sem Bool} {Q:Value × List Value→Shared→Prop} (X:K.In s.heap) (I:zF s.heap x dx C mA) (hg:PySem.W.plainGet K C name=true)
  (hf:PySem.W.findIn K (.ref C) name=some (some (.ref f))) (ht:PySem.W.isFn K (.ref f)=true) (hv:mA name=none) (h:Q (.ref f,[.ref x]) s) :
  wpAny (model prog w) A (getMethod (.ref x) name pl) Q E s:=by
 obtain ⟨od,J,hl⟩:=I.look
 exact PySem.W.method_fn X J (PySem.W.plainGet_of hg).1 (PySem.W.plainGet_of hg).2 hf (beq_iff_eq.mp ht) (by show (PySem.W.lookIn name od).map (·.isSome)=some false;rw [hl,hv];rfl) h
theorem Ji {ns:List Str} {Q:Unit→Shared→Prop} (X:K.In s.heap) (I:zF s.heap x dx C mA)
  (hs:PySem.W.findIn K (.ref C) "__setattr__"=some (some (.builtin "object.__setattr__"))) (hp:PySem.W.plainOver K C=true) (ht:PySem.W.takerIn K C name=some none) (hh:PySem.W.hasDictIn K C=true)
  (hw:PySem.Within mA ns) (hsz:ns.length≤sizeLine)
  (h:∀ h',zF h' x dx C (fun y=>if y=name then some v else mA y)→Heap.SameBut dx s.heap h'→Q () { s with heap:=h',toks:=s.toks + 2 }) :
  wpAny (model prog w) A (setAttr (.ref x) name v) Q E s:=by
 obtain ⟨od,J,hl⟩:=I.look
 refine PySem.W.set_plain X J hs (PySem.W.osa_open (s:={ s with toks:=s.toks + 1 }) (r:=none) X J hp ht fun b=>?_)
 obtain ⟨cd,hc,hd'⟩:=PySem.W.any_some hh
 have hx:s.heap.get? x=some ⟨.ref C,some dx,.plain,#[]⟩:=I.obj
 refine wpAny_bind (wpAny_pure (wpAny_bind (wpAny_bind (wpAny_loadPart hx (wpAny_bind (PySem.W.Looks.here (s:={ s with toks:=s.toks + 1 }) (PySem.W.looks_clsIn X hc) ?_))))))
 rw [hd']
 refine wpAny_pure (a:=some dx) (wpAny_bind (wpAny_pure (wpAny_bind ?_)))
 refine wpAny_nsSet1 (s:={ s with toks:=s.toks + 1 }) I.ns fun h' hn2 hs2=>?_
 obtain ⟨oD,esD,epD,hoD,hdD,hcD⟩:=hn2.count (PySem.Within.cons name v hw)
 refine wpAny_bind (wpAny_lookBehind hoD (by rw [hdD];exact pastItsLine_dict (Nat.le_trans hcD (by rw [List.length_cons];omega))) ?_)
 exact wpAny_pure (h _ ⟨(hs2.2 _ (Ne.symm I.ne)).trans I.obj,hn2,I.ne⟩ hs2)
theorem E9 {R:Result→Shared→Prop} {vs:List Value} {kw:List (Str × Value)} (X:K.In s.heap) (hm:PySem.W.makesIn K C=true)
  (hi:PySem.W.findIn K (.ref C) "__init__"=some (some (.ref f))) (hf:PySem.W.typeIn K (.ref f)=some (.type "function"))
  (h:codeAny (model prog w) (A.under (.builtin "type.__call__" ⟨.ref C :: vs,kw⟩)) (.call (.ref f) ⟨.ref (s.heap.objs.size + 1) :: vs,kw⟩) (PySem.W.InitBack (s.heap.objs.size + 1) R)
   { s with heap:=(s.heap.push PySem.W.emptyDict).push (PySem.W.instObj C s.heap.objs.size) }) :
  codeAny (model prog w) A (.call (.ref C) ⟨vs,kw⟩) R s:=by
 obtain ⟨hh,g,d,t,os⟩:=s
 exact PySem.W.make_core (PySem.W.makes_of X hm) (PySem.W.looks_findIn X hi) (fun self=>PySem.W.bind_fn X self hf) (.inl rfl) h
end
def fC (f:Str) (v:V):List (Str × V)→List (Str × V)
 | []=>[(f,v)]
 | (g,x) :: r=>if g=f then (g,v) :: r else (g,x) :: fC f v r
theorem qd (f g:Str) (v:V):∀ fs:List (Str × V),(fC f v fs).lookup g=if g=f then some v else fs.lookup g
 | []=>by
  show List.lookup g [(f,v)]=_
  by_cases h:g=f
  ·have hb:(g == f)=true:=beq_iff_eq.mpr h
   simp only [List.lookup,hb,if_pos h]
  ·have hb:(g == f)=false:=beq_eq_false_iff_ne.mpr h
   simp only [List.lookup,hb,if_neg h]
 | (k,x) :: r=>by
  have ih:=qd f g v r
  rw [show fC f v ((k,x) :: r)=(if k=f then (k,v) :: r else (k,x) :: fC f v r) from rfl]
  by_cases hk:k=f
  ·rw [if_pos hk]
   by_cases h:g=k
   ·have hb:(g == k)=true:=beq_iff_eq.mpr h
    simp only [List.lookup,hb,if_pos (h.trans hk)]
   ·have hb:(g == k)=false:=beq_eq_false_iff_ne.mpr h
    simp only [List.lookup,hb,if_neg (fun e:g=f=>h (e.trans hk.symm))]
  ·rw [if_neg hk]
   by_cases h:g=k
   ·have hb:(g == k)=true:=beq_iff_eq.mpr h
    simp only [List.lookup,hb,if_neg (fun e:g=f=>hk (h.symm.trans e))]
   ·have hb:(g == k)=false:=beq_eq_false_iff_ne.mpr h
    simp only [List.lookup,hb]
    exact ih
theorem pw (f:Str) (v:V):∀ fs:List (Str × V),f∈(fC f v fs).map (·.1)∧∀ g,g∈fs.map (·.1)→g∈(fC f v fs).map (·.1)
 | []=>⟨by simp [fC],fun g h=>by simp at h⟩
 | (k,x) :: r=>by
  obtain ⟨i1,i2⟩:=pw f v r
  rw [show fC f v ((k,x) :: r)=(if k=f then (k,v) :: r else (k,x) :: fC f v r) from rfl]
  by_cases hk:k=f
  ·rw [if_pos hk]
   subst hk
   exact ⟨by simp,fun g h=>by simpa using h⟩
  ·rw [if_neg hk]
   refine ⟨?_,fun g h=>?_⟩
   ·rw [List.map_cons]
    exact List.mem_cons_of_mem _ i1
   ·rw [List.map_cons] at h ⊢
    rcases List.mem_cons.mp h with e | e
    ·exact List.mem_cons.mpr (.inl e)
    ·exact List.mem_cons_of_mem _ (i2 g e)
theorem qa (f:Str) (v:V):∀ fs:List (Str × V),(fC f v fs).length≤fs.length + 1
 | []=>by simp [fC]
 | (k,x) :: r=>by
  have ih:=qa f v r
  rw [show fC f v ((k,x) :: r)=(if k=f then (k,v) :: r else (k,x) :: fC f v r) from rfl]
  by_cases hk:k=f
  ·rw [if_pos hk,List.length_cons,List.length_cons];omega
  ·rw [if_neg hk,List.length_cons,List.length_cons];omega
theorem tP.some_of {v:V} {o:Option Value} (r:tP (some v) o):∃ u,o=some u∧RelV v u:=by
 cases o with
 | none=>exact (show False from r).elim
 | some u=>exact ⟨u,rfl,r⟩
theorem tP.none_of {o:Option Value} (r:tP none o):o=none:=by
 cases o with
 | none=>rfl
 | some u=>exact (show False from r).elim
theorem CU {v:V} {u:Value} (r:RelV v u):PySem.W.handedIn u=true:=by
 cases v with
 | non=>cases (show u=Value.none from r);rfl
 | bl b=>cases (show u=Value.bool b from r);rfl
 | int i=>obtain ⟨t,e⟩:=(show ∃ t,u=Value.int i t from r);cases e;rfl
 | str x=>obtain ⟨t,e⟩:=(show ∃ t,u=Value.str x t from r);cases e;rfl
 | byt b=>obtain ⟨t,e⟩:=(show ∃ t,u=Value.bytes b t from r);cases e;rfl
 | flt b=>obtain ⟨t,e⟩:=(show ∃ t,u=Value.float b t from r);cases e;rfl
 | ref a=>cases (show u=Value.ref a from r);rfl
 | ty n=>cases (show u=Value.type n from r);rfl
section
variable {P:Program} {w:World} {H H':Hp} {h h':Heap} {a C dx:Addr} {fs fs':List (Str × V)}
theorem qC (hok:nq P w H h) (e:H a=some (.ins C dx fs)):∃ mA,zF h a dx C mA∧(∀ f,tP (fs.lookup f) (mA f))∧PySem.Within mA (fs.map (·.1))∧fs.length≤1000∧H dx=some (.own a):=by
 obtain ⟨d,z,ne,ob,mA,n,r,q⟩:=(show dy P w H h a (.ins C dx fs) from hok a _ e)
 exact ⟨mA,⟨ob,n,ne⟩,r,q,z,d⟩
end
structure qA (K:PySem.W.Frag) (C:Addr):Prop where
 pg:PySem.W.plainGet K C Str.empty=true
 hd:PySem.W.hasDictIn K C=true
 po:PySem.W.plainOver K C=true
 sa:PySem.W.findIn K (.ref C) "__setattr__"=some (some (.builtin "object.__setattr__"))
theorem qA.get {K:PySem.W.Frag} {C:Addr} (c:qA K C) (f:Str):PySem.W.plainGet K C f=true:=c.pg
def aH (K:PySem.W.Frag) (C:Addr) (f:Str):Prop:=PySem.W.findIn K (.ref C) f=some none
theorem aH.Pu {K:PySem.W.Frag} {C:Addr} {f:Str} (n:aH K C f):PySem.W.takerIn K C f=some none:=by
 unfold PySem.W.takerIn
 rw [show PySem.W.findIn K (.ref C) f=some none from n]
 rfl
structure Meth (K:PySem.W.Frag) (C:Addr) (m:Str) (f:Addr):Prop where
 at_:PySem.W.findIn K (.ref C) m=some (some (.ref f))
 fn:PySem.W.isFn K (.ref f)=true
 kp:PySem.W.keepIn K (.ref f)=true
section
variable {X:Cx} {pins:List (Addr × Obj)} {σ:St} {H:Hp} {s:Shared} {a C dx:Addr} {fs:List (Str × V)} {f:Str} {v:V} {A:Around} {E:Value→Shared→Prop}
theorem zU {b:Bool} {Q:Value→Shared→Prop} (I:Inv X pins σ H s) (e:H a=some (.ins C dx fs)) (c:qA X.K C) (n:aH X.K C f) (l:fs.lookup f=some v)
  (h:∀ u s',Inv X pins σ H s'→RelV v u→Q u s'):wpAny (model X.prog X.w) A (getAttr (.ref a) f b) Q E s:=by
 obtain ⟨mA,O,r,_,_,_⟩:=qC I.hok e
 obtain ⟨u,hu,ru⟩:=tP.some_of (v:=v) (o:=mA f) (by rw [← l];exact r f)
 exact get_map I.mY O (c.get f) c.hd n hu (CU ru) (h u _ (I.tok _) ru)
theorem rS {m:Str} {g:Addr} {pl:Sem Bool} {Q:Value × List Value→Shared→Prop} (I:Inv X pins σ H s) (e:H a=some (.ins C dx fs)) (c:qA X.K C) (k:Meth X.K C m g) (l:fs.lookup m=none)
  (h:Q (.ref g,[.ref a]) s):wpAny (model X.prog X.w) A (getMethod (.ref a) m pl) Q E s:=by
 obtain ⟨mA,O,r,_,_,_⟩:=qC I.hok e
 have hn:mA m=none:=tP.none_of (by rw [← l];exact r m)
 exact EE I.mY O (c.get m) k.at_ k.fn hn h
theorem AM {y:V} {u:Value} {Q:Unit→Shared→Prop} (I:Inv X pins σ H s) (e:H a=some (.ins C dx fs)) (c:qA X.K C) (n:aH X.K C f) (hl:fs.length < 1000) (ry:RelV y u)
  (h:∀ s',Inv X pins σ (upd H a (.ins C dx (fC f y fs))) s'→Q () s'):wpAny (model X.prog X.w) A (setAttr (.ref a) f u) Q E s:=by
 obtain ⟨mA,O,r,wi,_,ho⟩:=qC I.hok e
 have hz:(fs.map (·.1)).length≤sizeLine:=by rw [List.length_map,sizeLine_eq];omega
 refine Ji I.mY O c.sa c.po n.Pu c.hd wi hz fun h' O' sb=>h _ ?_
 have hd:∃ o,h'.get? dx=some o:=let ⟨o,_,_,e',_⟩:=O'.ns;⟨o,e'⟩
 refine I.write (x:=a) (e:=dx) (by rw [e];exact True.intro) (.inr ho) (fun b q hb z=>(sb.2 b hb).trans z) hd ?_
 refine ⟨by rw [aK O.ne];exact ho,?_,O.ne,O'.obj,_,O'.ns,fun g=>?_,fun g hg=>?_⟩
 ·have:=qa f y fs;omega
 ·show tP ((fC f y fs).lookup g) (if g=f then some u else mA g)
  rw [qd]
  by_cases q:g=f
  ·rw [if_pos q,if_pos q];exact ry
  ·rw [if_neg q,if_neg q];exact r g
 ·by_cases q:g=f
  ·rw [q];exact (pw f y fs).1
  ·refine (pw f y fs).2 g (wi g fun z=>hg ?_)
   show (if g=f then some u else mA g)=none
   rw [if_neg q];exact z
theorem Inv.made (I:Inv X pins σ H s):Inv X pins σ (upd (upd H s.heap.objs.size (.own (s.heap.objs.size + 1))) (s.heap.objs.size + 1) (.ins C s.heap.objs.size []))
  { s with heap:=(s.heap.push PySem.W.emptyDict).push (PySem.W.instObj C s.heap.objs.size) }:=by
 have e1:(s.heap.push PySem.W.emptyDict).get? s.heap.objs.size=some PySem.W.emptyDict:=Heap.get?_push_size s.heap rfl
 have e2:((s.heap.push PySem.W.emptyDict).push (PySem.W.instObj C s.heap.objs.size)).get? (s.heap.objs.size + 1)=some (PySem.W.instObj C s.heap.objs.size):=by
  have:=Heap.get?_push_size (s.heap.push PySem.W.emptyDict) (o:=PySem.W.instObj C s.heap.objs.size) rfl
  rwa [Heap.size_push] at this
 have e3:(s.heap.push PySem.W.emptyDict).Ns s.heap.objs.size (fun _=>none):=⟨PySem.W.emptyDict,#[],_,e1,rfl,(fun e he=>absurd he (by simp)),fun _=>rfl⟩
 have I1:=I.laid (a:=s.heap.objs.size) (o:=.own (s.heap.objs.size + 1)) (h':=s.heap.push PySem.W.emptyDict) (t':=s.toks) (fun b u q=>Heap.get?_push_of_some _ q) (Nat.le_refl _) ⟨_,e1⟩
 refine I1.laid (a:=s.heap.objs.size + 1) (o:=.ins C s.heap.objs.size []) (t':=s.toks) (fun b u q=>Heap.get?_push_of_some _ q) (Nat.le_of_eq (Heap.size_push _ _)) ?_
 have ne:s.heap.objs.size≠s.heap.objs.size + 1:=Nat.ne_of_lt (Nat.lt_succ_self _)
 refine ⟨by rw [aK ne,aE],Nat.zero_le _,ne,e2,fun _=>none,(Heap.Ns1.of_empty e3).at fun o q=>Heap.get?_push_of_some _ q,fun _=>True.intro,fun y hy=>absurd rfl hy⟩
theorem Hb {prog:Program} {w:World} {env:Env} {e:Expr} {f:Str} {pos:Pos} {s:Shared} {Q:Value→Shared→Prop} (hb:attributeBase e f env (eval e env)=eval e env)
  (h:wpAny (model prog w) A (eval e env) (fun o s₁=>wpAny (model prog w) A (getAttr o f true) Q E s₁) E s):wpAny (model prog w) A (eval (.Attribute e f pos) env) Q E s :=
 Attribute_any_ h (by rw [arm_eval_Attribute,hb])
end
def Rz (K:PySem.W.Frag) (ta:TE) (f:Str):TE:=fun σ H Q=>ta σ H fun x H1=>∃ a C dx fs v,x=.ref a∧H1 a=some (.ins C dx fs)∧qA K C∧aH K C f∧fs.lookup f=some v∧Q v H1
def Rw (K:PySem.W.Frag) (ta tv:TE) (f:Str):TS:=fun D σ H=>tv σ H fun y H1=>ta σ H1 fun x H2=>∃ a C dx fs,x=.ref a∧H2 a=some (.ins C dx fs)∧qA K C∧aH K C f∧fs.length < 1000 ∧
 D.nx σ (upd H2 a (.ins C dx (fC f y fs)))
section
variable {X:Cx} {o e value:Expr} {f:Str} {pos pos' tpos:Pos} {ta tv:TE}
theorem Mh (he:PE X e ta) (hb:attributeBase e f X.env (eval e X.env)=eval e X.env):PE X (.Attribute e f pos) (Rz X.K ta f):=by
 intro pins s σ H Q I h
 refine Hb hb (cg (he pins s σ H _ I h) fun u s1 ⟨x,H1,I1,rx,a,C,dx,fs,v,ex,ea,c,n,l,q⟩=>?_)
 subst ex
 obtain rfl:u=Value.ref a:=rx
 exact zU I1 ea c n l fun u' s2 I2 ru=>⟨v,H1,I2,ru,q⟩
theorem Ml (ha:PE X o ta) (hv:PE X value tv) (hs:swapsWith value (some (.Attribute o f pos')) pos.line X.env=pure false):PS X (.Assign [.Attribute o f pos'] value pos) (Rw X.K ta tv f):=by
 intro pins s σ H D I h
 refine plainObj_wpAny_Assign_Attribute (cg (hv pins s σ H _ I h) fun u s1 ⟨y,H1,I1,ry,q⟩=>cg (ha pins s1 σ H1 _ I1 q) fun ov s2 ⟨x,H2,I2,rx,a,C,dx,fs,ex,ea,c,n,l,q2⟩=>?_) hs
 subst ex
 obtain rfl:ov=Value.ref a:=rx
 exact AM I2 ea c n l ry fun s3 I3=>⟨σ,_,I3,q2⟩
end
section
variable {X:Cx} {pins:List (Addr × Obj)} {σ:St} {H:Hp} {s:Shared} {A:Around} {E:Value→Shared→Prop} {Q:Value→Shared→Prop} {c:Value} {b:Bool}
inductive gY (K:PySem.W.Frag) (H:Hp):V→Value→Prop where
 | non:gY K H .non (.type "NoneType")
 | bl (x:Bool):gY K H (.bl x) (.type "bool")
 | int (i:Int):gY K H (.int i) (.type "int")
 | str (x:Str):gY K H (.str x) (.type "str")
 | flt (x:UInt64):gY K H (.flt x) (.type "float")
 | lst {a:Addr} {xs:List V} (e:H a=some (.lst xs)):gY K H (.ref a) (.type "list")
 | rQ {a:Addr} {o:Obj} {xs:List V} (e:H a=some (.rQ o (.lst xs))):gY K H (.ref a) (.type "list")
 | tup {a:Addr} {xs:List V} (e:H a=some (.tup xs)):gY K H (.ref a) (.type "tuple")
 | dK {a:Addr} {kvs:List (Key × V)} (e:H a=some (.dK kvs)):gY K H (.ref a) (.type "dict")
 | dE {a:Addr} {kvs:List (Str × V)} {ep:Nat} (e:H a=some (.dE kvs ep)):gY K H (.ref a) (.type "dict")
 | ins {a C dx:Addr} {fs:List (Str × V)} (e:H a=some (.ins C dx fs)) (cl:qA K C) (ha:PySem.W.findIn K (.ref C) "__class__"=some (some (.builtin "object.__class__")))
   (hn:PySem.W.specialIn K (.builtin "object.__class__") "__get__"=some (some (.builtin "getset_descriptor.__get__"))) (htk:PySem.W.takesIn K (.builtin "object.__class__")=some true)
   (hm:PySem.W.mroIn K C (.type "object")=some true):gY K H (.ref a) (.ref C)
theorem CZ {x:V} {u t:Value} (I:Inv X pins σ H s) (rx:RelV x u) (ty:gY X.K H x t) (e:PySem.W.kitOne X.K t c=some b) (h:∀ tk,Q (.bool b) { s with toks:=tk }) :
  wpAny (model X.prog X.w) A (call (.builtin "isinstance") [u,c]) Q E s:=by
 cases ty with
 | non=>cases (show u=Value.none from rx);exact PySem.W.kia_one PySem.W.kitx_none I.mY True.intro e (fun z=>nomatch z) h
 | bl y=>cases (show u=Value.bool y from rx);exact PySem.W.kia_one PySem.W.kitx_bool I.mY True.intro e (fun z=>nomatch z) h
 | int i=>obtain ⟨t,q⟩:=(show ∃ t,u=Value.int i t from rx);cases q;exact PySem.W.kia_one PySem.W.kitx_int I.mY True.intro e (fun z=>nomatch z) h
 | str y=>obtain ⟨t,q⟩:=(show ∃ t,u=Value.str y t from rx);cases q;exact PySem.W.kia_one PySem.W.kitx_str I.mY True.intro e (fun z=>nomatch z) h
 | flt y=>obtain ⟨t,q⟩:=(show ∃ t,u=Value.float y t from rx);cases q;exact PySem.W.kia_one PySem.W.kitx_float I.mY True.intro e (fun z=>nomatch z) h
 | @lst a xs ea =>
  cases (show u=Value.ref a from rx)
  obtain ⟨_,_,n,_,h1⟩:=(show dy X.prog X.w H s.heap a (.lst xs) from I.hok a _ ea)
  exact PySem.W.kia_one PySem.W.kitx_list I.mY ⟨_,h1,rfl⟩ e (fun z=>nomatch z) h
 | @rQ a ob xs ea =>
  cases (show u=Value.ref a from rx)
  obtain ⟨_,_,_,n,_,h1⟩:=(show dy X.prog X.w H s.heap a (.rQ ob (.lst xs)) from I.hok a _ ea)
  exact PySem.W.kia_one PySem.W.kitx_list I.mY ⟨_,h1,rfl⟩ e (fun z=>nomatch z) h
 | @tup a xs ea =>
  cases (show u=Value.ref a from rx)
  obtain ⟨_,_,_,p⟩:=(show dy X.prog X.w H s.heap a (.tup xs) from I.hok a _ ea)
  obtain ⟨o,h1,h2,_⟩:=p
  exact PySem.W.kia_one PySem.W.kitx_tuple I.mY ⟨o,h1,h2⟩ e (fun z=>nomatch z) h
 | @dK a kvs ea =>
  cases (show u=Value.ref a from rx)
  obtain ⟨_,_,vs,_,p⟩:=(show dy X.prog X.w H s.heap a (.dK kvs) from I.hok a _ ea)
  obtain ⟨o,es,ep,h1,h2,_⟩:=p
  exact PySem.W.kia_one PySem.W.kitx_dict I.mY ⟨o,h1,h2.1⟩ e (fun z=>nomatch z) h
 | @dE a kvs ep ea =>
  cases (show u=Value.ref a from rx)
  obtain ⟨_,_,vs,_,o,es,h1,h2,_⟩:=(show dy X.prog X.w H s.heap a (.dE kvs ep) from I.hok a _ ea)
  exact PySem.W.kia_one PySem.W.kitx_dict I.mY ⟨o,h1,h2.1⟩ e (fun z=>nomatch z) h
 | @ins a C dx fs ea cl ha hn htk hm =>
  cases (show u=Value.ref a from rx)
  obtain ⟨mA,O,_⟩:=qC I.hok ea
  obtain ⟨od,J,_⟩:=O.look
  exact PySem.W.kia_one (PySem.W.kitx_own (cl.get _) cl.hd ha hn htk hm) I.mY J e (fun z=>nomatch z) h
end
end L2
namespace L2
open PySem PySem.Spec PyProof.Rows
structure bU (k:Nat) (A:Around):Prop where
 hd:A.handled=none
 dp:A.depth + 3 * k + 5 < recursionLimit
 un:A.units + 16 * k + 200 < cLine
theorem bU.mono {j k:Nat} {A:Around} (r:bU k A) (h:j≤k):bU j A:=⟨r.hd,by have:=r.dp;omega,by have:=r.un;omega⟩
theorem bU.deeper {k:Nat} {A:Around} (r:bU (k + 1) A) (env:Env):bU k (A.deeper env) :=
 ⟨r.hd,by have:=r.dp;show A.depth + 1 + 3 * k + 5 < _;omega,by have:=r.un;show A.units + 3 + 16 * k + 200 < _;omega⟩
theorem Ad {A:Around} {C:Addr} {us:List Value} {kw:List (Str × Value)}:(A.under (.builtin "type.__call__" ⟨.ref C :: us,kw⟩)).depth=A.depth + 1:=by
 first | rfl | simp [Around.under,Code.weight,Code.isCreation,Code.isGuard,Code.isCaller,Code.frames,Code.isFrame,guardIds]
theorem Ae {A:Around} {C:Addr} {us:List Value} {kw:List (Str × Value)}:(A.under (.builtin "type.__call__" ⟨.ref C :: us,kw⟩)).units=A.units + 1:=by
 first | rfl | simp [Around.under,Code.cUnits,Code.frames,Code.isFrame]
theorem bU.make {k:Nat} {A:Around} (r:bU (k + 1) A) (C:Addr) (us:List Value) (kw:List (Str × Value)):bU k (A.under (.builtin "type.__call__" ⟨.ref C :: us,kw⟩)) :=
 ⟨r.hd,by have:=r.dp;rw [Ad];omega,by have:=r.un;rw [Ae];omega⟩
theorem bU.depth {k:Nat} {A:Around} (r:bU k A):A.depth < recursionLimit:=by have:=r.dp;omega
theorem bU.MX {k:Nat} {A:Around} (r:bU k A):A.units < cLine:=by have:=r.un;omega
def xh:TA:=fun _ H Q=>Q [] H
def fo (ta:TE) (tr:TA):TA:=fun σ H Q=>ta σ H fun x H1=>tr σ H1 fun xs H2=>Q (x :: xs) H2
section
variable {X:Cx} {e:Expr} {es:List Expr} {te:TE} {t:TA} {pos:Pos}
theorem a_:PA X [] xh:=fun _ _ _ _ H Q I h=>Calls.spliced_nil ⟨[],H,I,.nil,h⟩
theorem ay (ha:PE X e te) (hr:PA X es t) (hs:starEach (e :: es) X.env=(false,eval e X.env) :: starEach es X.env:=by rfl):PA X (e :: es) (fo te t):=by
 intro pos pins s σ H Q I h
 rw [hs]
 show wpAny _ _ (spliced ((false,eval e X.env) :: backTo pos (starEach es X.env))) _ _ s
 refine Calls.spliced_cons (cg (ha pins s σ H _ I h) fun u s1 ⟨x,H1,I1,r1,q1⟩=>?_)
 exact cg (hr pos pins s1 σ H1 _ I1 q1) fun us s2 ⟨xs,H2,I2,r2,q2⟩=>⟨x :: xs,H2,I2,.cons r1 r2,q2⟩
def Js (t:TA):TE:=fun σ H Q=>t σ H fun xs H1=>xs.length≤sizeLine∧∀ p,H1 p=none→Q (.ref p) (upd H1 p (.tup xs))
def DK (t:TA):TE:=fun σ H Q=>t σ H fun xs H1=>xs.length≤sizeLine∧∀ p,H1 p=none→Q (.ref p) (upd H1 p (.lst xs))
theorem sC {x1} (h:PA X es t):PE X (.Tuple es x1 pos) (Js t):=by
 intro pins s σ H Q I hq
 refine wpAny_Tuple_spliced (cg (h pos pins s σ H _ I hq) fun us s1 ⟨xs,H1,I1,r,z,q⟩=>⟨by rw [← r.length];exact z,?_⟩)
 have hf:H1 s1.heap.objs.size=none:=I1.hok.fresh (Nat.le_refl _)
 refine ⟨.ref s1.heap.objs.size,upd H1 s1.heap.objs.size (.tup xs),I1.laid (t':=s1.toks) (fun b u e=>Heap.get?_push_of_some _ e) (Nat.le_refl _) ?_,rfl,q _ hf⟩
 exact ⟨z,us,r,⟨_,Heap.get?_push_size _ rfl,rfl,_,rfl⟩⟩
theorem jY (h:PA X es t):PE X (.List es pos) (DK t):=by
 intro pins s σ H Q I hq
 refine wpAny_List_spliced (cg (h pos pins s σ H _ I hq) fun us s1 ⟨xs,H1,I1,r,z,q⟩=>⟨by rw [← r.length];exact z,?_⟩)
 have hf:H1 s1.heap.objs.size=none:=I1.hok.fresh (Nat.le_refl _)
 refine ⟨.ref s1.heap.objs.size,upd H1 s1.heap.objs.size (.lst xs),I1.laid (t':=s1.toks) (fun b u e=>Heap.get?_push_of_some _ e) (Nat.le_refl _) ?_,rfl,q _ hf⟩
 exact ⟨z,us,0,r,Heap.get?_push_size _ rfl⟩
end
abbrev Sp:=List V→Hp→VK→XK→Prop
abbrev tH:=List Env→Hp→Shared→XK→Value→Shared→Prop
structure zt (P:Program) (w:World) (K:PySem.W.Frag) (mg:Str→Option Value) (base:Heap) (A:Around) (outer:List Env) (s:Shared) (H:Hp):Prop where
 frames:A.frames=some outer
 mod:Mod K mg base
 bs:∀ b o,base.get? b=some o→s.heap.get? b=some o∧H b=none
 bsz:base.objs.size≤s.heap.objs.size
 mV:s.heap.FunFrames base outer
 frf:∀ b∈kB outer,H b=none
 hok:nq P w H s.heap
 bare:AllBare s.gens
def CE (outer:List Env) (P:Program) (w:World) (H:Hp) (s:Shared) (Q:VK) (u:Value) (s':Shared):Prop :=
 ∃ v H',s'.os=s.os∧AllBare s'.gens∧Un (kB outer) [] H H' s.heap s'.heap∧nq P w H' s'.heap∧RelV v u∧Q v H'
def CR (CX:tH) (outer:List Env) (P:Program) (w:World) (H:Hp) (s:Shared) (Q:VK) (E:XK) (r:Result) (s':Shared):Prop :=
 match r with
 | .ok (.ret u)=>CE outer P w H s Q u s'
 | .ok _=>False
 | .error e=>CX outer H s E e s'
structure aL (P:Program) (w:World) (K:PySem.W.Frag) (mg:Str→Option Value) (base:Heap) (CX:tH) (k:Nat) (f:Addr) (fd:FuncData) (ps:List Str) (sp:Sp):Prop where
 len:∀ vs H Q E,sp vs H Q E→vs.length=ps.length
 run:∀ (A:Around) (outer:List Env) (s:Shared) (H:Hp) (args:Args) (us:List Value) (vs:List V) (Q:VK) (E:XK),bU k A→zt P w K mg base A outer s H→BindsTo s fd args (ps.zip us)→Vals vs us→sp vs H Q E →
  codeAny (model P w) A (.call (.ref f) args) (CR CX outer P w H s Q E) s
theorem aL.imp {P:Program} {w:World} {K:PySem.W.Frag} {mg:Str→Option Value} {base:Heap} {CX:tH} {k:Nat} {f:Addr} {fd:FuncData} {ps:List Str} {sp sp':Sp} (F:aL P w K mg base CX k f fd ps sp)
  (h:∀ vs H Q E,sp' vs H Q E→sp vs H Q E):aL P w K mg base CX k f fd ps sp' :=
 ⟨fun vs H Q E q=>F.len vs H Q E (h _ _ _ _ q),fun A outer s H args us vs Q E hr he hb hv hs=>F.run A outer s H args us vs Q E hr he hb hv (h _ _ _ _ hs)⟩
theorem zt.make {P:Program} {w:World} {K:PySem.W.Frag} {mg:Str→Option Value} {base:Heap} {A:Around} {outer:List Env} {s:Shared} {H:Hp} (e:zt P w K mg base A outer s H) (C:Addr) (us:List Value) (kw:List (Str × Value)) :
  zt P w K mg base (A.under (.builtin "type.__call__" ⟨.ref C :: us,kw⟩)) outer s H:=⟨by first | exact e.frames | (simpa [Around.under,Code.envs,Code.isFrame,pushEnvs] using e.frames),e.mod,e.bs,e.bsz,e.mV,e.frf,e.hok,e.bare⟩
section
variable {X:Cx} {pins:List (Addr × Obj)} {σ:St} {H:Hp} {s s':Shared}
theorem Inv.NL (I:Inv X pins σ H s):zt X.prog X.w X.K X.mg X.base X.A X.stack s H :=
 ⟨I.ok.frames,I.ok.mod,I.bs,Nat.le_trans I.ok.bsz I.sz,I.stack,I.xf,I.hok,I.bare⟩
theorem Inv.after {Q:VK} {u:Value} (I:Inv X pins σ H s) (h:CE X.stack X.prog X.w H s Q u s'):EP X pins σ Q u s':=by
 obtain ⟨v,H',os,bare,un,hok,r,q⟩:=h
 obtain ⟨hh,g,d,t,os'⟩:=s'
 obtain rfl:os'=s.os:=os
 exact ⟨v,H',I.call (h':=hh) (g':=g) (d':=d) (t':=t) (ch:=[]) un hok bare (fun b z=>absurd z (by simp)),r,q⟩
end
def tq (sp:Sp) (dvs:List V) (E:XK) (t:TA):TE:=fun σ H Q=>t σ H fun vs H1=>sp (vs ++ dvs) H1 Q E
def Gy (C:Addr) (m:Str) (sp:Sp) (dvs:List V) (E:XK) (ta:TE) (t:TA):TE:=fun σ H Q=>ta σ H fun x H1=>∃ a dx fs,x=.ref a∧H1 a=some (.ins C dx fs)∧fs.lookup m=none ∧
 t σ H1 fun vs H2=>sp (x :: (vs ++ dvs)) H2 Q E
def Gx (C:Addr) (sp:Sp) (dvs:List V) (E:XK) (t:TA):TE:=fun σ H Q=>t σ H fun vs H1=>∀ x dx,H1 x=none→H1 dx=none→dx≠x →
 sp (.ref x :: (vs ++ dvs)) (upd (upd H1 dx (.own x)) x (.ins C dx [])) (fun v H2=>v=.non∧Q (.ref x) H2) E
def Binds (K:PySem.W.Frag) (fd:FuncData) (ps:List Str) (ds:List Value):Prop :=
 ∀ (s:Shared) (us:List Value),K.In s.heap→(us ++ ds).length=ps.length→BindsTo s fd ⟨us,[]⟩ (ps.zip (us ++ ds))
theorem Binds.all {K:PySem.W.Frag} {fd:FuncData} {ps:List Str} (h:∀ us:List Value,us.length=ps.length→bindArgs fd ⟨us,[]⟩=pure (ps.zip us)):Binds K fd ps []:=fun s us _ hl=>by
 rw [List.append_nil] at hl ⊢
 exact .of_eq (h us hl)
def Passes (CX:tH) (X:Cx) (E:XK):Prop:=∀ (pins:List (Addr × Obj)) (σ:St) (H:Hp) (s:Shared) (e:Value) (s':Shared),Inv X pins σ H s→CX X.stack H s E e s'→X.xe e s'
section
variable {X:Cx} {CX:tH} {k:Nat} {f C:Addr} {fd:FuncData} {ps:List Str} {sp:Sp} {dvs:List V} {ds:List Value} {E:XK} {x m:Str} {p pos apos:Pos} {e o:Expr} {es:List Expr} {ta:TE} {t:TA}
theorem AJ {pins:List (Addr × Obj)} {σ:St} {H:Hp} {s:Shared} {Q:VK} {us:List Value} {vs:List V} (F:aL X.prog X.w X.K X.mg X.base CX k f fd ps sp) (hr:bU k X.A) (hb:Binds X.K fd ps ds) (hd:Vals dvs ds) (hx:Passes CX X E)
  (I:Inv X pins σ H s) (r:Vals vs us) (h:sp (vs ++ dvs) H Q E):wpAny (model X.prog X.w) X.A (call (.ref f) us) (EP X pins σ Q) X.xe s:=by
 have r2:Vals (vs ++ dvs) (us ++ ds):=r.append hd
 have hl:(us ++ ds).length=ps.length:=by rw [← r2.length];exact F.len _ _ _ _ h
 refine wpAny_call (codeAny_mono (F.run X.A X.stack s H ⟨us,[]⟩ (us ++ ds) (vs ++ dvs) Q E hr I.NL (hb s us I.mY hl) r2 h) fun r s' hq=>?_)
 cases r with
 | error e=>exact hx pins σ H s e s' I hq
 | ok fl =>
  cases fl with
  | ret u=>exact I.after hq
  | next=>exact False.elim hq
  | brk=>exact False.elim hq
  | cont=>exact False.elim hq
theorem BI (F:aL X.prog X.w X.K X.mg X.base CX k f fd ps sp) (hr:bU k X.A) (hg:Gl X x) (hm:X.mg x=some (.ref f)) (hk:PySem.W.keepIn X.K (.ref f)=true) (hb:Binds X.K fd ps ds) (hd:Vals dvs ds) (hx:Passes CX X E)
  (ha:PA X (e :: es) t) (hdb:(x == ("__debug__":Str))=false:=by decide) (he:starEach (e :: es) X.env=(false,eval e X.env) :: starEach es X.env:=by rfl) (hpl:(backTo pos (starEach es X.env)).any (·.1)=false:=by rfl) :
  PE X (.Call (.Name x p) (e :: es) [] pos) (tq sp dvs E t):=by
 intro pins s σ H Q I h
 refine wpAny_Call_Name_kw (lQ I hg hm ?_ hdb)
 refine PySem.W.callWith_K (h₀:=X.base) I.ok.mod.kin hk (cg (ha pos pins s σ H _ I h) fun us s1 ⟨vs,H1,I1,r,q⟩=>⟨I1.mY,?_⟩) he hpl
 exact AJ F hr hb hd hx I1 r q
theorem Ip {pl:Sem Bool} (he:PE X o ta) (c:qA X.K C) (hm:Meth X.K C m f) (F:aL X.prog X.w X.K X.mg X.base CX k f fd ps sp) (hr:bU k X.A) (hb:Binds X.K fd ps ds) (hd:Vals dvs ds) (hx:Passes CX X E) (ha:PA X (e :: es) t)
  (hst:starEach (e :: es) X.env=(false,eval e X.env) :: starEach es X.env:=by rfl) (hpl:(backTo pos (starEach es X.env)).any (·.1)=false:=by rfl)
  (ht:eval (.Call (.Attribute o m apos) (e :: es) [] pos) X.env=(do
   let ov ← eval o X.env
   standAt apos.atName
   let (f,first) ← holding [ov] (getMethod ov m pl)
   callWith pos f first (backTo pos (starEach (e :: es) X.env)) (backToKw pos (keywordEach [] X.env))):=by rfl) :
  PE X (.Call (.Attribute o m apos) (e :: es) [] pos) (Gy C m sp dvs E ta t):=by
 intro pins s σ H Q I h
 refine PySem.W.methodCall_KW (pl:=pl) (cg (he pins s σ H _ I h) fun u s1 ⟨x,H1,I1,rx,a,dx,fs,ex,ea,l,q⟩=>?_) ht
 subst ex
 obtain rfl:u=Value.ref a:=rx
 refine rS I1 ea c hm l ?_
 refine PySem.W.callWith_K (first:=[.ref a]) (h₀:=X.base) I.ok.mod.kin hm.kp (cg (ha pos pins s1 σ H1 _ I1 q) fun us s2 ⟨vs,H2,I2,r,q2⟩=>⟨I2.mY,?_⟩) hst hpl
 exact AJ (us:=.ref a :: us) (vs:=.ref a :: vs) F hr hb hd hx I2 (.cons rfl r) q2
theorem FD {pl:Sem Bool} (he:PE X o ta) (c:qA X.K C) (hm:Meth X.K C m f) (F:aL X.prog X.w X.K X.mg X.base CX k f fd ps sp) (hr:bU k X.A) (hb:Binds X.K fd ps ds) (hd:Vals dvs ds) (hx:Passes CX X E)
  (ht:eval (.Call (.Attribute o m apos) [] [] pos) X.env=(do
   let ov ← eval o X.env
   standAt apos.atName
   let (f,first) ← holding [ov] (getMethod ov m pl)
   callWith pos f first (backTo pos (starEach [] X.env)) (backToKw pos (keywordEach [] X.env))):=by rfl) :
  PE X (.Call (.Attribute o m apos) [] [] pos) (Gy C m sp dvs E ta xh):=by
 intro pins s σ H Q I h
 refine PySem.W.methodCall_KW (pl:=pl) (cg (he pins s σ H _ I h) fun u s1 ⟨x,H1,I1,rx,a,dx,fs,ex,ea,l,q⟩=>?_) ht
 subst ex
 obtain rfl:u=Value.ref a:=rx
 refine rS I1 ea c hm l ?_
 exact PySem.W.callWith_K0 (first:=[.ref a]) I1.mY hm.kp (AJ (us:=[.ref a]) (vs:=[.ref a]) F hr hb hd hx I1 (.cons rfl .nil) q)
structure Mk (K:PySem.W.Frag) (C f:Addr):Prop where
 makes:PySem.W.makesIn K C=true
 init:PySem.W.findIn K (.ref C) "__init__"=some (some (.ref f))
 fn:PySem.W.isFn K (.ref f)=true
 kp:PySem.W.keepIn K (.ref C)=true
theorem yC {pins:List (Addr × Obj)} {σ:St} {H:Hp} {s:Shared} {Q:VK} {us:List Value} {vs:List V} (M:Mk X.K C f) (F:aL X.prog X.w X.K X.mg X.base CX k f fd ps sp) (hr:bU (k + 1) X.A) (hb:Binds X.K fd ps ds) (hd:Vals dvs ds)
  (hx:Passes CX X E) (I:Inv X pins σ H s) (r:Vals vs us)
  (h:∀ x dx,H x=none→H dx=none→dx≠x→sp (.ref x :: (vs ++ dvs)) (upd (upd H dx (.own x)) x (.ins C dx [])) (fun v H2=>v=.non∧Q (.ref x) H2) E) :
  wpAny (model X.prog X.w) X.A (call (.ref C) us) (EP X pins σ Q) X.xe s:=by
 have hq:=h (s.heap.objs.size + 1) s.heap.objs.size (I.hok.fresh (Nat.le_succ _)) (I.hok.fresh (Nat.le_refl _)) (Nat.ne_of_lt (Nat.lt_succ_self _))
 have I2:=Inv.made (C:=C) I
 have r2:Vals (V.ref (s.heap.objs.size + 1) :: (vs ++ dvs)) (Value.ref (s.heap.objs.size + 1) :: (us ++ ds)):=.cons rfl (r.append hd)
 have hl:(Value.ref (s.heap.objs.size + 1) :: us ++ ds).length=ps.length:=by
  have e:=r2.length
  rw [F.len _ _ _ _ hq] at e
  exact e.symm
 refine wpAny_call (E9 (f:=f) I.mY M.makes M.init (beq_iff_eq.mp M.fn) (codeAny_mono (F.run _ X.stack _ _ ⟨Value.ref (s.heap.objs.size + 1) :: us,[]⟩ (Value.ref (s.heap.objs.size + 1) :: (us ++ ds)) _ _ E (hr.make C us [])
  (I2.NL.make C us []) (hb _ (Value.ref (s.heap.objs.size + 1) :: us) I2.mY hl) r2 hq) fun r s' hq'=>?_))
 cases r with
 | error e=>exact hx pins σ _ _ e s' I2 hq'
 | ok fl =>
  cases fl with
  | ret u =>
   obtain ⟨v,H',I3,rv,ev,q3⟩:=I2.after hq'
   subst ev
   exact ⟨rv,⟨V.ref (s.heap.objs.size + 1),H',I3,rfl,q3⟩⟩
  | next=>exact False.elim hq'
  | brk=>exact False.elim hq'
  | cont=>exact False.elim hq'
theorem Io (M:Mk X.K C f) (F:aL X.prog X.w X.K X.mg X.base CX k f fd ps sp) (hr:bU (k + 1) X.A) (hg:Gl X x) (hm:X.mg x=some (.ref C)) (hb:Binds X.K fd ps ds) (hd:Vals dvs ds) (hx:Passes CX X E)
  (ha:PA X (e :: es) t) (hdb:(x == ("__debug__":Str))=false:=by decide) (he:starEach (e :: es) X.env=(false,eval e X.env) :: starEach es X.env:=by rfl) (hpl:(backTo pos (starEach es X.env)).any (·.1)=false:=by rfl) :
  PE X (.Call (.Name x p) (e :: es) [] pos) (Gx C sp dvs E t):=by
 intro pins s σ H Q I h
 refine wpAny_Call_Name_kw (lQ I hg hm ?_ hdb)
 refine PySem.W.callWith_K (h₀:=X.base) I.ok.mod.kin M.kp (cg (ha pos pins s σ H _ I h) fun us s1 ⟨vs,H1,I1,r,q⟩=>⟨I1.mY,?_⟩) he hpl
 exact yC M F hr hb hd hx I1 r q
theorem FC (M:Mk X.K C f) (F:aL X.prog X.w X.K X.mg X.base CX k f fd ps sp) (hr:bU (k + 1) X.A) (hg:Gl X x) (hm:X.mg x=some (.ref C)) (hb:Binds X.K fd ps ds) (hd:Vals dvs ds) (hx:Passes CX X E)
  (hdb:(x == ("__debug__":Str))=false:=by decide):PE X (.Call (.Name x p) [] [] pos) (Gx C sp dvs E xh):=by
 intro pins s σ H Q I h
 refine wpAny_Call_Name_kw (lQ I hg hm ?_ hdb)
 exact PySem.W.callWith_K0 I.mY M.kp (yC (us:=[]) M F hr hb hd hx I .nil h)
end
section
variable {X:Cx} {CX:tH} {k:Nat} {f C:Addr} {fd:FuncData} {ps ks:List Str} {sp:Sp} {E:XK} {x m:Str} {p pos apos kpos:Pos} {e o:Expr} {es:List Expr} {kws:List Keyword} {te ta:TE} {t tk:TA} {nm:Option Str}
variable {g:List Value→List Value→List Value} {gV:List V→List V→List V}
end
structure aw (N P:List Str) (sc:Scope):Prop where
 kind:sc.kind=.function
 co:sc.isCoroutine=false
 gen:sc.isGenerator=false
 nd:N.Nodup
 pre:N.take P.length=P
 par:∀ x∈P,sc.names.lookup x=some .local∨sc.names.lookup x=some .cell
 nofree:∀ y∈sc.names,y.2≠.free
theorem uz {kindOf:Str→Option NameKind} {x:Str}:∀ {binds:List (Str × Value)} {m:Str→Option Value},(∀ v,(x,v) ∉ binds)→bindL kindOf binds m x=m x
 | [],_,_=>rfl
 | (n,v) :: r,m,h=>by
  unfold bindL
  rw [uz fun w hw=>h w (List.mem_cons_of_mem _ hw)]
  split
  ·have:x≠n:=by rintro rfl;exact h v List.mem_cons_self
   simp [this]
  ·rfl
theorem ux {kindOf:Str→Option NameKind} {x:Str}:∀ {binds:List (Str × Value)} {m:Str→Option Value},(∀ v,(x,v) ∉ binds)→bindC kindOf binds m x=m x
 | [],_,_=>rfl
 | (n,v) :: r,m,h=>by
  unfold bindC
  rw [ux fun w hw=>h w (List.mem_cons_of_mem _ hw)]
  split
  ·rfl
  ·have:x≠n:=by rintro rfl;exact h v List.mem_cons_self
   simp [this]
theorem uy {kindOf:Str→Option NameKind} {x:Str} {v:Value}:∀ {P:List Str} {vs:List Value} {i:Nat} {m:Str→Option Value},P.Nodup→P[i]?=some x→vs[i]?=some v→kindOf x=some .local →
  bindL kindOf (P.zip vs) m x=some v
 | [],_,_,_,_,h,_,_=>by simp at h
 | _ :: _,[],_,_,_,_,h,_=>by simp at h
 | p :: P,w :: vs,0,m,nd,h1,h2,hk=>by
  simp at h1 h2;subst h1;subst h2
  show bindL kindOf ((p,w) :: P.zip vs) m p=_
  unfold bindL
  rw [uz fun v hv=>(List.nodup_cons.mp nd).1 (List.of_mem_zip hv).1,if_pos hk]
  simp
 | p :: P,w :: vs,i + 1,m,nd,h1,h2,hk=>by
  show bindL kindOf ((p,w) :: P.zip vs) m x=_
  unfold bindL
  exact uy (i:=i) (List.nodup_cons.mp nd).2 (by simpa using h1) (by simpa using h2) hk
theorem uw {kindOf:Str→Option NameKind} {x:Str} {v:Value}:∀ {P:List Str} {vs:List Value} {i:Nat} {m:Str→Option Value},P.Nodup→P[i]?=some x→vs[i]?=some v→kindOf x≠some .local →
  bindC kindOf (P.zip vs) m x=some v
 | [],_,_,_,_,h,_,_=>by simp at h
 | _ :: _,[],_,_,_,_,h,_=>by simp at h
 | p :: P,w :: vs,0,m,nd,h1,h2,hk=>by
  simp at h1 h2;subst h1;subst h2
  show bindC kindOf ((p,w) :: P.zip vs) m p=_
  unfold bindC
  rw [ux fun v hv=>(List.nodup_cons.mp nd).1 (List.of_mem_zip hv).1,if_neg hk]
  simp
 | p :: P,w :: vs,i + 1,m,nd,h1,h2,hk=>by
  show bindC kindOf ((p,w) :: P.zip vs) m x=_
  unfold bindC
  exact uw (i:=i) (List.nodup_cons.mp nd).2 (by simpa using h1) (by simpa using h2) hk
def start (N:List Str) (vs:List V):St:=vs.map some ++ List.replicate (N.length - vs.length) none
def vC (CX:tH) (P:Program) (w:World) (K:PySem.W.Frag) (mg:Str→Option Value) (base:Heap) (N:List Str) (qual:Str) (scope:Scope) (f:Addr) (cd:Value) (A:Around) (outer:List Env) (s:Shared) (H:Hp) (E:XK):Cx where
 prog:=P
 w:=w
 K:=K
 mg:=mg
 base:=base
 A:=A.deeper (envOfC qual scope s.heap.objs.size f cd)
 N:=N
 s₀:=s
 H₀:=H
 env:=envOfC qual scope s.heap.objs.size f cd
 outer:=outer
 stack:=envOfC qual scope s.heap.objs.size f cd :: outer
 ex:=[]
 calm:=true
 fn:=fun _=>true
 pn:=[]
 xe:=fun e s'=>wpAny (model P w) (A.deeper (envOfC qual scope s.heap.objs.size f cd)) (leaving (envOfC qual scope s.heap.objs.size f cd) e) (fun _ s''=>CX outer H s E e s'') (fun e' s''=>CX outer H s E e' s'') s'
theorem xG {sc:Scope} {n:Nat} {x:Str} (h:sc.names.lookup x=some .cell):∃ c,(cellsFrom n sc.names []).lookup x=some c:=by
 have q:=PySem.W.cellsFrom_some sc.names n [] (.inl h)
 exact Option.isSome_iff_exists.mp q
theorem CY {CX:tH} {P:Program} {w:World} {K:PySem.W.Frag} {mg:Str→Option Value} {base:Heap} {N ps:List Str} {qual:Str} {scope:Scope} {f:Addr} {cd:Value} {A:Around} {outer:List Env} {s s1:Shared} {H:Hp} {E:XK} {us:List Value} {vs:List V}
  (S:aw N ps scope) (hd:A.handled=none) (e0:zt P w K mg base A outer s H) (hl:vs.length=ps.length) (r:Vals vs us)
  (x:InCallC s s.heap.objs.size (bindL (envOfC qual scope s.heap.objs.size f cd).kindOf (ps.zip us) fun _=>none) (cellsFrom (s.heap.objs.size + 1) scope.names []) (bindC (envOfC qual scope s.heap.objs.size f cd).kindOf (ps.zip us) fun _=>none) s1) :
  Inv (vC CX P w K mg base N qual scope f cd A outer s H E) [] (start N vs) H s1:=by
 have hpl:ps.length≤N.length:=by have:=congrArg List.length S.pre;rw [List.length_take] at this;omega
 obtain ⟨h1,tk,rfl,hk⟩:=x.done
 have noA:∀ b:Addr,b ∉ (vC CX P w K mg base N qual scope f cd A outer s H E).ex:=fun b z=>absurd (show b∈([]:List Addr) from z) (by simp)
 refine ⟨⟨e0.mod,S.kind,rfl,rfl,Nat.le_refl _,fun y z c h1 h2=>?_,fun y hy=>?_,fun y c _ h=>?_,fun _=>hd,Around.frames_deeper e0.frames,.inr ⟨rfl,rfl⟩,fun b z=>absurd z (noA b),e0.bs,e0.bsz,fun b _ _=>noA b,fun b z=>absurd z (noA b),e0.mV,e0.frf⟩,
  rfl,e0.bare,Un.kept hk,⟨_,x.toInCall.ns,fun i y v h1 h2 h3=>?_⟩,fun y c h=>⟨_,x.cell y c h⟩,e0.hok.fresh (Nat.le_refl _),fun y c h=>?_,fun p hp=>absurd (show p∈([]:List (Addr × Obj)) from hp) (by simp),e0.hok.kept hk,?_⟩
 ·exact name_of_addr x.apart (PySem.mem_of_lookup h1) (PySem.mem_of_lookup h2)
 ·have hy:scope.names.lookup y=some .cell∨scope.names.lookup y=some .free:=hy
  rcases hy with hy | hy
  ·exact xG hy
  ·exact absurd rfl (S.nofree _ (PySem.mem_of_lookup hy))
 ·exact Nat.le_of_lt (x.above y c (PySem.mem_of_lookup h))
 ·have hi:i < vs.length:=by
   unfold start at h2
   by_cases hi:i < vs.length
   ·exact hi
   ·rw [List.getElem?_append_right (by simpa using hi)] at h2
    rw [List.getElem?_replicate] at h2
    split at h2 <;> cases h2
  have ha:vs[i]?=some v:=by
   unfold start at h2
   rw [List.getElem?_append_left (by simpa using hi),List.getElem?_map] at h2
   cases e:vs[i]? with
   | none=>rw [e] at h2;cases h2
   | some a=>rw [e] at h2;cases h2;rfl
  obtain ⟨u,hu,rv⟩:=r.get ha
  have hp:ps[i]?=some y:=by
   rw [← S.pre,List.getElem?_take_of_lt (by omega)];exact h1
  have ndP:ps.Nodup:=by rw [← S.pre];exact S.nd.sublist (List.take_sublist _ _)
  refine ⟨u,rv,?_⟩
  rcases S.par y (List.mem_of_getElem? hp) with k | k
  ·exact .inl ⟨k,uy ndP hp hu k⟩
  ·obtain ⟨c,e⟩:=xG (n:=s.heap.objs.size + 1) k
   refine .inr ⟨.inl k,c,e,?_⟩
   have q:=x.cell y c e
   rw [uw ndP hp hu (by show scope.names.lookup y≠_;rw [k];decide)] at q
   exact q
 ·exact e0.hok.fresh (Nat.le_of_lt (x.above y c (PySem.mem_of_lookup h)))
 ·unfold start
  show _=N.length
  rw [List.length_append,List.length_map,List.length_replicate]
  omega
theorem Ex {CX:tH} {P:Program} {w:World} {K:PySem.W.Frag} {mg:Str→Option Value} {base:Heap} {k:Nat} {f:Addr} {name qual:Str} {params:Arguments} {body:List Stmt} {scope:Scope} {dV kV doc pm cdv ct oc:Value} {an od:Option Addr}
  {osl:Array (Option Value)} {N ps:List Str} {sp:Sp} (lk:K.lookup f=some ⟨oc,od,.func (PySem.W.fnOf name qual params body scope dV kV doc pm an cdv ct),osl⟩) (hcd:PySem.W.codeIn K cdv qual=true) (S:aw N ps scope)
  (len:∀ vs H Q E,sp vs H Q E→vs.length=ps.length)
  (hbody:∀ (A:Around) (outer:List Env) (s:Shared) (H:Hp) (vs:List V) (Q:VK) (E:XK),bU k (A.deeper (envOfC qual scope s.heap.objs.size f cdv))→sp vs H Q E →
   ∃ t,tE (vC CX P w K mg base N qual scope f cdv A outer s H E) body t∧t { nx:=fun _ H'=>Q .non H',rt:=Q } (start N vs) H) :
  aL P w K mg base CX (k + 1) f (PySem.W.fnOf name qual params body scope dV kV doc pm an cdv ct) ps sp:=by
 refine ⟨len,fun A outer s H args us vs Q E hr e0 hb r hsp=>?_⟩
 have hl:=len _ _ _ _ hsp
 have KX:K.In s.heap:=e0.mod.kin.keeps fun b o e=>(e0.bs b o e).1
 have lim:s.heap.NoLimit:=e0.mod.nolimit.keeps fun b o e=>(e0.bs b o e).1
 have hkind:∀ y∈ps.zip us,scope.names.lookup y.1=some .local∨(scope.names.lookup y.1=some .cell∧((cellsFrom (s.heap.objs.size + 1) scope.names []).lookup y.1).isSome=true):=fun ⟨n,v⟩ hy=>by
  rcases S.par n (List.of_mem_zip hy).1 with q | q
  ·exact .inl q
  ·exact .inr ⟨q,PySem.W.cellsFrom_some _ _ _ (.inl q)⟩
 refine codeAny_call_function hr.depth (KX _ _ lk) rfl S.co S.gen rfl (PySem.W.codeRec_of KX hcd) (hb _ _ _ _ ?_)
 refine wpAny_newFunctionEnv_cells S.kind hkind fun env he s1 x=>?_
 subst he
 refine ⟨lim.keeps x.toInCall.keep,codeAny_func ?_⟩
 obtain ⟨t,ht,hq⟩:=hbody A outer s H vs Q E (hr.deeper _) hsp
 have I:Inv (vC CX P w K mg base N qual scope f cdv A outer s H E) [] (start N vs) H s1:=CY S hr.hd e0 hl r x
 refine wpAny_mono (ht [] s1 (start N vs) H _ I hq) (fun fl s' hs=>?_) fun e s' hs=>hs
 have fin:∀ {σ':St} {H':Hp} {v:V} {u:Value},Inv (vC CX P w K mg base N qual scope f cdv A outer s H E) [] σ' H' s'→RelV v u→Q v H'→CE outer P w H s Q u s' :=
  fun {σ' H' v u} J rv q=>⟨v,H',J.os,J.bare,J.base,J.hok,rv,q⟩
 cases fl with
 | ret u =>
  obtain ⟨v,σ',H',J,rv,q⟩:=hs
  exact fin J rv q
 | next =>
  obtain ⟨σ',H',J,q⟩:=hs
  exact fin (v:=V.non) (u:=Value.none) J rfl q
 | brk =>
  obtain ⟨_,_,_,q⟩:=hs
  exact False.elim q
 | cont =>
  obtain ⟨_,_,_,q⟩:=hs
  exact False.elim q
end L2
namespace L2
open PySem PySem.Spec PyProof.Rows
section
variable {X:Cx} {x:Str} {p pos:Pos} {e:Expr} {es:List Expr} {t:TA} {id T:String} {r:List V→Hp→VK→Prop}
def Jl (r:List V→Hp→VK→Prop) (t:TA):TE:=fun σ H Q=>t σ H fun vs H1=>r vs H1 Q
theorem bG (hc:cD X (.builtin id) r) (hg:Gl X x) (hm:X.mg x=none) (hv:bootBuiltins x=some (.builtin id)) (ha:PA X (e :: es) t) (hn:x≠"__name__":=by decide) (hdb:(x == ("__debug__":Str))=false:=by decide)
  (he:starEach (e :: es) X.env=(false,eval e X.env) :: starEach es X.env:=by rfl) (hpl:(backTo pos (starEach es X.env)).any (·.1)=false:=by rfl):PE X (.Call (.Name x p) (e :: es) [] pos) (Jl r t):=by
 intro pins s σ H Q I h
 refine wpAny_Call_Name_kw (mZ I hg hm hv ?_ hn hdb)
 exact PyProof.Rows.callWith_builtin1 (cg (ha pos pins s σ H _ I h) fun us s1 ⟨vs,H1,I1,r1,q1⟩=>hc pins s1 σ H1 vs us Q I1 r1 q1) he hpl
theorem pJ (hc:cD X (.type T) r) (hg:Gl X x) (hm:X.mg x=none) (hv:bootBuiltins x=some (.type T)) (ha:PA X (e :: es) t) (hn:x≠"__name__":=by decide) (hdb:(x == ("__debug__":Str))=false:=by decide)
  (he:starEach (e :: es) X.env=(false,eval e X.env) :: starEach es X.env:=by rfl) (hpl:(backTo pos (starEach es X.env)).any (·.1)=false:=by rfl):PE X (.Call (.Name x p) (e :: es) [] pos) (Jl r t):=by
 intro pins s σ H Q I h
 refine wpAny_Call_Name_kw (mZ I hg hm hv ?_ hn hdb)
 exact PyProof.Rows.callWith_type1 (cg (ha pos pins s σ H _ I h) fun us s1 ⟨vs,H1,I1,r1,q1⟩=>hc pins s1 σ H1 vs us Q I1 r1 q1) he hpl
end
end L2
namespace HT
open PySem PyProof.Rows
def lexLt:List Int→List Int→Bool
 | [],[]=>false
 | [],_ :: _=>true
 | _ :: _,[]=>false
 | x :: xs,y :: ys=>if x=y then lexLt xs ys else decide (x < y)
section
open PySem.SeqAt
open PySem.AutoSeq1 (wpAny_loadPart')
open PySem.MeetsSeq PySem.MeetsSeq2 PySem.MeetsSeq3
end
section
variable {prog:Program} {w:World} {A:Around} {E:Value→Shared→Prop} {s:Shared}
def eK (n d:Nat):Option Int→Nat
 | none=>d
 | some v=>if v < 0 then (v + (n:Int)).toNat else min v.toNat n
theorem yD (n d:Nat):eK n d none=d:=rfl
theorem wG (n d k:Nat):eK n d (some (k:Int))=min k n:=by
 show (if (k:Int) < 0 then ((k:Int) + (n:Int)).toNat else min (k:Int).toNat n)=min k n
 rw [if_neg (by omega),Int.toNat_natCast]
theorem MF (n d:Nat) (hd:d≤n) (o:Option Int):eK n d o≤n:=by
 cases o with
 | none=>exact hd
 | some v =>
  show (if v < 0 then (v + (n:Int)).toNat else min v.toNat n)≤n
  by_cases hv:v < 0
  ·rw [if_pos hv];omega
  ·rw [if_neg hv];exact Nat.min_le_right _ _
theorem Bb (v:Int) (n d:Nat):(if v < 0 then max (v + (n:Int)) 0 else min v (n:Int))=((eK n d (some v):Nat):Int):=by
 show (if v < 0 then max (v + (n:Int)) 0 else min v (n:Int))=(((if v < 0 then (v + (n:Int)).toNat else min v.toNat n):Nat):Int)
 by_cases hv:v < 0
 ·simp only [if_pos hv];omega
 ·simp only [if_neg hv];omega
theorem zG (lo hi:Option Int) (n:Nat):Builtin.Slice.sliceAdjust lo hi 1 (n:Int)=(((eK n 0 lo:Nat):Int),((eK n n hi:Nat):Int)):=by
 have h1:¬ ((1:Int) < 0):=by omega
 unfold Builtin.Slice.sliceAdjust
 simp only [h1,if_false]
 refine Prod.ext ?_ ?_
 ·cases lo with
  | none=>rfl
  | some v=>exact Bb v n 0
 ·cases hi with
  | none=>rfl
  | some v=>exact Bb v n n
theorem Az (i j:Nat):Builtin.Slice.slicePlaces (i:Int) (j:Int) 1=j - i:=by
 unfold Builtin.Slice.slicePlaces
 have h1:(1:Int) > 0:=by omega
 simp only [h1,if_true,Int.ediv_one]
 split <;> omega
theorem sS {v:Value} {o:Option Int} {Q:Option Int→Shared→Prop} (p:IsPart v o) (h:Q o s):wpAny (model prog w) A (Builtin.Slice.slicePartIndex v) Q E s:=by
 cases p with
 | none=>exact slicePart_none h
 | int i t=>exact slicePart_int h
theorem pV {sl:Addr} {vl vu:Value} {lo hi:Option Int} {n:Nat} {Q:Int × Int × Nat→Shared→Prop} (hs:s.heap.IsSliceOf sl vl vu .none) (pl:IsPart vl lo) (pu:IsPart vu hi)
  (h:Q (((eK n 0 lo:Nat):Int),1,eK n n hi - eK n 0 lo) s):wpAny (model prog w) A (Builtin.Slice.sliceApplied (.ref sl) (pure (n:Int))) Q E s:=by
 obtain ⟨os,hos,hcs,hds⟩:=id hs
 unfold Builtin.Slice.sliceApplied Builtin.Slice.sliceFields
 refine wpAny_bind (wpAny_bind (wpAny_field hos hds (x:=vl) rfl (wpAny_bind (wpAny_field hos hds (x:=vu) rfl (wpAny_bind (wpAny_field hos hds (x:=.none) rfl (wpAny_pure ?_)))))))
 refine wpAny_bind (slicePart_none ?_)
 show wpAny _ _ (if ((1:Int) == 0)=true then _ else _) _ _ s
 rw [if_neg (by decide)]
 refine wpAny_bind (sS pl (wpAny_bind (sS pu (wpAny_bind (wpAny_pure ?_)))))
 show wpAny _ _ (match Builtin.Slice.sliceAdjust lo hi 1 (n:Int) with | (lo,hi)=>pure (lo,(1:Int),Builtin.Slice.slicePlaces lo hi 1)) _ _ s
 rw [zG lo hi n]
 show wpAny _ _ (pure (((eK n 0 lo:Nat):Int),(1:Int),Builtin.Slice.slicePlaces ((eK n 0 lo:Nat):Int) ((eK n n hi:Nat):Int) 1)) _ _ s
 rw [Az]
 exact wpAny_pure h
theorem FF (xs:Array Value) (i k:Nat):((List.range k).filterMap fun (m:Nat)=>xs[((i:Int) + (m:Int) * 1).toNat]?).toArray=((xs.toList.drop i).take k).toArray:=by
 have e:(fun (m:Nat)=>xs[((i:Int) + (m:Int) * 1).toNat]?)=fun m=>xs[i + m]?:=by
  funext m
  have:((i:Int) + (m:Int) * 1).toNat=i + m:=by omega
  rw [this]
 rw [e]
 have:=pick_run xs i k
 rw [List.filterMap_map] at this
 have e2:((fun x=>xs[x]?) ∘ fun x=>i + x)=fun m=>xs[i + m]?:=rfl
 rw [e2] at this
 rw [this]
theorem nN {t sl:Addr} {items:Array Value} {vl vu:Value} {lo hi:Option Int} {Q:Value→Shared→Prop} (ht:IsTup s.heap t items) (hs:s.heap.IsSliceOf sl vl vu .none) (pl:IsPart vl lo) (pu:IsPart vu hi)
  (hw:¬ (eK items.size 0 lo=0∧eK items.size items.size hi=items.size))
  (h:Q (.ref s.heap.objs.size) { s with heap:=s.heap.push { cls:=.type "tuple",data:=.seq ((items.toList.drop (eK items.size 0 lo)).take (eK items.size items.size hi - eK items.size 0 lo)).toArray } })
  (hsz:items.size≤sizeLine):wpAny (model prog w) A (getItem (.ref t) (.ref sl)) Q E s:=by
 have htake:sizeOk (.seq ((items.toList.drop (eK items.size 0 lo)).take (eK items.size items.size hi - eK items.size 0 lo)).toArray):=by
  show ((items.toList.drop (eK items.size 0 lo)).take (eK items.size items.size hi - eK items.size 0 lo)).toArray.size≤sizeLine
  rw [List.size_toArray,List.length_take,List.length_drop,Array.length_toList]
  omega
 have hj:eK items.size items.size hi≤items.size:=MF _ _ (Nat.le_refl _) hi
 obtain ⟨os,hos,hcs,hds⟩:=id hs
 have hTs:s.TypeIs (.ref sl) "slice":=⟨os,hos,hcs⟩
 unfold getItem
 try with_reducible refine wpAny_holding ?_
 first | refine wpAny_bind (wpAny_pure ?_) | skip
 refine wpAny_bind (wpAny_sequenceKey ht.typeIs (by decide) ?_)
 refine wpAny_bind (wpAny_callSpecial?_slot (name:=Str.ofString "__getitem__") ht.typeIs PyProof.Rows.slot_tuple_getitem
  (wpAny_call_entry PyProof.Rows.slot_tuple_getitem ht.typeIs entry_tuple_getitem ?_ (args_tuple_getitem _ _)))
 show wpAny _ _ (Builtin.Tuple.tupleItemsOf (.ref t) >>= _) _ _ s
 refine wpAny_bind (tupleItemsOf_ ht ?_)
 refine wpAny_bind (wpAny_typeOf hTs ?_)
 rw [if_pos (by decide)]
 refine wpAny_bind (pV hs pl pu ?_)
 have hno:¬ ((((eK items.size 0 lo:Nat):Int) == 0 && (1:Int) == 1 && (eK items.size items.size hi - eK items.size 0 lo) == items.size)=true):=by
  intro q
  rw [Bool.and_eq_true,Bool.and_eq_true] at q
  have q1:((eK items.size 0 lo:Nat):Int)=0:=eq_of_beq q.1.1
  have q2:eK items.size items.size hi - eK items.size 0 lo=items.size:=eq_of_beq q.2
  exact hw ⟨by omega,by omega⟩
 show wpAny _ _ (if (((eK items.size 0 lo:Nat):Int) == 0 && (1:Int) == 1 && (eK items.size items.size hi - eK items.size 0 lo) == items.size)=true then _ else _) _ _ s
 rw [if_neg hno,FF]
 first
  | exact wpAny_bind (m:=Builtin.Tuple.tupleExact _) (wpAny_newObj_type (wpAny_pure ⟨_,rfl,wpAny_pure h⟩) htake)
  | exact wpAny_bind (m:=Builtin.Tuple.tupleExact _) (wpAny_newObj_type (wpAny_bind (wpAny_pure (wpAny_pure ⟨_,rfl,wpAny_pure h⟩))) htake)
  | exact wpAny_bind (wpAny_bind (m:=Builtin.Tuple.tupleExact _) (wpAny_newObj_type (wpAny_pure (wpAny_pure ⟨_,rfl,wpAny_pure h⟩)) htake))
  | exact wpAny_bind (wpAny_bind (m:=Builtin.Tuple.tupleExact _) (wpAny_newObj_type (wpAny_pure ⟨_,rfl,wpAny_pure h⟩) htake))
end
end HT
namespace L2
open PySem PySem.Spec PyProof.Rows
abbrev TO:=St→Hp→(Option Int→Hp→Prop)→Prop
def PO (X:Cx) (e:Option Expr) (t:TO):Prop :=
 ∀ (pins:List (Addr × Obj)) (s:Shared) (σ:St) (H:Hp) (Q:Option Int→Hp→Prop),Inv X pins σ H s→t σ H Q →
  wpAny (model X.prog X.w) X.A (evalPart e X.env) (fun u s'=>∃ o H',Inv X pins σ H' s'∧IsPart u o∧Q o H') X.xe s
def qZ:TO:=fun _ H Q=>Q none H
def Ck (t:TE):TO:=fun σ H Q=>t σ H fun x H1=>∃ i,x=.int i∧Q (some i) H1
theorem intsAre_of {ns:List Int}:∀ {us:List Value},Vals (ns.map V.int) us→IntsAre us ns:=by
 induction ns with
 | nil=>intro us r;rw [List.map_nil] at r;cases r;exact .nil
 | cons n ns ih =>
  intro us r
  rw [List.map_cons] at r
  cases r with
  | cons r1 r2 =>
   obtain ⟨t,e⟩:=r1
   subst e
   exact .cons n t (ih r2)
section
variable {X:Cx} {e:Expr} {te:TE} {lo hi:Option Expr} {tl th:TO} {pos p2:Pos}
theorem qJ:PO X none qZ:=by
 intro pins s σ H Q I h
 rw [evalPart_none]
 exact wpAny_pure ⟨none,H,I,.none,h⟩
theorem lT (h:PE X e te):PO X (some e) (Ck te):=by
 intro pins s σ H Q I hw
 rw [evalPart_some]
 refine cg (h pins s σ H _ I hw) fun u s1 ⟨x,H1,I1,r1,q1⟩=>?_
 obtain ⟨i,rfl,q⟩:=q1
 obtain ⟨t,rfl⟩:=r1
 exact ⟨some i,H1,I1,.int i t,q⟩
def uu (X:Cx) (r:V→Option Int→Option Int→Hp→VK→Prop):Prop :=
 ∀ (pins:List (Addr × Obj)) (s:Shared) (σ:St) (H:Hp) (x:V) (v vl vu:Value) (lo hi:Option Int) (sl:Addr) (Q:VK),Inv X pins σ H s→RelV x v→s.heap.IsSliceOf sl vl vu .none→IsPart vl lo→IsPart vu hi→r x lo hi H Q →
  ∃ T id,typeLookup (.type T) "__getitem__"=pure (some (.builtin id))∧s.TypeIs v T∧wpAny (model X.prog X.w) X.A (getItem v (.ref sl)) (EP X pins σ Q) X.xe s
theorem uu.or {r r':V→Option Int→Option Int→Hp→VK→Prop} (h:uu X r) (h':uu X r'):uu X (fun x lo hi H Q=>r x lo hi H Q∨r' x lo hi H Q):=by
 intro pins s σ H x v vl vu lo hi sl Q I rx hs pl pu q
 rcases q with q | q
 ·exact h pins s σ H x v vl vu lo hi sl Q I rx hs pl pu q
 ·exact h' pins s σ H x v vl vu lo hi sl Q I rx hs pl pu q
def P_ (r:V→Option Int→Option Int→Hp→VK→Prop) (te:TE) (tl th:TO):TE:=fun σ H Q=>te σ H fun x H1=>tl σ H1 fun l H2=>th σ H2 fun u H3=>r x l u H3 Q
theorem k8 {r:V→Option Int→Option Int→Hp→VK→Prop} (hr:uu X r) (he:PE X e te) (hl:PO X lo tl) (hu:PO X hi th):PE X (.Subscript e (.Slice lo hi none p2) pos) (P_ r te tl th):=by
 intro pins s σ H Q I h
 refine Subscript_ (cg (he pins s σ H _ I h) fun v s1 ⟨x,H1,I1,r1,q1⟩=>?_)
 refine wpAny_Slice (cg (hl pins s1 σ H1 _ I1 q1) fun vl s2 ⟨l,H2,I2,pl,q2⟩=>cg (hu pins s2 σ H2 _ I2 q2) fun vu s3 ⟨u,H3,I3,pu,q3⟩=>?_)
 rw [evalPart_none]
 refine wpAny_pure ?_
 have I4:Inv X pins σ H3 { s3 with heap:=s3.heap.push { cls:=.type "slice",data:=.fields #[vl,vu,.none] } }:=I3.kept (t':=s3.toks) fun b ob q=>Heap.get?_push_of_some _ q
 obtain ⟨T,id,hT,ht,hg⟩:=hr pins { s3 with heap:=s3.heap.push { cls:=.type "slice",data:=.fields #[vl,vu,.none] } } σ H3 x v vl vu l u s3.heap.objs.size Q I4 r1 (Heap.IsSliceOf.new ..) pl pu q3
 show wpAny (model X.prog X.w) X.A (subscriptTail e (.Slice lo hi none p2) v (.ref s3.heap.objs.size)) (EP X pins σ Q) X.xe { s3 with heap:=s3.heap.push { cls:=.type "slice",data:=.fields #[vl,vu,.none] } }
 exact tail_any (ops:=[.ref s3.heap.objs.size,v]) ht hT hg (by with_unfolding_all rfl)
def pf (xs:List V) (lo hi:Option Int):List V:=(xs.drop (HT.eK xs.length 0 lo)).take (HT.eK xs.length xs.length hi - HT.eK xs.length 0 lo)
theorem p8 (xs:List V) (lo hi:Option Int):(pf xs lo hi).length≤xs.length:=by
 unfold pf
 rw [List.length_take,List.length_drop]
 omega
def Ru (K:PySem.W.Frag):V→Option Int→Option Int→Hp→VK→Prop:=fun x lo hi H Q=>∃ a xs,x=.ref a∧g7 K H a xs ∧
 ¬ (HT.eK xs.length 0 lo=0∧HT.eK xs.length xs.length hi=xs.length)∧∀ p,H p=none→Q (.ref p) (upd H p (.tup (pf xs lo hi)))
theorem MJ:uu X (Ru X.K):=by
 intro pins s σ H x v vl vu lo hi sl Q I rx hs pl pu h
 obtain ⟨a,xs,rfl,hx,hw,q⟩:=h
 cases rx
 obtain ⟨its,r,ht,hz⟩:=I.tuple hx
 have hlen:its.toArray.size=xs.length:=by rw [List.size_toArray];exact r.length.symm
 refine ⟨"tuple",_,PyProof.Rows.slot_tuple_getitem.lookup,ht.typeIs,?_⟩
 refine HT.nN ht hs pl pu (by rw [hlen];exact hw) ?_ (by rw [hlen];exact hz)
 rw [hlen]
 refine ⟨.ref s.heap.objs.size,_,I.laid (t':=s.toks) (o:=.tup (pf xs lo hi)) (fun b ob q=>Heap.get?_push_of_some _ q) (Nat.le_refl _) ?_,rfl,q _ (I.hok.fresh (Nat.le_refl _))⟩
 exact ⟨Nat.le_trans (p8 xs lo hi) hz,_,(r.drop (HT.eK xs.length 0 lo)).take (HT.eK xs.length xs.length hi - HT.eK xs.length 0 lo),IsTup.new _ _⟩
end
end L2
namespace L2
open PySem PySem.Spec PyProof.Rows
def DV (n:Nat) (i:Int):Option Nat:=if 0≤i then (if i < n then some i.toNat else none) else if -(n:Int)≤i then some (i + n).toNat else none
def dJ {α:Type} (xs:List α) (i:Int):Option α:=(DV xs.length i).bind fun j=>xs[j]?
theorem BA {n:Nat} {i:Int} {j:Nat} (h:DV n i=some j):seqIndex? i n=some j∧j < n∧-(n:Int)≤i∧i < n:=by
 unfold DV at h
 by_cases h0:0≤i
 ·rw [if_pos h0] at h
  by_cases h1:i < n
  ·rw [if_pos h1] at h
   have e:i.toNat=j:=Option.some.inj h
   exact ⟨by rw [seqIndex_of h0 h1,e],by omega,by omega,h1⟩
  ·rw [if_neg h1] at h;cases h
 ·rw [if_neg h0] at h
  by_cases h1:-(n:Int)≤i
  ·rw [if_pos h1] at h
   have e:(i + n).toNat=j:=Option.some.inj h
   exact ⟨by rw [seqIndex_neg (by omega) h1,e],by omega,h1,by omega⟩
  ·rw [if_neg h1] at h;cases h
theorem vt {α:Type} {xs:List α} {i:Int} {v:α} (h:dJ xs i=some v):∃ j,seqIndex? i xs.length=some j∧xs[j]?=some v∧j < xs.length∧-(xs.length:Int)≤i∧i < xs.length:=by
 unfold dJ at h
 cases e:DV xs.length i with
 | none=>rw [e] at h;cases h
 | some j =>
  rw [e] at h
  obtain ⟨h1,h2,h3,h4⟩:=BA e
  exact ⟨j,h1,h,h2,h3,h4⟩
theorem bq {α:Type} {xs:List α} {j:Nat} {v:α} (h:xs[j]?=some v):dJ xs (j:Int)=some v:=by
 have hj:j < xs.length:=(List.getElem?_eq_some_iff.mp h).1
 have e:DV xs.length (j:Int)=some j:=by
  unfold DV
  rw [if_pos (by omega),if_pos (by omega)];simp
 unfold dJ;rw [e];exact h
def dP (b:Expr):Prop:=∀ o i,subscripted b false o i=operate [o,i] (getItem o i)
def rA (X:Cx) (r:R2):Prop :=
 ∀ (value slice:Expr) (pins:List (Addr × Obj)) (s:Shared) (σ:St) (H:Hp) (x y:V) (v u:Value) (Q:VK),Inv X pins σ H s→RelV x v→RelV y u→r x y H Q →
  subscripted slice false v u=operate [v,u] (getItem v u)→wpAny (model X.prog X.w) X.A (subscriptTail value slice v u) (EP X pins σ Q) X.xe s
def rD (X:Cx) (id:String) (r:V→List V→Hp→VK→Prop):Prop :=
 ∀ (pins:List (Addr × Obj)) (s:Shared) (σ:St) (H:Hp) (x:V) (xs:List V) (v:Value) (us:List Value) (Q:VK),Inv X pins σ H s→RelV x v→Vals xs us→r x xs H Q →
  wpAny (model X.prog X.w) X.A (call (.builtin id) (v :: us)) (EP X pins σ Q) X.xe s
section
variable {X:Cx} {a b:Expr} {ta tb:TE} {pos:Pos}
theorem rA.or {r r':R2} (h:rA X r) (h':rA X r'):rA X (fun x y H Q=>r x y H Q∨r' x y H Q):=by
 intro value slice pins s σ H x y v u Q I rx ry q hs
 rcases q with q | q
 ·exact h value slice pins s σ H x y v u Q I rx ry q hs
 ·exact h' value slice pins s σ H x y v u Q I rx ry q hs
theorem rD.or {id:String} {r r':V→List V→Hp→VK→Prop} (h:rD X id r) (h':rD X id r'):rD X id (fun x xs H Q=>r x xs H Q∨r' x xs H Q):=by
 intro pins s σ H x xs v us Q I rx rs q
 rcases q with q | q
 ·exact h pins s σ H x xs v us Q I rx rs q
 ·exact h' pins s σ H x xs v us Q I rx rs q
theorem cu {r:R2} (hr:rA X r) (ha:PE X a ta) (hb:PE X b tb) (hs:dP b):PE X (.Subscript a b pos) (Gz r ta tb):=by
 intro pins s σ H Q I h
 exact Subscript_ (K9 ha hb I h fun v u s2 x y H2 I2 rx ry q=>hr a b pins s2 σ H2 x y v u Q I2 rx ry q (hs _ _))
def O1 (K:PySem.W.Frag):R2:=fun x y H Q=>∃ p xs i v,x=.ref p∧y=.int i∧di K H p xs∧dJ xs i=some v∧Q v H
def O3 (K:PySem.W.Frag):R2:=fun x y H Q=>∃ p xs i v,x=.ref p∧y=.int i∧g7 K H p xs∧dJ xs i=some v∧Q v H
def O2:R2:=fun x y H Q=>∃ z i c,x=.str z∧y=.int i∧z.length≤sizeLine∧dJ z.cps.toList i=some c∧Q (.str ⟨#[c]⟩) H
theorem vK:rA X (O1 X.K):=by
 intro value slice pins s σ H x y v u Q I rx ry h hs
 obtain ⟨p,xs,i,z,rfl,rfl,hq,he,q⟩:=h
 cases rx
 obtain ⟨t,rfl⟩:=ry
 obtain ⟨its,r,pl,hz⟩:=I.list hq
 obtain ⟨j,h1,h2,h3,h4,h5⟩:=vt he
 obtain ⟨w,ew,rw'⟩:=r.get h2
 have hl:=r.length
 have hn:=m4
 have fin:EP X pins σ Q w s:=⟨z,H,I,rw',q⟩
 by_cases h0:0≤i
 ·have hj:i.toNat=j:=by
   rw [seqIndex_of h0 h5] at h1
   exact Option.some.inj h1
  exact item_listR pl.isList h0 (by omega) (by rw [hj];simpa using ew) fin hs
 ·have hj:(i + (its.toArray.size:Int)).toNat=j:=by
   rw [seqIndex_neg (by omega) h4] at h1
   rw [List.size_toArray,← hl]
   exact Option.some.inj h1
  exact subscriptTail_builtinR (x:=w) pl.isList.typeIs slot_list_getitem.lookup
   (wpAny_getItem_list_neg (Q:=fun r s'=>r=w∧EP X pins σ Q r s') pl.isList (by omega) (by rw [List.size_toArray] <;> omega) (by omega) (by rw [hj];simpa using ew) ⟨rfl,fin⟩) hs
theorem de:rA X (O3 X.K):=by
 intro value slice pins s σ H x y v u Q I rx ry h hs
 obtain ⟨p,xs,i,z,rfl,rfl,hq,he,q⟩:=h
 cases rx
 obtain ⟨t,rfl⟩:=ry
 obtain ⟨its,r,pl,hz⟩:=I.tuple hq
 obtain ⟨j,h1,h2,h3,h4,h5⟩:=vt he
 obtain ⟨w,ew,rw'⟩:=r.get h2
 have hl:=r.length
 have hn:=m4
 have fin:EP X pins σ Q w s:=⟨z,H,I,rw',q⟩
 exact subscriptTail_builtinR (x:=w) pl.typeIs slot_tuple_getitem.lookup
  (getItem_tuple (j:=j) (Q:=fun r s'=>r=w∧EP X pins σ Q r s') pl (by omega) (by omega) (by rw [List.size_toArray,← hl];exact h1) (by simpa using ew) ⟨rfl,fin⟩) hs
theorem EV:rA X O2:=by
 intro value slice pins s σ H x y v u Q I rx ry h hs
 obtain ⟨z,i,c,rfl,rfl,hz,he,q⟩:=h
 obtain ⟨t,rfl⟩:=rx
 obtain ⟨t',rfl⟩:=ry
 obtain ⟨j,h1,h2,h3,h4,h5⟩:=vt he
 have hl:z.cps.toList.length=z.length:=by simp [Str.length]
 rw [hl] at h1 h4 h5
 have hn:=m4
 exact tail_any (typeIs_str s z t) slot_str_getitem.lookup (getItem_str (c:=c) (by
  have e1:decide (i < -(2 ^ 63:Int))=false:=decide_eq_false (by omega)
  have e2:decide (i ≥ 2 ^ 63)=false:=decide_eq_false (by omega)
  rw [e1,e2,Bool.or_false]) (by rw [h1];simpa using h2) ⟨.str ⟨#[c]⟩,H,I.tok _,⟨_,rfl⟩,q⟩) hs
theorem Af (its:List Value) (n j:Nat) (u:Value):Obj.mapSeq (·.setIfInBounds j u) { cls:=.type "list",data:=.seq its.toArray n }={ cls:=.type "list",data:=.seq (its.set j u).toArray n }:=by
 simp [Obj.mapSeq]
theorem Inv.lst {pins:List (Addr × Obj)} {σ:St} {H:Hp} {s:Shared} {p:Addr} {xs:List V} (I:Inv X pins σ H s) (h:H p=some (.lst xs)) :
  ∃ (its:List Value) (n:Nat),Vals xs its∧s.heap.get? p=some { cls:=.type "list",data:=.seq its.toArray n }∧xs.length≤sizeLine:=by
 obtain ⟨z,its,n,r,e⟩:=I.hok p _ h
 exact ⟨its,n,r,e,z⟩
theorem Inv.LL {pins:List (Addr × Obj)} {σ:St} {H:Hp} {s:Shared} {p:Addr} {xs ys:List V} {its its':List Value} {n n':Nat} {f:Obj→Obj} (I:Inv X pins σ H s) (h:H p=some (.lst xs))
  (ho:s.heap.get? p=some { cls:=.type "list",data:=.seq its.toArray n }) (hf:f { cls:=.type "list",data:=.seq its.toArray n }={ cls:=.type "list",data:=.seq its'.toArray n' }) (r:Vals ys its') (hz:ys.length≤sizeLine) (t:Nat) :
  Inv X pins σ (upd H p (.lst ys)) { s with heap:=s.heap.update p f,toks:=t }:=by
 have e:(s.heap.update p f).get? p=some { cls:=.type "list",data:=.seq its'.toArray n' }:=by
  rw [Heap.get?_update_self f ho (by rw [hf] <;> rfl),hf]
 refine I.write (x:=p) (e:=p) (by rw [h];trivial) (.inl rfl) (fun b u hb q=>(Heap.get?_update_other _ _ (Ne.symm hb)).trans q) ⟨_,e⟩ ?_
 exact ⟨hz,its',n',r,e⟩
def Kw:V→V→V→Hp→(Hp→Prop)→Prop:=fun o i v H Q=>∃ p xs k j,o=.ref p∧i=.int k∧H p=some (.lst xs)∧DV xs.length k=some j∧Q (upd H p (.lst (xs.set j v)))
theorem set_list:md X Kw:=by
 intro pins s σ H o i v ov iv u Q I ro ri rv h
 obtain ⟨p,xs,k,j,rfl,rfl,hp,hj,q⟩:=h
 cases ro
 obtain ⟨t,rfl⟩:=ri
 obtain ⟨its,n,r,ho,hz⟩:=I.lst hp
 obtain ⟨h1,h2,h3,h4⟩:=BA hj
 have hl:=r.length
 have hn:=m4
 have I':Inv X pins σ (upd H p (.lst (xs.set j v))) { s with heap:=s.heap.update p (Obj.mapSeq (·.setIfInBounds j u)) } :=
  I.LL hp ho (Af its n j u) (r.set rv j) (by rw [List.length_set];exact hz) s.toks
 by_cases h0:0≤k
 ·have hk:k.toNat=j:=by
   rw [seqIndex_of h0 h4] at h1
   exact Option.some.inj h1
  exact PySem.W.ki_setAt ho h0 (by omega) (by rw [List.size_toArray,← hl];exact h4) (by rw [hk];exact ⟨_,I',q⟩)
 ·have hk:(k + (its.toArray.size:Int)).toNat=j:=by
   rw [seqIndex_neg (by omega) h3] at h1
   rw [List.size_toArray,← hl]
   exact Option.some.inj h1
  exact PySem.W.ki_setBack ho (by omega) (by rw [List.size_toArray,← hl];exact h3) (by omega) (by rw [hk];exact ⟨_,I',q⟩)
theorem wX (lo hi:Option Int) (n:Nat):(sliceBounds lo hi none n).1=((HT.eK n 0 lo:Nat):Int)∧(sliceBounds lo hi none n).2.1=((HT.eK n n hi:Nat):Int)∧(sliceBounds lo hi none n).2.2=1:=by
 refine ⟨?_,?_,rfl⟩
 ·cases lo with
  | none=>simp [sliceBounds,HT.eK]
  | some i =>
   simp only [sliceBounds,HT.eK,Option.getD_none,show (1:Int) > 0 by decide,if_true]
   by_cases h:i < 0
   ·simp only [h,if_true] <;> omega
   ·simp only [h,if_false] <;> omega
 ·cases hi with
  | none=>simp [sliceBounds,HT.eK]
  | some i =>
   simp only [sliceBounds,HT.eK,Option.getD_none,show (1:Int) > 0 by decide,if_true]
   by_cases h:i < 0
   ·simp only [h,if_true] <;> omega
   ·simp only [h,if_false] <;> omega
theorem um (its:List Value) (lo hi:Option Int):slicePick its.toArray lo hi none=((its.drop (HT.eK its.length 0 lo)).take (HT.eK its.length its.length hi - HT.eK its.length 0 lo)).toArray:=by
 obtain ⟨h1,h2,h3⟩:=wX lo hi its.toArray.size
 unfold slicePick
 rw [h1,h2,h3]
 simp only [sliceRange_one,pick_run,List.size_toArray] <;> rfl
def Pb (K:PySem.W.Frag):V→Option Int→Option Int→Hp→VK→Prop:=fun x lo hi H Q=>∃ a xs,x=.ref a∧di K H a xs∧∀ p,H p=none→Q (.ref p) (upd H p (.lst (pf xs lo hi)))
theorem wW:uu X (Pb X.K):=by
 intro pins s σ H x v vl vu lo hi sl Q I rx hs pl pu h
 obtain ⟨a,xs,rfl,hx,q⟩:=h
 cases rx
 obtain ⟨its,r,ht,hz⟩:=I.list hx
 have hlen:=r.length
 refine ⟨"list",_,slot_list_getitem.lookup,ht.isList.typeIs,?_⟩
 refine wpAny_getItem_list_slice ht.isList hs pl pu .none (by simp) ?_ (by rw [List.size_toArray] <;> omega)
 rw [um,← hlen]
 refine ⟨.ref s.heap.objs.size,_,I.laid (t':=s.toks) (o:=.lst (pf xs lo hi)) (fun b ob q=>Heap.get?_push_of_some _ q) (Nat.le_refl _) ?_,rfl,q _ (I.hok.fresh (Nat.le_refl _))⟩
 exact ⟨Nat.le_trans (p8 xs lo hi) hz,_,0,(r.drop (HT.eK xs.length 0 lo)).take (HT.eK xs.length xs.length hi - HT.eK xs.length 0 lo),Heap.get?_push_size _ rfl⟩
def kj:V→Bool
 | .non=>true
 | .bl _=>true
 | .int _=>true
 | .str _=>true
 | _=>false
def GN:V→V→Bool
 | .non,.non=>true
 | .bl a,.bl b=>a == b
 | .bl a,.int b=>(if a then 1 else 0) == b
 | .int a,.bl b=>a == (if b then 1 else 0)
 | .int a,.int b=>a == b
 | .str a,.str b=>a == b
 | _,_=>false
theorem Lg {A:Around} {s:Shared} {y x:V} {u v:Value} (ry:RelV y u) (rx:RelV x v) (fy:kj y=true) (fx:kj x=true):SeqAt.EqAt A s u v (GN y x):=by
 cases y with
 | non =>
  cases ry
  cases x with
  | non=>cases rx;exact SeqAt.EqAt.same _
  | bl b=>cases rx;exact SeqAt.EqAt.none_bool b
  | int b=>obtain ⟨t,rfl⟩:=rx;exact SeqAt.EqAt.none_int b t
  | str b=>obtain ⟨t,rfl⟩:=rx;exact SeqAt.EqAt.none_str b t
  | _=>exact absurd (show false=true from fx) Bool.false_ne_true
 | bl a =>
  cases ry
  cases x with
  | non=>cases rx;exact SeqAt.EqAt.bool_none a
  | bl b=>cases rx;exact SeqAt.EqAt.bool_bool a b
  | int b=>obtain ⟨t,rfl⟩:=rx;exact SeqAt.EqAt.bool_int a b t
  | str b=>obtain ⟨t,rfl⟩:=rx;exact SeqAt.EqAt.bool_str a b t
  | _=>exact absurd (show false=true from fx) Bool.false_ne_true
 | int a =>
  obtain ⟨t',rfl⟩:=ry
  cases x with
  | non=>cases rx;exact SeqAt.EqAt.int_none a t'
  | bl b=>cases rx;exact SeqAt.EqAt.int_bool a t' b
  | int b=>obtain ⟨t,rfl⟩:=rx;exact SeqAt.EqAt.int_int a t' b t
  | str b=>obtain ⟨t,rfl⟩:=rx;exact SeqAt.EqAt.int_str a t' b t
  | _=>exact absurd (show false=true from fx) Bool.false_ne_true
 | str a =>
  obtain ⟨t',rfl⟩:=ry
  cases x with
  | non=>cases rx;exact SeqAt.EqAt.str_none a t'
  | bl b=>cases rx;exact SeqAt.EqAt.str_bool a t' b
  | int b=>obtain ⟨t,rfl⟩:=rx;exact SeqAt.EqAt.str_int a t' b t
  | str b=>obtain ⟨t,rfl⟩:=rx;exact SeqAt.EqAt.str_str a t' b t
  | _=>exact absurd (show false=true from fx) Bool.false_ne_true
 | _=>exact absurd (show false=true from fy) Bool.false_ne_true
def zQ (x:V) (u:Value):Bool:=match u with
 | .none=>GN .non x
 | .bool b=>GN (.bl b) x
 | .int i _=>GN (.int i) x
 | .str z _=>GN (.str z) x
 | _=>false
theorem Eu {x y:V} {u:Value} (r:RelV y u) (f:kj y=true):zQ x u=GN y x:=by
 cases y with
 | non=>cases r;rfl
 | bl b=>cases r;rfl
 | int i=>obtain ⟨t,rfl⟩:=r;rfl
 | str z=>obtain ⟨t,rfl⟩:=r;rfl
 | _=>exact absurd (show false=true from f) Bool.false_ne_true
theorem nF {x:V}:∀ {xs:List V} {us:List Value},Vals xs us→xs.all kj=true→us.any (zQ x)=xs.any fun y=>GN y x
 | _,_,.nil,_=>rfl
 | y :: xs,u :: us,.cons r t,f=>by
  rw [List.all_cons,Bool.and_eq_true] at f
  rw [List.any_cons,List.any_cons,Eu r f.1,nF t f.2]
theorem k4 {A:Around} {s:Shared} {x:V} {v:Value} (rx:RelV x v) (fx:kj x=true):∀ {xs:List V} {us:List Value},Vals xs us→xs.all kj=true→∀ u∈us,SeqAt.EqAt A s u v (zQ x u)
 | _,_,.nil,_=>fun u hu=>by cases hu
 | y :: xs,u :: us,.cons r t,f=>fun u' hu=>by
  rw [List.all_cons,Bool.and_eq_true] at f
  rcases List.mem_cons.mp hu with rfl | hu
  ·rw [Eu r f.1];exact Lg r rx f.1 fx
  ·exact k4 rx fx t f.2 u' hu
def Nb (x:V) (xs:List V):Bool:=xs.any fun y=>GN y x
def SI (K:PySem.W.Frag) (neg:Bool):R2:=fun x y H Q=>∃ p xs,y=.ref p∧(di K H p xs∨g7 K H p xs)∧kj x=true∧xs.all kj=true∧Q (.bl (if neg then !Nb x xs else Nb x xs)) H
theorem Dv:fT X (compareOp .In) (SI X.K false):=by
 intro pins s σ H x y v u Q I rx ry h
 obtain ⟨p,xs,rfl,hq,fx,fs,q⟩:=h
 cases ry
 rcases hq with hq | hq
 ·obtain ⟨its,r,pl,hz⟩:=I.list hq
  refine SeqAt.in_listAt (zQ x) pl.isList (fun w hw=>k4 rx fx r fs w (by simpa using hw)) ⟨.bl _,H,I,rfl,?_⟩
  rw [show its.toArray.any (zQ x)=its.any (zQ x) by simp,nF r fs]
  exact q
 ·obtain ⟨its,r,pl,hz⟩:=I.tuple hq
  refine SeqAt.in_tupleAt (zQ x) pl (fun w hw=>k4 rx fx r fs w (by simpa using hw)) ⟨.bl _,H,I,rfl,?_⟩
  rw [show its.toArray.any (zQ x)=its.any (zQ x) by simp,nF r fs]
  exact q
theorem wa:fT X (compareOp .NotIn) (SI X.K true):=by
 intro pins s σ H x y v u Q I rx ry h
 obtain ⟨p,xs,rfl,hq,fx,fs,q⟩:=h
 cases ry
 rcases hq with hq | hq
 ·obtain ⟨its,r,pl,hz⟩:=I.list hq
  refine SeqAt.notIn_listAt (zQ x) pl.isList (fun w hw=>k4 rx fx r fs w (by simpa using hw)) ⟨.bl _,H,I,rfl,?_⟩
  rw [show its.toArray.any (zQ x)=its.any (zQ x) by simp,nF r fs]
  exact q
 ·obtain ⟨its,r,pl,hz⟩:=I.tuple hq
  refine SeqAt.notIn_tupleAt (zQ x) pl (fun w hw=>k4 rx fx r fs w (by simpa using hw)) ⟨.bl _,H,I,rfl,?_⟩
  rw [show its.toArray.any (zQ x)=its.any (zQ x) by simp,nF r fs]
  exact q
theorem jJ:cD X (.builtin "len") (fun xs H Q=>∃ p ys,xs=[.ref p]∧(di X.K H p ys∨g7 X.K H p ys)∧Q (.int ys.length) H):=by
 intro pins s σ H xs us Q I r h
 obtain ⟨p,ys,rfl,hq,q⟩:=h
 obtain ⟨u,rfl,rx⟩:=vals1 r
 cases rx
 have hn:=m4
 rcases hq with hq | hq
 ·obtain ⟨its,r',pl,hz⟩:=I.list hq
  have hlen:=r'.length
  exact Calls.call_len_list pl.isList (by simp only [List.size_toArray] <;> omega) ⟨.int ys.length,H,I.tok _,⟨s.toks + 1,by rw [List.size_toArray,hlen]⟩,q⟩
 ·obtain ⟨its,r',pl,hz⟩:=I.tuple hq
  have hlen:=r'.length
  exact len_tuple pl (by simp only [List.size_toArray] <;> omega) ⟨.int ys.length,H,I.tok _,⟨s.toks + 1,by rw [List.size_toArray,hlen]⟩,q⟩
theorem nH:cD X (.builtin "len") (fun xs H Q=>∃ z,xs=[.str z]∧z.length≤sizeLine∧Q (.int z.length) H):=by
 intro pins s σ H xs us Q I r h
 obtain ⟨z,rfl,hz,q⟩:=h
 obtain ⟨u,rfl,t,rfl⟩:=vals1 r
 have hn:=m4
 exact len_str (by omega) ⟨.int z.length,H,I.tok _,⟨_,rfl⟩,q⟩
theorem cD.or {f:Value} {r r':List V→Hp→VK→Prop} (h:cD X f r) (h':cD X f r'):cD X f (fun xs H Q=>r xs H Q∨r' xs H Q):=by
 intro pins s σ H xs us Q I rs q
 rcases q with q | q
 ·exact h pins s σ H xs us Q I rs q
 ·exact h' pins s σ H xs us Q I rs q
theorem vA:cD X (.type "list") (fun xs H Q=>∃ p ys,xs=[.ref p]∧(di X.K H p ys∨g7 X.K H p ys)∧∀ l,H l=none→Q (.ref l) (upd H l (.lst ys))):=by
 intro pins s σ H xs us Q I r h
 obtain ⟨p,ys,rfl,hq,q⟩:=h
 obtain ⟨u,rfl,rx⟩:=vals1 r
 cases rx
 have fin:∀ (its:List Value),Vals ys its→ys.length≤sizeLine→∀ (h':Heap) (c':Nat),(∀ b o',s.heap.get? b=some o'→h'.get? b=some o') →
   h'.get? s.heap.objs.size=some { cls:=.type "list",dict:=none,data:=.seq its.toArray c',slots:=#[] }→EP X pins σ Q (.ref s.heap.objs.size) { s with heap:=h' }:=fun its r' hz h' c' kp e =>
  ⟨.ref s.heap.objs.size,_,I.laid (t':=s.toks) kp (Nat.le_refl _) (show dy X.prog X.w _ h' _ (.lst ys) from ⟨hz,its,c',r',e⟩),rfl,q _ (I.hok.fresh (Nat.le_refl _))⟩
 rcases hq with hq | hq
 ·obtain ⟨its,r',pl,hz⟩:=I.list hq
  have hlen:=r'.length
  obtain ⟨o,ho,hc,n,hd⟩:=pl.isList
  exact call_list_seq p (.inl rfl) ho hc hd (fun h' c' kp e=>fin its r' hz h' c' kp e) (by simp only [List.size_toArray] <;> omega)
 ·obtain ⟨its,r',pl,hz⟩:=I.tuple hq
  have hlen:=r'.length
  obtain ⟨o,ho,hc,n,hd⟩:=pl
  exact call_list_seq p (.inr rfl) ho hc hd (fun h' c' kp e=>fin its r' hz h' c' kp e) (by simp only [List.size_toArray] <;> omega)
def Qc (K:PySem.W.Frag) (T:String) (x:V) (H:Hp):Prop:=match x with
 | .str _=>T="str"
 | .int _=>T="int"
 | .ref p=>(T="list"∧∃ xs,di K H p xs)∨(T="tuple"∧∃ o,K.lookup p=some o∧o.cls=.type "tuple"∧o.dict=none) ∨
   (T="dict"∧((∃ kvs,H p=some (.dK kvs))∨∃ kvs ep,H p=some (.dE kvs ep)))∨(T="set"∧∃ S n,H p=some (.set S n))
 | _=>False
theorem GD {pins:List (Addr × Obj)} {σ:St} {H:Hp} {s:Shared} {T:String} {x:V} {v:Value} (I:Inv X pins σ H s) (r:RelV x v) (ty:Qc X.K T x H) :
  s.TypeIs v T∧∀ a,v=.ref a→∃ ob,s.heap.get? a=some ob∧ob.dict=none:=by
 cases x with
 | str z =>
  obtain ⟨t,rfl⟩:=r
  cases (show T="str" from ty)
  exact ⟨typeIs_str s z t,fun _ e=>nomatch e⟩
 | int i =>
  obtain ⟨t,rfl⟩:=r
  cases (show T="int" from ty)
  exact ⟨typeIs_int s i t,fun _ e=>nomatch e⟩
 | ref p =>
  cases r
  rcases ty with ⟨rfl,xs,hq⟩ | ⟨rfl,o,hk,hc,hd⟩ | ⟨rfl,hk⟩ | ⟨rfl,S,n,hk⟩
  ·obtain ⟨its,_,pl,_⟩:=I.list hq
   refine ⟨pl.isList.typeIs,fun a e=>?_⟩
   cases e
   obtain ⟨o,n,e,c,hd,_⟩:=pl
   exact ⟨o,e,hd⟩
  ·refine ⟨⟨o,I.mY p o hk,hc⟩,fun a e=>?_⟩
   cases e
   exact ⟨o,I.mY _ o hk,hd⟩
  ·have z:∃ o,s.heap.get? p=some o∧o.ExactDict:=by
    rcases hk with ⟨kvs,hk⟩ | ⟨kvs,ep,hk⟩
    ·obtain ⟨_,_,_,_,o,_,_,e,ex,_⟩:=I.hok p _ hk
     exact ⟨o,e,ex⟩
    ·obtain ⟨_,_,_,_,o,_,e,ex,_⟩:=I.hok p _ hk
     exact ⟨o,e,ex⟩
   obtain ⟨o,e,ex⟩:=z
   refine ⟨⟨o,e,ex.1⟩,fun a e2=>?_⟩
   cases e2
   exact ⟨o,e,ex.2.1⟩
  ·obtain ⟨o,_,_,_,e,ex,_⟩:=I.hok p _ hk
   refine ⟨⟨o,e,ex.1⟩,fun a e2=>?_⟩
   cases e2
   exact ⟨o,e,ex.2.1⟩
 | _=>exact False.elim ty
def Ry (K:PySem.W.Frag) (T:String) (r:V→List V→Hp→VK→Prop) (to:TE):TE:=fun σ H Q=>to σ H fun x H1=>Qc K T x H1∧r x [] H1 Q
def P7 (K:PySem.W.Frag) (T:String) (r:V→List V→Hp→VK→Prop) (to:TE) (t:TA):TE:=fun σ H Q=>to σ H fun x H1=>Qc K T x H1∧t σ H1 fun xs H2=>r x xs H2 Q
variable {o e:Expr} {es:List Expr} {to:TE} {t:TA} {name:Str} {apos cpos:Pos} {T id:String} {r:V→List V→Hp→VK→Prop}
theorem Mf (pa:PlainAttrs T) (slot:Slot T name id) (hty:typeOf (.builtin id)=pure (.type "method_descriptor")) (hm:rD X id r) (ho:PE X o to)
  (hbase:attributeBase o name X.env (eval o X.env)=eval o X.env:=by rfl) (hline:(apos.endLine == cpos.line)=true:=by rfl):PE X (.Call (.Attribute o name apos) [] [] cpos) (Ry X.K T r to):=by
 intro pins s σ H Q I h
 refine wpAny_Call_method0_late hbase hline (cg (ho pins s σ H _ I h) fun v s1 ⟨x,H1,I1,r1,ty,q1⟩=>?_)
 obtain ⟨h1,h2⟩:=GD I1 r1 ty
 exact ⟨T,id,pa,slot,hty,h1,h2,Calls.callWith_builtin rfl (PySem.evalArgs_none (hm pins s1 σ H1 x [] v [] Q I1 r1 .nil q1))⟩
theorem sx (pa:PlainAttrs T) (slot:Slot T name id) (hty:typeOf (.builtin id)=pure (.type "method_descriptor")) (hm:rD X id r) (ho:PE X o to) (ha:PA X (e :: es) t)
  (hbase:attributeBase o name X.env (eval o X.env)=eval o X.env:=by rfl)
  (hfew:((backTo cpos (starEach (e :: es) X.env)).all (fun x=>!x.1) && (backToKw cpos (keywordEach [] X.env)).all (fun x=>x.1.isSome)
   && decide ((e :: es).length + ([]:List Keyword).length + (if ([]:List Keyword).isEmpty then 0 else 1) < 30))=true:=by rfl)
  (hline:(apos.endLine == cpos.line)=true:=by rfl) (hs:starEach (e :: es) X.env=(false,eval e X.env) :: starEach es X.env:=by rfl) (hplain:(backTo cpos (starEach es X.env)).any (·.1)=false:=by rfl) :
  PE X (.Call (.Attribute o name apos) (e :: es) [] cpos) (P7 X.K T r to t):=by
 intro pins s σ H Q I h
 refine wpAny_Call_method_late hbase hfew hline rfl (cg (ho pins s σ H _ I h) fun v s1 ⟨x,H1,I1,r1,ty,q1⟩=>?_)
 obtain ⟨h1,h2⟩:=GD I1 r1 ty
 refine ⟨T,id,pa,slot,hty,h1,h2,?_⟩
 have hA:=ha cpos pins s1 σ H1 _ I1 q1
 rw [hs] at hA ⊢
 refine Calls.callWith_builtin (by show (false || (backTo cpos (starEach es X.env)).any (·.1))=false;rw [hplain] <;> rfl) (Calls.evalArgs_plain ?_)
 exact cg hA fun us s2 ⟨vs,H2,I2,r2,q2⟩=>hm pins s2 σ H2 x vs v us Q I2 r1 r2 q2
end
end L2
namespace L2
open PySem PySem.Spec PyProof.Rows
def Sb (X:Cx) (id:String) (r:V→List V→Hp→VK→Prop):Prop :=
 ∀ (pins:List (Addr × Obj)) (s:Shared) (σ:St) (H:Hp) (x:V) (xs:List V) (v:Value) (us:List Value) (Q:VK),Inv X pins σ H s→RelV x v→Vals xs us→r x xs H Q →
  wpAny (model X.prog X.w) X.A (call (.builtin id) (v :: us)) (EP X pins σ Q) X.xe s
theorem Vals.one {x:V} {us:List Value} (r:Vals [x] us):∃ u,us=[u]∧RelV x u:=vals1 r
theorem Vals.two {x y:V} {us:List Value} (r:Vals [x,y] us):∃ u v,us=[u,v]∧RelV x u∧RelV y v:=vals2 r
theorem Vals.zero:∀ {us:List Value},Vals [] us→us=[]
 | _,.nil=>rfl
theorem Vals.dropLast {xs:List V} {us:List Value} (h:Vals xs us):Vals xs.dropLast us.dropLast:=by
 induction h with
 | nil=>exact .nil
 | cons r t ih =>
  cases t with
  | nil=>exact .nil
  | cons q t'=>exact .cons r ih
theorem Vals.eraseIdx:∀ {xs:List V} {us:List Value} (i:Nat),Vals xs us→Vals (xs.eraseIdx i) (us.eraseIdx i)
 | _,_,_,.nil=>.nil
 | _,_,0,.cons _ t=>t
 | _,_,i + 1,.cons r t=>.cons r (Vals.eraseIdx i t)
theorem zR {α:Type} (l:List α):l.eraseIdx (l.length - 1)=l.dropLast:=by
 induction l with
 | nil=>rfl
 | cons a r ih =>
  cases r with
  | nil=>rfl
  | cons b r =>
   have e:(a :: b :: r).length - 1=((b :: r).length - 1) + 1:=by
    have h1:(a :: b :: r).length=r.length + 2:=rfl
    have h2:(b :: r).length=r.length + 1:=rfl
    omega
   rw [e,List.eraseIdx_cons_succ,ih]
   all_goals rfl
section
variable {X:Cx} {pins:List (Addr × Obj)} {σ:St} {H:Hp} {s:Shared} {l b:Addr} {xs ys zs:List V}
theorem Inv.HH {its its':List Value} {n:Nat} {f:Array Value→Array Value} {t':Nat} (I:Inv X pins σ H s) (hH:H l=some (.lst xs))
  (e:s.heap.get? l=some { cls:=.type "list",data:=.seq its.toArray n }) (hf:f its.toArray=its'.toArray) (hv:Vals ys its') (hz:ys.length≤sizeLine) :
  Inv X pins σ (upd H l (.lst ys)) { s with heap:=s.heap.update l (Obj.mapSeq f),toks:=t' }:=by
 have q:=PySem.IsL.update e f
 rw [hf] at q
 refine I.write (x:=l) (e:=l) (by rw [hH];exact trivial) (.inl rfl) (fun b' u hb hu=>(Heap.get?_update_other s.heap (Obj.mapSeq f) (Ne.symm hb)).trans hu) ⟨_,q⟩ ?_
 exact ⟨hz,its',_,hv,q⟩
theorem Inv.QX {its:List Value} {t':Nat} (I:Inv X pins σ H s) (hv:Vals ys its) (hz:ys.length≤sizeLine) :
  Inv X pins σ (upd H s.heap.objs.size (.lst ys)) { s with heap:=s.heap.push { cls:=.type "list",data:=.seq its.toArray },toks:=t' } :=
 I.laid (fun _ _ q=>Heap.get?_push_of_some _ q) (Nat.le_refl _) ⟨hz,its,0,hv,Heap.get?_push_size _ rfl⟩
theorem Inv.fresh (I:Inv X pins σ H s):H s.heap.objs.size=none:=I.hok.fresh (Nat.le_refl _)
theorem Inv.HI (I:Inv X pins σ H s) (hH:H l=some (.lst xs)):xs.length≤sizeLine∧∃ (its:List Value) (n:Nat),Vals xs its∧xs.length=its.length∧s.heap.get? l=some { cls:=.type "list",data:=.seq its.toArray n }:=by
 obtain ⟨z,its,n,r,e⟩:=I.hok l _ hH
 exact ⟨z,its,n,r,r.length,e⟩
end
section
variable {X:Cx}
def BP:V→List V→Hp→VK→Prop:=fun x vs H Q=>∃ l xs y,x=.ref l∧vs=[y]∧H l=some (.lst xs)∧xs.length < sizeLine∧Q .non (upd H l (.lst (xs ++ [y])))
theorem gA:Sb X "list.append" BP:=by
 intro pins s σ H x vs v us Q I rx rv h
 obtain ⟨l,xs,y,rfl,rfl,hH,hz,q⟩:=h
 cases rx
 obtain ⟨u,rfl,ru⟩:=rv.one
 obtain ⟨z,its,n,r,hl,e⟩:=I.HI hH
 refine call_meets F.slot_list_append ⟨_,e,rfl⟩ F.entry_list_append (F.args_list_append_2 _ _) (PySem.list_append l its.toArray n u (by rw [List.size_toArray];omega)) ⟨e,?_⟩
 refine ⟨.non,_,I.HH (its':=its ++ [u]) hH e (by simp) (r.append (.cons ru .nil)) ?_,rfl,q⟩
 rw [List.length_append,List.length_singleton]
 omega
def Rt:V→List V→Hp→VK→Prop:=fun x vs H Q=>∃ l xs y,x=.ref l∧vs=[]∧H l=some (.lst xs)∧xs[xs.length - 1]?=some y∧Q y (upd H l (.lst xs.dropLast))
theorem LP:Sb X "list.pop" Rt:=by
 intro pins s σ H x vs v us Q I rx rv h
 obtain ⟨l,xs,y,rfl,rfl,hH,hy,q⟩:=h
 cases rx
 have hus:=rv.zero
 subst hus
 obtain ⟨z,its,n,r,hl,e⟩:=I.HI hH
 obtain ⟨u,hu,ru⟩:=r.get hy
 have hy':its.toArray[its.toArray.size - 1]?=some u:=by
  show its.toArray[its.length - 1]?=some u
  rw [← Array.getElem?_toList,← hl]
  exact hu
 refine call_meets F.slot_list_pop ⟨_,e,rfl⟩ F.entry_list_pop (F.args_list_pop_1 _) (MeetsSeq.list_pop_last l its.toArray n u hy' (by rw [List.size_toArray];omega)) ⟨e,?_⟩
 refine ⟨y,_,I.HH (its':=its.dropLast) hH e ?_ r.dropLast ?_,ru,q⟩
 ·show its.toArray.eraseIdxIfInBounds (its.toArray.size - 1)=its.dropLast.toArray
  rw [List.size_toArray,List.eraseIdxIfInBounds_toArray,zR]
 ·rw [List.length_dropLast]
  omega
end
section
variable {prog:Program} {w:World} {A:Around} {E:Value→Shared→Prop} {s:Shared}
end
section
variable {X:Cx}
end
end L2
namespace Att
open PySem PySem.W PySem.Calls PyProof.Rows
theorem qs {P:Params} {h:Heap}:∀ (ns:List Int) (vs:List Value),WellAll P h vs (ns.map WData.int)→IntsAre vs ns:=by
 intro ns
 induction ns with
 | nil =>
  intro vs w
  rw [List.map_nil] at w
  cases w
  exact .nil
 | cons n ns ih =>
  intro vs w
  rw [List.map_cons] at w
  cases w with
  | cons a b =>
   cases a
   exact .cons _ _ (ih _ b)
theorem DH {l:OpenLaw} {n:Nat} (hn:l.most=some n) {P:Params} {h:Heap} {args:List WData} {vals:List Value}
  (hpre:l.row.toRowW.claim.pre args=true) (hwl:WellAll P h vals args) :
  ∃ a vs ns,vals=[Value.ref a]∧args=[WData.list (ns.map WData.int)]∧h.get? a=some { cls:=.type "list",data:=.seq vs.toArray }∧IntsAre vs ns∧ns.length≤n:=by
 have hsh:WShape.hasAll [] args [.list .int]=true:=(pre_splitW hpre).1
 have hc:l.pre.holds [] { args:=args }=true:=(pre_splitW hpre).2
 obtain ⟨d,r,rfl,h1,h2⟩:=hasAllW_cons hsh
 obtain rfl:=hasAllW_nil h2
 obtain ⟨xs,rfl,h3⟩:=hasW_list h1
 obtain ⟨ns,rfl⟩:=items_int h3
 have hlen:ns.length≤n:=by
  unfold OpenLaw.pre at hc
  have h4:(WTm.not (.lt (.lit (.int (n:Int))) (.len (.arg 0)))).holds [] { args:=[.list (ns.map .int)] }=true:=by
   have h4:=(holds_andW hc).1
   rw [hn] at h4
   exact h4
  have h5:=condW_of h4 (w_not (w_lt w_lit (w_len_list (w_arg rfl))))
  rw [List.length_map] at h5
  refine Nat.le_of_not_lt fun q=>?_
  have q':(n:Int) < ((ns.length:Nat):Int):=by omega
  first
   | (rw [decide_eq_true q'] at h5;exact absurd h5 (by decide))
   | (simp at h5;omega)
 cases hwl with
 | cons w1 w2 =>
  cases w2
  cases w1 with
  | list ho hall=>exact ⟨_,_,ns,rfl,rfl,ho,qs ns _ hall,hlen⟩
theorem DB (l:OpenLaw) (args:List WData):l.row.toRowW.claim.post args (.bool true) args=true :=
 postW_of (r:=l.row.toRowW) (X:=(true == true))
  (show WShape.has [] (.bool true) .bool=true by first | rfl | decide | simp [WShape.has,WShape.arms,WShape.armsAll])
  (show (WTm.eq .res (.lit (.bool true))).value [] { args:=args,res:=some (.bool true),after:=args }=some (.bool (true == true)) from w_eq_bool (w_res rfl) w_lit) rfl
theorem xD {l:OpenLaw} {n:Nat} {q:Program} {loose:List Str} {XP:(Str→Option Value)→Heap→Prop} {YP:World→Heap→Prop} {d:DefRec}
  (hn:l.most=some n) (hdf:d.params.defaults=[])
  (call:∀ (w:World) (s₀ s₁:Shared) (mg mb:Str→Option Value) (fa:Addr) (o:Obj) (pm cd doc:Value) (a:Addr) (vs:List Value) (ns:List Int),
   Ground q loose [] XP w s₀ mg mb s₁.heap→YP w s₁.heap →
   s₁.heap.get? fa=some o→o.data=.func (docDef d.name d.params d.body d.scope pm cd doc)→s₁.heap.CodeRec cd d.name→mg d.name=some (.ref fa) →
   s₁.heap.get? a=some { cls:=.type "list",data:=.seq vs.toArray }→IntsAre vs ns→ns.length≤n→s₁.gens=#[] →
   codeAny (model l.prog w) callerA (.call (.ref fa) ⟨[.ref a],[]⟩) (fun r s'=>r=.ok (.ret (.bool true))∧OldK s₁.heap s'.heap∧s'.os=s₁.os∧AllBare s'.gens) s₁) :
  WalkO q loose XP YP l.row.toRowW d [] (fun f vs=>PySem.call f vs):=by
 intro w s₀ s₁ mg mb G Y fa o pm cd doc dV kV ho hd hcd hD hmg hg args vals as hpre hlay hrd hwl hlo
 obtain rfl:dV=.none:=Dflts.none hD hdf
 obtain rfl:kV=.none:=Dflts.noKw hD
 obtain ⟨a,vs,ns,rfl,rfl,hobj,hints,hlen⟩:=DH hn hpre hwl
 refine enter_call (codeAny_mono (call w s₀ s₁ mg mb fa o pm cd doc a vs ns G Y ho (fd_plain hd) hcd hmg hobj hints hlen hg) fun r s' hq=>?_)
 obtain ⟨rfl,h2,h3,h4⟩:=hq
 exact ⟨.inl ⟨.bool true,.bool true,[],rfl,fun _=>rfl,.bool true,DB l _,fun _=>⟨List.Pairwise.nil,fun _ hm=>(nomatch hm)⟩⟩,h2,h3,h4⟩
section
variable {prog:Program} {w:World} {A:Around} {E:Value→Shared→Prop} {s:Shared} {K:Frag}
end
end Att
namespace L2
open PySem PySem.Spec PyProof.Rows
theorem uY:∀ {vs:List Value} {ns:List Int},IntsAre vs ns→Vals (ns.map V.int) vs
 | _,_,.nil=>.nil
 | _,_,.cons n t h=>.cons ⟨t,rfl⟩ (uY h)
end L2
namespace L2
open PySem PySem.Spec PyProof.Rows
abbrev cW {K:PySem.W.Frag} {h:Heap} (_:K.In h):PySem.W.Frag:=K
end L2
namespace L2
open PySem PySem.Spec PyProof.Rows
def inClass (s:Stmt) (j:Nat):Stmt:=match s with
 | .ClassDef _ _ _ body _ _ _ _ _ _ _=>body.getD j (.Pass ⟨0,0,0,0⟩)
 | _=>.Pass ⟨0,0,0,0⟩
def dz (s:Stmt):Arguments:=match s with
 | .FunctionDef _ a _ _ _ _ _ _ _ _=>a
 | _=>{ posonlyargs:=[],args:=[],vararg:=none,kwonlyargs:=[],kw_defaults:=[],kwarg:=none,defaults:=[] }
def bV (s:Stmt):List Stmt:=match s with
 | .FunctionDef _ _ b _ _ _ _ _ _ _=>b
 | _=>[]
def aj (s:Stmt):Scope:=match s with
 | .FunctionDef _ _ _ _ _ _ sc _ _ _=>sc
 | _=>{ kind:=.function,names:=[],isGenerator:=false,isCoroutine:=false }
abbrev ra:tH:=fun _ _ _ _ _ _=>False
abbrev E0:XK:=fun _ _ _=>False
theorem OG {X:Cx}:Passes ra X E0:=fun _ _ _ _ _ _ _ h=>h.elim
structure cA (K:PySem.W.Frag) (x qual:Str) (st:Stmt) (f:Addr) (fd:FuncData):Prop where
 ex:∃ (oc:Value) (od:Option Addr) (kV doc pm:Value) (an:Option Addr) (cdv ct:Value) (osl:Array (Option Value)),
  fd=PySem.W.fnOf x qual (dz st) (bV st) (aj st) .none kV doc pm an cdv ct∧K.lookup f=some ⟨oc,od,.func fd,osl⟩∧PySem.W.codeIn K cdv qual=true
 kp:PySem.W.keepIn K (.ref f)=true
section
variable {P:Program} {w:World} {K:PySem.W.Frag} {mg:Str→Option Value} {base:Heap}
theorem cA.ok {x qual:Str} {st:Stmt} {f:Addr} {fd:FuncData} {N ps:List Str} {k:Nat} {sp:Sp} (F:cA K x qual st f fd) (S:aw N ps (aj st)) (len:∀ vs H Q E,sp vs H Q E→vs.length=ps.length)
  (hbody:∀ (cdv:Value) (A:Around) (outer:List Env) (s:Shared) (H:Hp) (vs:List V) (Q:VK) (E:XK),bU k (A.deeper (envOfC qual (aj st) s.heap.objs.size f cdv))→sp vs H Q E →
   ∃ t,tE (vC ra P w K mg base N qual (aj st) f cdv A outer s H E).LQ (bV st) t∧t { nx:=fun _ H'=>Q .non H',rt:=Q } (start N vs) H):aL P w K mg base ra (k + 1) f fd ps sp:=by
 obtain ⟨oc,od,kV,doc,pm,an,cdv,ct,osl,rfl,lk,hcd⟩:=F.ex
 refine Ex lk hcd S len fun A outer s H vs Q E hr hsp=>?_
 obtain ⟨t,h,q⟩:=hbody cdv A outer s H vs Q E hr hsp
 exact ⟨t,h.LQ,q⟩
theorem cA.binds {x qual:Str} {st:Stmt} {f:Addr} {fd:FuncData} {ps:List Str} (F:cA K x qual st f fd)
  (h:∀ (kV doc pm:Value) (an:Option Addr) (cdv ct:Value) (us:List Value),us.length=ps.length→bindArgs (PySem.W.fnOf x qual (dz st) (bV st) (aj st) .none kV doc pm an cdv ct) ⟨us,[]⟩=pure (ps.zip us)):Binds K fd ps []:=by
 obtain ⟨oc,od,kV,doc,pm,an,cdv,ct,osl,rfl,lk,hcd⟩:=F.ex
 exact .all (h kV doc pm an cdv ct)
theorem zT {x qual:Str} {st:Stmt} {f:Addr} {oc:Value} {od an:Option Addr} {osl:Array (Option Value)} {kV doc pm cdv ct:Value} (l:K.lookup f=some ⟨oc,od,.func (PySem.W.fnOf x qual (dz st) (bV st) (aj st) .none kV doc pm an cdv ct),osl⟩)
  (c:PySem.W.codeIn K cdv qual=true) (k:PySem.W.keepIn K (.ref f)=true):cA K x qual st f (PySem.W.fnOf x qual (dz st) (bV st) (aj st) .none kV doc pm an cdv ct):=⟨⟨oc,od,kV,doc,pm,an,cdv,ct,osl,rfl,l,c⟩,k⟩
end
theorem bp {n:Nat} (h:n≤1000):n < sizeLine:=Nat.lt_of_le_of_lt h (by decide)
section
variable {X:Cx}
theorem pv (i:Nat) {x:Str} {pos:Pos} (hN:X.N[i]?=some x:=by rfl) (hv:xA X.env.scope x:=by first | exact Or.inl rfl | exact Or.inr (Or.inl rfl) | exact Or.inr (Or.inr rfl)) (hd:(x == ("__debug__":Str))=false:=by decide)
  (hcd:(x == ("__classdict__":Str))=false:=by decide):PE X (.Name x pos) (AW i):=Aw hN hv hd hcd
end
theorem ER {c A B:Prop} [Decidable c] (h1:c→A) (h2:¬ c→B):if c then A else B:=by
 by_cases h:c
 ·rw [if_pos h]
  exact h1 h
 ·rw [if_neg h]
  exact h2 h
def bF (H H':Hp):Prop:=∀ b o,H b=some o→H' b=some o
theorem bF.trans {H H1 H2:Hp} (a:bF H H1) (b:bF H1 H2):bF H H2:=fun c o h=>b c o (a c o h)
theorem bF.free {H H':Hp} (e:bF H H') {l:Addr} (h:H' l=Option.none):H l=Option.none:=by
 cases q:H l with
 | none=>rfl
 | some o =>
  rw [e l o q] at h
  cases h
theorem bF.seq {K:PySem.W.Frag} {H H':Hp} {a:Addr} {xs:List V} (e:bF H H') (h:di K H a xs):di K H' a xs:=by
 rcases h with (h | ⟨o,h⟩) | h
 ·exact .inl (.inl (e _ _ h))
 ·exact .inl (.inr ⟨o,e _ _ h⟩)
 ·exact .inr h
end L2
namespace Ov
theorem xO {a b:Int} (h:b≠0):Int.gcd b (a % b)=Int.gcd a b:=by
 have e:a=b * (a / b) + a % b:=(Int.mul_ediv_add_emod a b).symm
 have d1:((Int.gcd b (a % b):Nat):Int) ∣ a:=by
  rw [e]
  exact Int.dvd_add (Int.dvd_trans (Int.gcd_dvd_left ..) (Int.dvd_mul_right ..)) (by rw [← e];exact Int.gcd_dvd_right ..)
 have d2:((Int.gcd a b:Nat):Int) ∣ a % b:=by
  have e2:a % b=a - b * (a / b):=by omega
  rw [e2]
  exact Int.dvd_sub (Int.gcd_dvd_left ..) (Int.dvd_trans (Int.gcd_dvd_right ..) (Int.dvd_mul_right ..))
 exact Nat.dvd_antisymm (Int.dvd_gcd d1 (Int.gcd_dvd_left ..)) (Int.dvd_gcd (Int.gcd_dvd_right ..) d2)
theorem Bq {a:Int} (h:0≤a):((Int.gcd a 0:Nat):Int)=a:=by
 rw [Int.gcd_zero_right];omega
theorem Hv (a b:Int):Int.gcd (if a < 0 then -a else a) (if b < 0 then -b else b)=Int.gcd a b:=by
 split <;> split <;> simp [Int.gcd_neg,Int.neg_gcd]
theorem EB (a b:Int):Int.gcd (if a < 0 then -a else a) b=Int.gcd a b:=by
 split <;> simp [Int.gcd_neg,Int.neg_gcd]
theorem Br {t b:Int} (h:b≠0):0 < ((Int.gcd t b:Nat):Int):=by
 have:0 < Int.gcd t b:=Int.gcd_pos_of_ne_zero_right t h
 omega
theorem Ll {t b:Int} (h:b≠0):Int.gcd t b≤b.natAbs:=Nat.le_of_dvd (by omega) (Int.ofNat_dvd.mp (by rw [Int.dvd_natAbs];exact Int.gcd_dvd_right ..))
theorem vS {t b:Int} (h:0 < b):t.fdiv ((Int.gcd t b:Nat):Int)=(Rat.divInt t b).num:=by
 rw [Rat.num_divInt,Int.sign_eq_one_of_pos h,Int.one_mul,Int.gcd_comm b t,Int.fdiv_eq_ediv_of_nonneg _ (Int.natCast_nonneg _)]
theorem den_pos {t b:Int} (h:0 < b):b.fdiv ((Int.gcd t b:Nat):Int)=((Rat.divInt t b).den:Int):=by
 rw [Rat.den_divInt,if_neg (by omega),Int.gcd_comm b t,Int.fdiv_eq_ediv_of_nonneg _ (Int.natCast_nonneg _)]
 rw [Int.natCast_ediv]
 congr 1
 omega
theorem BF {t b:Int} (h:b < 0):t.fdiv (-((Int.gcd t b:Nat):Int))=(Rat.divInt t b).num:=by
 have e:t.fdiv (-((Int.gcd t b:Nat):Int))=(-t).fdiv ((Int.gcd t b:Nat):Int):=by
  have:=Int.neg_fdiv_neg (a:=-t) (b:=((Int.gcd t b:Nat):Int))
  rw [← this];simp
 rw [e,Rat.num_divInt,Int.sign_eq_neg_one_of_neg h,Int.gcd_comm b t,Int.fdiv_eq_ediv_of_nonneg _ (Int.natCast_nonneg _)]
 congr 1
 omega
theorem Hg {t b:Int} (h:b < 0):b.fdiv (-((Int.gcd t b:Nat):Int))=((Rat.divInt t b).den:Int):=by
 have e:b.fdiv (-((Int.gcd t b:Nat):Int))=(-b).fdiv ((Int.gcd t b:Nat):Int):=by
  have:=Int.neg_fdiv_neg (a:=-b) (b:=((Int.gcd t b:Nat):Int))
  rw [← this];simp
 rw [e,Rat.den_divInt,if_neg (by omega),Int.gcd_comm b t,Int.fdiv_eq_ediv_of_nonneg _ (Int.natCast_nonneg _)]
 rw [Int.natCast_ediv]
 congr 1
 omega
theorem BE (t b:Int):(Rat.divInt t b).num.natAbs≤t.natAbs:=by
 rcases Int.lt_trichotomy b 0 with h | h | h
 ·rw [← BF h]
  exact Int.natAbs_fdiv_le_natAbs ..
 ·subst h;simp
 ·rw [← vS h,Int.fdiv_eq_ediv_of_nonneg _ (Int.natCast_nonneg _)]
  exact Int.natAbs_ediv_le_natAbs ..
theorem vD {t b:Int} (h:b≠0):(((Rat.divInt t b).den:Int)).natAbs≤b.natAbs:=by
 rw [Rat.den_divInt,if_neg h]
 exact Nat.div_le_self ..
theorem l9 (p:Rat):Rat.divInt p.num p.den=p:=Rat.num_divInt_den p
theorem eZ (p:Rat):(p.den:Int)≠0:=by have:=p.den_pos;omega
theorem eY (p:Rat):(0:Int) < p.den:=by have:=p.den_pos;omega
theorem add_eq (p q:Rat):Rat.divInt (p.num * q.den + q.num * p.den) (p.den * q.den)=p + q:=by
 rw [← Rat.divInt_add_divInt _ _ (eZ p) (eZ q),l9,l9]
theorem sub_eq (p q:Rat):Rat.divInt (p.num * q.den - q.num * p.den) (p.den * q.den)=p - q:=by
 rw [← Rat.divInt_sub_divInt _ _ (eZ p) (eZ q),l9,l9]
theorem mul_eq (p:Rat) (m:Int):Rat.divInt (p.num * m) p.den=p * m:=by
 have:=Rat.divInt_mul_divInt p.num m (d₁:=p.den) (d₂:=1)
 rw [l9,Int.mul_one] at this
 rw [← this,Rat.divInt_eq_div]
 congr 1
 grind
theorem cast_eq (p:Rat):(p.num:Rat)=p * (p.den:Int):=by
 have h:((p.den:Int):Rat)≠0:=by
  intro e
  exact eZ p (by exact_mod_cast e)
 have e:=l9 p
 rw [Rat.divInt_eq_div] at e
 grind
theorem d7 (p:Rat):((p.den:Int):Rat)≠0:=fun e=>eZ p (by exact_mod_cast e)
theorem NF (b p m:Rat) (v:Int):Rat.divInt (p.num * (m.den * b.den) + v * (m.num * b.den - b.num * m.den) * p.den) (p.den * (m.den * b.den))=p + (m - b) * v:=by
 have h:=d7 p
 have g:=d7 b
 have k:=d7 m
 simp only [Rat.divInt_eq_div,Rat.intCast_add,Rat.intCast_sub,Rat.intCast_mul,cast_eq p,cast_eq b,cast_eq m]
 generalize ((p.den:Int):Rat)=d at h ⊢
 generalize ((b.den:Int):Rat)=e at g ⊢
 generalize ((m.den:Int):Rat)=f at k ⊢
 generalize (v:Rat)=v
 grind
theorem p_ {n:Int} (h:n≠0):(n:Rat)≠0:=fun e=>h (by exact_mod_cast e)
theorem Ms (g:Rat) (n:Int) (h:n≠0):Rat.divInt g.num (g.den * n)=g / n:=by
 have k:=d7 g
 have l:=p_ h
 simp only [Rat.divInt_eq_div,Rat.intCast_mul,cast_eq g]
 generalize ((g.den:Int):Rat)=d at k ⊢
 generalize (n:Rat)=n at l ⊢
 grind
end Ov
namespace Ov
open PySem PySem.Spec PyProof.Rows L2
structure Bd (n:Nat) (x:Int):Prop where
 lt:x.natAbs < 2 ^ n
theorem Bd.bits {n:Nat} {x:Int} (h:Bd n x):Builtin.Int.intBits x≤n:=intBits_le_iff.mpr h.lt
theorem Bd.of {n:Nat} {x:Int} (h:Builtin.Int.intBits x≤n):Bd n x:=⟨intBits_le_iff.mp h⟩
theorem Bd.mono {m n:Nat} {x:Int} (h:Bd m x) (hmn:m≤n):Bd n x:=.of (Nat.le_trans h.bits hmn)
theorem Bd.neg {n:Nat} {x:Int} (h:Bd n x):Bd n (-x):=.of (intBits_neg_le h.bits)
theorem Bd.add {m n k:Nat} {x y:Int} (h:Bd m x) (g:Bd n y) (hk:max m n + 1≤k:=by decide):Bd k (x + y):=(Bd.of (intBits_add_le h.bits g.bits)).mono hk
theorem Bd.sub {m n k:Nat} {x y:Int} (h:Bd m x) (g:Bd n y) (hk:max m n + 1≤k:=by decide):Bd k (x - y):=(Bd.of (intBits_sub_le h.bits g.bits)).mono hk
theorem Bd.mul {m n k:Nat} {x y:Int} (h:Bd m x) (g:Bd n y) (hk:m + n≤k:=by decide):Bd k (x * y):=(Bd.of (intBits_mul_le h.bits g.bits)).mono hk
theorem Bd.le {n:Nat} {x y:Int} (g:Bd n y) (h:x.natAbs≤y.natAbs):Bd n x:=⟨Nat.lt_of_le_of_lt h g.lt⟩
theorem Bd.small {x:Int} (h1:-(2 ^ 64) < x) (h2:x < 2 ^ 64):Bd 64 x:=.of (intBits_le_64 h1 h2)
theorem Bd.log {n:Nat} {x:Int} (h:Bd n x) (hn:n≤9000) (h0:x≠0):x.natAbs.log2 < 9000 :=
 Nat.lt_of_lt_of_le ((Nat.log2_lt (by omega)).mpr h.lt) hn
section
variable {X:Cx}
def CM (i j:Int):Prop:=∃ m n,Bd m i∧Bd n j∧m + n≤134217728
theorem CM.of {m n:Nat} {i j:Int} (h:Bd m i) (g:Bd n j) (hk:m + n≤134217728:=by decide):CM i j:=⟨m,n,h,g,hk⟩
theorem cO:fT X (binaryOp .Mult) (rI CM fun i j=>.int (i * j)):=P5 fun _ _ _ _ _ _ _ hc q=>by
 obtain ⟨m,n,h,g,hk⟩:=hc
 exact mul_int q (IntMulOk.of_le h.bits g.bits hk)
def CQ (_ j:Int):Prop:=j≠0∧Bd 9000 j
theorem gL:fT X (binaryOp .FloorDiv) (rI CQ fun i j=>.int (i.fdiv j)):=P5 fun _ _ _ _ _ _ _ hc q =>
 floordiv_int hc.1 q (.inl (PyProof.noPylong_of_log2 (hc.2.log (Nat.le_refl _) hc.1)))
def S8 (f:Bool→Bool):R2:=fun x y H Q=>∃ (p q:Addr) (a b c d:Int),x=.ref p∧y=.ref q∧H p=some (.tup [.int a,.int b])∧H q=some (.tup [.int c,.int d])∧Q (.bl (f (decide (a=c∧b=d)))) H
def Pp (t u:TS):TS:=fun D σ H=>∃ M:L2.St→Hp→Prop,t { D with nx:=M } σ H∧∀ σ' H',M σ' H'→u D σ' H'
theorem IB {st:Stmt} {rest:List Stmt} {t u:TS} (h1:PS X st t) (h2:tE X rest u):tE X (st :: rest) (Pp t u):=by
 intro pins s σ H D I h
 obtain ⟨M,h,k⟩:=h
 refine wpAny_execs_cons (cg (h1 pins s σ H { D with nx:=M } I h) fun f s1 q=>?_)
 cases f with
 | next =>
  obtain ⟨σ',H',I',q⟩:=q
  exact h2 pins s1 σ' H' D I' (k _ _ q)
 | ret v=>exact q
 | brk=>exact q
 | cont=>exact q
end
section
variable {X:Cx}
def Kr:R2:=fun x y H Q=>∃ p xs i v,x=.ref p∧y=.int i∧H p=some (.lst xs)∧dJ xs i=some v∧Q v H
def O4:R2:=fun x y H Q=>∃ p xs i v,x=.ref p∧y=.int i∧H p=some (.tup xs)∧dJ xs i=some v∧Q v H
theorem gI:rA X Kr:=fun value slice pins s σ H x y v u Q I rx ry ⟨p,xs,i,z,e1,e2,h,e3,q⟩ hs =>
 vK value slice pins s σ H x y v u Q I rx ry ⟨p,xs,i,z,e1,e2,di.of h,e3,q⟩ hs
end
theorem d5 {α:Type} (x:α) (xs:List α):dJ (x :: xs) 0=some x:=bq (j:=0) rfl
theorem f7 {α:Type} (x y:α) (xs:List α):dJ (x :: y :: xs) 1=some y:=bq (j:=1) rfl
theorem mj {α:Type} (x y z:α) (xs:List α):dJ (x :: y :: z :: xs) 2=some z:=bq (j:=2) rfl
theorem Eg {α:Type} (x y z u:α) (xs:List α):dJ (x :: y :: z :: u :: xs) 3=some u:=bq (j:=3) rfl
theorem Jg (i j:Int):F9 (.int i) (.int j)=true:=rfl
theorem Jf (i j:Bool):F9 (.bl i) (.bl j)=true:=rfl
theorem Jh (i j:Str):F9 (.str i) (.str j)=true:=rfl
def tD (P:Program) (w:World) (K:PySem.W.Frag) (mg:Str→Option Value) (base:Heap) (k:Nat) (x:Str) (ps:List Str) (sp:Sp):Prop :=
 ∃ f fd,aL P w K mg base ra k f fd ps sp∧Binds K fd ps []∧PySem.W.keepIn K (.ref f)=true∧mg x=some (.ref f)
theorem Mg {X:Cx} {k k':Nat} {x:Str} {ps:List Str} {sp:Sp} {p pos:Pos} {e:Expr} {es:List Expr} {t:TA} (C:tD X.prog X.w X.K X.mg X.base k x ps sp) (hr:bU k' X.A) (hk:k≤k') (hg:Gl X x) (ha:PA X (e :: es) t)
  (hdb:(x == ("__debug__":Str))=false:=by decide) (he:starEach (e :: es) X.env=(false,eval e X.env) :: starEach es X.env:=by rfl) (hpl:(backTo pos (starEach es X.env)).any (·.1)=false:=by rfl) :
  PE X (.Call (.Name x p) (e :: es) [] pos) (tq sp [] E0 t):=by
 obtain ⟨f,fd,F,b,kp,m⟩:=C
 exact BI F (hr.mono hk) hg m kp b .nil OG ha hdb he hpl
theorem ed {N P:List Str} {sc:Scope} (a:sc.kind=.function:=by rfl) (b:sc.isCoroutine=false:=by rfl) (c:sc.isGenerator=false:=by rfl) (d:N.Nodup:=by decide +kernel) (e:N.take P.length=P:=by rfl) (f:∀ x∈P,sc.names.lookup x=some .local∨sc.names.lookup x=some .cell:=by decide +kernel) (g:∀ y∈sc.names,y.2≠.free:=by decide +kernel):aw N P sc:=⟨a,b,c,d,e,f,g⟩
def Def (K:PySem.W.Frag) (mg:Str→Option Value) (x:Str) (st:Stmt):Prop:=∃ f fd,cA K x x st f fd∧mg x=some (.ref f)
theorem Le {K:PySem.W.Frag} {h:Heap} {mg:Str→Option Value} {x:Str} {st:Stmt} (X:K.In h) (G:h.Ns mainGlobals mg) {f:Addr} {od an:Option Addr} {sl:Array (Option Value)} {oc kV dc pm cd ct:Value}
  (a:PySem.W.nsIn K mainGlobals x=some (some (.ref f))) (l:K.lookup f=some ⟨oc,od,.func (PySem.W.fnOf x x (dz st) (bV st) (aj st) .none kV dc pm an cd ct),sl⟩) (c:PySem.W.codeIn K cd x=true) (k:PySem.W.keepIn K (.ref f)=true) :
  Def K mg x st:=⟨f,_,zT l c k,PySem.W.mg_of X G a⟩
theorem Def.Ej {P:Program} {w:World} {K:PySem.W.Frag} {mg:Str→Option Value} {base:Heap} {x:Str} {st:Stmt} {k:Nat} {ps:List Str} {sp:Sp} (D:Def K mg x st)
  (h:∀ f fd,cA K x x st f fd→aL P w K mg base ra k f fd ps sp)
  (hb:∀ (kV doc pm:Value) (an:Option Addr) (cdv ct:Value) (us:List Value),us.length=ps.length→bindArgs (PySem.W.fnOf x x (dz st) (bV st) (aj st) .none kV doc pm an cdv ct) ⟨us,[]⟩=pure (ps.zip us)) :
  tD P w K mg base k x ps sp:=by
 obtain ⟨f,fd,F,m⟩:=D
 exact ⟨f,fd,h f fd F,F.binds hb,F.kp,m⟩
theorem Ly {K:PySem.W.Frag} {mg:Str→Option Value} {st:Stmt} {fa:Addr} {p:Str} (D:Def K mg "law" st) (hfa:mg "law"=some (.ref fa))
  (hb:∀ (kV doc pm:Value) (an:Option Addr) (cdv ct:Value) (u:Value),bindArgs (PySem.W.fnOf "law" "law" (dz st) (bV st) (aj st) .none kV doc pm an cdv ct) ⟨[u],[]⟩=pure [(p,u)]) :
  ∃ fd,cA K "law" "law" st fa fd∧∀ (s:Shared) (u:Value),BindsTo s fd ⟨[u],[]⟩ [(p,u)]:=by
 obtain ⟨f,fd,F,m⟩:=D
 have e:=m.symm.trans hfa
 cases e
 obtain ⟨oc,od,kV,doc,pm,an,cdv,ct,osl,rfl,lk,hcd⟩:=F.ex
 exact ⟨_,F,fun s u=>.of_eq (hb kV doc pm an cdv ct u)⟩
structure DT (mg:Str→Option Value):Prop where
 abs:mg "abs"=none
 len:mg "len"=none
 isinstance:mg "isinstance"=none
 range:mg "range"=none
 int:mg "int"=none
 bool:mg "bool"=none
 tuple:mg "tuple"=none
 list:mg "list"=none
 sorted:mg "sorted"=none
 all:mg "all"=none
theorem _root_.L2.bF.tup {K:PySem.W.Frag} {H H':Hp} {a:Addr} {xs:List V} (e:bF H H') (h:g7 K H a xs):g7 K H' a xs:=by
 rcases h with (h | ⟨o,h⟩) | h
 ·exact .inl (.inl (e _ _ h))
 ·exact .inl (.inr ⟨o,e _ _ h⟩)
 ·exact .inr h
theorem _root_.L2.bF.new {H:Hp} {p:Addr} (h:H p=none) (o:HO):bF H (upd H p o):=fun b u q=>by rw [aK (bE q h)];exact q
theorem _root_.L2.bF.Nh {H H':Hp} {p:Addr} (h:H p=none) (e:bF H H') (o:HO):bF H (upd H' p o):=fun b u q=>by rw [aK (bE q h)];exact e b u q
def M7 (K:PySem.W.Frag) (H:Hp) (a:Addr) (q:Rat):Prop:=g7 K H a [.int q.num,.int q.den]
structure Sz (n:Nat) (q:Rat):Prop where
 num:Bd n q.num
 den:Bd n q.den
theorem Sz.mono {m n:Nat} {q:Rat} (h:Sz m q) (k:m≤n):Sz n q:=⟨h.num.mono k,h.den.mono k⟩
theorem IP (x y:Rat):(x.num=y.num∧(x.den:Int)=(y.den:Int))=(x=y):=propext
 ⟨fun h=>Rat.ext h.1 (by have:=h.2;omega),fun h=>by subst h;exact ⟨rfl,rfl⟩⟩
theorem kU (c:Str→NameKind→Bool):∀ (names:List (Str × NameKind)) (y:Str),
  (names.map fun (x:Str × NameKind)=>if c x.1 x.2 then (x.1,NameKind.cell) else (x.1,x.2)).lookup y=(names.lookup y).map fun k=>if c y k then NameKind.cell else k
 | [],_=>rfl
 | (n,k) :: r,y=>by
  have ih:=kU c r y
  cases hy:y == n with
  | true =>
   have e:y=n:=by simpa using hy
   subst e
   by_cases h:c y k=true <;> simp [List.lookup_cons,h]
  | false =>
   by_cases h:c n k=true <;> simp [List.lookup_cons,h,hy,ih]
theorem lB (sc:Scope) (env:Env) (y:Str):(relabel sc env).names.lookup y=(sc.names.lookup y).map fun k=>if (k == .free && env.scope.kind == .function && env.kindOf y == some .cell) then NameKind.cell else k:=by
 have h:=kU (fun n k=>k == .free && env.scope.kind == .function && env.kindOf n == some .cell) sc.names y
 exact h
theorem mT {env:Env}:∀ (names:List (Str × NameKind)) (acc:List (Str × Addr)),(∀ y∈names,y.2=.free→∃ c,env.cells.lookup y.1=some c)→(∀ y c,acc.lookup y=some c→env.cells.lookup y=some c) →
  ∃ cl,(forIn names acc fun (x:Str × NameKind) (r:List (Str × Addr))=>match x with
   | (name,kind)=>if (kind == NameKind.free)=true then (do let c ← cellOf env name;pure (ForInStep.yield ((name,c) :: r))) else (pure (ForInStep.yield r):Sem (ForInStep (List (Str × Addr)))))=(pure cl:Sem (List (Str × Addr))) ∧
   (∀ y c,cl.lookup y=some c→env.cells.lookup y=some c)∧(∀ y c,acc.lookup y=some c→∃ c,cl.lookup y=some c)∧∀ y∈names,y.2=.free→∃ c,cl.lookup y.1=some c
 | [],acc,_,ha=>⟨acc,rfl,ha,fun y c e=>⟨c,e⟩,fun y hy=>by cases hy⟩
 | (n,k) :: r,acc,hn,ha=>by
  by_cases hk:k=.free
  ·subst hk
   obtain ⟨c,hc⟩:=hn (n,.free) List.mem_cons_self rfl
   obtain ⟨cl,e,h1,h2,h3⟩:=mT r ((n,c) :: acc) (fun y hy=>hn y (List.mem_cons_of_mem _ hy)) (fun y d e=>by
    rw [List.lookup_cons] at e
    cases hy:y == n with
    | true =>
     rw [hy] at e
     have e1:y=n:=by simpa using hy
     subst e1
     rw [hc]
     exact e
    | false=>rw [hy] at e;exact ha y d e)
   have self:∃ d,cl.lookup n=some d:=h2 n c (by simp [List.lookup_cons])
   refine ⟨cl,?_,h1,fun y d q=>?_,fun y hy hf=>?_⟩
   ·rw [List.forIn_cons]
    have ec:cellOf env n=pure c:=by unfold cellOf;rw [hc]
    simp only [beq_self_eq_true,if_true,ec,pure_bind]
    exact e
   ·by_cases hy:y=n
    ·subst hy;exact self
    ·exact h2 y d (by rw [List.lookup_cons];have:(y == n)=false:=by simpa using hy
                      rw [this];exact q)
   ·rcases List.mem_cons.mp hy with rfl | hy
    ·exact self
    ·exact h3 y hy hf
  ·obtain ⟨cl,e,h1,h2,h3⟩:=mT r acc (fun y hy=>hn y (List.mem_cons_of_mem _ hy)) ha
   refine ⟨cl,?_,h1,h2,fun y hy hf=>?_⟩
   ·rw [List.forIn_cons]
    have hb:(k == NameKind.free)=false:=by simpa using hk
    simp only [hb,Bool.false_eq_true,if_false,pure_bind]
    exact e
   ·rcases List.mem_cons.mp hy with rfl | hy
    ·exact absurd hf hk
    ·exact h3 y hy hf
theorem jK {sc:Scope} {env:Env} (h:∀ y∈sc.names,y.2=.free→∃ c,env.cells.lookup y.1=some c) :
  ∃ cl,closureFor sc env=pure cl∧(∀ y c,cl.lookup y=some c→env.cells.lookup y=some c)∧∀ y∈sc.names,y.2=.free→∃ c,cl.lookup y.1=some c:=by
 obtain ⟨cl,e,h1,_,h3⟩:=mT sc.names [] h (fun y c z=>by cases z)
 refine ⟨cl,?_,h1,h3⟩
 unfold closureFor
 have e':=congrArg (fun m=>m >>= fun r=>(pure r:Sem (List (Str × Addr)))) e
 simp only [pure_bind] at e'
 exact e'
abbrev cQ (sc osc:Scope) (N:List Str) (x:Str) (ks:List (Str × Nat)):Prop :=
 sc.kind=.function∧(∀ y∈sc.names,y.2≠.cell)∧sc.names.lookup x=some .local∧(∀ y∈sc.names,y.2=.local→sc.names.lookup y.1=some .local) ∧
 (∀ y∈sc.names,y.2=.free→osc.names.lookup y.1=some .cell)∧(∀ p∈ks,N[p.2]?=some p.1∧sc.names.lookup p.1=some .free)∧(x :: ks.map (·.1)).Nodup
def fv (X:Cx) (sc:Scope) (cl:List (Str × Addr)) (C:Addr) (x:Str) (ks:List (Str × Nat)) (s₀:Shared) (H₀:Hp) (fp:List Addr) (pins:List (Addr × Obj)):Cx :=
 { X with N:=x :: ks.map (·.1),s₀:=s₀,H₀:=H₀,env:=compEnvC sc cl C X.env,outer:=X.stack,ex:=fp,fn:=fun _=>false,pn:=X.pn ++ pins,xe:=fun _ _=>False }
def dI (ks:List (Str × Nat)) (σ:L2.St):L2.St:=ks.map fun p=>(σ[p.2]?).getD none
section
variable {X:Cx} {pins:List (Addr × Obj)} {σ:L2.St} {H:Hp} {s:Shared} {sc:Scope} {cl:List (Str × Addr)} {x:Str} {ks:List (Str × Nat)} {fp:List Addr}
theorem get_map {α β:Type} (f:α→β) (l:List α) (i:Nat):(l.map f)[i]?=(l[i]?).map f:=List.getElem?_map
theorem rV (I:Inv X pins σ H s) (ok:cQ sc X.env.scope X.N x ks) (h1:∀ y c,cl.lookup y=some c→X.env.cells.lookup y=some c) (h2:∀ y∈sc.names,y.2=.free→∃ c,cl.lookup y.1=some c)
  (hfp:∀ b∈fp,jy X pins H b∧∃ o,s.heap.get? b=some o) {h4:Heap} {m:Str→Option Value} {t':Nat} (hn:h4.Ns s.heap.objs.size m) (kp:∀ b o,s.heap.get? b=some o→h4.get? b=some o) :
  Inv (fv X sc cl s.heap.objs.size x ks s H fp pins) [] (none :: dI ks σ) H { s with heap:=h4,toks:=t' }:=by
 obtain ⟨kd,nc,lx,ll,fr,kk,nd⟩:=ok
 have fresh:H s.heap.objs.size=none:=I.hok.fresh (Nat.le_refl _)
 have lt:∀ b o,s.heap.get? b=some o→b≠s.heap.objs.size:=fun b o e=>Nat.ne_of_lt (Heap.lt_size e)
 have cellLt:∀ y c,X.env.cells.lookup y=some c→c≠s.heap.objs.size:=fun y c e=>by
  obtain ⟨v,o,ho,_⟩:=I.cell y c e
  exact lt c o ho
 have sub:∀ b∈kB X.stack,b=X.env.locals∨b∈X.fs:=fun b hb=>List.mem_cons.mp (I.nh b hb)
 have kof:∀ y,(compEnvC sc cl s.heap.objs.size X.env).kindOf y=(relabel sc X.env).names.lookup y:=fun y=>rfl
 have ok':(fv X sc cl s.heap.objs.size x ks s H fp pins).Ok:={
  mod:=I.ok.mod
  kind:=kd
  glob:=I.ok.glob
  blt:=I.ok.blt
  above:=Nat.le_refl _
  inj:=fun y z c e1 e2=>I.ok.inj y z c (h1 y c e1) (h1 z c e2)
  has:=fun y hy=>by
   rw [show (fv X sc cl s.heap.objs.size x ks s H fp pins).env.kindOf y=_ from kof y,lB] at hy
   cases e:sc.names.lookup y with
   | none=>rw [e] at hy;rcases hy with z | z <;> cases z
   | some k =>
    have hm:(y,k)∈sc.names:=by
     have:=List.lookup_eq_some_iff.mp e
     obtain ⟨l1,l2,q,_⟩:=this
     rw [q]
     simp
    by_cases hk:k=.free
    ·subst hk;exact h2 _ hm rfl
    ·have hb:(k == NameKind.free)=false:=by simpa using hk
     rw [e] at hy
     simp only [Option.map_some,hb,Bool.false_and,Bool.false_eq_true,if_false] at hy
     rcases hy with z | z
     ·exact absurd (Option.some.inj z) (nc _ hm)
     ·exact absurd (Option.some.inj z) hk
  cab:=fun _ _ z=>by cases z
  hd:=fun z=>I.ok.hd z
  frames:=I.ok.frames
  stk:=.inl rfl
  exf:=fun b hb=>⟨lt b _ (hfp b hb).2.choose_spec,fun y c e=>(hfp b hb).1.2.2.2.2.1 y c (h1 y c e)⟩
  bs:=fun b o e=>I.bs b o e
  bsz:=Nat.le_trans I.ok.bsz I.sz
  noex:=fun b o e hb=>by
   rcases (hfp b hb).1.2.2.2.1 with z | z
   ·exact I.ok.noex b o e z
   ·exact absurd (Nat.lt_of_lt_of_le (Heap.lt_size e) (Nat.le_trans I.ok.bsz z)) (Nat.lt_irrefl _)
  exfs:=fun b hb z=>by
   rcases sub b z with e | e
   ·exact (hfp b hb).1.2.1 e
   ·exact (hfp b hb).1.2.2.1 e
  mV:=I.stack
  frf:=I.xf }
 obtain ⟨mX,hnX,hlX⟩:=I.loc
 refine ⟨ok',rfl,I.bare,Un.kept kp,⟨m,hn,fun i y v e1 e2 e3=>?_⟩,fun y c e=>?_,fresh,fun y c e=>I.freeC y c (h1 y c e),fun p hp=>?_,I.hok.kept kp,by simp [fv,dI]⟩
 ·cases i with
  | zero =>
   rw [List.getElem?_cons_zero] at e2
   cases e2
  | succ i =>
   have e1':(ks.map (·.1))[i]?=some y:=by simpa [fv] using e1
   rw [List.getElem?_cons_succ] at e2
   unfold dI at e2
   rw [List.getElem?_map] at e1' e2
   cases ep:ks[i]? with
   | none=>rw [ep] at e1';cases e1'
   | some p =>
    rw [ep] at e1' e2
    have ey:p.1=y:=Option.some.inj e1'
    have ev:(σ[p.2]?).getD none=some v:=Option.some.inj e2
    obtain ⟨kN,kf⟩:=kk p (List.mem_of_getElem? ep)
    have es:σ[p.2]?=some (some v):=by
     cases q:σ[p.2]? with
     | none=>rw [q] at ev;cases ev
     | some w=>rw [q] at ev;exact congrArg some ev
    have hm:(p.1,NameKind.free)∈sc.names:=by
     obtain ⟨l1,l2,q,_⟩:=List.lookup_eq_some_iff.mp kf
     rw [q]
     simp
    have oc:X.env.scope.names.lookup p.1=some .cell:=fr _ hm rfl
    obtain ⟨u,ru,lu⟩:=hlX p.2 p.1 v kN es (.inr (.inl oc))
    refine ⟨u,ru,.inr ⟨.inl ?_,?_⟩⟩
    ·rw [show (fv X sc cl s.heap.objs.size x ks s H fp pins).env.kindOf y=_ from kof y,lB,← ey,kf]
     have k1:X.env.kindOf p.1=some .cell:=oc
     simp [I.ok.kind,k1]
    ·obtain ⟨c,hc⟩:=h2 _ hm rfl
     have hc:cl.lookup p.1=some c:=hc
     rcases lu with ⟨z,_⟩ | ⟨_,c',hc',z⟩
     ·have z':X.env.scope.names.lookup p.1=some .local:=z
      rw [oc] at z';cases z'
     ·have:=h1 _ _ hc
      rw [hc'] at this
      cases this
      obtain ⟨o,ho,hd⟩:=z
      exact ⟨_,by rw [← ey];exact hc,o,kp _ _ ho,hd⟩
 ·obtain ⟨v,o,ho,hd⟩:=I.cell y c (h1 y c e)
  exact ⟨v,o,kp _ _ ho,hd⟩
 ·rw [List.append_nil] at hp
  obtain ⟨a1,a2,a3,a4,a5⟩:=I.pin p hp
  refine ⟨kp _ _ a1,a2,lt _ _ a1,fun z=>?_,a5⟩
  rcases sub p.1 z with e | e
  ·exact a3 e
  ·exact a4 e
end
section
variable {prog:Program} {w:World} {A:Around} {R:Result→Shared→Prop} {s:Shared}
theorem C_ {elt iter:Expr} {x:Str} {px:Pos} {sc:Scope} {pos:Pos} {it acc:Value} {env:Env} (I:Nat→Shared→Prop)
  (turn:∀ n s,I n s→wpAny (model prog w) A (pyNext it) (fun r s₁=>match r with
   | none=>R (.ok .next) s₁
   | some v=>wpAny (model prog w) A (letOwnedTupleGo (.Name x px) it v) (fun _ s₂=>wpAny (model prog w) A (assign (.Name x px) env v) (fun _ s₃=>wpAny (model prog w) A (eval elt env) (fun y s₄ =>
     wpAny (model prog w) A (call (.builtin "list.append") [acc,y]) (fun _ s₅=>∃ m,m < n∧I m s₅) (fun _ _=>False) s₄) (fun _ _=>False) s₃) (fun _ _=>False) s₂) (fun _ _=>False) s₁) (fun _ _=>False) s)
  (n:Nat) (h:I n s):codeAny (model prog w) A (.compLoop (.ListComp elt [⟨.Name x px,iter,[],0⟩] sc pos) 0 it acc env) R s:=by
 refine codeAny_loop rfl I (fun n s hI=>?_) n h
 show wpAny _ _ ((compTurn (.ListComp elt [⟨.Name x px,iter,[],0⟩] sc pos) 0 it acc env).onRaise (fun x=>do noteFrame x env;theTreesLotGoes x)) _ _ s
 refine wpAny_noted ?_
 rw [compTurn_list1]
 have no:∀ (e:Value) (s':Shared),False→notedBy (model prog w) A env (fun e s'=>R (.error e) s') e s':=fun _ _ z=>z.elim
 refine wpAny_bind (wpAny_standAt (wpAny_bind (wpAny_mono (turn n s hI) (fun r s₁ h₁=>?_) no)))
 cases r with
 | none=>exact wpAny_pure h₁
 | some v =>
  refine wpAny_bind (wpAny_mono h₁ (fun _ s₂ h₂=>?_) no)
  exact wpAny_bind (wpAny_mono h₂ (fun _ s₃ h₃=>wpAny_bind (wpAny_bind (wpAny_mono h₃ (fun y s₄ h₄=>wpAny_bind (wpAny_mono h₄
   (fun _ s₅ h₅=>wpAny_pure (wpAny_pure ⟨rfl,h₅⟩)) no)) no))) no)
end
def P9 (wi:TI) (ks:List (Str × Nat)) (te:TE):TE:=fun σ H Q=>wi σ H fun J H1=>∀ D,H1 D=none→∃ W:Nat→Nat→Hp→Prop,(∃ m,W 0 m (upd H1 D (.lst []))) ∧
 ∀ i m H2,W i m H2→(J.stop i H2∧Q (.ref D) H2)∨(J.go i H2∧∀ v H3,J.yld i H2 v H3→te (some v :: dI ks σ) H3 fun y H4=>∃ ys,H4 D=some (.lst ys)∧ys.length < sizeLine∧∃ m',m' < m∧W (i + 1) m' (upd H4 D (.lst (ys ++ [y]))))
section
variable {X:Cx}
theorem yB {elt iter:Expr} {x:Str} {px:Pos} {sc:Scope} {pos:Pos} {te:TE} {ks:List (Str × Nat)} {cl:List (Str × Addr)} {pins:List (Addr × Obj)} {σ:L2.St} {H:Hp} {s:Shared} {it:Addr} {fp:List Addr} {tn:Nat→Heap→Prop} {J:It} {Q:VK}
  {RR:Value→Addr→Result→Shared→Prop} {E:Value→Shared→Prop}
  (hc:X.calm=true) (ok:cQ sc X.env.scope X.N x ks) (h1:∀ y c,cl.lookup y=some c→X.env.cells.lookup y=some c) (h2:∀ y∈sc.names,y.2=.free→∃ c,cl.lookup y.1=some c)
  (he:∀ cl C s₀ H₀ fp pins,PE (fv X sc cl C x ks s₀ H₀ fp pins) elt te)
  (I:Inv X pins σ H s) (T:Turn X.prog X.w X.K (.Name x px) J fp it tn) (st:tn 0 s.heap) (f:∀ b∈fp,jy X pins H b)
  (hw:∀ D,H D=none→∃ W:Nat→Nat→Hp→Prop,(∃ m,W 0 m (upd H D (.lst [])))∧∀ i m H2,W i m H2→(J.stop i H2∧Q (.ref D) H2) ∨
   (J.go i H2∧∀ v H3,J.yld i H2 v H3→te (some v :: dI ks σ) H3 fun y H4=>∃ ys,H4 D=some (.lst ys)∧ys.length < sizeLine∧∃ m',m' < m∧W (i + 1) m' (upd H4 D (.lst (ys ++ [y])))))
  (hR:∀ (D C:Addr) (s':Shared) (H':Hp) (m:Str→Option Value),Inv X pins σ H' s'→Q (.ref D) H'→s'.heap.Ns C m→H' C=none→C≠X.env.locals→X.s₀.heap.objs.size≤C→(∀ y c,X.env.cells.lookup y=some c→c≠C)→(∀ p∈X.pn ++ pins,p.1≠C)→RR (.ref D) C (.ok .next) s') :
  wpAny (model X.prog X.w) X.A (newList []) (fun acc s₃=>wpAny (model X.prog X.w) X.A (newFunctionEnv sc X.env.globals cl [] X.env.qual none .none (some X.env)) (fun cenv s₄ =>
   codeAny (model X.prog X.w) X.A (.compStart (.ListComp elt [⟨.Name x px,iter,[],0⟩] sc pos) 0 (.ref it) acc { cenv with scope:=relabel sc X.env }) (RR acc cenv.locals) s₄) E s₃) E s:=by
 have okk:=ok
 obtain ⟨kd,nc,lx,ll,fr,kk,nd⟩:=okk
 have hD0:H s.heap.objs.size=none:=I.hok.fresh (Nat.le_refl _)
 obtain ⟨W,⟨m0,w0⟩,turn⟩:=hw s.heap.objs.size hD0
 refine wpAny_newObj_type ?_
 have I3:Inv X pins σ (upd H s.heap.objs.size (.lst [])) { s with heap:=s.heap.push { cls:=.type "list",dict:=none,data:=.seq ([]:List Value).toArray } } :=
  I.laid (t':=s.toks) (fun b u e=>Heap.get?_push_of_some _ e) (Nat.le_refl _) (show dy X.prog X.w _ _ _ (.lst []) from ⟨Nat.zero_le _,[],0,.nil,Heap.get?_push_size _ rfl⟩)
 have st3:tn 0 (s.heap.push { cls:=.type "list",dict:=none,data:=.seq ([]:List Value).toArray }):=T.keep 0 _ _ st fun b hb o e=>Heap.get?_push_of_some _ e
 generalize hD:s.heap.objs.size=D at *
 generalize hH:upd H D (.lst [])=H3 at *
 generalize hs3:({ s with heap:=s.heap.push { cls:=.type "list",dict:=none,data:=.seq ([]:List Value).toArray } }:Shared)=s3 at *
 have e3:s.heap.push { cls:=.type "list",dict:=none,data:=.seq ([]:List Value).toArray }=s3.heap:=by rw [← hs3]
 rw [e3] at st3
 have fD:∀ b∈fp,b≠D:=fun b hb z=>by
  obtain ⟨o,ho,_⟩:=T.obj 0 _ st b hb
  have:=Heap.lt_size ho
  rw [z,← hD] at this
  exact Nat.lt_irrefl _ this
 have f3:∀ b∈fp,jy X pins H3 b:=fun b hb=>⟨by rw [← hH,aK (fD b hb)];exact (f b hb).1,(f b hb).2⟩
 have g3:∀ b∈fp,∃ o,s3.heap.get? b=some o:=fun b hb=>by
  obtain ⟨o,ho,_⟩:=T.obj 0 _ st3 b hb
  exact ⟨o,ho⟩
 refine wpAny_newFunctionEnv nc (by intro y hy;simp at hy) (fun h₁ hns hsb=>?_) kd
 have kp:∀ b o,s3.heap.get? b=some o→h₁.get? b=some o:=fun b o e=>hsb.extBut b o (Nat.ne_of_lt (Heap.lt_size e)) (Heap.get?_push_of_some _ e)
 have J0:=rV (fp:=fp) (cl:=cl) (t':=s3.toks + ([]:List (Str × Value)).length) I3 ok h1 h2 (fun b hb=>⟨f3 b hb,g3 b hb⟩) hns kp
 have st4:tn 0 h₁:=T.keep 0 _ _ st3 fun b hb o e=>kp b o e
 have ltC:∀ b o,s3.heap.get? b=some o→b≠s3.heap.objs.size:=fun b o e=>Nat.ne_of_lt (Heap.lt_size e)
 have cC:∀ y c,X.env.cells.lookup y=some c→c≠s3.heap.objs.size:=fun y c e=>by
  obtain ⟨v,o,ho,_⟩:=I3.cell y c e
  exact ltC c o ho
 have pC:∀ p∈X.pn ++ pins,p.1≠s3.heap.objs.size:=fun p hp=>ltC _ _ (I3.pin p hp).1
 have lC:s3.heap.objs.size≠X.env.locals:=Nat.ne_of_gt I3.lt
 have fX:∀ {H':Hp},(∀ b∈fp,H' b=none)→∀ b∈fp,jy (fv X sc cl s3.heap.objs.size x ks s3 H3 fp pins) [] H' b:=fun hn b hb=>by
  obtain ⟨o,ho⟩:=g3 b hb
  obtain ⟨_,q1,q2,q3,q4,q5⟩:=f b hb
  refine ⟨hn b hb,ltC b o ho,fun z=>?_,.inl hb,fun y c e=>q4 y c (h1 y c e),fun p hp=>q5 p (by simpa [fv] using hp)⟩
  rcases List.mem_cons.mp (I3.nh b z) with e | e
  ·exact q1 e
  ·exact q2 e
 have back:∀ {o:Option V} {H':Hp} {s':Shared},Inv (fv X sc cl s3.heap.objs.size x ks s3 H3 fp pins) [] (o :: dI ks σ) H' s'→Inv X pins σ H' s':=fun {o H' s'} J=>by
  obtain ⟨hh,g,d,t,os'⟩:=s'
  obtain rfl:os'=s3.os:=J.os
  exact I3.call (h':=hh) (g':=g) (d':=d) (t':=t) (ch:=fp) J.base J.hok J.bare fun b hb=>⟨(f b hb).2.2.2.1,(f b hb).2.1,(f b hb).2.2.2.2.1,(f b hb).2.2.2.2.2⟩
 have lookX:(relabel sc X.env).names.lookup x=some .local:=lookup_relabel_local lx
 have loop:∀ s',(∃ (i:Nat) (o:Option V) (H':Hp),Inv (fv X sc cl s3.heap.objs.size x ks s3 H3 fp pins) [] (o :: dI ks σ) H' s'∧tn i s'.heap∧(∀ b∈fp,H' b=none)∧W i m0 H') →
   codeAny (model X.prog X.w) X.A (.compLoop (.ListComp elt [⟨.Name x px,iter,[],0⟩] sc pos) 0 (.ref it) (.ref D) (compEnvC sc cl s3.heap.objs.size X.env)) (RR (.ref D) s3.heap.objs.size) s':=by
  intro s' hs'
  refine C_ (fun n s'=>∃ (i:Nat) (o:Option V) (H':Hp),Inv (fv X sc cl s3.heap.objs.size x ks s3 H3 fp pins) [] (o :: dI ks σ) H' s'∧tn i s'.heap∧(∀ b∈fp,H' b=none)∧W i n H') ?_ m0 hs'
  rintro n s5 ⟨i,o,H5,J5,t5,n5,w5⟩
  rcases turn i n H5 w5 with ⟨stop,hq⟩ | ⟨go,step⟩
  ·refine cg (T.done (fv X sc cl s3.heap.objs.size x ks s3 H3 fp pins) rfl rfl rfl hc i [] s5 _ H5 _ J5 (fX n5) t5 stop) fun r s6 ⟨hr,J6⟩=>?_
   subst hr
   obtain ⟨m,hm,_⟩:=J6.loc
   exact hR D _ s6 H5 m (back J6) hq hm J6.free lC I3.sz cC pC
  ·refine cg (T.item (fv X sc cl s3.heap.objs.size x ks s3 H3 fp pins) rfl rfl rfl hc i [] s5 _ H5 _ J5 (fX n5) t5 go) fun r s6 ⟨u,hr,h6⟩=>?_
   subst hr
   refine cg h6 fun _ s7 ⟨v,H7,J7,r7,y7,t7,n7⟩=>?_
   have J7':=J7.pinned (fX n7) (T.obj _ _ t7)
   refine wpAny_assign_Name (fm (X:=fv X sc cl s3.heap.objs.size x ks s3 H3 fp pins) (i:=0) J7' nd rfl (.inl lookX) r7 (fun s8 J8=>?_) (.inr lookX))
   refine cg (he cl s3.heap.objs.size s3 H3 fp pins _ s8 _ H7 _ J8 (step v H7 y7)) fun y s9 ⟨vy,H9,J9,r9,ys,hys,hz,m',hm,w'⟩=>?_
   refine cg (gA (X:=fv X sc cl s3.heap.objs.size x ks s3 H3 fp pins) _ s9 _ H9 (.ref D) [vy] (.ref D) [y] (fun _ H'=>H'=upd H9 D (.lst (ys ++ [vy]))) J9 rfl (.cons r9 .nil) ⟨D,ys,vy,rfl,rfl,hys,hz,rfl⟩) fun _ s10 ⟨_,H10,J10,_,eH⟩=>?_
   subst eH
   refine ⟨m',hm,i + 1,_,_,J10.fS,?_,?_,w'⟩
   ·exact T.keep _ _ _ t7 fun b hb o e=>(J10.pin (b,o) (List.mem_append_right _ (List.mem_append_right _ (b9 hb e)))).1
   ·intro b hb
    obtain ⟨o,e,d⟩:=T.obj _ _ t7 b hb
    exact (J10.pin (b,o) (List.mem_append_right _ (List.mem_append_right _ (b9 hb e)))).2.1
 have l0:=loop _ ⟨0,none,H3,J0,st4,fun b hb=>(f3 b hb).1,w0⟩
 exact codeAny_compStart_list l0 (T.self _ 0 _ _ _ st4 l0)
theorem n8 {sc osc:Scope} {N:List Str} {x:Str} {ks:List (Str × Nat)} (ok:cQ sc osc N x ks) {pins:List (Addr × Obj)} {σ:L2.St} {H:Hp} {s:Shared} (I:Inv X pins σ H s) (ho:X.env.scope=osc):∀ y∈sc.names,y.2=.free→∃ c,X.env.cells.lookup y.1=some c:=fun y hy hf =>
 I.ok.has y.1 (.inl (by show X.env.scope.names.lookup y.1=some .cell;rw [ho];exact ok.2.2.2.2.1 y hy hf))
theorem Ke {elt iter:Expr} {x:Str} {px:Pos} {sc:Scope} {pos:Pos} {wi:TI} {te:TE} (osc:Scope) (N:List Str) (ks:List (Str × Nat)) (hc:X.calm=true) (ho:X.env.scope=osc) (hN:X.N=N) (hi:PI X (.Name x px) iter wi)
  (he:∀ cl C s₀ H₀ fp pins,PE (fv X sc cl C x ks s₀ H₀ fp pins) elt te) (ok:cQ sc osc N x ks:=by decide +kernel) (hs:∀ x,foldedSetIterable iter X.env x=pure x:=by intro _;rfl) :
  PE X (.ListComp elt [⟨.Name x px,iter,[],0⟩] sc pos) (P9 wi ks te):=by
 intro pins s σ H Q I hw
 obtain ⟨cl,hcl,h1,h2⟩:=jK (n8 ok I ho)
 have ok':cQ sc X.env.scope X.N x ks:=by rw [ho,hN];exact ok
 rw [eval_ListComp]
 refine wpAny_comprehension_free (use:=none) rfl hs hcl ok.1 ok.2.2.2.1 (cg (hi pins s σ H _ I hw) fun v s1 h3=>cg h3 fun itv s2 h4=>?_)
 obtain ⟨it,fp,tn,J,H2,rfl,I2,T,st2,f2,hR⟩:=h4
 refine yB (RR:=fun acc C=>compPost (model X.prog X.w) X.A X.xe none (EP X pins σ Q) acc C) hc ok' h1 h2 he I2 T st2 f2 hR ?_
 intro D C s' H' m J' q hn hC cl' cs cc cp
 refine ⟨m,hn,fun h' hsb=>⟨.ref D,H',?_,rfl,q⟩⟩
 exact J'.turned (t':=s'.toks) (it:=C) (fun b o ne e=>hsb.extBut b o ne e) hC cl' (.inr cs) cc cp
def MQ (wi:TI) (ks:List (Str × Nat)) (te:TE) (i:Nat):TS:=fun D σ H=>P9 wi ks te σ H fun v H1=>D.nx (σ.set i (some v)) H1
theorem Kf {elt iter:Expr} {x y:Str} {px py:Pos} {sc:Scope} {pos spos:Pos} {wi:TI} {te:TE} {i:Nat} (osc:Scope) (N:List Str) (ks:List (Str × Nat)) (hc:X.calm=true) (ho:X.env.scope=osc) (hN:X.N=N) (hnd:X.N.Nodup) (hy:X.N[i]?=some y) (hl:Loc X.env.scope y)
  (hi:PI X (.Name x px) iter wi) (he:∀ cl C s₀ H₀ fp pins,PE (fv X sc cl C x ks s₀ H₀ fp pins) elt te) (ok:cQ sc osc N x ks:=by decide +kernel) (hs:∀ x,foldedSetIterable iter X.env x=pure x:=by intro _;rfl)
  (hsw:swapsWith (.ListComp elt [⟨.Name x px,iter,[],0⟩] sc pos) (some (.Name y py)) spos.line X.env=pure true:=by rfl) (hf:X.fn y=true∨X.env.scope.names.lookup y=some .local:=by first | exact .inl rfl | exact .inr rfl | assumption) :
  PS X (.Assign [.Name y py] (.ListComp elt [⟨.Name x px,iter,[],0⟩] sc pos) spos) (MQ wi ks te i):=by
 intro pins s σ H Dn I hw
 obtain ⟨cl,hcl,h1,h2⟩:=jK (n8 ok I ho)
 have ok':cQ sc X.env.scope X.N x ks:=by rw [ho,hN];exact ok
 rw [exec_Assign_Name_used _ _ _ _ hsw]
 refine wpAny_bind (wpAny_standAt (wpAny_bind ?_))
 show wpAny _ X.A (do let _ ← comprehension (.ListComp elt [⟨.Name x px,iter,[],0⟩] sc pos) sc X.env _ (newList []) false (eval iter X.env) (some (assign (.Name y py) X.env))) _ _ s
 refine wpAny_bind (wpAny_mono (wpAny_comprehension_free (use:=some (assign (.Name y py) X.env)) (Q:=fun _ s'=>SP X pins Dn .next s') rfl hs hcl ok.1 ok.2.2.2.1
  (cg (hi pins s σ H _ I hw) fun v s1 h3=>cg h3 fun itv s2 h4=>?_)) (fun _ s' hq=>wpAny_pure (wpAny_pure hq)) fun _ _ e=>e)
 obtain ⟨it,fp,tn,J,H2,rfl,I2,T,st2,f2,hR⟩:=h4
 refine yB (Q:=fun v H1=>Dn.nx (σ.set i (some v)) H1) (RR:=fun acc C=>compPost (model X.prog X.w) X.A X.xe (some (assign (.Name y py) X.env)) (fun _ s'=>SP X pins Dn .next s') acc C) hc ok' h1 h2 he I2 T st2 f2 hR ?_
 intro D C s' H' m J' q hn hC cl' cs cc cp
 show wpAny _ X.A (assign (.Name y py) X.env (.ref D)) _ _ _
 refine wpAny_assign_Name (p5 J' hnd hy hl (v:=.ref D) rfl (fun s'' J'' ⟨a,hsb,ha⟩=>?_) hf)
 refine ⟨m,hn.sameBut hsb (fun z=>?_),fun h' hsb'=>⟨_,H',?_,q⟩⟩
 ·rcases ha with e | e
  ·exact cl' (z.trans e)
  ·exact cc _ _ e z.symm
 ·exact J''.turned (t':=s''.toks) (it:=C) (fun b o ne e=>hsb'.extBut b o ne e) hC cl' (.inr cs) cc cp
end
theorem HE {K:PySem.W.Frag} {a D:Addr} {xs:List V} {H:Hp} {te:TE} {ks:List (Str × Nat)} {σ:L2.St} {q:Hp→Prop} (Pv:Nat→Hp→Prop) (h0:Pv 0 (upd H D (.lst []))) (hl:∀ i H,i≤xs.length→Pv i H→di K H a xs)
  (hs:∀ i x H (R:VK),xs[i]?=some x→Pv i H→(∀ y H4 ys,H4 D=some (.lst ys)→ys.length < sizeLine→Pv (i + 1) (upd H4 D (.lst (ys ++ [y])))→R y H4)→te (some x :: dI ks σ) H R) (hd:∀ H,Pv xs.length H→q H) :
  ∃ W:Nat→Nat→Hp→Prop,(∃ m,W 0 m (upd H D (.lst [])))∧∀ i m H2,W i m H2→((GY K a).stop i H2∧q H2) ∨
   ((GY K a).go i H2∧∀ v H3,(GY K a).yld i H2 v H3→te (some v :: dI ks σ) H3 fun y H4=>∃ ys,H4 D=some (.lst ys)∧ys.length < sizeLine∧∃ m',m' < m∧W (i + 1) m' (upd H4 D (.lst (ys ++ [y])))):=by
 refine ⟨fun i m H=>m=xs.length - i∧i≤xs.length∧Pv i H,⟨xs.length,by simp,Nat.zero_le _,h0⟩,?_⟩
 rintro i m H2 ⟨rfl,hi,p⟩
 have hq:=hl i H2 hi p
 by_cases hlt:i < xs.length
 ·refine .inr ⟨⟨xs,xs[i],hq,by simp [hlt]⟩,fun v H3 y=>?_⟩
  obtain ⟨e,y⟩:=y
  subst e
  exact hs i v _ _ (y xs hq) p fun y H4 ys e1 e2 e3=>⟨ys,e1,e2,xs.length - (i + 1),by omega,rfl,hlt,e3⟩
 ·have e:i=xs.length:=by omega
  subst e
  exact .inl ⟨⟨xs,hq,Nat.le_refl _⟩,hd H2 p⟩
theorem E4 {lo:Int} {n:Nat} {D:Addr} {H:Hp} {te:TE} {ks:List (Str × Nat)} {σ:L2.St} {q:Hp→Prop} (Pv:Nat→Hp→Prop) (h0:Pv 0 (upd H D (.lst [])))
  (hs:∀ i H (R:VK),i < n→Pv i H→(∀ y H4 ys,H4 D=some (.lst ys)→ys.length < sizeLine→Pv (i + 1) (upd H4 D (.lst (ys ++ [y])))→R y H4)→te (some (.int (lo + i)) :: dI ks σ) H R) (hd:∀ H,Pv n H→q H) :
  ∃ W:Nat→Nat→Hp→Prop,(∃ m,W 0 m (upd H D (.lst [])))∧∀ i m H2,W i m H2→((D6 lo n).stop i H2∧q H2) ∨
   ((D6 lo n).go i H2∧∀ v H3,(D6 lo n).yld i H2 v H3→te (some v :: dI ks σ) H3 fun y H4=>∃ ys,H4 D=some (.lst ys)∧ys.length < sizeLine∧∃ m',m' < m∧W (i + 1) m' (upd H4 D (.lst (ys ++ [y])))):=by
 refine ⟨fun i m H=>m=n - i∧i≤n∧Pv i H,⟨n,by simp,Nat.zero_le _,h0⟩,?_⟩
 rintro i m H2 ⟨rfl,hi,p⟩
 by_cases hlt:i < n
 ·refine .inr ⟨hlt,fun v H3 y=>?_⟩
  obtain ⟨e,y⟩:=y
  subst e y
  exact hs i _ _ hlt p fun y H4 ys e1 e2 e3=>⟨ys,e1,e2,n - (i + 1),by omega,rfl,hlt,e3⟩
 ·have e:i=n:=by omega
  subst e
  exact .inl ⟨Nat.le_refl _,hd H2 p⟩
def one (c:Nat):Str:=⟨#[c]⟩
theorem uI:∀ (cs:List Nat) (acc:Array Nat),(cs.map one).foldl (fun acc (p:Str)=>acc ++ (Str.ofString "").cps ++ p.cps) acc=acc ++ cs.toArray
 | [],acc=>by simp
 | c :: cs,acc=>by
  have e:(Str.ofString "").cps=#[]:=by decide +kernel
  rw [List.map_cons,List.foldl_cons,uI cs]
  rw [e]
  show (acc ++ #[] ++ #[c]) ++ cs.toArray=_
  simp
theorem join_ones (cs:List Nat):Txt.join (Str.ofString "") (cs.map one)=⟨cs.toArray⟩:=by
 unfold Txt.join Builtin.Str.glued
 cases cs with
 | nil=>rfl
 | cons c cs =>
  simp only [List.map_cons,List.drop_succ_cons,List.drop_zero,List.headD_cons]
  rw [uI]
  show (⟨#[c] ++ cs.toArray⟩:Str)=_
  simp
theorem ka:∀ {ys:List Str} {us:List Value},Vals (ys.map V.str) us→StrsAre us ys
 | [],_,.nil=>.nil
 | y :: ys,_,.cons r rr=>by
  obtain ⟨t,rfl⟩:=r
  exact .cons y t (ka rr)
section
variable {X:Cx}
def rJoin (K:PySem.W.Frag):V→List V→Hp→VK→Prop:=fun x vs H Q=>∃ z p ys,x=.str z∧vs=[.ref p]∧di K H p (ys.map V.str)∧(ys.map (·.length)).sum + ys.length * z.length≤16777216∧Q (.str (Txt.join z ys)) H
theorem HP:rD X "str.join" (rJoin X.K):=by
 intro pins s σ H x vs v us Q I rx rv h
 obtain ⟨z,p,ys,rfl,rfl,hp,hz,q⟩:=h
 obtain ⟨t,rfl⟩:=rx
 obtain ⟨u,rfl,ru⟩:=vals1 rv
 cases ru
 obtain ⟨its,r,pl,_⟩:=I.list hp
 exact join_list pl.isList (by simpa using ka r) hz fun t' k=>⟨.str _,H,I.tok _,⟨_,rfl⟩,q⟩
end
def vB:Expr→Option V
 | .Constant (.int i) _ _=>some (.int i)
 | .Constant (.str x) _ _=>some (.str x)
 | .Constant (.bool b) _ _=>some (.bl b)
 | _=>none
theorem sv {X:Cx}:∀ {es:List Expr} (vs:List V),es.map vB=vs.map some→PA X es (fun _ H Q=>Q vs H)
 | [],[],_=>fun _ _ _ _ H Q I h=>Calls.spliced_nil ⟨[],H,I,.nil,h⟩
 | [],_ :: _,h=>by cases h
 | _ :: _,[],h=>by cases h
 | e :: es,v :: vs,h=>by
  rw [List.map_cons,List.map_cons] at h
  injection h with h1 h2
  have ih:=sv (X:=X) (es:=es) vs h2
  have hs:starEach (e :: es) X.env=(false,eval e X.env) :: starEach es X.env:=by
   cases e <;> first | rfl | cases h1
  have he:PE X e (tC v):=by
   cases e with
   | Constant c j pos =>
    cases c with
    | int i=>cases h1;exact aP
    | str x=>cases h1;exact pK
    | bool b=>cases h1;exact yq
    | _=>cases h1
   | _=>cases h1
  exact fun pos pins s σ H Q I hq=>ay he ih hs pos pins s σ H Q I hq
end Ov
namespace Ov
open PySem PySem.Spec PyProof.Rows
open L2 (V HO Hp Inv Cx St VK TE TT TA TS TG rF TI TO me Ends xA Loc Gl Rd RelV Vals fT y6 cD rA uu rD md R2 AW tC Gz Qa Cn tB Gv Pt Jn Ce Jo Cj P8 Js DK xh fo Jl tq P7 y0 Jp p9 Hr Bp Hu Ht Jm xi MO Bu Lm Bv JH Jq Cm Cg Po MN Ci Jr AV qZ Ck P_ upd E0 bU dP)
structure QE (X:Cx) (e:Expr) (t:TE):Prop where
 run:L2.PE X e t
structure QT (X:Cx) (e:Expr) (t:TT):Prop where
 run:L2.PT X e t
structure QW (X:Cx) (e:Expr) (t:TT):Prop where
 run:L2.PW X e t
structure QA (X:Cx) (es:List Expr) (t:TA):Prop where
 run:L2.PA X es t
structure QS (X:Cx) (st:Stmt) (t:TS):Prop where
 run:L2.PS X st t
structure QB (X:Cx) (st:List Stmt) (t:TS):Prop where
 run:L2.tE X st t
structure QG (X:Cx) (e:Expr) (t:TG):Prop where
 run:L2.PG X e t
structure PU (X:Cx) (es:List Expr) (t:rF):Prop where
 run:L2.JC X es t
structure QI (X:Cx) (tg e:Expr) (t:TI):Prop where
 run:L2.PI X tg e t
structure QO (X:Cx) (e:Option Expr) (t:TO):Prop where
 run:L2.PO X e t
section
variable {X:Cx} {a b c e o:Expr} {es rest:List Expr} {ta tb te tc to:TE} {tA tB':TT} {t:TA} {pos px p p2 apos cpos:Pos} {x:Str} {i j:Nat}
theorem pv (i:Nat) {x:Str} {pos:Pos} (hN:X.N[i]?=some x:=by rfl) (hv:xA X.env.scope x:=by first | exact Or.inl rfl | exact Or.inr (Or.inl rfl) | exact Or.inr (Or.inr rfl)) (hd:(x == ("__debug__":Str))=false:=by decide)
  (hcd:(x == ("__classdict__":Str))=false:=by decide):QE X (.Name x pos) (AW i):=⟨L2.Aw hN hv hd hcd⟩
theorem aP {i:Int} {j pos}:QE X (.Constant (.int i) j pos) (tC (.int i)):=⟨L2.aP⟩
theorem yq {b:Bool} {j pos}:QE X (.Constant (.bool b) j pos) (tC (.bl b)):=⟨L2.yq⟩
theorem As {j pos}:QE X (.Constant .none j pos) (tC .non):=⟨L2.As⟩
theorem pK {x:Str} {j pos}:QE X (.Constant (.str x) j pos) (tC (.str x)):=⟨L2.pK⟩
theorem dA {v:V} {u:Value} (hg:Gl X x) (hm:X.mg x=some u) (r:RelV v u) (hd:(x == ("__debug__":Str))=false:=by decide):QE X (.Name x pos) (tC v):=⟨L2.dA hg hm r hd⟩
theorem qG {v:V} {u:Value} (hg:Gl X x) (hm:X.mg x=none) (hv:bootBuiltins x=some u) (r:RelV v u) (hn:x≠"__name__":=by decide) (hd:(x == ("__debug__":Str))=false:=by decide):QE X (.Name x pos) (tC v):=⟨L2.qG hg hm hv r hn hd⟩
theorem bB {op:Operator} {r:R2} (ho:fT X (binaryOp op) r) (ha:QE X a ta) (hb:QE X b tb):QE X (.BinOp a op b pos) (Gz r ta tb):=⟨L2.bB ho ha.run hb.run⟩
theorem BJ {op:UnaryOp} {r:V→Hp→VK→Prop} (ho:y6 X (unaryOp op) r) (ha:QE X a ta):QE X (.UnaryOp op a pos) (Qa r ta):=⟨L2.BJ ho ha.run⟩
theorem qH {op:CmpOp} {r:R2} (ho:fT X (compareOp op) r) (ha:QE X a ta) (hb:QE X b tb) (hm:behindInMarks op b=false):QE X (.Compare a [op] [b] pos) (Gz r ta tb):=⟨L2.qH ho ha.run hb.run hm⟩
theorem dW {op:CmpOp} {r:R2} (ho:fT X (compareOp op) r) (ha:QE X a ta) (hb:QE X b tb) (hm:behindInMarks op b=false):QT X (.Compare a [op] [b] pos) (Cn (Gz r ta tb)):=⟨L2.dW ho ha.run hb.run hm⟩
theorem Av {op} (h:QE X a ta):QE X (.BoolOp op [a] pos) ta:=⟨L2.Av h.run⟩
theorem Ar (ha:QE X a ta) (hb:QE X (.BoolOp .And (b :: rest) pos) tb):QE X (.BoolOp .And (a :: b :: rest) pos) (Ce ta tb):=⟨L2.Ar ha.run hb.run⟩
theorem FE (ha:QE X a ta) (hb:QE X (.BoolOp .Or (b :: rest) pos) tb):QE X (.BoolOp .Or (a :: b :: rest) pos) (Jo ta tb):=⟨L2.FE ha.run hb.run⟩
theorem Au (ha:QE X a ta):QE X (.UnaryOp .Not a pos) (Cj ta):=⟨L2.Au ha.run⟩
theorem AA (ha:QT X a tA):QT X (.UnaryOp .Not a pos) (Jn tA):=⟨L2.AA ha.run⟩
theorem qL (ha:QT X a tA):QW X (.BoolOp .And [a] pos) tA:=⟨L2.qL ha.run⟩
theorem wu (ha:QT X a tA):QW X (.BoolOp .Or [a] pos) tA:=⟨L2.wu ha.run⟩
theorem wt (ha:QT X a tA) (hb:QW X (.BoolOp .And (b :: rest) pos) tB'):QW X (.BoolOp .And (a :: b :: rest) pos) (Gv tA tB'):=⟨L2.wt ha.run hb.run⟩
theorem BM (ha:QT X a tA) (hb:QW X (.BoolOp .Or (b :: rest) pos) tB'):QW X (.BoolOp .Or (a :: b :: rest) pos) (Pt tA tB'):=⟨L2.BM ha.run hb.run⟩
theorem Kh (h:QW X e tA):QT X e tA:=⟨h.run.pt⟩
theorem AB (h:QE X e te) (he:∀ whole,isTrue e X.env whole=(do let v ← whole;standAt e.pos;holding [v] (truthy v)):=by intro _;rfl):QT X e (tB te):=⟨L2.AB h.run he⟩
theorem sy (hc:QT X c tA) (ha:QE X a ta) (hb:QE X b tb):QE X (.IfExp c a b pos) (P8 tA ta tb):=⟨L2.sy hc.run ha.run hb.run⟩
theorem a_:QA X [] xh:=⟨L2.a_⟩
theorem ay (ha:QE X e te) (hr:QA X es t) (hs:starEach (e :: es) X.env=(false,eval e X.env) :: starEach es X.env:=by rfl):QA X (e :: es) (fo te t):=⟨L2.ay ha.run hr.run hs⟩
theorem Fx {es:List Expr} (vs:List V) (h:es.map vB=vs.map some):QA X es (fun _ H Q=>Q vs H):=⟨sv vs h⟩
theorem sC {x1} (h:QA X es t):QE X (.Tuple es x1 pos) (Js t):=⟨L2.sC h.run⟩
theorem jY (h:QA X es t):QE X (.List es pos) (DK t):=⟨L2.jY h.run⟩
theorem cu {r:R2} (hr:rA X r) (ha:QE X a ta) (hb:QE X b tb) (hs:dP b):QE X (.Subscript a b pos) (Gz r ta tb):=⟨L2.cu hr ha.run hb.run hs⟩
theorem qJ:QO X none qZ:=⟨L2.qJ⟩
theorem lT (h:QE X e te):QO X (some e) (Ck te):=⟨L2.lT h.run⟩
theorem k8 {lo hi:Option Expr} {tl th:TO} {r:V→Option Int→Option Int→Hp→VK→Prop} (hr:uu X r) (he:QE X e te) (hl:QO X lo tl) (hu:QO X hi th):QE X (.Subscript e (.Slice lo hi none p2) pos) (P_ r te tl th):=⟨L2.k8 hr he.run hl.run hu.run⟩
theorem bG {id:String} {r:List V→Hp→VK→Prop} (hc:cD X (.builtin id) r) (hg:Gl X x) (hm:X.mg x=none) (hv:bootBuiltins x=some (.builtin id)) (ha:QA X (e :: es) t) (hn:x≠"__name__":=by decide) (hdb:(x == ("__debug__":Str))=false:=by decide)
  (he:starEach (e :: es) X.env=(false,eval e X.env) :: starEach es X.env:=by rfl) (hpl:(backTo pos (starEach es X.env)).any (·.1)=false:=by rfl):QE X (.Call (.Name x p) (e :: es) [] pos) (Jl r t):=⟨L2.bG hc hg hm hv ha.run hn hdb he hpl⟩
theorem pJ {T:String} {r:List V→Hp→VK→Prop} (hc:cD X (.type T) r) (hg:Gl X x) (hm:X.mg x=none) (hv:bootBuiltins x=some (.type T)) (ha:QA X (e :: es) t) (hn:x≠"__name__":=by decide) (hdb:(x == ("__debug__":Str))=false:=by decide)
  (he:starEach (e :: es) X.env=(false,eval e X.env) :: starEach es X.env:=by rfl) (hpl:(backTo pos (starEach es X.env)).any (·.1)=false:=by rfl):QE X (.Call (.Name x p) (e :: es) [] pos) (Jl r t):=⟨L2.pJ hc hg hm hv ha.run hn hdb he hpl⟩
theorem yr {k k':Nat} {ps:List Str} {sp:L2.Sp} (C:tD X.prog X.w X.K X.mg X.base k x ps sp) (hr:bU k' X.A) (hk:k≤k') (hg:Gl X x) (ha:QA X (e :: es) t)
  (hdb:(x == ("__debug__":Str))=false:=by decide) (he:starEach (e :: es) X.env=(false,eval e X.env) :: starEach es X.env:=by rfl) (hpl:(backTo pos (starEach es X.env)).any (·.1)=false:=by rfl) :
  QE X (.Call (.Name x p) (e :: es) [] pos) (tq sp [] E0 t):=⟨Mg C hr hk hg ha.run hdb he hpl⟩
theorem sx {name:Str} {T id:String} {r:V→List V→Hp→VK→Prop} (pa:PlainAttrs T) (slot:Slot T name id) (hty:typeOf (.builtin id)=pure (.type "method_descriptor")) (hm:rD X id r) (ho:QE X o to) (ha:QA X (e :: es) t)
  (hbase:attributeBase o name X.env (eval o X.env)=eval o X.env:=by rfl)
  (hfew:((backTo cpos (starEach (e :: es) X.env)).all (fun x=>!x.1) && (backToKw cpos (keywordEach [] X.env)).all (fun x=>x.1.isSome)
   && decide ((e :: es).length + ([]:List Keyword).length + (if ([]:List Keyword).isEmpty then 0 else 1) < 30))=true:=by rfl)
  (hline:(apos.endLine == cpos.line)=true:=by rfl) (hs:starEach (e :: es) X.env=(false,eval e X.env) :: starEach es X.env:=by rfl) (hplain:(backTo cpos (starEach es X.env)).any (·.1)=false:=by rfl) :
  QE X (.Call (.Attribute o name apos) (e :: es) [] cpos) (P7 X.K T r to t):=⟨L2.sx pa slot hty hm ho.run ha.run hbase hfew hline hs hplain⟩
end
section
variable {X:Cx} {st:Stmt} {rest:List Stmt} {t u:TS} {e tg:Expr} {es:List Expr} {te:TE} {pos:Pos} {g:TG}
theorem gf:QB X [] Ci:=⟨L2.gf⟩
theorem aW (h1:QS X st t) (h2:QB X rest u):QB X (st :: rest) (Jr t u):=⟨L2.aW h1.run h2.run⟩
theorem bK (h1:QS X st t):QB X [st] t:=⟨L2.bK h1.run⟩
theorem yu (h1:QS X st t) (h2:QB X rest u):QB X (st :: rest) (Pp t u):=⟨IB h1.run h2.run⟩
theorem pN {sts:List Stmt}:QB X sts AV:=⟨L2.pN⟩
theorem lU (he:QE X e te) (hs:swapsWith e none pos.line X.env=pure false:=by rfl):QS X (.Expr e pos) (Cg te):=⟨L2.lU he.run hs⟩
theorem d6 (he:QE X e te):QS X (.Return (some e) pos) (Jq te):=⟨L2.d6 he.run⟩
theorem wm:QS X (.Return none pos) Cm:=⟨L2.wm⟩
theorem ou {c:Expr} {a b:List Stmt} {tc:TT} (hc:QT X c tc) (ha:QB X a t) (hb:QB X b u):QS X (.If c a b pos) (Jm tc t u):=⟨L2.ou hc.run ha.run hb.run⟩
theorem lz {c:Expr} {body:List Stmt} {tc:TT} {tb:TS} (hp:PassesOwn (model X.prog X.w) X.A X.env X.xe) (hc:QT X c tc) (hb:QB X body tb):QS X (.While c body [] pos) (xi tc tb):=⟨L2.lz hp hc.run hb.run⟩
theorem lS {i:Nat} {x:Str} (hN:X.N.Nodup) (hi:X.N[i]?=some x) (hx:Loc X.env.scope x) (hf:X.fn x=true∨X.env.scope.names.lookup x=some .local:=by first | exact .inl rfl | exact .inr rfl | assumption):QG X (.Name x pos) (p9 i):=⟨L2.lS hN hi hx hf⟩
theorem wd:PU X [] Hr:=⟨L2.wd⟩
theorem sD {e:Expr} {es:List Expr} {t:TG} {u:rF} (h1:QG X e t) (h2:PU X es u)
  (hs:(assignEach (e :: es) X.env).map (·.2)=assign e X.env :: (assignEach es X.env).map (·.2):=by rfl):PU X (e :: es) (Bp t u):=⟨L2.sD h1.run h2.run hs⟩
theorem Ax {k:Nat} {t:rF} {n:Nat} (hc:X.calm=true) (h:PU X es t)
  (hn:(assignEach es X.env).length=n:=by rfl) (hst:(assignEach es X.env).findIdx? (·.1)=none:=by rfl):QG X (.Tuple es k pos) (Hu X.K n t):=⟨L2.Ax hc h.run hn hst⟩
theorem wc {o i:Expr} {to ti:TE} {t:me} (ho:QE X o to) (hi:QE X i ti) (hs:md X t)
  (ha:∀ v,assign (.Subscript o i pos) X.env v=(do
   let ov ← holding [v] (eval o X.env)
   let iv ← holding [v,ov] (eval i X.env)
   standAt pos
   holding [v,ov,iv] (setItem ov iv v)
   release [v,ov,iv] []):=by intro _;rfl):QG X (.Subscript o i pos) (Ht to ti t):=⟨L2.wc ho.run hi.run hs ha⟩
theorem wj {tg e:Expr} (he:QE X e te) (hg:QG X tg g) (hs:swapsWithSole [tg] e pos.line X.env=pure false:=by rfl) (hw:swappedStores [tg] e X.env=pure none:=by rfl)
  (h1:(assignEach [tg] X.env).map (·.2)=[assign tg X.env]:=by rfl):QS X (.Assign [tg] e pos) (y0 te g):=⟨L2.wj he.run hg.run hs hw h1⟩
theorem cV {i:Nat} {x:Str} {pos':Pos} (hN:X.N.Nodup) (hi:X.N[i]?=some x) (hx:Loc X.env.scope x) (he:QE X e te) (hs:swapsWith e (some (.Name x pos')) pos.line X.env=pure false:=by rfl) (hf:X.fn x=true∨X.env.scope.names.lookup x=some .local:=by first | exact .inl rfl | exact .inr rfl | assumption) :
  QS X (.Assign [.Name x pos'] e pos) (y0 te (p9 i)):=⟨L2.cV hN hi hx he.run hs hf⟩
theorem pM {i j:Nat} {x y:Str} {a b:Expr} {ta:TA} {px py pt:Pos} {kt k2 pt2} (hc:X.calm=true) (hN:X.N.Nodup) (hi:X.N[i]?=some x) (hj:X.N[j]?=some y) (hij:i≠j)
  (hx:X.env.scope.names.lookup x=some .local) (hy:X.env.scope.names.lookup y=some .local) (ha:QA X [a,b] ta)
  (hw:swappedStores [.Tuple [.Name x px,.Name y py] kt pt] (.Tuple [a,b] k2 pt2) X.env=pure (some [x,y]))
  (hs:swapsWithSole [.Tuple [.Name x px,.Name y py] kt pt] (.Tuple [a,b] k2 pt2) pos.line X.env=pure false:=by rfl) :
  QS X (.Assign [.Tuple [.Name x px,.Name y py] kt pt] (.Tuple [a,b] k2 pt2) pos) (Jp i j ta):=⟨L2.pM hc hN hi hj hij hx hy ha.run hw hs⟩
theorem n9 {l:Expr} {tl:TE} (hl:QE X l tl):QI X tg l (Bu X.K tl):=⟨L2.n9 hl.run⟩
theorem Ay {l:Expr} {tl:TE} (hl:QE X l tl):QI X tg l (Lm X.K tl):=⟨L2.Ay hl.run⟩
theorem gB {a:Expr} {ta:TA} {p pos:Pos} (hg:Gl X "range") (hm:X.mg "range"=none) (ha:QA X [a] ta) (hs:starEach [a] X.env=[(false,eval a X.env)]:=by rfl):QI X tg (.Call (.Name "range" p) [a] [] pos) (Bv ta):=⟨L2.gB hg hm ha.run hs⟩
theorem pL {iter:Expr} {body:List Stmt} {wi:TI} {g:TG} {tb:TS} {pos:Pos} (hp:PassesOwn (model X.prog X.w) X.A X.env X.xe) (hc:X.calm=true) (hi:QI X tg iter wi) (hg:QG X tg g) (hb:QB X body tb)
  (hs:∀ x,foldedSetIterable iter X.env x=pure x:=by intro _;rfl):QS X (.For tg iter body [] pos) (MO wi g tb):=⟨L2.pL hp hc hi.run hg.run hb.run hs⟩
theorem Im {elt iter:Expr} {x:Str} {px:Pos} {sc:Scope} {pos:Pos} {wi:TI} (osc:Scope) (N:List Str) (ks:List (Str × Nat)) (hc:X.calm=true) (ho:X.env.scope=osc) (hN:X.N=N) (hi:QI X (.Name x px) iter wi)
  (he:∀ cl C s₀ H₀ fp pins,QE (fv X sc cl C x ks s₀ H₀ fp pins) elt te) (ok:cQ sc osc N x ks:=by decide +kernel) (hs:∀ x,foldedSetIterable iter X.env x=pure x:=by intro _;rfl) :
  QE X (.ListComp elt [⟨.Name x px,iter,[],0⟩] sc pos) (P9 wi ks te):=⟨Ke osc N ks hc ho hN hi.run (fun cl C s₀ H₀ fp pins=>(he cl C s₀ H₀ fp pins).run) ok hs⟩
theorem Iz {elt iter:Expr} {x y:Str} {px py:Pos} {sc:Scope} {pos spos:Pos} {wi:TI} {i:Nat} (osc:Scope) (N:List Str) (ks:List (Str × Nat)) (hc:X.calm=true) (ho:X.env.scope=osc) (hN:X.N=N) (hnd:X.N.Nodup) (hy:X.N[i]?=some y) (hl:Loc X.env.scope y)
  (hi:QI X (.Name x px) iter wi) (he:∀ cl C s₀ H₀ fp pins,QE (fv X sc cl C x ks s₀ H₀ fp pins) elt te) (ok:cQ sc osc N x ks:=by decide +kernel) (hs:∀ x,foldedSetIterable iter X.env x=pure x:=by intro _;rfl)
  (hsw:swapsWith (.ListComp elt [⟨.Name x px,iter,[],0⟩] sc pos) (some (.Name y py)) spos.line X.env=pure true:=by rfl) (hf:X.fn y=true∨X.env.scope.names.lookup y=some .local:=by first | exact .inl rfl | exact .inr rfl | assumption) :
  QS X (.Assign [.Name y py] (.ListComp elt [⟨.Name x px,iter,[],0⟩] sc pos) spos) (MQ wi ks te i):=⟨Kf osc N ks hc ho hN hnd hy hl hi.run (fun cl C s₀ H₀ fp pins=>(he cl C s₀ H₀ fp pins).run) ok hs hsw hf⟩
end
end Ov
namespace Ov
open PySem PySem.Spec PyProof.Rows
open L2 (V HO Hp Inv Cx VK TE TA Vals RelV fT cD di R2 upd EP vals1 intsAre_of Gl)
section
variable {X:Cx}
end
end Ov
namespace Ov
open PySem PySem.Spec PyProof.Rows
open L2 (V HO Hp Inv Cx VK TE TA Vals RelV fT cD di g7 R2 upd bF)
inductive Py where
 | non | bl (b:Bool) | int (i:Int) | str (x:Str) | tup (xs:List Py) | lst (xs:List Py)
mutual
def At (K:PySem.W.Frag) (H:Hp):Py→V→Prop
 | .non,v=>v=.non
 | .bl b,v=>v=.bl b
 | .int i,v=>v=.int i
 | .str x,v=>v=.str x
 | .tup xs,v=>∃ a vs,v=.ref a∧g7 K H a vs∧tF K H xs vs
 | .lst xs,v=>∃ a vs,v=.ref a∧di K H a vs∧tF K H xs vs
def tF (K:PySem.W.Frag) (H:Hp):List Py→List V→Prop
 | [],vs=>vs=[]
 | x :: xs,vs=>∃ v us,vs=v :: us∧At K H x v∧tF K H xs us
end
mutual
def lP:Py→Py→Bool
 | .non,.non=>true
 | .bl a,.bl b=>a == b
 | .int a,.int b=>a == b
 | .bl a,.int b=>(if a then 1 else 0) == b
 | .int a,.bl b=>a == (if b then 1 else 0)
 | .str a,.str b=>a == b
 | .tup xs,.tup ys=>kO xs ys
 | .lst xs,.lst ys=>kO xs ys
 | _,_=>false
def kO:List Py→List Py→Bool
 | [],[]=>true
 | x :: xs,y :: ys=>lP x y && kO xs ys
 | _,_=>false
end
mutual
def dep:Py→Nat
 | .tup xs=>dQ xs + 1
 | .lst xs=>dQ xs + 1
 | _=>0
def dQ:List Py→Nat
 | []=>0
 | x :: xs=>max (dep x) (dQ xs)
end
mutual
theorem xN:∀ x:Py,lP x x=true
 | .non=>rfl
 | .bl b=>by simp [lP]
 | .int b=>by simp [lP]
 | .str b=>by simp [lP]
 | .tup xs=>by simpa [lP] using pj xs
 | .lst xs=>by simpa [lP] using pj xs
theorem pj:∀ xs:List Py,kO xs xs=true
 | []=>rfl
 | x :: xs=>by simp [kO,xN x,pj xs]
end
mutual
theorem At.same {K:PySem.W.Frag} {H H':Hp} (e:bF H H'):∀ {x:Py} {v:V},At K H x v→At K H' x v
 | .non,_,h=>h
 | .bl _,_,h=>h
 | .int _,_,h=>h
 | .str _,_,h=>h
 | .tup xs,_,⟨a,vs,e1,h,k⟩=>⟨a,vs,e1,e.tup h,tF.same e k⟩
 | .lst xs,_,⟨a,vs,e1,h,k⟩=>⟨a,vs,e1,e.seq h,tF.same e k⟩
theorem tF.same {K:PySem.W.Frag} {H H':Hp} (e:bF H H'):∀ {xs:List Py} {vs:List V},tF K H xs vs→tF K H' xs vs
 | [],_,h=>h
 | _ :: _,_,⟨v,us,e1,h,k⟩=>⟨v,us,e1,At.same e h,tF.same e k⟩
end
theorem tF.length {K:PySem.W.Frag} {H:Hp}:∀ {xs:List Py} {vs:List V},tF K H xs vs→xs.length=vs.length
 | [],_,h=>by cases h;rfl
 | _ :: xs,_,⟨v,us,e1,_,k⟩=>by subst e1;simp [tF.length k]
def CL (xs ys:List Py) (j:Nat):Bool:=match xs[j]?,ys[j]? with
 | some x,some y=>lP x y
 | _,_=>false
theorem jH:∀ (xs ys:List Py),((List.range (min xs.length ys.length)).all (CL xs ys) && (xs.length == ys.length))=kO xs ys
 | [],[]=>rfl
 | [],_ :: _=>by simp [kO]
 | _ :: _,[]=>by simp [kO]
 | x :: xs,y :: ys=>by
  have ih:=jH xs ys
  rw [List.length_cons,List.length_cons,Nat.succ_min_succ,List.range_succ_eq_map,List.all_cons,List.all_map]
  have e1:(CL (x :: xs) (y :: ys) ∘ Nat.succ)=CL xs ys:=by
   funext j
   simp [CL]
  have e2:(xs.length + 1 == ys.length + 1)=(xs.length == ys.length):=by
   rw [Bool.eq_iff_iff]
   simp
  rw [e1,e2,Bool.and_assoc,ih]
  simp [CL,kO]
section
variable {X:Cx} {pins:List (Addr × Obj)} {σ:L2.St} {H:Hp} {s:Shared}
mutual
theorem At.one (I:Inv X pins σ H s):∀ {x y:Py} {v:V},At X.K H x v→At X.K H y v→lP x y=true
 | .non,y,v,h,k=>by cases h;cases y <;> simp_all [At,lP]
 | .bl b,y,v,h,k=>by cases h;cases y <;> simp_all [At,lP]
 | .int b,y,v,h,k=>by cases h;cases y <;> simp_all [At,lP]
 | .str b,y,v,h,k=>by cases h;cases y <;> simp_all [At,lP]
 | .tup xs,y,v,h,k=>by
  obtain ⟨a,vs,rfl,h1,h2⟩:=h
  cases y with
  | tup ys =>
   obtain ⟨b,us,e,k1,k2⟩:=k
   cases e
   cases I.uV h1 k1
   simpa [lP] using tF.one I h2 k2
  | lst ys =>
   obtain ⟨b,us,e,k1,k2⟩:=k
   cases e
   obtain ⟨_,_,⟨o,e1,c1,_⟩,_⟩:=I.tuple h1
   obtain ⟨_,_,⟨o',n,e2,c2,_⟩,_⟩:=I.list k1
   rw [e1] at e2;cases e2;exact absurd (Value.type.inj (c1.symm.trans c2)) (by decide)
  | _=>cases k
 | .lst xs,y,v,h,k=>by
  obtain ⟨a,vs,rfl,h1,h2⟩:=h
  cases y with
  | lst ys =>
   obtain ⟨b,us,e,k1,k2⟩:=k
   cases e
   cases I.kT h1 k1
   simpa [lP] using tF.one I h2 k2
  | tup ys =>
   obtain ⟨b,us,e,k1,k2⟩:=k
   cases e
   obtain ⟨_,_,⟨o,e1,c1,_⟩,_⟩:=I.tuple k1
   obtain ⟨_,_,⟨o',n,e2,c2,_⟩,_⟩:=I.list h1
   rw [e1] at e2;cases e2;exact absurd (Value.type.inj (c1.symm.trans c2)) (by decide)
  | _=>cases k
theorem tF.one (I:Inv X pins σ H s):∀ {xs ys:List Py} {vs:List V},tF X.K H xs vs→tF X.K H ys vs→kO xs ys=true
 | [],ys,vs,h,k=>by
  cases h
  cases ys with
  | nil=>rfl
  | cons y ys=>obtain ⟨_,_,e,_⟩:=k;cases e
 | x :: xs,ys,vs,h,k=>by
  obtain ⟨v,us,rfl,h1,h2⟩:=h
  cases ys with
  | nil=>cases k
  | cons y ys =>
   obtain ⟨v',us',e,k1,k2⟩:=k
   cases e
   simp [kO,At.one I h1 k1,tF.one I h2 k2]
end
mutual
theorem Qr (I:Inv X pins σ H s):∀ (x y:Py) {v v':V} {u u':Value} {A:Around},At X.K H x v→At X.K H y v'→RelV v u→RelV v' u'→A.units + dep x < cLine→SeqAt.EqAt A s u u' (lP x y)
 | .non,y,v,v',u,u',A,h,k,r,r',hu=>by
  cases h;cases r
  cases y with
  | non=>cases k;cases r';exact SeqAt.EqAt.same _
  | bl b=>cases k;cases r';exact SeqAt.EqAt.none_bool _
  | int b=>cases k;obtain ⟨t,rfl⟩:=r';exact SeqAt.EqAt.none_int _ _
  | str b=>cases k;obtain ⟨t,rfl⟩:=r';exact SeqAt.EqAt.none_str _ _
  | tup ys=>obtain ⟨a,vs,rfl,h1,h2⟩:=k;cases r';obtain ⟨_,_,p,_⟩:=I.tuple h1;exact SeqAt.EqAt.none_tuple p (by simpa [dep] using hu)
  | lst ys=>obtain ⟨a,vs,rfl,h1,h2⟩:=k;cases r';obtain ⟨_,_,p,_⟩:=I.list h1;exact SeqAt.EqAt.none_list p.isList (by simpa [dep] using hu)
 | .bl x,y,v,v',u,u',A,h,k,r,r',hu=>by
  cases h;cases r
  cases y with
  | non=>cases k;cases r';exact SeqAt.EqAt.bool_none _
  | bl b=>cases k;cases r';exact SeqAt.EqAt.bool_bool _ _
  | int b=>cases k;obtain ⟨t,rfl⟩:=r';exact SeqAt.EqAt.bool_int _ _ _
  | str b=>cases k;obtain ⟨t,rfl⟩:=r';exact SeqAt.EqAt.bool_str _ _ _
  | tup ys=>obtain ⟨a,vs,rfl,h1,h2⟩:=k;cases r';obtain ⟨_,_,p,_⟩:=I.tuple h1;exact SeqAt.EqAt.bool_tuple _ p (by simpa [dep] using hu)
  | lst ys=>obtain ⟨a,vs,rfl,h1,h2⟩:=k;cases r';obtain ⟨_,_,p,_⟩:=I.list h1;exact SeqAt.EqAt.bool_list _ p.isList (by simpa [dep] using hu)
 | .int x,y,v,v',u,u',A,h,k,r,r',hu=>by
  cases h;obtain ⟨t0,rfl⟩:=r
  cases y with
  | non=>cases k;cases r';exact SeqAt.EqAt.int_none _ _
  | bl b=>cases k;cases r';exact SeqAt.EqAt.int_bool _ _ _
  | int b=>cases k;obtain ⟨t,rfl⟩:=r';exact SeqAt.EqAt.int_int _ _ _ _
  | str b=>cases k;obtain ⟨t,rfl⟩:=r';exact SeqAt.EqAt.int_str _ _ _ _
  | tup ys=>obtain ⟨a,vs,rfl,h1,h2⟩:=k;cases r';obtain ⟨_,_,p,_⟩:=I.tuple h1;exact SeqAt.EqAt.int_tuple _ _ p (by simpa [dep] using hu)
  | lst ys=>obtain ⟨a,vs,rfl,h1,h2⟩:=k;cases r';obtain ⟨_,_,p,_⟩:=I.list h1;exact SeqAt.EqAt.int_list _ _ p.isList (by simpa [dep] using hu)
 | .str x,y,v,v',u,u',A,h,k,r,r',hu=>by
  cases h;obtain ⟨t0,rfl⟩:=r
  cases y with
  | non=>cases k;cases r';exact SeqAt.EqAt.str_none _ _
  | bl b=>cases k;cases r';exact SeqAt.EqAt.str_bool _ _ _
  | int b=>cases k;obtain ⟨t,rfl⟩:=r';exact SeqAt.EqAt.str_int _ _ _ _
  | str b=>cases k;obtain ⟨t,rfl⟩:=r';exact SeqAt.EqAt.str_str _ _ _ _
  | tup ys=>obtain ⟨a,vs,rfl,h1,h2⟩:=k;cases r';obtain ⟨_,_,p,_⟩:=I.tuple h1;exact SeqAt.EqAt.str_tuple _ _ p (by simpa [dep] using hu)
  | lst ys=>obtain ⟨a,vs,rfl,h1,h2⟩:=k;cases r';obtain ⟨_,_,p,_⟩:=I.list h1;exact SeqAt.EqAt.str_list _ _ p.isList (by simpa [dep] using hu)
 | .tup xs,y,v,v',u,u',A,h,k,r,r',hu=>by
  have h0:=h
  obtain ⟨a,vs,rfl,h1,h2⟩:=h
  cases r
  obtain ⟨is,r1,p1,_⟩:=I.tuple h1
  have hu0:A.units < cLine:=by omega
  have hu1:A.in1.units + dQ xs < cLine:=by
   have e:dep (.tup xs)=dQ xs + 1:=by rw [dep]
   rw [e] at hu
   show A.units + 1 + dQ xs < cLine
   omega
  cases y with
  | non=>cases k;cases r';exact SeqAt.EqAt.tuple_none p1 hu0
  | bl b=>cases k;cases r';exact SeqAt.EqAt.tuple_bool _ p1 hu0
  | int b=>cases k;obtain ⟨t,rfl⟩:=r';exact SeqAt.EqAt.tuple_int _ _ p1 hu0
  | str b=>cases k;obtain ⟨t,rfl⟩:=r';exact SeqAt.EqAt.tuple_str _ _ p1 hu0
  | lst ys=>obtain ⟨b,us,rfl,k1,k2⟩:=k;cases r';obtain ⟨_,_,p,_⟩:=I.list k1;exact SeqAt.EqAt.tuple_list p1 p.isList hu0
  | tup ys =>
   have k0:=k
   obtain ⟨b,us,rfl,k1,k2⟩:=k
   cases r'
   by_cases hab:a=b
   ·subst hab
    rw [At.one I h0 k0]
    exact SeqAt.EqAt.same _
   ·obtain ⟨js,r2,p2,_⟩:=I.tuple k1
    refine SeqAt.EqAt.of_refs hab ?_
    have key:=SeqAt.RcAt.tuples (e:=CL xs ys) p1 p2 hu0 fun j q1 q2=>rL I xs ys h2 k2 r1 r2 hu1 j (by simpa using q1) (by simpa using q2)
    have e1:is.length=xs.length:=by rw [← r1.length,h2.length]
    have e2:js.length=ys.length:=by rw [← r2.length,k2.length]
    simp only [List.size_toArray] at key
    rw [e1,e2,jH] at key
    simpa [lP] using key
 | .lst xs,y,v,v',u,u',A,h,k,r,r',hu=>by
  have h0:=h
  obtain ⟨a,vs,rfl,h1,h2⟩:=h
  cases r
  obtain ⟨is,r1,p1,_⟩:=I.list h1
  have hu0:A.units < cLine:=by omega
  have hu1:A.in1.units + dQ xs < cLine:=by
   have e:dep (.lst xs)=dQ xs + 1:=by rw [dep]
   rw [e] at hu
   show A.units + 1 + dQ xs < cLine
   omega
  cases y with
  | non=>cases k;cases r';exact SeqAt.EqAt.list_none p1.isList hu0
  | bl b=>cases k;cases r';exact SeqAt.EqAt.list_bool _ p1.isList hu0
  | int b=>cases k;obtain ⟨t,rfl⟩:=r';exact SeqAt.EqAt.list_int _ _ p1.isList hu0
  | str b=>cases k;obtain ⟨t,rfl⟩:=r';exact SeqAt.EqAt.list_str _ _ p1.isList hu0
  | tup ys=>obtain ⟨b,us,rfl,k1,k2⟩:=k;cases r';obtain ⟨_,_,p,_⟩:=I.tuple k1;exact SeqAt.EqAt.list_tuple p1.isList p hu0
  | lst ys =>
   have k0:=k
   obtain ⟨b,us,rfl,k1,k2⟩:=k
   cases r'
   by_cases hab:a=b
   ·subst hab
    rw [At.one I h0 k0]
    exact SeqAt.EqAt.same _
   ·obtain ⟨js,r2,p2,_⟩:=I.list k1
    refine SeqAt.EqAt.of_refs hab ?_
    have e1:is.length=xs.length:=by rw [← r1.length,h2.length]
    have e2:js.length=ys.length:=by rw [← r2.length,k2.length]
    have ae:=jH xs ys
    by_cases hl:xs.length=ys.length
    ·have key:=SeqAt.RcAt.lists (e:=CL xs ys) p1.isList p2.isList (by simp only [List.size_toArray];omega) hu0 fun j q1 q2=>rL I xs ys h2 k2 r1 r2 hu1 j (by simpa using q1) (by simpa using q2)
     simp only [List.size_toArray] at key
     rw [hl,Nat.min_self] at ae
     have e3:(ys.length == ys.length)=true:=by simp
     rw [e3,Bool.and_true] at ae
     rw [e1,hl,ae] at key
     simpa [lP] using key
    ·have key:=SeqAt.RcAt.lists_lengths p1.isList p2.isList (A:=A) (by simp only [List.size_toArray];rw [e1,e2];simpa using hl) hu0
     have e3:kO xs ys=false:=by
      rw [← ae]
      have:(xs.length == ys.length)=false:=by simpa using hl
      rw [this,Bool.and_false]
     simpa [lP,e3] using key
theorem rL (I:Inv X pins σ H s):∀ (xs ys:List Py) {vs us:List V} {is js:List Value} {A:Around},tF X.K H xs vs→tF X.K H ys us→Vals vs is→Vals us js→A.units + dQ xs < cLine→∀ j (h1:j < is.length) (h2:j < js.length),SeqAt.EqAt A s is[j] js[j] (CL xs ys j)
 | [],ys,vs,us,is,js,A,h,k,r,r',hu,j,h1,h2=>by
  cases h;cases r;exact absurd h1 (Nat.not_lt_zero _)
 | x :: xs,[],vs,us,is,js,A,h,k,r,r',hu,j,h1,h2=>by
  cases k;cases r';exact absurd h2 (Nat.not_lt_zero _)
 | x :: xs,y :: ys,vs,us,is,js,A,h,k,r,r',hu,j,h1,h2=>by
  obtain ⟨v,vs',rfl,a1,a2⟩:=h
  obtain ⟨v',us',rfl,b1,b2⟩:=k
  cases r with
  | cons q1 q2 =>
   cases r' with
   | cons z1 z2 =>
    have e:dQ (x :: xs)=max (dep x) (dQ xs):=by rw [dQ]
    rw [e] at hu
    cases j with
    | zero=>exact Qr I x y a1 b1 q1 z1 (by omega)
    | succ j =>
     have:=rL I xs ys a2 b2 q2 z2 (A:=A) (by omega) j (by simpa using h1) (by simpa using h2)
     simpa [CL] using this
end
theorem Rv (I:Inv X pins σ H s) (x y:Py) {v v':V} {u u':Value} {A:Around} (h:At X.K H x v) (k:At X.K H y v') (r:RelV v u) (r':RelV v' u') (hu:A.units + dep x < cLine):SeqAt.RcAt A s u u' (lP x y):=by
 have hu0:A.units < cLine:=by omega
 cases x with
 | non =>
  cases h;cases r
  cases y with
  | non=>cases k;cases r';exact SeqAt.RcAt.none_none
  | bl b=>cases k;cases r';exact SeqAt.RcAt.none_bool _
  | int b=>cases k;obtain ⟨t,rfl⟩:=r';exact SeqAt.RcAt.none_int _ _
  | str b=>cases k;obtain ⟨t,rfl⟩:=r';exact SeqAt.RcAt.none_str _ _
  | tup ys=>obtain ⟨b,us,rfl,k1,k2⟩:=k;cases r';obtain ⟨js,r2,p2,_⟩:=I.tuple k1;exact SeqAt.RcAt.none_tuple p2 hu0
  | lst ys=>obtain ⟨b,us,rfl,k1,k2⟩:=k;cases r';obtain ⟨js,r2,p2,_⟩:=I.list k1;exact SeqAt.RcAt.none_list p2.isList hu0
 | bl i =>
  cases h;cases r
  cases y with
  | non=>cases k;cases r';exact SeqAt.RcAt.bool_none _
  | bl b=>cases k;cases r';exact SeqAt.RcAt.bool_bool _ _
  | int b=>cases k;obtain ⟨t,rfl⟩:=r';exact SeqAt.RcAt.bool_int _ _ _
  | str b=>cases k;obtain ⟨t,rfl⟩:=r';exact SeqAt.RcAt.bool_str _ _ _
  | tup ys=>obtain ⟨b,us,rfl,k1,k2⟩:=k;cases r';obtain ⟨js,r2,p2,_⟩:=I.tuple k1;exact SeqAt.RcAt.bool_tuple _ p2 hu0
  | lst ys=>obtain ⟨b,us,rfl,k1,k2⟩:=k;cases r';obtain ⟨js,r2,p2,_⟩:=I.list k1;exact SeqAt.RcAt.bool_list _ p2.isList hu0
 | int i =>
  cases h;obtain ⟨t0,rfl⟩:=r
  cases y with
  | non=>cases k;cases r';exact SeqAt.RcAt.int_none _ _
  | bl b=>cases k;cases r';exact SeqAt.RcAt.int_bool _ _ _
  | int b=>cases k;obtain ⟨t,rfl⟩:=r';exact SeqAt.RcAt.int_int _ _ _ _
  | str b=>cases k;obtain ⟨t,rfl⟩:=r';exact SeqAt.RcAt.int_str _ _ _ _
  | tup ys=>obtain ⟨b,us,rfl,k1,k2⟩:=k;cases r';obtain ⟨js,r2,p2,_⟩:=I.tuple k1;exact SeqAt.RcAt.int_tuple _ _ p2 hu0
  | lst ys=>obtain ⟨b,us,rfl,k1,k2⟩:=k;cases r';obtain ⟨js,r2,p2,_⟩:=I.list k1;exact SeqAt.RcAt.int_list _ _ p2.isList hu0
 | str i =>
  cases h;obtain ⟨t0,rfl⟩:=r
  cases y with
  | non=>cases k;cases r';exact SeqAt.RcAt.str_none _ _
  | bl b=>cases k;cases r';exact SeqAt.RcAt.str_bool _ _ _
  | int b=>cases k;obtain ⟨t,rfl⟩:=r';exact SeqAt.RcAt.str_int _ _ _ _
  | str b=>cases k;obtain ⟨t,rfl⟩:=r';exact SeqAt.RcAt.str_str _ _ _ _
  | tup ys=>obtain ⟨b,us,rfl,k1,k2⟩:=k;cases r';obtain ⟨js,r2,p2,_⟩:=I.tuple k1;exact SeqAt.RcAt.str_tuple _ _ p2 hu0
  | lst ys=>obtain ⟨b,us,rfl,k1,k2⟩:=k;cases r';obtain ⟨js,r2,p2,_⟩:=I.list k1;exact SeqAt.RcAt.str_list _ _ p2.isList hu0
 | tup xs =>
  obtain ⟨a,vs,rfl,h1,h2⟩:=h
  cases r
  obtain ⟨is,r1,p1,_⟩:=I.tuple h1
  have hu1:A.in1.units + dQ xs < cLine:=by
   have e:dep (.tup xs)=dQ xs + 1:=by rw [dep]
   rw [e] at hu
   show A.units + 1 + dQ xs < cLine
   omega
  cases y with
  | non=>cases k;cases r';exact SeqAt.RcAt.tuple_none p1 hu0
  | bl b=>cases k;cases r';exact SeqAt.RcAt.tuple_bool _ p1 hu0
  | int b=>cases k;obtain ⟨t,rfl⟩:=r';exact SeqAt.RcAt.tuple_int _ _ p1 hu0
  | str b=>cases k;obtain ⟨t,rfl⟩:=r';exact SeqAt.RcAt.tuple_str _ _ p1 hu0
  | tup ys =>
   obtain ⟨b,us,rfl,k1,k2⟩:=k;cases r';obtain ⟨js,r2,p2,_⟩:=I.tuple k1
   have e1:is.length=xs.length:=by rw [← r1.length,h2.length]
   have e2:js.length=ys.length:=by rw [← r2.length,k2.length]
   have ae:=jH xs ys
   have key:=SeqAt.RcAt.tuples (e:=CL xs ys) p1 p2 hu0 fun j q1 q2=>rL I xs ys h2 k2 r1 r2 hu1 j (by simpa using q1) (by simpa using q2)
   simp only [List.size_toArray] at key
   rw [e1,e2,ae] at key
   simpa [lP] using key
  | lst ys=>obtain ⟨b,us,rfl,k1,k2⟩:=k;cases r';obtain ⟨js,r2,p2,_⟩:=I.list k1;exact SeqAt.RcAt.tuple_list p1 p2.isList hu0
 | lst xs =>
  obtain ⟨a,vs,rfl,h1,h2⟩:=h
  cases r
  obtain ⟨is,r1,p1,_⟩:=I.list h1
  have hu1:A.in1.units + dQ xs < cLine:=by
   have e:dep (.lst xs)=dQ xs + 1:=by rw [dep]
   rw [e] at hu
   show A.units + 1 + dQ xs < cLine
   omega
  cases y with
  | non=>cases k;cases r';exact SeqAt.RcAt.list_none p1.isList hu0
  | bl b=>cases k;cases r';exact SeqAt.RcAt.list_bool _ p1.isList hu0
  | int b=>cases k;obtain ⟨t,rfl⟩:=r';exact SeqAt.RcAt.list_int _ _ p1.isList hu0
  | str b=>cases k;obtain ⟨t,rfl⟩:=r';exact SeqAt.RcAt.list_str _ _ p1.isList hu0
  | tup ys=>obtain ⟨b,us,rfl,k1,k2⟩:=k;cases r';obtain ⟨js,r2,p2,_⟩:=I.tuple k1;exact SeqAt.RcAt.list_tuple p1.isList p2 hu0
  | lst ys =>
   obtain ⟨b,us,rfl,k1,k2⟩:=k;cases r';obtain ⟨js,r2,p2,_⟩:=I.list k1
   have e1:is.length=xs.length:=by rw [← r1.length,h2.length]
   have e2:js.length=ys.length:=by rw [← r2.length,k2.length]
   have ae:=jH xs ys
   by_cases hl:xs.length=ys.length
   ·have key:=SeqAt.RcAt.lists (e:=CL xs ys) p1.isList p2.isList (by simp only [List.size_toArray];omega) hu0 fun j q1 q2=>rL I xs ys h2 k2 r1 r2 hu1 j (by simpa using q1) (by simpa using q2)
    simp only [List.size_toArray] at key
    rw [hl,Nat.min_self] at ae
    have e3:(ys.length == ys.length)=true:=by simp
    rw [e3,Bool.and_true] at ae
    rw [e1,hl,ae] at key
    simpa [lP] using key
   ·have key:=SeqAt.RcAt.lists_lengths p1.isList p2.isList (A:=A) (by simp only [List.size_toArray];rw [e1,e2];simpa using hl) hu0
    have e3:kO xs ys=false:=by
     rw [← ae]
     have:(xs.length == ys.length)=false:=by simpa using hl
     rw [this,Bool.and_false]
    simpa [lP,e3] using key
theorem Pj (I:Inv X pins σ H s) (x y:Py) {v v':V} {u u':Value} {A:Around} (h:At X.K H x v) (k:At X.K H y v') (r:RelV v u) (r':RelV v' u') (hu:A.units + dep x < cLine):SeqAt.RcNeAt A s u u' (!lP x y):=by
 have hu0:A.units < cLine:=by omega
 cases x with
 | non =>
  cases h;cases r
  cases y with
  | non=>cases k;cases r';exact SeqAt.RcNeAt.none_none
  | bl b=>cases k;cases r';exact SeqAt.RcNeAt.none_bool _
  | int b=>cases k;obtain ⟨t,rfl⟩:=r';exact SeqAt.RcNeAt.none_int _ _
  | str b=>cases k;obtain ⟨t,rfl⟩:=r';exact SeqAt.RcNeAt.none_str _ _
  | tup ys=>obtain ⟨b,us,rfl,k1,k2⟩:=k;cases r';obtain ⟨js,r2,p2,_⟩:=I.tuple k1;exact SeqAt.RcNeAt.none_tuple p2 hu0
  | lst ys=>obtain ⟨b,us,rfl,k1,k2⟩:=k;cases r';obtain ⟨js,r2,p2,_⟩:=I.list k1;exact SeqAt.RcNeAt.none_list p2.isList hu0
 | bl i =>
  cases h;cases r
  cases y with
  | non=>cases k;cases r';exact SeqAt.RcNeAt.bool_none _
  | bl b=>cases k;cases r';exact SeqAt.RcNeAt.bool_bool _ _
  | int b=>cases k;obtain ⟨t,rfl⟩:=r';exact SeqAt.RcNeAt.bool_int _ _ _
  | str b=>cases k;obtain ⟨t,rfl⟩:=r';exact SeqAt.RcNeAt.bool_str _ _ _
  | tup ys=>obtain ⟨b,us,rfl,k1,k2⟩:=k;cases r';obtain ⟨js,r2,p2,_⟩:=I.tuple k1;exact SeqAt.RcNeAt.bool_tuple _ p2 hu0
  | lst ys=>obtain ⟨b,us,rfl,k1,k2⟩:=k;cases r';obtain ⟨js,r2,p2,_⟩:=I.list k1;exact SeqAt.RcNeAt.bool_list _ p2.isList hu0
 | int i =>
  cases h;obtain ⟨t0,rfl⟩:=r
  cases y with
  | non=>cases k;cases r';exact SeqAt.RcNeAt.int_none _ _
  | bl b=>cases k;cases r';exact SeqAt.RcNeAt.int_bool _ _ _
  | int b=>cases k;obtain ⟨t,rfl⟩:=r';exact SeqAt.RcNeAt.int_int _ _ _ _
  | str b=>cases k;obtain ⟨t,rfl⟩:=r';exact SeqAt.RcNeAt.int_str _ _ _ _
  | tup ys=>obtain ⟨b,us,rfl,k1,k2⟩:=k;cases r';obtain ⟨js,r2,p2,_⟩:=I.tuple k1;exact SeqAt.RcNeAt.int_tuple _ _ p2 hu0
  | lst ys=>obtain ⟨b,us,rfl,k1,k2⟩:=k;cases r';obtain ⟨js,r2,p2,_⟩:=I.list k1;exact SeqAt.RcNeAt.int_list _ _ p2.isList hu0
 | str i =>
  cases h;obtain ⟨t0,rfl⟩:=r
  cases y with
  | non=>cases k;cases r';exact SeqAt.RcNeAt.str_none _ _
  | bl b=>cases k;cases r';exact SeqAt.RcNeAt.str_bool _ _ _
  | int b=>cases k;obtain ⟨t,rfl⟩:=r';exact SeqAt.RcNeAt.str_int _ _ _ _
  | str b=>cases k;obtain ⟨t,rfl⟩:=r';exact SeqAt.RcNeAt.str_str _ _ _ _
  | tup ys=>obtain ⟨b,us,rfl,k1,k2⟩:=k;cases r';obtain ⟨js,r2,p2,_⟩:=I.tuple k1;exact SeqAt.RcNeAt.str_tuple _ _ p2 hu0
  | lst ys=>obtain ⟨b,us,rfl,k1,k2⟩:=k;cases r';obtain ⟨js,r2,p2,_⟩:=I.list k1;exact SeqAt.RcNeAt.str_list _ _ p2.isList hu0
 | tup xs =>
  obtain ⟨a,vs,rfl,h1,h2⟩:=h
  cases r
  obtain ⟨is,r1,p1,_⟩:=I.tuple h1
  have hu1:A.in1.units + dQ xs < cLine:=by
   have e:dep (.tup xs)=dQ xs + 1:=by rw [dep]
   rw [e] at hu
   show A.units + 1 + dQ xs < cLine
   omega
  cases y with
  | non=>cases k;cases r';exact SeqAt.RcNeAt.tuple_none p1 hu0
  | bl b=>cases k;cases r';exact SeqAt.RcNeAt.tuple_bool _ p1 hu0
  | int b=>cases k;obtain ⟨t,rfl⟩:=r';exact SeqAt.RcNeAt.tuple_int _ _ p1 hu0
  | str b=>cases k;obtain ⟨t,rfl⟩:=r';exact SeqAt.RcNeAt.tuple_str _ _ p1 hu0
  | tup ys =>
   obtain ⟨b,us,rfl,k1,k2⟩:=k;cases r';obtain ⟨js,r2,p2,_⟩:=I.tuple k1
   have e1:is.length=xs.length:=by rw [← r1.length,h2.length]
   have e2:js.length=ys.length:=by rw [← r2.length,k2.length]
   have ae:=jH xs ys
   have key:=SeqAt.RcNeAt.tuples (e:=CL xs ys) p1 p2 hu0 fun j q1 q2=>rL I xs ys h2 k2 r1 r2 hu1 j (by simpa using q1) (by simpa using q2)
   simp only [List.size_toArray] at key
   rw [e1,e2,ae] at key
   simpa [lP] using key
  | lst ys=>obtain ⟨b,us,rfl,k1,k2⟩:=k;cases r';obtain ⟨js,r2,p2,_⟩:=I.list k1;exact SeqAt.RcNeAt.tuple_list p1 p2.isList hu0
 | lst xs =>
  obtain ⟨a,vs,rfl,h1,h2⟩:=h
  cases r
  obtain ⟨is,r1,p1,_⟩:=I.list h1
  have hu1:A.in1.units + dQ xs < cLine:=by
   have e:dep (.lst xs)=dQ xs + 1:=by rw [dep]
   rw [e] at hu
   show A.units + 1 + dQ xs < cLine
   omega
  cases y with
  | non=>cases k;cases r';exact SeqAt.RcNeAt.list_none p1.isList hu0
  | bl b=>cases k;cases r';exact SeqAt.RcNeAt.list_bool _ p1.isList hu0
  | int b=>cases k;obtain ⟨t,rfl⟩:=r';exact SeqAt.RcNeAt.list_int _ _ p1.isList hu0
  | str b=>cases k;obtain ⟨t,rfl⟩:=r';exact SeqAt.RcNeAt.list_str _ _ p1.isList hu0
  | tup ys=>obtain ⟨b,us,rfl,k1,k2⟩:=k;cases r';obtain ⟨js,r2,p2,_⟩:=I.tuple k1;exact SeqAt.RcNeAt.list_tuple p1.isList p2 hu0
  | lst ys =>
   obtain ⟨b,us,rfl,k1,k2⟩:=k;cases r';obtain ⟨js,r2,p2,_⟩:=I.list k1
   have e1:is.length=xs.length:=by rw [← r1.length,h2.length]
   have e2:js.length=ys.length:=by rw [← r2.length,k2.length]
   have ae:=jH xs ys
   by_cases hl:xs.length=ys.length
   ·have key:=SeqAt.RcNeAt.lists (e:=CL xs ys) p1.isList p2.isList (by simp only [List.size_toArray];omega) hu0 fun j q1 q2=>rL I xs ys h2 k2 r1 r2 hu1 j (by simpa using q1) (by simpa using q2)
    simp only [List.size_toArray] at key
    rw [hl,Nat.min_self] at ae
    have e3:(ys.length == ys.length)=true:=by simp
    rw [e3,Bool.and_true] at ae
    rw [e1,hl,ae] at key
    simpa [lP] using key
   ·have key:=SeqAt.RcNeAt.lists_lengths p1.isList p2.isList (A:=A) (by simp only [List.size_toArray];rw [e1,e2];simpa using hl) hu0
    have e3:kO xs ys=false:=by
     rw [← ae]
     have:(xs.length == ys.length)=false:=by simpa using hl
     rw [this,Bool.and_false]
    simpa [lP,e3] using key
def rP (K:PySem.W.Frag) (f:Bool→Bool):R2:=fun v v' H Q=>∃ x y:Py,At K H x v∧At K H y v'∧dep x≤60∧Q (.bl (f (lP x y))) H
theorem Ma (hu:X.A.units + 61 < cLine):fT X (compareOp .Eq) (rP X.K id):=by
 intro pins s σ H x y v u Q I rx ry h
 obtain ⟨a,b,h1,h2,d,q⟩:=h
 exact Rv I a b h1 h2 rx ry (by omega) X.prog X.w X.xe _ ⟨.bl _,H,I,rfl,q⟩
theorem Md (hu:X.A.units + 61 < cLine):fT X (compareOp .NotEq) (rP X.K not):=by
 intro pins s σ H x y v u Q I rx ry h
 obtain ⟨a,b,h1,h2,d,q⟩:=h
 exact Pj I a b h1 h2 rx ry (by omega) X.prog X.w X.xe _ ⟨.bl _,H,I,rfl,q⟩
end
end Ov
namespace Ov
open PySem PySem.Spec PySem.Calls PyProof.Rows PySem.W Builtin.Getset_descriptor
def ExcAt (x D:Addr) (h:Heap):Prop:=∃ ox,h.get? x=some ox∧ox.cls=.ref D
theorem ExcAt.ty {M:Model} {h:Heap} {x D:Addr} (I:ExcAt x D h):Looks M h (typeOf (.ref x)) (.ref D):=by
 obtain ⟨ox,a,b⟩:=I
 rw [← b]
 exact (Looks.ld a).andThen .now
section
variable {prog:Program} {w:World} {A:Around} {E:Value→Shared→Prop} {s:Shared} {K:Frag} {x D:Addr}
structure qp (K:Frag) (D:Addr):Prop where
 cls:(clsIn K D).isSome=true
 ga:findIn K (.ref D) "__getattribute__"=some (some (.builtin "BaseException.__getattribute__"))
 gt:findIn K (.ref D) "__getattr__"=some none
 ca:findIn K (.ref D) "__class__"=some (some (.builtin "object.__class__"))
 get:specialIn K (.builtin "object.__class__") "__get__"=some (some (.builtin "getset_descriptor.__get__"))
 tk:takesIn K (.builtin "object.__class__")=some true
 obj:mroIn K D (.type "object")=some true
 bex:subIn K (.ref D) (.type "BaseException")=some true
theorem Jz {M:Model} {h:Heap} (X:K.In h) (Z:qp K D):Looks M h (Builtin.ObjectAttr.find (.ref x) (.ref D) "__class__") (.bind (.builtin "getset_descriptor.__get__") (.builtin "object.__class__")) :=
 (looks_findIn X Z.ca).andThen ((show Looks M h (Builtin.ObjectAttr.getOf (some (.builtin "object.__class__"))) _ from looks_specialIn X Z.get).andThen
  ((show Looks M h (Builtin.ObjectAttr.dataDescriptor? (some (.builtin "object.__class__")) (some (.builtin "getset_descriptor.__get__"))) (some (.builtin "getset_descriptor.__get__",.builtin "object.__class__")) from (looks_takesIn X Z.tk).andThen .now).andThen (Looks.tag .now)))
theorem MZ {tp:Value} {R:Result→Shared→Prop} (X:K.In s.heap) (Z:qp K D) (I:ExcAt x D s.heap) (h:R (.ok (.ret (.ref D))) s) :
  codeAny (model prog w) A (.call (.builtin "getset_descriptor.__get__") ⟨[.builtin "object.__class__",.ref x,tp],[]⟩) R s:=by
 obtain ⟨hh,g,dr,t,os⟩:=s
 have L0:=I.ty (M:=model prog w)
 have L1:=looks_mroIn (M:=model prog w) X Z.obj
 refine codeAny_call_builtin KF.slot_gs.plain KF.entry_gs ?_
 refine KF.slot_gs.check _ _ _ _ _ _ _ _ KF.type_class (KF.args_gs _ _ _) ?_
 unfold Builtin.«getset_descriptor.__get__» descrGet;rw [dga_obj]
 refine wpAny_bind (wpAny_pure ?_)
 unfold descrGetter descrCheckInstance descrNameAndClass isInstance;simp only [KF.owner_class]
 repeat lk
 refine ⟨Code.quiet_builtin _ (by decide +kernel),?_⟩
 refine codeAny_builtin KF.entry_class ?_
 unfold Builtin.«object.__class__» shownTypeOf;repeat lk
 exact h
theorem GJ {tk:Tok} {Q:Fin→Shared→Prop} (X:K.In s.heap) (Z:qp K D) (I:ExcAt x D s.heap) (h:Q (.done (.ret (.ref D))) s) :
  wpAny (model prog w) A (Builtin.«object.__getattribute__» ⟨[.ref x,.str "__class__" tk],[]⟩) Q E s:=by
 obtain ⟨hh,gg,d,t,os⟩:=s
 have L0:=I.ty (M:=model prog w)
 have L1:=Jz (x:=x) (M:=model prog w) X Z
 unfold Builtin.«object.__getattribute__»
 refine wpAny_bind (wpAny_pure (wpAny_bind (wpAny_pure (wpAny_bind (L0.at (wpAny_bind (L1.at ?_)))))))
 show wpAny _ _ (holding [.builtin "object.__class__"] (call (.builtin "getset_descriptor.__get__") [.builtin "object.__class__",.ref x,.ref D]) >>= ret) _ _ _
 exact wpAny_bind (wpAny_holding (wpAny_call (MZ (tp:=.ref D) X Z I (wpAny_pure h))))
theorem GH {M:Model} {nameV:Value} {Q:Unit→Shared→Prop} (X:K.In s.heap) (Z:qp K D) (I:ExcAt x D s.heap) (hq:Q () s) :
  wpAny M A (checkBuiltinCall "BaseException.__getattribute__" ⟨[.ref x,nameV],[]⟩) Q E s:=by
 have k:builtinKind "BaseException.__getattribute__"=some .slot:=by decide +kernel
 have sp:splitId "BaseException.__getattribute__"=some ("BaseException","__getattribute__"):=by decide +kernel
 have ok:=F.args_bexc_ga (.ref x) nameV
 have L1:Looks M s.heap (isInstance (.ref x) (.type "BaseException")) true:=I.ty.andThen (looks_subIn X Z.bex)
 obtain ⟨hh,gg,d,t,os⟩:=s
 simp only [checkBuiltinCall,k,sp]
 refine wpAny_bind (L1.at ?_)
 simp only [Bool.not_true,Bool.false_eq_true,if_false]
 cases sg:Manifest.signature? "BaseException.__getattribute__" with
 | none=>exact wpAny_pure hq
 | some z =>
  unfold argsOk at ok
  rw [sg] at ok
  show wpAny _ _ (Bind.checkArgs _ z _) _ _ _
  rw [show Bind.checkArgs "BaseException.__getattribute__" z ⟨[.ref x,nameV],[]⟩=pure () from ok]
  exact wpAny_pure hq
theorem GI {Q:Option Value→Shared→Prop} (X:K.In s.heap) (Z:qp K D) (I:ExcAt x D s.heap) (h:Q (some (.ref D)) { s with toks:=s.toks + 1 }):wpAny (model prog w) A (getAttr? (.ref x) "__class__") Q E s:=by
 obtain ⟨hh,gg,d,t,os⟩:=s
 have L0:=I.ty (M:=model prog w)
 have L1:=looks_findIn (M:=model prog w) X Z.ga
 have L2:=looks_findIn (M:=model prog w) X Z.gt
 unfold getAttr? getAttrBy? getAttrBy
 refine wpAny_bind (wpAny_mkText (wpAny_bind (wpAny_attempt (wpAny_holding ?_))))
 refine wpAny_bind (L0.at (wpAny_bind (L1.at ?_)))
 have no:(Value.builtin "BaseException.__getattribute__" == Value.builtin "object.__getattribute__")=false:=by decide +kernel
 show wpAny _ _ (if onTheHeap (.ref D) && Value.builtin "BaseException.__getattribute__" == Value.builtin "object.__getattribute__" then _ else _) _ _ _
 rw [no,Bool.and_false]
 simp only [Bool.false_eq_true,if_false]
 unfold getAttrByItsOwn hookBefore callGetattribute boundAndCalled
 have f3:=PySem.F.attr_ValueError.ga.bind (.ref x)
 refine wpAny_bind ((show wpAny _ _ (typeLookup (Value.ref D) "__getattr__") _ _ _ from L2.at ?_))
 refine wpAny_bind (wpAny_attempt (wpAny_holding ?_))
 show wpAny _ _ (bindSpecial (Value.builtin "BaseException.__getattribute__") (Value.ref x) >>= _) _ _ _
 rw [f3]
 refine wpAny_bind (wpAny_pure ?_)
 refine wpAny_call (codeAny_call_builtin PySem.F.attr_ValueError.ga.plain PySem.F.entry_bexc_ga (GH (s:=⟨hh,gg,d,t + 1,os⟩) X Z I (GJ (s:=⟨hh,gg,d,t + 1,os⟩) X Z I ?_)))
 exact handed_on rfl (wpAny_pure h)
theorem qp.at {h:Heap} (Z:qp K D) (X:K.In h):∃ c d cd sl,h.get? D=some ⟨c,d,.cls cd,sl⟩:=by
 obtain ⟨cd,q⟩:=Option.isSome_iff_exists.mp Z.cls
 unfold clsIn at q
 split at q
 ·exact ⟨_,_,_,_,X _ _ (by assumption)⟩
 ·cases q
theorem EW (Z:qp K D):KitX K (.ref x) (.ref D) (ExcAt x D) where
 ty:=fun _ _ _ I=>I.ty
 it:=fun _ _ X _=>by
  obtain ⟨c,d,cd,sl,o⟩:=Z.at X
  intro A' Q' E' s' k q
  unfold isType loadHead
  exact wpAny_bind (wpAny_loadPart (k _ _ o) (wpAny_pure q))
 ne:=fun h tp dd its n sl X htp=>Bool.eq_false_iff.mpr fun q=>by
  obtain ⟨c,d,cd,sl',o⟩:=Z.at X
  rw [Value.ref.inj (beq_iff_eq.mp q)] at o
  cases o.symm.trans htp
 ca:=fun X I k=>GI X Z I k
end
end Ov
namespace Ov
open PySem PySem.Spec PyProof.Rows L2
structure mi (P:Program) (w:World) (outer:List Env) (H:Hp) (s:Shared) (ea:Addr) (cls:Value) (H':Hp) (s':Shared):Prop where
 os:s'.os=s.os
 bare:AllBare s'.gens
 un:Un (kB outer) [] H H' s.heap s'.heap
 hok:nq P w H' s'.heap
 fl:∃ B t,Heap.FlyingW B outer ea cls (.ref t) s'.heap∧∀ b o,s'.heap.get? b=some o→(H' b≠none∨∃ o₀,s.heap.get? b=some o₀)→b ∉ kB outer→B.get? b=some o
def dh (P:Program) (w:World):tH:=fun outer H s E e s'=>∃ ea cls H',e=.ref ea∧mi P w outer H s ea cls H' s'∧E cls none H'
theorem HW {P:Program} {w:World} {H:Hp} {h:Heap} {a:Addr} {o:HO} (x:dy P w H h a o):∃ ob,h.get? a=Option.some ob:=by
 have lt:=x.lt
 cases o with
 | lst xs=>obtain ⟨_,_,_,_,e⟩:=x;exact ⟨_,e⟩
 | tup xs=>obtain ⟨_,_,_,ob,e,_⟩:=x;exact ⟨_,e⟩
 | dK kvs=>obtain ⟨_,_,_,_,o,_,_,e,_⟩:=x;exact ⟨_,e⟩
 | dE kvs ep=>obtain ⟨_,_,_,_,o,_,e,_⟩:=x;exact ⟨_,e⟩
 | set S n=>obtain ⟨o,_,_,_,e,_⟩:=x;exact ⟨_,e⟩
 | ins C dx fs=>obtain ⟨_,_,_,e,_⟩:=x;exact ⟨_,e⟩
 | own y=>exact x
 | xd fs=>obtain ⟨_,⟨_,_,_,e,_⟩,_⟩:=x;exact ⟨_,e⟩
 | Ni lo hi=>obtain ⟨_,_,_,e⟩:=x;exact ⟨_,e⟩
 | rQ ob u=>obtain ⟨e,_⟩:=x;exact ⟨_,e⟩
 | tbl ps=>exact ⟨_,x⟩
 | met f y=>exact ⟨_,x⟩
 | ext φ=>obtain ⟨_,e,_⟩:=x;exact e
section
variable {X:Cx} {pins:List (Addr × Obj)} {σ:L2.St} {H H':Hp} {s:Shared} {ea t:Addr} {cls:Value} {B h1 h2:Heap}
theorem kP (I:Inv X pins σ H s) (un:Un (kB X.stack) [] H H' s.heap h1) {b:Addr} (hb:b∈kB X.stack):H' b=none∧∃ o,h1.get? b=some o∧∀ vs,o.data≠.fields vs:=by
 obtain ⟨_,o,ho,hn⟩:=I.stack.mem hb
 have n:=I.xf b hb
 obtain ⟨sl,e⟩:=un.any ho n (by simp)
 exact ⟨un.free b o ho n (by simp),_,e,hn⟩
theorem vH (I:Inv X pins σ H s) (un:Un (kB X.stack) [] H H' s.heap h1) (cov:∀ b o,h1.get? b=some o→(H' b≠none∨∃ o₀,s.heap.get? b=some o₀)→b ∉ kB X.stack→B.get? b=some o)
  (hB:B.StaysIn h2) (up:h1.UpToSlots h2):Un (kB X.stack) [] H H' s.heap h2 where
 keep:=fun b o e n hb hx=>hB b o (cov b o (un.keep b o e n hb hx) (.inr ⟨o,e⟩) hb)
 slot:=fun b o e n hb hx=>by
  obtain ⟨sl,e1⟩:=un.slot b o e n hb hx
  obtain ⟨_,o',e2,hn⟩:=kP I un hb
  rw [e1] at e2;cases e2
  obtain ⟨sl',e3⟩:=up b _ e1 hn
  exact ⟨sl',e3⟩
 free:=un.free
 there:=fun b o e hx=>by
  obtain ⟨o',e1⟩:=un.there b o e hx
  by_cases hb:b∈kB X.stack
  ·obtain ⟨_,o2,e2,hn⟩:=kP I un hb
   obtain ⟨sl',e3⟩:=up b _ e2 hn
   exact ⟨_,e3⟩
  ·exact ⟨o',hB b o' (cov b o' e1 (.inr ⟨o,e⟩) hb)⟩
 tups:=un.tups
 frzs:=un.frzs
 tbls:=un.tbls
theorem vG (I:Inv X pins σ H s) (un:Un (kB X.stack) [] H H' s.heap h1) (cov:∀ b o,h1.get? b=some o→(H' b≠none∨∃ o₀,s.heap.get? b=some o₀)→b ∉ kB X.stack→B.get? b=some o)
  (hB:B.StaysIn h2) (ok:nq X.prog X.w H' h1):nq X.prog X.w H' h2:=fun a o e=>by
 have nf:∀ b u,H' b=some u→b ∉ kB X.stack:=fun b u q hb=>by
  have:=(kP I un hb).1
  rw [q] at this;cases this
 refine (ok a o e).pZ (fun b u hb q=>?_) (fun _ q=>q) fun _ _ q=>q
 rcases hb with rfl | hb
 ·exact hB _ _ (cov _ _ q (.inl (by rw [e];exact fun z=>nomatch z)) (nf _ _ e))
 ·exact hB _ _ (cov _ _ q (.inl (by rw [hb];exact fun z=>nomatch z)) (nf _ _ hb))
theorem zM (un:Un (kB X.stack) [] H H' s.heap h1) (ok:nq X.prog X.w H' h1) (cov:∀ b o,h1.get? b=some o→(H' b≠none∨∃ o₀,s.heap.get? b=some o₀)→b ∉ kB X.stack→B.get? b=some o) (hB:B.StaysIn h2) :
  ∀ b o,h2.get? b=some o→(H' b≠none∨∃ o₀,s.heap.get? b=some o₀)→b ∉ kB X.stack→B.get? b=some o:=fun b o e hb nb=>by
 have:∃ o1,h1.get? b=some o1:=by
  rcases hb with z | ⟨o₀,z⟩
  ·cases q:H' b with
   | none=>exact absurd q z
   | some u=>exact HW (ok b u q)
  ·exact un.there b o₀ z (by simp)
 obtain ⟨o1,e1⟩:=this
 have c:=cov b o1 e1 hb nb
 have:=hB b o1 c
 rw [e] at this;cases this
 exact c
theorem mi.on {s':Shared} (I:Inv X pins σ H s) (F:mi X.prog X.w X.stack H s ea cls H' s'):∃ B t,Heap.FlyingW B X.stack ea cls (.ref t) s'.heap ∧
  ∀ h2,Heap.FlyingW B X.stack ea cls (.ref t) h2→s'.heap.UpToSlots h2→mi X.prog X.w X.stack H s ea cls H' { s' with heap:=h2 }:=by
 obtain ⟨B,t,fl,cov⟩:=F.fl
 exact ⟨B,t,fl,fun h2 fl2 up=>⟨F.os,F.bare,vH I F.un cov fl2.1 up,vG I F.un cov fl2.1 F.hok,B,t,fl2,zM F.un F.hok cov fl2.1⟩⟩
theorem Bn {s2:Shared} (I:Inv X pins σ H s) (hst:X.stack=X.env :: X.outer) (hfr:X.env.frame=some X.env.locals) (hex:X.ex=[]) (os:s2.os=s.os) (bare:AllBare s2.gens) (un:Un (kB X.stack) [] H H' s.heap s2.heap)
  (ok:nq X.prog X.w H' s2.heap) (cov:∀ b o,s2.heap.get? b=some o→(H' b≠none∨∃ o₀,s.heap.get? b=some o₀)→b ∉ kB X.stack→B.get? b=some o) (fl:Heap.FlyingW B X.outer ea cls (.ref t) s2.heap) :
  mi X.prog X.w X.outer X.H₀ X.s₀ ea cls H' s2:=by
 have nst:∀ b o,X.s₀.heap.get? b=some o→b ∉ X.fs→b ∉ kB X.stack:=fun b o e nb hb=>by
  rcases List.mem_cons.mp (I.nh b hb) with z | z
  ·have:=Nat.lt_of_lt_of_le (Heap.lt_size e) I.ok.above
   rw [z] at this
   exact Nat.lt_irrefl _ this
  ·exact nb z
 have sub:∀ b,b∈X.fs→b∈kB X.stack:=fun b hb=>by rw [hst];unfold kB;rw [List.filterMap_cons,hfr];exact List.mem_cons_of_mem _ hb
 have nx:∀ b:Addr,b ∉ X.ex:=fun b=>by rw [hex];simp
 refine ⟨os.trans I.os,bare,⟨fun b o e n hb _=>?_,fun b o e n hb _=>?_,fun b o e n _=>?_,fun b o e _=>?_,fun b xs q=>un.tups b xs (I.base.tups b xs q),fun b o xs q=>un.frzs b o xs (I.base.frzs b o xs q),fun b ps q=>?_⟩,ok,B,t,fl,fun b o e hb nb=>?_⟩
 ·exact un.keep b o (I.base.keep b o e n hb (nx b)) (I.base.free b o e n (nx b)) (nst b o e hb) (by simp)
 ·obtain ⟨sl,e1⟩:=I.base.slot b o e n hb (nx b)
  obtain ⟨sl',e2⟩:=un.slot b _ e1 (I.base.free b o e n (nx b)) (sub b hb) (by simp)
  exact ⟨sl',e2⟩
 ·obtain ⟨o',e1⟩:=I.base.there b o e (nx b)
  exact un.free b o' e1 (I.base.free b o e n (nx b)) (by simp)
 ·obtain ⟨o',e1⟩:=I.base.there b o e (nx b)
  exact un.there b o' e1 (by simp)
 ·obtain ⟨m1,e1⟩:=I.base.tbls b ps q
  obtain ⟨m2,e2⟩:=un.tbls b _ e1
  exact ⟨m1 ++ m2,by rw [e2,Array.append_assoc]⟩
 ·rcases hb with z | ⟨o₀,z⟩
  ·exact cov b o e (.inl z) fun hb=>z (kP I un hb).1
  ·obtain ⟨o1,e1⟩:=I.base.there b o₀ z (nx b)
   exact cov b o e (.inr ⟨o1,e1⟩) (nst b o₀ z nb)
theorem C4 {E:XK} {e:Value} {s':Shared} {R:Value→Shared→Prop} (I:Inv X pins σ H s) (hst:X.stack=X.env :: X.outer) (hfr:X.env.frame=some X.env.locals) (hex:X.ex=[]) (h:dh X.prog X.w X.stack H s E e s') :
  wpAny (model X.prog X.w) X.A (leaving X.env e) (fun _ s''=>dh X.prog X.w X.outer X.H₀ X.s₀ E e s'') R s':=by
 obtain ⟨ea,cls,H',rfl,F,q⟩:=h
 obtain ⟨B,t,fl,cov⟩:=F.fl
 refine wpAny_leaves_onW (by rw [I.ok.frames,hst]) hfr (hst ▸ fl) fun h2 fl2 up=>?_
 exact ⟨ea,cls,H',rfl,Bn (s2:={ s' with heap:=h2 }) I hst hfr hex F.os F.bare (vH I F.un cov fl2.1 up) (vG I F.un cov fl2.1 F.hok) (zM F.un F.hok cov fl2.1) fl2,q⟩
theorem leave_new {E:XK} {e C:Addr} {args:List Value} {h':Heap} {R:Value→Shared→Prop} (I:Inv X pins σ H s) (hst:X.stack=X.env :: X.outer) (hfr:X.env.frame=some X.env.locals) (hex:X.ex=[])
  (hx:Heap.MadeExcOf s.heap h' e (.ref C) args) (q:E (.ref C) none H) :
  wpAny (model X.prog X.w) X.A (leaving X.env (.ref e)) (fun _ s''=>dh X.prog X.w X.outer X.H₀ X.s₀ E (.ref e) s'') R { s with heap:=h' }:=by
 have hin:∀ env∈X.env :: X.outer,∀ a,env.frame=some a→a∈kB X.stack:=fun env he a ha=>by rw [hst];exact List.mem_filterMap.mpr ⟨env,he,ha⟩
 have cov:∀ b o,s.heap.get? b=some o→(H b≠none∨∃ o₀,s.heap.get? b=some o₀)→b ∉ kB X.stack→(PySem.W.hideAll s.heap (kB X.stack)).get? b=some o:=fun b o e _ nb=>PySem.W.hideAll_get _ e nb
 refine wpAny_leaves_madeW (base:=PySem.W.hideAll s.heap (kB X.stack)) (by rw [I.ok.frames,hst]) hfr (fun b o z=>PySem.W.of_hideAll _ z) (PySem.W.funFrames_hide (hst ▸ I.stack) hin) hx fun h2 t fl _ _ up=>?_
 have up2:s.heap.UpToSlots h2:=(Heap.UpToSlots.of_keeps hx.keeps).trans up
 exact ⟨e,.ref C,H,rfl,Bn (s2:={ s with heap:=h2 }) I hst hfr hex rfl I.bare (vH I Un.refl cov fl.1 up2) (vG I Un.refl cov fl.1 I.hok) (zM Un.refl I.hok cov fl.1) fl,q⟩
end
abbrev Qo:List Value:=[.type "ValueError",.type "Exception",.type "BaseException",.type "object"]
structure Own (K:PySem.W.Frag) (mg:Str→Option Value) (x:Str) (C:Addr):Prop where
 mg:mg x=some (.ref C)
 own:PySem.W.excIn K C Qo "ValueError.__new__"=true
 xc:qp K C
theorem Ik {K:PySem.W.Frag} {h:Heap} {C:Addr} {bmB:List Value} {newId:String} (X:K.In h) (q:PySem.W.excIn K C bmB newId=true) :
  ∃ bm N nm qn bs hd sn sub ab col dd k0 k1 k2 k3 k5 mN,h.get? C=some (excClassObj nm qn C N bs bm hd sn sub ab col dd k0 k1 k2 k3 k5 newId)∧h.Ns N mN∧mN "__init__"=none∧OwnTail h bmB bm:=by
 unfold PySem.W.excIn at q
 split at q
 ·next dd cd sl ho =>
  split at q
  ·next C' bm k0 k1 k2 k3 n k5 hm hs =>
   simp only [beq_iff_eq,Bool.and_eq_true,Bool.not_eq_true'] at q
   obtain ⟨⟨⟨⟨⟨rfl,rfl⟩,e3⟩,e4⟩,e5⟩,e6⟩:=q
   cases cd with
   | mk nm bs mro ns qn hd sn sub ab col del =>
    have hm:mro=.ref C' :: bm:=hm
    have e3:del=false:=e3
    subst hm;subst e3
    have hsl:sl=#[k0,k1,k2,k3,some (.builtin n),k5]:=Array.toList_inj.mp hs
    subst hsl
    exact ⟨bm,ns,nm,qn,bs,hd,sn,sub,ab,col,dd,k0,k1,k2,k3,k5,_,X _ _ ho,.of_isNs (PySem.W.isNs_of_in X e5),PySem.W.nsMap_none_of_in X e5 e6,PySem.W.tail_of_in X e4⟩
  ·cases q
 ·cases q
def MR (C:Addr) (E:XK) (t:TA):TS:=fun _ σ H=>t σ H fun vs H1=>vs.length≤sizeLine∧E (.ref C) none H1
def Throws (X:Cx) (E:XK):Prop:=∀ (pins:List (Addr × Obj)) (σ:L2.St) (H:Hp) (s:Shared) (e C:Addr) (args:List Value) (h':Heap),Inv X pins σ H s→Heap.MadeExcOf s.heap h' e (.ref C) args→E (.ref C) none H→X.xe (.ref e) { s with heap:=h' }
theorem DC {X:Cx} {E:XK} {x:Str} {C:Addr} {e:Expr} {es:List Expr} {np cpos pos:Pos} {t:TA} (O:Own X.K X.mg x C) (hc:X.calm=true) (hx:Throws X E) (hg:Gl X x) (ha:PA X (e :: es) t)
  (hd:(x == ("__debug__":Str))=false:=by decide) (he:starEach (e :: es) X.env=(false,eval e X.env) :: starEach es X.env:=by rfl) (hpl:(backTo cpos (starEach es X.env)).any (·.1)=false:=by rfl) :
  PS X (.Raise (some (.Call (.Name x np) (e :: es) [] cpos)) none pos) (MR C E t):=by
 intro pins s σ H D I h
 obtain ⟨bm,N,nm,qn,bs,hd',sn,sub,ab,col,dd,k0,k1,k2,k3,k5,mN,hC,hN,hni,T⟩:=Ik I.mod.kin O.own
 have hplain:(backTo cpos (starEach (e :: es) X.env)).any (·.1)=false:=by
  rw [he]
  show (false || (backTo cpos (starEach es X.env)).any (·.1))=false
  rw [hpl];rfl
 refine wpAny_Raise_call_subT (C:=C) (N:=N) (nm:=nm) (q:=qn) (bs:=bs) (hdct:=hd') (sn:=sn) (sub:=sub) (ab:=ab) (col:=col) (dd:=dd) (k0:=k0) (k1:=k1) (k2:=k2) (k3:=k3) (k5:=k5) PySem.F.excBase_ValueError (T.hasType (by decide +kernel)) (I.ok.hd hc) hplain hni ?_
 refine lQ I hg O.mg ⟨rfl,?_⟩ hd
 have key:=cg (ha cpos pins s σ H _ I h) (Q':=fun us s1=>us.length≤sizeLine∧s1.heap.get? C=some (excClassObj nm qn C N bs bm hd' sn sub ab col dd k0 k1 k2 k3 k5 "ValueError.__new__")∧s1.heap.Ns N mN∧OwnTail s1.heap Qo bm ∧
  ∀ h' e,Heap.MadeExcOf s1.heap h' e (.ref C) us→X.xe (.ref e) { s1 with heap:=h' }) fun us s1 ⟨vs,H1,I1,r,z,q⟩ =>
   ⟨by rw [← r.length];exact z,I1.bk _ _ hC,hN.keeps I1.bk,T.keeps I1.bk,fun h' ea hm=>hx pins σ H1 s1 ea C us h' I1 hm q⟩
 rw [he] at key ⊢
 exact PySem.Calls.evalArgs_plain (cg key fun _ _ z=>⟨rfl,z⟩)
section
variable {P:Program} {w:World} {K:PySem.W.Frag} {mg:Str→Option Value} {base:Heap} {N:List Str} {qual:Str} {scope:Scope} {f:Addr} {cd:Value} {A:Around} {outer:List Env} {s:Shared} {H:Hp} {E:XK}
abbrev y8 (P:Program) (w:World) (K:PySem.W.Frag) (mg:Str→Option Value) (base:Heap) (N:List Str) (qual:Str) (scope:Scope) (f:Addr) (cd:Value) (A:Around) (outer:List Env) (s:Shared) (H:Hp) (E:XK):Cx:=vC (dh P w) P w K mg base N qual scope f cd A outer s H E
theorem c_:Throws (y8 P w K mg base N qual scope f cd A outer s H E) E:=fun pins σ H1 s1 e C args h' I hm q =>
 leave_new (X:=y8 P w K mg base N qual scope f cd A outer s H E) I rfl rfl rfl hm q
theorem zO:Passes (dh P w) (y8 P w K mg base N qual scope f cd A outer s H E) E:=fun pins σ H1 s1 e s' I h =>
 C4 (X:=y8 P w K mg base N qual scope f cd A outer s H E) I rfl rfl rfl h
theorem cx:PassesOwn (model P w) (y8 P w K mg base N qual scope f cd A outer s H E).A (y8 P w K mg base N qual scope f cd A outer s H E).env (y8 P w K mg base N qual scope f cd A outer s H E).xe:=PassesOwn.leaving
theorem S7 {x qual:Str} {st:Stmt} {f:Addr} {fd:FuncData} {N ps:List Str} {k:Nat} {sp:Sp} (F:cA K x qual st f fd) (S:aw N ps (aj st)) (len:∀ vs H Q E,sp vs H Q E→vs.length=ps.length)
  (hbody:∀ (cdv:Value) (A:Around) (outer:List Env) (s:Shared) (H:Hp) (vs:List V) (Q:VK) (E:XK),bU k (A.deeper (envOfC qual (aj st) s.heap.objs.size f cdv))→sp vs H Q E →
   ∃ t,QB (y8 P w K mg base N qual (aj st) f cdv A outer s H E) (bV st) t∧t { nx:=fun _ H'=>Q .non H',rt:=Q } (start N vs) H):aL P w K mg base (dh P w) (k + 1) f fd ps sp:=by
 obtain ⟨oc,od,kV,doc,pm,an,cdv,ct,osl,rfl,lk,hcd⟩:=F.ex
 refine Ex lk hcd S len fun A outer s H vs Q E hr hsp=>?_
 obtain ⟨t,h,q⟩:=hbody cdv A outer s H vs Q E hr hsp
 exact ⟨t,h.run,q⟩
end
def D0 (P:Program) (w:World) (K:PySem.W.Frag) (mg:Str→Option Value) (base:Heap) (k:Nat) (x:Str) (ps:List Str) (sp:Sp):Prop :=
 ∃ f fd,aL P w K mg base (dh P w) k f fd ps sp∧Binds K fd ps []∧PySem.W.keepIn K (.ref f)=true∧mg x=some (.ref f)
theorem Il {X:Cx} {k k':Nat} {x:Str} {ps:List Str} {sp:Sp} {p pos:Pos} {e:Expr} {es:List Expr} {t:TA} {E:XK} (C:D0 X.prog X.w X.K X.mg X.base k x ps sp) (hx:Passes (dh X.prog X.w) X E) (hr:bU k' X.A) (hk:k≤k') (hg:Gl X x) (ha:PA X (e :: es) t)
  (hdb:(x == ("__debug__":Str))=false:=by decide) (he:starEach (e :: es) X.env=(false,eval e X.env) :: starEach es X.env:=by rfl) (hpl:(backTo pos (starEach es X.env)).any (·.1)=false:=by rfl) :
  PE X (.Call (.Name x p) (e :: es) [] pos) (tq sp [] E t):=by
 obtain ⟨f,fd,F,b,kp,m⟩:=C
 exact BI F (hr.mono hk) hg m kp b .nil hx ha hdb he hpl
theorem Def.Qp {P:Program} {w:World} {K:PySem.W.Frag} {mg:Str→Option Value} {base:Heap} {x:Str} {st:Stmt} {k:Nat} {ps:List Str} {sp:Sp} (D:Def K mg x st)
  (h:∀ f fd,cA K x x st f fd→aL P w K mg base (dh P w) k f fd ps sp)
  (hb:∀ (kV doc pm:Value) (an:Option Addr) (cdv ct:Value) (us:List Value),us.length=ps.length→bindArgs (PySem.W.fnOf x x (dz st) (bV st) (aj st) .none kV doc pm an cdv ct) ⟨us,[]⟩=pure (ps.zip us)) :
  D0 P w K mg base k x ps sp:=by
 obtain ⟨f,fd,F,m⟩:=D
 exact ⟨f,fd,h f fd F,F.binds hb,F.kp,m⟩
section
variable {X:Cx} {pins pn:List (Addr × Obj)} {σ:L2.St} {H H':Hp} {s:Shared}
abbrev Lc (X:Cx) (pn:List (Addr × Obj)) (xe:Value→Shared→Prop):Cx:={ X with pn:=pn,xe:=xe }
abbrev M' (X:Cx) (pn:List (Addr × Obj)) (e:Addr):Cx:={ X with A:=X.A.mark (some (.ref e)),calm:=false,pn:=pn,xe:=fun _ _=>False }
theorem Q_ {X:Cx} (ok:X.Ok) (pn:List (Addr × Obj)) (xe:Value→Shared→Prop):(Lc X pn xe).Ok :=
 ⟨ok.mod,ok.kind,ok.glob,ok.blt,ok.above,ok.inj,ok.has,ok.cab,ok.hd,ok.frames,ok.stk,ok.exf,ok.bs,ok.bsz,ok.noex,ok.exfs,ok.mV,ok.frf⟩
theorem Q9 {X:Cx} (ok:X.Ok) (pn:List (Addr × Obj)) (e:Addr):(M' X pn e).Ok :=
 ⟨ok.mod,ok.kind,ok.glob,ok.blt,ok.above,ok.inj,ok.has,ok.cab,(fun z=>nomatch z),ok.frames,ok.stk,ok.exf,ok.bs,ok.bsz,ok.noex,ok.exfs,ok.mV,ok.frf⟩
theorem NT (I:Inv X pins σ H s) (xe:Value→Shared→Prop):Inv (Lc X (X.pn ++ pins) xe) [] σ H s :=
 ⟨Q_ I.ok _ xe,I.os,I.bare,I.base,I.loc,I.cell,I.free,I.freeC,fun p hp=>I.pin p (by simpa using hp),I.hok,I.len⟩
theorem nQ {pins1:List (Addr × Obj)} {xe:Value→Shared→Prop} (ok:X.Ok) (I:Inv (Lc X (X.pn ++ pins) xe) pins1 σ H s):Inv X pins σ H s :=
 ⟨ok,I.os,I.bare,I.base,I.loc,I.cell,I.free,I.freeC,fun p hp=>I.pin p (List.mem_append_left _ hp),I.hok,I.len⟩
theorem JI (I:Inv X pins σ H s) (e:Addr):Inv (M' X (X.pn ++ pins) e) [] σ H s :=
 ⟨Q9 I.ok _ e,I.os,I.bare,I.base,I.loc,I.cell,I.free,I.freeC,fun p hp=>I.pin p (by simpa using hp),I.hok,I.len⟩
theorem qD {pins1:List (Addr × Obj)} {e:Addr} (ok:X.Ok) (I:Inv (M' X (X.pn ++ pins) e) pins1 σ H s):Inv X pins σ H s :=
 ⟨ok,I.os,I.bare,I.base,I.loc,I.cell,I.free,I.freeC,fun p hp=>I.pin p (List.mem_append_left _ hp),I.hok,I.len⟩
theorem oX {M:Model} {A:Around} {E:Value→Shared→Prop} {i:Nat} {n:Str} {pos:Pos} {Q:Unit→Shared→Prop} (I:Inv X pins σ H s) (hN:X.N.Nodup) (hi:X.N[i]?=some n) (hk:X.env.kindOf n=some .local)
  (h:∀ s',Inv X pins (σ.set i none) H s'→Q () s'):wpAny M A (do bindName X.env n .none;unbindBehindTheSuite X.env n pos) Q E s:=by
 obtain ⟨m,hn,hl⟩:=id I.loc
 have hcl:(X.env.scope.kind == .class || (X.env.scope.kind == .module && X.env.locals != X.env.globals))=false:=by rw [I.ok.kind];rfl
 have ne:∀ b o,X.s₀.heap.get? b=some o→b≠X.env.locals:=fun b o e=>Nat.ne_of_lt (Nat.lt_of_lt_of_le (Heap.lt_size e) I.ok.above)
 have hiσ:i < σ.length:=by rw [I.len];exact (List.getElem?_eq_some_iff.mp hi).1
 refine wpAny_nameGoes_keeps hk hn hcl fun h' v hn' hs=>?_
 refine h _ ⟨I.ok,I.os,I.bare,⟨fun b o e n hb hx=>(hs.2 b (ne b o e)).trans (I.base.keep b o e n hb hx),fun b o e n hb hx=>?_,I.base.free,fun b o e hx=>?_,I.base.tups,I.base.frzs,I.base.tbls⟩,
  ⟨_,hn',fun j y v' e1 e2 e3=>?_⟩,fun y c e=>?_,I.free,I.freeC,fun p hp=>?_,fun b ob e=>?_,by simpa using I.len⟩
 ·obtain ⟨sl,e1⟩:=I.base.slot b o e n hb hx
  exact ⟨sl,(hs.2 b (ne b o e)).trans e1⟩
 ·obtain ⟨o',e1⟩:=I.base.there b o e hx
  exact ⟨o',(hs.2 b (ne b o e)).trans e1⟩
 ·by_cases hj:j=i
  ·subst hj
   rw [List.getElem?_set_self hiσ] at e2
   cases e2
  ·rw [List.getElem?_set_ne (Ne.symm hj)] at e2
   obtain ⟨u',r',q⟩:=hl j y v' e1 e2 e3
   refine ⟨u',r',?_⟩
   rcases q with ⟨k,e⟩ | ⟨k,c,e,z⟩
   ·refine .inl ⟨k,?_⟩
    have hy:y≠n:=fun e=>hj (sh hN e1 (e ▸ hi))
    simp [hy,e]
   ·exact .inr ⟨k,c,e,z.sameBut hs (I.Hd y c e)⟩
 ·obtain ⟨w',z⟩:=I.cell y c e
  exact ⟨w',z.sameBut hs (I.Hd y c e)⟩
 ·obtain ⟨e,n,nl,nf,d⟩:=I.pin p hp
  exact ⟨(hs.2 p.1 nl).trans e,n,nl,nf,d⟩
 ·refine (I.hok b ob e).pZ (fun c w' hc q=>(hs.2 c ?_).trans q) (fun _ q=>q) fun _ _ q=>q
  rintro rfl
  rcases hc with z | hc
  ·rw [← z,I.free] at e;cases e
  ·rw [I.free] at hc;cases hc
theorem zW {ea D:Addr} {oe:Obj} {vs:Array Value} (I:Inv X pins σ H s) (he:s.heap.get? ea=some oe) (hc:oe.cls=.ref D) (hd:oe.data=.fields vs) (hn:H ea=none) (h0:X.s₀.heap.get? ea=none) (hp:∀ p∈X.pn ++ pins,p.1≠ea) :
  Inv X pins σ (upd H ea (.ext (ExcAt ea D))) s:=by
 have nl:X.env.locals≠ea:=fun z=>by
  obtain ⟨m,⟨o,es,ep,ho,hd',_⟩,_⟩:=I.loc
  rw [z,he] at ho;cases ho;rw [hd] at hd';cases hd'
 refine ⟨I.ok,I.os,I.bare,⟨I.base.keep,I.base.slot,fun b o e n hx=>?_,I.base.there,fun b xs q=>?_,fun b o xs q=>?_,fun b ps q=>?_⟩,I.loc,I.cell,?_,fun x c e=>?_,fun p hq=>?_,fun b u q=>?_,I.len⟩
 ·rw [aK (fun z=>by rw [z,h0] at e;cases e)]
  exact I.base.free b o e n hx
 ·have:=I.base.tups b xs q
  rw [aK (bE this hn)];exact this
 ·have:=I.base.frzs b o xs q
  rw [aK (bE this hn)];exact this
 ·obtain ⟨m,z⟩:=I.base.tbls b ps q
  exact ⟨m,by rw [aK (bE z hn)];exact z⟩
 ·rw [aK nl];exact I.free
 ·rw [aK]
  ·exact I.freeC x c e
  ·rintro rfl
   obtain ⟨v,o,ho,hd'⟩:=I.cell x c e
   rw [he] at ho;cases ho;rw [hd] at hd';cases hd'
 ·obtain ⟨e,n,r⟩:=I.pin p hq
  exact ⟨e,by rw [aK (hp p hq)];exact n,r⟩
 ·by_cases hb:b=ea
  ·subst hb
   rw [aE] at q;cases q
   exact ⟨⟨oe,he,hc⟩,⟨oe,he⟩,fun h1 h2 ⟨o,a,c⟩ k=>⟨o,k o a,c⟩⟩
  ·rw [aK hb] at q
   exact (I.hok b u q).pZ (fun _ _ _ z=>z) (fun c z=>by rw [aK (bE z hn)];exact z) fun c xs z=>by rw [aK (bE z hn)];exact z
theorem mi.new {ea:Addr} {cls:Value} {s':Shared} (I:Inv X pins σ H s) (F:mi X.prog X.w X.stack H s ea cls H' s'):H' ea=none∧s.heap.get? ea=none:=by
 obtain ⟨B,t,fl,cov⟩:=F.fl
 obtain ⟨oe,vs,he,_,hd,_⟩:=fl.first
 have nf:ea ∉ kB X.stack:=fun hb=>by
  obtain ⟨_,o,ho,hn⟩:=kP I F.un hb
  rw [he] at ho;cases ho
  exact hn vs hd
 have no:¬ (H' ea≠none∨∃ o₀,s.heap.get? ea=some o₀):=fun z=>by
  have:=cov ea oe he z nf
  rw [fl.2.1] at this;cases this
 refine ⟨?_,?_⟩
 ·cases q:H' ea with
  | none=>rfl
  | some u=>exact absurd (.inl (by rw [q];exact fun z=>nomatch z)) no
 ·cases q:s.heap.get? ea with
  | none=>rfl
  | some u=>exact absurd (.inr ⟨u,q⟩) no
def RC (K:PySem.W.Frag) (N:Nat) (CW:Addr) (i:Nat) (tb:XK→TS) (ts:TS):TS:=fun D σ H=>tb (fun cls _ H'=>∃ C,cls=.ref C∧PySem.W.exmOne K (.ref C) (.ref CW)=some true ∧
 ∀ ea,H' ea=none→ts { nx:=fun σ' H2=>D.nx (σ'.set i none) H2,rt:=D.rt,bk:=fun σ' H2=>D.bk (σ'.set i none) H2,ct:=fun σ' H2=>D.ct (σ'.set i none) H2 } ((List.replicate N none).set i (some (.ref ea))) (upd H' ea (.ext (ExcAt ea C)))) D σ H
theorem IA {body suite:List Stmt} {b₀:Stmt} {x n:Str} {i:Nat} {CW:Addr} {tb:XK→TS} {ts:TS} {np hpos pos:Pos} (hst:X.stack=X.env :: X.outer) (hfr:X.env.frame=some X.env.locals) (hex:X.ex=[]) (hg:Gl X x) (hm:X.mg x=some (.ref CW))
  (hN:X.N.Nodup) (hi:X.N[i]?=some n) (hk:X.env.kindOf n=some .local) (hb:∀ pn xe E,Passes (dh X.prog X.w) (Lc X pn xe) E→tE (Lc X pn xe) body (tb E)) (hs:∀ pn ea,tE (M' X pn ea) (b₀ :: suite) ts) (hd:(x == ("__debug__":Str))=false:=by decide) :
  PS X (.Try body [.ExceptHandler (some (.Name x np)) (some n) (b₀ :: suite) hpos] [] [] pos) (RC X.K X.N.length CW i tb ts):=by
 intro pins s σ H D I h
 refine wpAny_Try_except ?_
 refine wpAny_mono (hb (X.pn ++ pins) (fun e s₁=>wpAny (model X.prog X.w) X.A (noteFrame e X.env) (fun _ s₂=>wpAny (model X.prog X.w) X.A (setFlight e none) (fun _ s₃ =>
  wpAny (model X.prog X.w) X.A (handleBy e X.env [.ExceptHandler (some (.Name x np)) (some n) (b₀ :: suite) hpos]) (SP X pins D) X.xe s₃) X.xe s₂) X.xe s₁) _ ?pass [] s σ H D (NT I _) h) (fun f s1 q=>?_) (fun _ _ z=>z)
 case pass =>
  intro pins1 σ1 H1 s1 e s' I1 hf
  obtain ⟨ea,cls,H2,rfl,F,C,rfl,em,k⟩:=hf
  have J1:Inv X pins σ1 H1 s1:=nQ I.ok I1
  have F:mi X.prog X.w X.stack H1 s1 ea (.ref C) H2 s':=F
  obtain ⟨hn,hnew⟩:=mi.new J1 F
  obtain ⟨B,t,fl,on⟩:=mi.on J1 F
  have h0:X.s₀.heap.get? ea=none:=by
   cases q:X.s₀.heap.get? ea with
   | none=>rfl
   | some o =>
    obtain ⟨o',e1⟩:=J1.base.there ea o q (by rw [hex];simp)
    rw [hnew] at e1;cases e1
  refine wpAny_looks_onW (by rw [I.ok.frames,hst]) hfr (hst ▸ fl) fun h4 held4 up4=>?_
  refine wpAny_landsW held4 fun h5 fl5 up5=>?_
  have F5:=on h5 (hst ▸ fl5) (up4.trans up5)
  have J5:Inv X pins σ1 H2 { s' with heap:=h5 }:=J1.Ei F5.os F5.un F5.hok F5.bare (fun b z=>absurd z (by simp))
  have Y5:=JI J5 ea
  refine wpAny_handleBy_cons (codeAny_handlers_test (lQ Y5 hg hm ?_ hd)) (by intro q;cases q)
  obtain ⟨ob,hob,hobc⟩:=fl5.there
  have LT:PySem.W.Looks (model X.prog X.w) h5 (typeOf (.ref ea)) (.ref C):=ExcAt.ty ⟨ob,hob,hobc⟩
  refine (PySem.W.exm_one Y5.mY LT em).here ?_
  refine codeAny_handlers_suite_as ?_
  refine lands_againW fl5 fun h6 fl6 up6=>?_
  have F6:=on h6 (hst ▸ fl6) ((up4.trans up5).trans up6)
  have J6:Inv X pins σ1 H2 { s' with heap:=h6 }:=J1.Ei F6.os F6.un F6.hok F6.bare (fun b z=>absurd z (by simp))
  obtain ⟨oe,vs,hoe,hoec,hoed,_⟩:=fl6.first
  have J7:=zW J6 hoe hoec hoed hn h0 fun p hp z=>by
   have:=(J1.pin p hp).1
   rw [z,hnew] at this;cases this
  have Y7:=JI (J7.weak (σ':=List.replicate X.N.length none) (by rw [List.length_replicate,J7.len]) fun j v z=>by
   rw [List.getElem?_replicate] at z
   split at z <;> cases z) ea
  refine fm (X:=M' X (X.pn ++ pins) ea) Y7 hN hi (Or.inl hk) (v:=.ref ea) rfl (fun s8 I8=>?_) (Or.inr hk)
  refine wpAny_noRaise (cg (hs (X.pn ++ pins) ea [] s8 _ _ _ I8 (k ea hn)) fun f s9 q=>?_)
  cases f with
  | next=>obtain ⟨σ',H',I',q⟩:=q;exact oX (qD I.ok I') hN hi hk fun _ I9=>⟨_,_,I9,q⟩
  | brk=>obtain ⟨σ',H',I',q⟩:=q;exact oX (qD I.ok I') hN hi hk fun _ I9=>⟨_,_,I9,q⟩
  | cont=>obtain ⟨σ',H',I',q⟩:=q;exact oX (qD I.ok I') hN hi hk fun _ I9=>⟨_,_,I9,q⟩
  | ret u=>obtain ⟨v,σ',H',I',r,q⟩:=q;exact oX (qD I.ok I') hN hi hk fun _ I9=>⟨v,_,_,I9,r,q⟩
 ·cases f with
  | next=>obtain ⟨σ',H',I',q⟩:=q;exact wpAny_execs_nil ⟨_,_,nQ I.ok I',q⟩
  | brk=>obtain ⟨σ',H',I',q⟩:=q;exact ⟨_,_,nQ I.ok I',q⟩
  | cont=>obtain ⟨σ',H',I',q⟩:=q;exact ⟨_,_,nQ I.ok I',q⟩
  | ret u=>obtain ⟨v,σ',H',I',r,q⟩:=q;exact ⟨v,_,_,nQ I.ok I',r,q⟩
def NH:V→Option Value
 | .ref a=>some (.ref a)
 | .ty n=>some (.type n)
 | _=>none
def O0 (K:PySem.W.Frag):List V→Hp→VK→Prop:=fun xs H Q=>∃ a D c cv b,xs=[.ref a,c]∧H a=some (.ext (ExcAt a D))∧qp K D∧NH c=some cv∧PySem.W.kitOne K (.ref D) cv=some b∧Q (.bl b) H
theorem cR {X:Cx} {K:PySem.W.Frag} (hK:X.K=K):cD X (.builtin "isinstance") (O0 K):=by
 subst hK
 intro pins s σ H xs us Q I r h
 obtain ⟨a,D,c,cv,b,rfl,ha,xc,rc,e,q⟩:=h
 obtain ⟨u,w',rfl,rx,ry⟩:=vals2 r
 obtain rfl:u=Value.ref a:=rx
 have:w'=cv:=by
  cases c with
  | ref z=>exact (show w'=Value.ref z from ry).trans (Option.some.inj rc)
  | ty z=>exact (show w'=Value.type z from ry).trans (Option.some.inj rc)
  | _=>cases rc
 subst this
 exact PySem.W.kia_one (EW xc) I.mY (I.hok a _ ha).1 e (by intro z;cases z) fun tk=>⟨.bl b,H,I.tok _,rfl,q⟩
end
end Ov
namespace Ov
open PySem PySem.Spec PyProof.Rows
open L2 (V HO Hp Inv Cx St VK TE TT TA TS Ends Loc Gl RelV Vals fT cD tq upd E0 bU XK Passes)
section
variable {X:Cx} {e:Expr} {es:List Expr} {t:TA} {x:Str} {np cpos pos p:Pos}
end
def g_ (i:Nat):Str:=(["BadName","Taken","Full","NoCraft","TooFar","BadMoment","Past","NotThere","NoWatch","NoTale"]:List Str).getD i ""
structure Cz (K:PySem.W.Frag) (mg:Str→Option Value) (W:Addr) (c:Nat→Addr):Prop where
 nV:mg "ValueError"=none
 mW:mg "WaterError"=some (.ref W)
 own:∀ i,i < 10→Own K mg (g_ i) (c i)
 val:∀ i,i < 10→PySem.W.kitOne K (.ref (c i)) (.type "ValueError")=some true
 wat:∀ i,i < 10→PySem.W.exmOne K (.ref (c i)) (.ref W)=some true
 kit:∀ i,i < 10→∀ j,j < 10→PySem.W.kitOne K (.ref (c i)) (.ref (c j))=some (decide (i=j))
open PySem.W in
def GK (K:Frag) (D:Addr):Bool:=(clsIn K D).isSome && findIn K (.ref D) "__getattribute__" == some (some (.builtin "BaseException.__getattribute__")) && findIn K (.ref D) "__getattr__" == some none &&
 findIn K (.ref D) "__class__" == some (some (.builtin "object.__class__")) && specialIn K (.builtin "object.__class__") "__get__" == some (some (.builtin "getset_descriptor.__get__")) && takesIn K (.builtin "object.__class__") == some true &&
 mroIn K D (.type "object") == some true && subIn K (.ref D) (.type "BaseException") == some true
theorem JA {K:PySem.W.Frag} {D:Addr} (h:GK K D=true):qp K D:=by
 simp only [GK,Bool.and_eq_true,beq_iff_eq] at h
 obtain ⟨⟨⟨⟨⟨⟨⟨a,b⟩,c⟩,d⟩,e⟩,f⟩,g⟩,i⟩:=h
 exact ⟨a,b,c,d,e,f,g,i⟩
open PySem.W in
def NN (K:Frag) (W:Addr) (cs:List Addr):Bool:=cs.length == 10 && (List.range 10).all fun i=>excIn K (cs.getD i 0) Qo "ValueError.__new__" && GK K (cs.getD i 0) && kitOne K (.ref (cs.getD i 0)) (.type "ValueError") == some true &&
 exmOne K (.ref (cs.getD i 0)) (.ref W) == some true && (List.range 10).all fun j=>kitOne K (.ref (cs.getD i 0)) (.ref (cs.getD j 0)) == some (decide (i=j))
theorem Hn {K:PySem.W.Frag} {h:Heap} {mg:Str→Option Value} (X:K.In h) (G:h.Ns mainGlobals mg) {W c0 c1 c2 c3 c4 c5 c6 c7 c8 c9:Addr} (v:PySem.W.nsIn K mainGlobals "ValueError"=some none) (w:PySem.W.nsIn K mainGlobals "WaterError"=some (some (.ref W)))
  (a0:PySem.W.nsIn K mainGlobals "BadName"=some (some (.ref c0))) (a1:PySem.W.nsIn K mainGlobals "Taken"=some (some (.ref c1))) (a2:PySem.W.nsIn K mainGlobals "Full"=some (some (.ref c2))) (a3:PySem.W.nsIn K mainGlobals "NoCraft"=some (some (.ref c3)))
  (a4:PySem.W.nsIn K mainGlobals "TooFar"=some (some (.ref c4))) (a5:PySem.W.nsIn K mainGlobals "BadMoment"=some (some (.ref c5))) (a6:PySem.W.nsIn K mainGlobals "Past"=some (some (.ref c6))) (a7:PySem.W.nsIn K mainGlobals "NotThere"=some (some (.ref c7)))
  (a8:PySem.W.nsIn K mainGlobals "NoWatch"=some (some (.ref c8))) (a9:PySem.W.nsIn K mainGlobals "NoTale"=some (some (.ref c9))) (b:NN K W [c0,c1,c2,c3,c4,c5,c6,c7,c8,c9]=true):∃ W c,Cz K mg W c:=by
 have m:∀ i,i < 10→mg (g_ i)=some (.ref ([c0,c1,c2,c3,c4,c5,c6,c7,c8,c9].getD i 0)):=fun i hi=>by
  match i,hi with
  | 0,_=>exact PySem.W.mg_of X G a0
  | 1,_=>exact PySem.W.mg_of X G a1
  | 2,_=>exact PySem.W.mg_of X G a2
  | 3,_=>exact PySem.W.mg_of X G a3
  | 4,_=>exact PySem.W.mg_of X G a4
  | 5,_=>exact PySem.W.mg_of X G a5
  | 6,_=>exact PySem.W.mg_of X G a6
  | 7,_=>exact PySem.W.mg_of X G a7
  | 8,_=>exact PySem.W.mg_of X G a8
  | 9,_=>exact PySem.W.mg_of X G a9
 unfold NN at b
 have b:=(Bool.and_eq_true_iff.mp b).2
 have k:∀ i,i < 10→_:=fun i hi=>List.all_eq_true.mp b i (List.mem_range.mpr hi)
 simp only [Bool.and_eq_true,beq_iff_eq,List.all_eq_true,List.mem_range] at k
 exact ⟨W,fun i=>[c0,c1,c2,c3,c4,c5,c6,c7,c8,c9].getD i 0,PySem.W.mg_none_of X G v,PySem.W.mg_of X G w,fun i hi=>⟨m i hi,(k i hi).1.1.1.1,JA (k i hi).1.1.1.2⟩,fun i hi=>(k i hi).1.1.2,fun i hi=>(k i hi).1.2,fun i hi j hj=>(k i hi).2 j hj⟩
open L2 (y0 DK fo xh AW tC Jl p9)
def vE (i:Nat):List V:=.bl true :: (List.range 10).map fun j=>.bl (decide (i=j))
abbrev tI (K:PySem.W.Frag) (m:Nat) (v:V):TE:=Jl (O0 K) (fo (AW m) (fo (tC v) xh))
theorem lF {K:PySem.W.Frag} {m ea:Nat} {D:Addr} {v:V} {cv:Value} {b:Bool} {σ:L2.St} {H:Hp} {Q:VK} (hσ:σ[m]?=some (some (.ref ea))) (hH:H ea=some (.ext (ExcAt ea D))) (xc:qp K D) (hv:NH v=some cv) (hk:PySem.W.kitOne K (.ref D) cv=some b) (q:Q (.bl b) H) :
  tI K m v σ H Q:=⟨_,hσ,ea,D,v,cv,b,rfl,hH,xc,hv,hk,q⟩
theorem Gr {K:PySem.W.Frag} {mg:Str→Option Value} {W:Addr} {c:Nat→Addr} (Er:Cz K mg W c) {i m n:Nat} {ea:Addr} (hi:i < 10) {σ:L2.St} {H:Hp} {D:Ends} (hσ:σ[m]?=some (some (.ref ea))) (hH:H ea=some (.ext (ExcAt ea (c i))))
  (q:∀ l,H l=none→D.nx (σ.set n (some (.ref l))) (upd H l (.lst (vE i)))) :
  y0 (DK (fo (tI K m (.ty "ValueError")) (fo (tI K m (.ref (c 0))) (fo (tI K m (.ref (c 1))) (fo (tI K m (.ref (c 2))) (fo (tI K m (.ref (c 3))) (fo (tI K m (.ref (c 4))) (fo (tI K m (.ref (c 5))) (fo (tI K m (.ref (c 6))) (fo (tI K m (.ref (c 7)))
   (fo (tI K m (.ref (c 8))) (fo (tI K m (.ref (c 9))) xh)))))))))))) (p9 n) D σ H:=by
 have xc:=(Er.own i hi).xc
 have k:=Er.kit i hi
 refine lF hσ hH xc rfl (Er.val i hi) (lF hσ hH xc rfl (k 0 (by decide)) (lF hσ hH xc rfl (k 1 (by decide)) (lF hσ hH xc rfl (k 2 (by decide)) (lF hσ hH xc rfl (k 3 (by decide)) (lF hσ hH xc rfl (k 4 (by decide))
  (lF hσ hH xc rfl (k 5 (by decide)) (lF hσ hH xc rfl (k 6 (by decide)) (lF hσ hH xc rfl (k 7 (by decide)) (lF hσ hH xc rfl (k 8 (by decide)) (lF hσ hH xc rfl (k 9 (by decide)) ?_))))))))))
 exact ⟨(by show 11≤sizeLine;decide),fun l hl=>q l hl⟩
theorem _root_.L2.bU.aO {k:Nat} {A:Around} (r:bU k A):A.units + 61 < cLine:=by have:=r.un;omega
end Ov
namespace Ov
open PySem PySem.Spec PyProof.Rows L2
def eX (P:Addr) (h:Heap):Prop:=∃ ps:Array Value,h.get? P=some { cls:=.none,data:=.fields ps }∧TriplesOk ps.toList
def uq (K:PySem.W.Frag) (c P:Addr):Prop:=c≠P∧∃ (o:Obj) (vs:Array Value) (file:Str) (tf:Tok) (flags:Int) (tg:Tok) (inF:Bool) (text:Int) (tt:Tok),
 K.lookup c=some o∧o.cls=.type "code"∧o.data=.fields vs∧vs[11]?=some (.ref P)∧vs.getD 18 .none=.str file tf∧vs.getD 7 .none=.int flags tg∧vs.getD 9 .none=.bool inF∧vs.getD 10 .none=.int text tt
def BMain (mg:Str→Option Value) (h:Heap):Prop:=∃ bm ob,mg "__builtins__"=some (.ref bm)∧bm≠builtinsNs∧h.get? bm=some ob∧ob.cls=.type "module"∧ob.dict=some builtinsNs∧ob.data=.plain
theorem uq.at {K:PySem.W.Frag} {h:Heap} {c P:Addr} {ps:Array Value} (Z:uq K c P) (X:K.In h) (hp:h.get? P=some { cls:=.none,data:=.fields ps }) (tr:TriplesOk ps.toList):h.IsCode c P ps∧h.TableAt c P ps:=by
 obtain ⟨ne,o,vs,file,tf,flags,tg,inF,text,tt,lk,hc,hd,h11,h18,h7,h9,h10⟩:=Z
 have e11:vs.getD 11 .none=.ref P:=by
  rw [Array.getD_eq_getD_getElem?,h11];rfl
 exact ⟨⟨o,vs,file,tf,flags,tg,inF,text,tt,_,X _ _ lk,hd,e11,h18,h7,h9,h10,hp,rfl,tr,ne⟩,⟨o,vs,X _ _ lk,hc,hd,h11⟩,hp⟩
section
variable {X:Cx} {pins:List (Addr × Obj)} {σ:L2.St} {H:Hp} {s:Shared} {c P:Addr}
theorem HB {s':Shared} (I:Inv X pins σ H s) (hP:H P=some (.ext (eX P))) (os:s'.os=s.os) (bare:AllBare s'.gens) (k:∀ b o,b≠P→s.heap.get? b=some o→s'.heap.get? b=some o) (t:eX P s'.heap):Inv X pins σ H s':=by
 have nP:∀ b,H b=none→b≠P:=fun b n z=>by rw [z,hP] at n;cases n
 have hok:nq X.prog X.w H s'.heap:=fun b u e=>by
  by_cases hb:b=P
  ·subst hb
   rw [hP] at e;cases e
   obtain ⟨ps,hp,_⟩:=id t
   exact ⟨t,⟨_,hp⟩,((I.hok b _ hP)).2.2⟩
  ·refine (I.hok b u e).pZ (fun d v hd q=>k d v ?_ q) (fun _ q=>q) fun _ _ q=>q
   rcases hd with rfl | hd
   ·exact hb
   ·intro z
    rw [z,hP] at hd;cases hd
 have un:Un (kB X.stack) [] H H s.heap s'.heap:=⟨fun b o e n _ _=>k b o (nP b n) e,fun b o e n _ _=>⟨o.slots,k b o (nP b n) e⟩,fun _ _ _ n _=>n,fun b o e _=>by
  by_cases hb:b=P
  ·subst hb
   obtain ⟨ps,hp,_⟩:=t
   exact ⟨_,hp⟩
  ·exact ⟨o,k b o hb e⟩,fun _ _ q=>q,fun _ _ _ q=>q,fun _ ps q=>⟨#[],by rw [q];simp⟩⟩
 exact I.Ei os un hok bare fun b z=>absurd z (by simp)
theorem ED {M:Model} {A:Around} {E:Value→Shared→Prop} {env:Env} {pos:Pos} {q:Str} {sc:Scope} {Q:Value→Shared→Prop} {s:Shared} (hc:env.code=.ref c) (Z:uq X.K c P) (kin:X.K.In s.heap) (t:eX P s.heap)
  (h:∀ code h' tk,(∀ b o,b≠P→s.heap.get? b=some o→h'.get? b=some o)→s.heap.objs.size≤h'.objs.size→eX P h'→Q code { s with heap:=h',toks:=tk }):wpAny M A (genexprCode env pos q sc) Q E s:=by
 obtain ⟨ps,hp,tr⟩:=t
 obtain ⟨ic,ta⟩:=Z.at kin hp tr
 cases hf:codeAmong pos ps.toList with
 | some c'=>exact wpAny_genexprCode_hit hc ic hf (h c' s.heap s.toks (fun _ _ _ e=>e) (Nat.le_refl _) ⟨ps,hp,tr⟩)
 | none =>
  refine wpAny_genexprCodeX hc ic ta hf fun c' h' tk ext l1 l2 ic' _ ta' _=>h _ h' tk (fun b o nb e=>ext b o nb e) (Nat.le_of_lt (Nat.lt_of_le_of_lt l1 l2)) ⟨_,ta'.2,?_⟩
  obtain ⟨_,_,_,_,_,_,_,_,_,_,_,_,_,_,_,_,_,hop,hpd,tr',_⟩:=ic'
  exact tr'
theorem Ed {α:Type} (B:List α) (q:α→Bool):((List.range B.length).all fun j=>(B[j]?).elim true q)=B.all q:=by
 rw [Bool.eq_iff_iff,List.all_eq_true,List.all_eq_true]
 refine ⟨fun h b hb=>?_,fun h j hj=>?_⟩
 ·obtain ⟨j,hj,rfl⟩:=List.getElem_of_mem hb
  have:=h j (List.mem_range.mpr hj)
  rwa [List.getElem?_eq_getElem hj] at this
 ·have hj:=List.mem_range.mp hj
  rw [List.getElem?_eq_getElem hj]
  exact h _ (List.getElem_mem hj)
def eL (tx:Str) (ch:Nat):Bool:=!(Builtin.Str.occurrences tx ⟨#[ch]⟩ 0 tx.length 1).isEmpty
def Gu (P:Addr) (tx:Str) (ti:TE):TE:=fun σ H Q=>ti σ H fun v H1=>∃ y:Str,v=.str y∧H1 P=some (.ext (eX P))∧Q (.bl (y.cps.toList.all (eL tx))) H1
theorem FU {prog:Program} {w:World} {env:Env} {scope:Scope} {x g:Str} {tx y:Str} {tt:Tok} {C:Addr} {code:Value} {fp wr:List Addr} {href:Heap} {D U:Nat} {p1 p2 p3:Pos} {mg:Str→Option Value} (sck:scope.kind=.function) (hx:scope.names.lookup x=some .local) (hg:scope.names.lookup g=some .globalImplicit)
  (ns:href.Ns env.globals mg) (hm:mg g=some (.str tx tt)) (h1:env.globals∈fp) (h2:env.globals ∉ wr) (hmk:behindInMarks .In (.Name g p2)=false) (hdx:(x == ("__debug__":Str))=false) (hdg:(g == ("__debug__":Str))=false) :
  QuietGenD prog w (genEnv scope [] C code builtinsNs env) x [] (.Compare (.Name x p1) [.In] [.Name g p2] p3) fp wr (SignAt y) (fun _=>true) (fun i v=>∃ ch,y.cps[i]?=some ch∧v=.bool (eL tx ch)) href D U where
 tests:=fun A' E' i v s₂ m₂ _ _ _ _ _ _ _=>wpAny_pure ⟨rfl,_,_,rfl,fun _ _ e=>e⟩
 elt:=fun A' E' i v s₂ m₂ _ _ _ hP _ hn hmx hk=>by
  obtain ⟨ch,u,hch,rfl⟩:=hP
  refine wpAny_Compare1 (wpAny_Name (wpAny_loadName_local (show (genEnv scope [] C code builtinsNs env).scope.kind=.function from sck) (show (genEnv scope [] C code builtinsNs env).kindOf x=some .local from hx) hn hmx ?_) hdx) hmk
  refine Calls.Name_function_global (show (genEnv scope [] C code builtinsNs env).scope.kind=.function from sck) (show (genEnv scope [] C code builtinsNs env).kindOf g=some .globalImplicit from hg) (Calls.loadGlobal_global (ns.at' fun o e=>hk _ h1 h2 o e) hm ?_) hdg
  exact in_str ⟨⟨ch,hch,rfl⟩,_,_,rfl,fun _ _ e=>e⟩
theorem Dz {x g:Str} {p px p1 p2 p3 gpos cpos:Pos} {iter:Expr} {ti:TE} {scope:Scope} {tx:Str} {tt:Tok} (hcalm:X.calm=true) (Bm:BMain X.mg X.base) (hcode:X.env.code=.ref c) (Z:uq X.K c P) (hdep:X.A.depth < recursionLimit)
  (hgl:Gl X "all") (hma:X.mg "all"=none) (hsg:X.mg g=some (.str tx tt)) (hi:PE X iter ti) (sck:scope.kind=.function) (hco:scope.isCoroutine=false) (hclos:closureFor scope X.env=pure []) (hcell:∀ y∈scope.names,y.2≠.cell)
  (h0:scope.names.lookup (".0":Str)=some NameKind.local) (hx:scope.names.lookup x=some .local) (hsc:scope.names.lookup g=some .globalImplicit) (hmk:behindInMarks .In (.Name g p2)=false) (hs:∀ x,genFold iter X.env x=pure x)
  (hst:starEach [.GeneratorExp (.Compare (.Name x p1) [.In] [.Name g p2] p3) [⟨.Name x px,iter,[],0⟩] scope gpos] X.env=[(false,eval (.GeneratorExp (.Compare (.Name x p1) [.In] [.Name g p2] p3) [⟨.Name x px,iter,[],0⟩] scope gpos) X.env)])
  (hdx:(x == ("__debug__":Str))=false) (hdg:(g == ("__debug__":Str))=false) :
  PE X (.Call (.Name "all" p) [.GeneratorExp (.Compare (.Name x p1) [.In] [.Name g p2] p3) [⟨.Name x px,iter,[],0⟩] scope gpos] [] cpos) (Gu P tx ti):=by
 intro pins s σ H Q I h
 refine wpAny_Call_Name_kw (mZ I hgl hma PyProof.Rows.Boot.«all» ?_)
 refine PyProof.Rows.callWith_builtin1 ?_ hst rfl
 rw [hst]
 show wpAny _ _ (spliced ((false,eval (.GeneratorExp (.Compare (.Name x p1) [.In] [.Name g p2] p3) [⟨.Name x px,iter,[],0⟩] scope gpos) X.env) :: [])) _ _ s
 refine Calls.spliced_cons ?_
 refine wpAny_GeneratorExp_walksQD (I.ok.hd hcalm) hco hclos hcell h0 hx sck hdep ?_ hs
 refine cg (hi pins s σ H _ I h) fun xv s1 ⟨v,H1,I1,r1,y,ev,hP,q⟩=>?_
 subst ev
 obtain ⟨ty,rfl⟩:=r1
 have t1:eX P s1.heap:=(I1.hok P _ hP).1
 have ltP:P < s1.heap.objs.size:=I1.hok.lt hP
 refine wpAny_pyIter_str fun o St W st0=>?_
 have k1:∀ b ob,s1.heap.get? b=some ob→(s1.heap.push o).get? b=some ob:=fun b ob e=>Heap.get?_push_of_some _ e
 refine ⟨I1.nolimit.keeps k1,?_⟩
 have t2:eX P (s1.heap.push o):=let ⟨ps,hp,tr⟩:=t1;⟨ps,k1 _ _ hp,tr⟩
 refine ED (X:=X) (s:={ s1 with heap:=s1.heap.push o }) hcode Z (I1.mY.keeps k1) t2 fun code h' tk k sz t'=>?_
 have kk:∀ b ob,b≠P→s1.heap.get? b=some ob→h'.get? b=some ob:=fun b ob nb e=>k b ob nb (k1 b ob e)
 have nsP:∀ (b:Addr) (m:Str→Option Value),s1.heap.Ns b m→b≠P:=fun b m hn z=>by
  obtain ⟨ob,es,ep,ho,hd,_⟩:=hn
  obtain ⟨ps,hp,_⟩:=t1
  rw [z,hp] at ho;cases ho;cases hd
 have nsK:∀ (b:Addr) (m:Str→Option Value),s1.heap.Ns b m→h'.Ns b m:=fun b m hn=>hn.at' fun ob e=>kk b ob (nsP b m hn) e
 have nsG:s1.heap.Ns X.env.globals X.mg:=by rw [I1.ok.glob];exact I1.mod.glob.keeps I1.bk
 have nl:h'.NoLimit:=let ⟨mc,h1,h2⟩:=I1.nolimit;⟨mc,nsK _ _ h1,h2⟩
 have ltC:cStatics < s1.heap.objs.size:=let ⟨mc,h1,_⟩:=I1.nolimit;h1.lt
 have szI:s1.heap.objs.size < h'.objs.size:=Nat.lt_of_lt_of_le (by rw [Heap.size_push];exact Nat.lt_succ_self _) sz
 obtain ⟨bm,ob,b1,b2,b3,b4,b5,b6⟩:=Bm
 have b3':=I1.bk _ _ b3
 have nbm:bm≠P:=fun z=>by
  obtain ⟨ps,hp,_⟩:=t1
  rw [z,hp] at b3'
  rw [← Option.some.inj b3'] at b6;cases b6
 refine wpAny_builtinsFor (nsK _ _ nsG) b1 b2 (kk _ _ nbm b3') b4 b5 b6 ?_
 refine ⟨s1.heap.objs.size,[s1.heap.objs.size],[s1.heap.objs.size],y.cps.size,SignAt y,St,fun _=>true,fun i v=>∃ ch,y.cps[i]?=some ch∧v=.bool (eL tx ch),rfl,W,
  (W X.A (I.ok.hd hcalm)).frame _ _ _ st0 fun b hb o' e=>k b o' (by rw [List.mem_singleton.mp hb];exact Nat.ne_of_gt ltP) e,fun b hb=>by rw [List.mem_singleton.mp hb];exact szI,nl,
  fun hb=>Nat.ne_of_lt ltC (List.mem_singleton.mp hb),fun href kh=>FU sck hx hsc ((nsK _ _ nsG).keeps kh) hsg (List.mem_range.mpr (nsK _ _ nsG).lt) (fun hb=>Nat.ne_of_lt nsG.lt (List.mem_singleton.mp hb)) hmk hdx hdg,fun a h5 tk5 gs hgs ltA szA k5 WS G=>?_⟩
 refine Calls.spliced_nil ?_
 have pall:passing (fun _=>true) y.cps.size 0=List.range y.cps.size:=by simp [passing]
 have WS:=WS.in4_1
 refine call_all_walkS (WS.self 0 _ _ _ G ⟨a,_,_,_,_,_,_,(fun j=>(y.cps.toList[j]?).elim true (eL tx)),rfl,WS,G,fun j v s Q E hv hQ=>?_,fun s' hm=>?_⟩)
 ·obtain ⟨i,hi,ch,hch,rfl⟩:=hv
  rw [pall] at hi
  have hji:i=j:=by
   obtain ⟨hj,e⟩:=List.getElem?_eq_some_iff.mp hi
   simpa using e.symm
  subst hji
  have e:y.cps.toList[i]?=some ch:=by simpa using hch
  simp only [e,Option.elim] at hQ
  exact wpAny_truthy_bool hQ
 ·have nwr:∀ b,b < s1.heap.objs.size→b ∉ h'.objs.size :: [s1.heap.objs.size]:=fun b hb hm=>by
   rcases List.mem_cons.mp hm with z | z
   ·omega
   ·have:=List.mem_singleton.mp z
    omega
  refine ⟨.bl _,H1,HB I1 hP hm.os ((I1.bare.push hgs).movedS hm) (fun b o' nb e=>hm.heap b o' (nwr b (Heap.lt_size e)) (k5 b o' (kk b o' nb e))) ?_,rfl,?_⟩
  ·obtain ⟨ps,hp,tr⟩:=t'
   exact ⟨ps,hm.heap P _ (nwr P ltP) (k5 P _ hp),tr⟩
  ·rw [pall]
   have e:y.cps.size=y.cps.toList.length:=by simp
   have z:=Ed y.cps.toList (eL tx)
   rw [List.length_range,e,z]
   exact q
end
section
variable {X:Cx} {c P:Addr}
theorem Fz {x g:Str} {p px p1 p2 p3 gpos cpos:Pos} {iter:Expr} {ti:TE} {scope:Scope} {tx:Str} {tt:Tok} {k:Nat} (hcalm:X.calm=true) (Bm:BMain X.mg X.base) (hcode:X.env.code=.ref c) (Z:uq X.K c P) (hr:bU k X.A)
  (hgl:Gl X "all") (hma:X.mg "all"=none) (hsg:X.mg g=some (.str tx tt)) (hi:QE X iter ti) (sck:scope.kind=.function:=by rfl) (hco:scope.isCoroutine=false:=by rfl) (hclos:closureFor scope X.env=pure []:=by rfl) (hcell:∀ y∈scope.names,y.2≠.cell:=by decide)
  (h0:scope.names.lookup (".0":Str)=some NameKind.local:=by rfl) (hx:scope.names.lookup x=some .local:=by rfl) (hsc:scope.names.lookup g=some .globalImplicit:=by rfl) (hmk:behindInMarks .In (.Name g p2)=false:=by with_unfolding_all rfl) (hs:∀ x,genFold iter X.env x=pure x:=by intro _;rfl)
  (hst:starEach [.GeneratorExp (.Compare (.Name x p1) [.In] [.Name g p2] p3) [⟨.Name x px,iter,[],0⟩] scope gpos] X.env=[(false,eval (.GeneratorExp (.Compare (.Name x p1) [.In] [.Name g p2] p3) [⟨.Name x px,iter,[],0⟩] scope gpos) X.env)]:=by rfl)
  (hdx:(x == ("__debug__":Str))=false:=by decide) (hdg:(g == ("__debug__":Str))=false:=by decide) :
  QE X (.Call (.Name "all" p) [.GeneratorExp (.Compare (.Name x p1) [.In] [.Name g p2] p3) [⟨.Name x px,iter,[],0⟩] scope gpos] [] cpos) (Gu P tx ti) :=
 ⟨Dz hcalm Bm hcode Z (by have:=hr.dp;omega) hgl hma hsg hi.run sck hco hclos hcell h0 hx hsc hmk hs hst hdx hdg⟩
end
structure GX (K:PySem.W.Frag) (mg:Str→Option Value) (x:Str) (st:Stmt) (P:Addr) (f:Addr) (fd:FuncData) (c:Addr):Prop where
 fn:cA K x x st f fd
 mg:mg x=some (.ref f)
 code:fd.code=.ref c
 tab:uq K c P
 out:K.lookup P=none
def zr (K:PySem.W.Frag) (mg:Str→Option Value) (x:Str) (st:Stmt) (P:Addr):Prop:=∃ f fd c,GX K mg x st P f fd c
section
variable {P:Program} {w:World} {K:PySem.W.Frag} {mg:Str→Option Value} {base:Heap}
theorem S5 {x:Str} {st:Stmt} {T f c:Addr} {fd:FuncData} {N ps:List Str} {k:Nat} {sp:Sp} (F:GX K mg x st T f fd c) (S:aw N ps (aj st)) (len:∀ vs H Q E,sp vs H Q E→vs.length=ps.length)
  (hbody:∀ (A:Around) (outer:List Env) (s:Shared) (H:Hp) (vs:List V) (Q:VK) (E:XK),bU k (A.deeper (envOfC x (aj st) s.heap.objs.size f (.ref c)))→sp vs H Q E →
   ∃ t,QB (vC ra P w K mg base N x (aj st) f (.ref c) A outer s H E).LQ (bV st) t∧t { nx:=fun _ H'=>Q .non H',rt:=Q } (start N vs) H):aL P w K mg base ra (k + 1) f fd ps sp:=by
 obtain ⟨oc,od,kV,doc,pm,an,cdv,ct,osl,rfl,lk,hcd⟩:=F.fn.ex
 obtain rfl:cdv=.ref c:=F.code
 refine Ex lk hcd S len fun A outer s H vs Q E hr hsp=>?_
 obtain ⟨t,h,q⟩:=hbody A outer s H vs Q E hr hsp
 exact ⟨t,h.run.LQ,q⟩
theorem zr.Ej {x:Str} {st:Stmt} {T:Addr} {k:Nat} {ps:List Str} {sp:Sp} (D:zr K mg x st T)
  (h:∀ f fd c,GX K mg x st T f fd c→aL P w K mg base ra k f fd ps sp)
  (hb:∀ (kV doc pm:Value) (an:Option Addr) (cdv ct:Value) (us:List Value),us.length=ps.length→bindArgs (PySem.W.fnOf x x (dz st) (bV st) (aj st) .none kV doc pm an cdv ct) ⟨us,[]⟩=pure (ps.zip us)) :
  tD P w K mg base k x ps sp:=by
 obtain ⟨f,fd,c,F⟩:=D
 exact ⟨f,fd,h f fd c F,F.fn.binds hb,F.fn.kp,F.mg⟩
end
def codeB (vs:Array Value):Bool:=(match vs.getD 18 .none with | .str _ _=>true | _=>false) && (match vs.getD 7 .none with | .int _ _=>true | _=>false) && (match vs.getD 9 .none with | .bool _=>true | _=>false) && (match vs.getD 10 .none with | .int _ _=>true | _=>false)
theorem Hf {K:PySem.W.Frag} {h:Heap} {mg:Str→Option Value} {x:Str} {st:Stmt} (X:K.In h) (G:h.Ns mainGlobals mg) {f c T:Addr} {od an od':Option Addr} {sl sl':Array (Option Value)} {vs:Array Value} {oc kV dc pm ct:Value}
  (a:PySem.W.nsIn K mainGlobals x=some (some (.ref f))) (l:K.lookup f=some ⟨oc,od,.func (PySem.W.fnOf x x (dz st) (bV st) (aj st) .none kV dc pm an (.ref c) ct),sl⟩) (cc:PySem.W.codeIn K (.ref c) x=true) (k:PySem.W.keepIn K (.ref f)=true)
  (t:K.lookup c=some ⟨.type "code",od',.fields vs,sl'⟩) (p:vs[11]?=some (.ref T)) (b:codeB vs=true) (ne:c≠T) (out:K.lookup T=none):zr K mg x st T:=by
 refine ⟨f,_,c,zT l cc k,PySem.W.mg_of X G a,rfl,⟨ne,?_⟩,out⟩
 simp only [codeB,Bool.and_eq_true] at b
 obtain ⟨⟨⟨b1,b2⟩,b3⟩,b4⟩:=b
 cases e1:vs.getD 18 .none with
 | str file tf =>
  cases e2:vs.getD 7 .none with
  | int fl tg =>
   cases e3:vs.getD 9 .none with
   | bool inF =>
    cases e4:vs.getD 10 .none with
    | int text tt=>exact ⟨_,vs,file,tf,fl,tg,inF,text,tt,t,rfl,rfl,p,e1,e2,e3,e4⟩
    | _=>rw [e4] at b4;cases b4
   | _=>rw [e3] at b3;cases b3
  | _=>rw [e2] at b2;cases b2
 | _=>rw [e1] at b1;cases b1
def Nv (K:PySem.W.Frag) (mg:Str→Option Value) (names:List Str) (T:Addr):Prop:=∃ x∈names,∃ st,zr K mg x st T
theorem C2 {P:Program} {w:World} {K:PySem.W.Frag} {mg mb:Str→Option Value} {k:Nat} {fa a:Addr} {fd:FuncData} {x:Str} {sp:Sp} {s₁:Shared} {vs:List Value} {ns:List Int} {tabs:List Addr}
  (KX:K.In s₁.heap) (hns:s₁.heap.Ns mainGlobals mg) (hb:s₁.heap.Ns builtinsNs mb) (hbb:∀ x:Str,x≠"__name__"→mb x=bootBuiltins x) (hlim:s₁.heap.NoLimit) (hg:s₁.gens=#[])
  (ha:s₁.heap.get? a=some { cls:=.type "list",data:=.seq vs.toArray }) (hi:IntsAre vs ns) (hl:ns.length≤sizeLine) (hr:bU k callerA) (hbm:BMain mg s₁.heap)
  (htab:∀ T∈tabs,isCodeTable s₁.heap T∧s₁.heap.get? T=some { cls:=.none,data:=.fields #[] }∧K.lookup T=none)
  (F:∀ base:Heap,K.In base→base.Ns mainGlobals mg→BMain mg base→aL P w K mg base ra k fa fd [x] sp) (hbind:∀ (s:Shared) (u:Value),BindsTo s fd ⟨[u],[]⟩ [(x,u)])
  (hsp:∀ H:Hp,(∀ T∈tabs,H T=some (.ext (eX T)))→di K H a (ns.map V.int)→(∀ b,H b≠none→b=a∨b∈tabs)→(∀ u,H a=some u→∃ o xs,u=.rQ o (.lst xs))→sp [.ref a] H (fun v H'=>v=.bl true∧bF H H') fun _ _ _=>False) :
  codeAny (model P w) callerA (.call (.ref fa) ⟨[.ref a],[]⟩) (fun r s'=>r=.ok (.ret (.bool true))∧OldK s₁.heap s'.heap∧s'.os=s₁.os∧AllBare s'.gens) s₁:=by
 have rv:=uY hi
 have lenV:=hi.length
 have naT:∀ T∈tabs,T≠a:=fun T hT z=>by
  have:=(htab T hT).2.1
  rw [z,ha] at this
  have h1:=congrArg Obj.cls (Option.some.inj this)
  cases h1
 have core:∀ H:Hp,(∀ T∈tabs,H T=some (.ext (eX T)))→di K H a (ns.map V.int)→nq P w H s₁.heap→(∀ b,H b≠none→b=a∨b∈tabs)→(∀ u,H a=some u→K.lookup a=none∧∃ o xs,u=.rQ o (.lst xs)) →
   codeAny (model P w) callerA (.call (.ref fa) ⟨[.ref a],[]⟩) (fun r s'=>r=.ok (.ret (.bool true))∧OldK s₁.heap s'.heap∧s'.os=s₁.os∧AllBare s'.gens) s₁:=by
  intro H hT hS hok hA hK
  have base_of:∀ {b:Addr} {o:Obj},s₁.heap.get? b=some o→H b=none→(tR s₁.heap H).get? b=some o:=fun e n=>EG e n
  have no:∀ {b:Addr} {o:Obj},s₁.heap.get? b=some o→(∀ xs n,o.data≠.seq xs n)→(∀ xs,o.data≠.fields xs)→H b=none:=fun {b o} e d1 d2=>by
   cases q:H b with
   | none=>rfl
   | some u =>
    rcases hA b (by rw [q];simp) with rfl | hb
    ·rw [ha] at e;cases e;exact absurd rfl (d1 _ _)
    ·rw [(htab b hb).2.1] at e;cases e;exact absurd rfl (d2 _)
  have nsK:∀ {b:Addr} {m:Str→Option Value},s₁.heap.Ns b m→(tR s₁.heap H).Ns b m:=fun {b m} ⟨o,es,ep,e,d,r⟩=>⟨o,es,ep,base_of e (no e (fun _ _ z=>by rw [d] at z;cases z) fun _ z=>by rw [d] at z;cases z),d,r⟩
  have hKb:K.In (tR s₁.heap H):=fun b o e=>base_of (KX b o e) (by
   cases q:H b with
   | none=>rfl
   | some u =>
    rcases hA b (by rw [q];simp) with rfl | hb
    ·have:=(hK u q).1
     exact absurd (this.symm.trans e) (fun z=>nomatch z)
    ·have:=(htab b hb).2.2
     exact absurd (this.symm.trans e) (fun z=>nomatch z))
  have hM:Mod K mg (tR s₁.heap H):=⟨hKb,nsK hns,⟨mb,nsK hb,hbb⟩,let ⟨mc,h1,h2⟩:=hlim;⟨mc,nsK h1,h2⟩⟩
  have hbm':BMain mg (tR s₁.heap H):=by
   obtain ⟨bm,ob,b1,b2,b3,b4,b5,b6⟩:=hbm
   exact ⟨bm,ob,b1,b2,base_of b3 (no b3 (fun _ _ z=>by rw [b6] at z;cases z) fun _ z=>by rw [b6] at z;cases z),b4,b5,b6⟩
  have e0:zt P w K mg (tR s₁.heap H) callerA [] s₁ H:=⟨rfl,hM,fun b o e=>HX e,Nat.le_of_eq (CV _ _),trivial,fun b hb=>absurd (show b∈([]:List Addr) from hb) (by simp),hok,.of_eq hg⟩
  refine codeAny_mono ((F _ hKb (nsK hns) hbm').run callerA [] s₁ H ⟨[.ref a],[]⟩ [.ref a] [.ref a] _ _ hr e0 (hbind s₁ (.ref a)) (.cons rfl .nil) (hsp H hT hS hA fun u z=>(hK u z).2)) fun r s' h=>?_
  cases r with
  | error e=>exact False.elim h
  | ok fl =>
   cases fl with
   | next=>exact False.elim h
   | brk=>exact False.elim h
   | cont=>exact False.elim h
   | ret u =>
    obtain ⟨v,H',os,bare,un,hok',r',rfl,same⟩:=h
    obtain rfl:u=Value.bool true:=r'
    refine ⟨rfl,⟨fun b o e=>?_,fun b o e=>?_⟩,os,bare⟩
    ·cases q:H b with
     | none=>exact .inl (un.keep b o e q (by intro z;exact absurd (show b∈([]:List Addr) from z) (by simp)) (by simp))
     | some u =>
      have q':=same b u q
      rcases hA b (by rw [q];simp) with rfl | hb'
      ·obtain ⟨_,ob,xs,rfl⟩:=hK u q
       obtain ⟨e1,_⟩:=hok _ _ q
       obtain ⟨e2,_⟩:=hok' _ _ q'
       rw [e] at e1;cases e1
       exact .inl e2
      ·have hz:=hT b hb'
       rw [q] at hz;cases hz
       obtain ⟨⟨ps,hp,_⟩,_⟩:=hok' _ _ q'
       obtain ⟨t1,t2,_⟩:=htab b hb'
       rw [t2] at e;cases e
       exact .inr (.inl ⟨t1,rfl,#[],ps,rfl,by rw [hp];simp⟩)
    ·exact un.there b o e (by simp)
 have hTt:∀ T∈tabs,∀ H:Hp,dy P w H s₁.heap T (.ext (eX T)):=fun T hT H=>by
  have:=(htab T hT).2.1
  exact ⟨⟨#[],this,trivial⟩,⟨_,this⟩,fun h1 h2 ⟨ps,hp,tr⟩ kk=>⟨ps,kk _ hp,tr⟩⟩
 cases hk:K.lookup a with
 | some o =>
  have e:=KX a o hk
  rw [ha] at e
  cases e
  refine core (fun b=>if b∈tabs then some (.ext (eX b)) else none) (fun T hT=>if_pos hT) (.inr ⟨_,vs.toArray,_,hk,rfl,rfl,rfl,by rw [List.size_toArray,lenV];exact hl,by simpa using rv⟩) (fun b u z=>?_) (fun b z=>?_) fun u z=>?_
  ·by_cases hb:b∈tabs
   ·have z':=(if_pos hb).symm.trans z
    cases z'
    exact hTt b hb _
   ·have z':=(if_neg hb).symm.trans z
    cases z'
  ·by_cases hb:b∈tabs
   ·exact .inr hb
   ·exact absurd (if_neg hb) z
  ·have hb:a ∉ tabs:=fun hb=>naT a hb rfl
   have z':=(if_neg hb).symm.trans z
   cases z'
 | none =>
  refine core (fun b=>if b=a then some (.rQ { cls:=.type "list",data:=.seq vs.toArray } (.lst (ns.map V.int))) else if b∈tabs then some (.ext (eX b)) else none) (fun T hT=>?_) (.inl (.inr ⟨{ cls:=.type "list",data:=.seq vs.toArray },if_pos rfl⟩)) (fun b u z=>?_) (fun b z=>?_) fun u z=>?_
  ·show (if T=a then _ else _)=_
   rw [if_neg (naT T hT),if_pos hT]
  ·by_cases hb:b=a
   ·have z':=(if_pos hb).symm.trans z
    cases z'
    subst hb
    exact ⟨ha,by rw [List.length_map];exact hl,vs,_,rv,ha⟩
   ·have z:=(if_neg hb).symm.trans z
    by_cases hb:b∈tabs
    ·have z':=(if_pos hb).symm.trans z
     cases z'
     exact hTt b hb _
    ·have z':=(if_neg hb).symm.trans z
     cases z'
  ·by_cases hb:b=a
   ·exact .inl hb
   ·by_cases hb':b∈tabs
    ·exact .inr hb'
    ·exact absurd ((if_neg hb).trans (if_neg hb')) z
  ·have z':=(if_pos rfl).symm.trans z
   cases z'
   exact ⟨hk,_,_,rfl⟩
theorem MS {p:Program} {loose:List Str} {mean:ExcName→Option Value} {mg mb:Str→Option Value} {h:Heap} {K:PySem.W.Frag} {x:Str} {st:Stmt} {T:Addr} (Tp:Top p loose mean mg mb h) (KX:K.In h) (hx:∃ d∈recsOf p,d.name=x) (D:zr K mg x st T) :
  isCodeTable h T∧h.get? T=some { cls:=.none,data:=.fields #[] }∧K.lookup T=none:=by
 obtain ⟨f,fd,c,F⟩:=D
 obtain ⟨d,hd,rfl⟩:=hx
 obtain ⟨a',o',fd',c',P',h1,h2,h3,h4,h5,h6⟩:=Tp.tab d hd
 rw [F.mg] at h1;cases h1
 obtain ⟨oc,od,kV,doc,pm,an,cdv,ct,osl,rfl,lk,_⟩:=F.fn.ex
 have:=KX _ _ lk
 rw [h2] at this;cases this
 have e3:fd'=_:=(Data.func.inj h3).symm
 subst e3
 have e4:=F.code.symm.trans h4
 cases e4
 obtain ⟨_,oo,vs,_,_,_,_,_,_,_,lk',_,hd',h11,_⟩:=F.tab
 obtain ⟨⟨o2,vs2,g1,g2,g3,g4⟩,g5⟩:=id h6
 rw [KX _ _ lk'] at g1;cases g1
 rw [hd'] at g3;cases g3
 rw [h11] at g4;cases g4
 exact ⟨h6.isCodeTable,g5,F.out⟩
theorem GG {l:PySem.W.OpenLaw} {n k:Nat} {q:Program} {loose:List Str} {XP:(Str→Option Value)→Heap→Prop} {YP:World→Heap→Prop} {d:DefRec} {K:Params→PySem.W.Frag} {sp:List Addr→PySem.W.Frag→Sp} {x:Str} (names:List Str)
  (hn:l.most=some n) (hn2:n≤sizeLine) (hdf:d.params.defaults=[]) (hr:bU k callerA) (hY:∀ (w:World) (h:Heap),YP w h→(K w.params).In h) (hnm:∀ x∈names,∃ d∈recsOf q,d.name=x)
  (F:∀ (w:World) (mg:Str→Option Value) (fa:Addr) (h:Heap),(K w.params).In h→h.Ns mainGlobals mg→mg d.name=some (.ref fa) →
   ∃ (fd:FuncData) (tabs:List Addr),(∀ (s:Shared) (u:Value),BindsTo s fd ⟨[u],[]⟩ [(x,u)])∧(∀ T∈tabs,Nv (K w.params) mg names T) ∧
    ∀ base:Heap,(K w.params).In base→base.Ns mainGlobals mg→BMain mg base→aL l.prog w (K w.params) mg base ra k fa fd [x] (sp tabs (K w.params)))
  (hsp:∀ (tabs:List Addr) (K:PySem.W.Frag) (H:Hp) (a:Addr) (ns:List Int),ns.length≤n→(∀ T∈tabs,H T=some (.ext (eX T)))→di K H a (ns.map V.int)→(∀ b,H b≠none→b=a∨b∈tabs)→(∀ u,H a=some u→∃ o xs,u=.rQ o (.lst xs))→sp tabs K [.ref a] H (fun v H'=>v=.bl true∧bF H H') fun _ _ _=>False) :
  PySem.W.WalkO q loose XP YP l.row.toRowW d [] (fun f vs=>PySem.call f vs):=by
 refine Att.xD hn hdf fun w s₀ s₁ mg mb fa o pm cd doc a vs ns G Y ho hd hcd hmg hobj hints hlen hg=>?_
 have KX:=hY w _ Y
 obtain ⟨fd,tabs,hb,ht,hF⟩:=F w mg fa _ KX G.T.g hmg
 refine C2 KX G.T.g G.T.b G.T.builtins G.T.nolimit hg hobj hints (Nat.le_trans hlen hn2) hr G.T.bmain (fun T hT=>?_) hF hb (fun H hT hS hA hK=>hsp tabs _ H a ns hlen hT hS hA hK)
 obtain ⟨x,hx,st,D⟩:=ht T hT
 exact MS G.T KX (hnm x hx) D
def EN (s:Str):Value→Bool
 | .str y _=>y == s
 | _=>false
def EL (i:Int):Value→Bool
 | .int j _=>j == i
 | _=>false
theorem CJ {K:PySem.W.Frag} {h:Heap} {mg:Str→Option Value} {x s:Str} {u:Value} (X:K.In h) (G:h.Ns mainGlobals mg) (e:PySem.W.nsIn K mainGlobals x=some (some u)) (hu:EN s u=true):∃ t,mg x=some (.str s t):=by
 cases u with
 | str y t =>
  have:y=s:=by simpa [EN] using hu
  subst this
  exact ⟨t,PySem.W.mg_of X G e⟩
 | _=>cases hu
theorem const_int {K:PySem.W.Frag} {h:Heap} {mg:Str→Option Value} {x:Str} {i:Int} {u:Value} (X:K.In h) (G:h.Ns mainGlobals mg) (e:PySem.W.nsIn K mainGlobals x=some (some u)) (hu:EL i u=true):∃ t,mg x=some (.int i t):=by
 cases u with
 | int y t =>
  have:y=i:=by simpa [EL] using hu
  subst this
  exact ⟨t,PySem.W.mg_of X G e⟩
 | _=>cases hu
section
variable {X:Cx} {tg:Expr}
end
section
variable {prog:Program} {w:World} {A:Around} {R:Result→Shared→Prop} {s:Shared}
theorem Ab {elt iter cnd:Expr} {x:Str} {px:Pos} {sc:Scope} {pos:Pos} {it acc:Value} {env:Env} (I:Nat→Shared→Prop)
  (turn:∀ n s,I n s→wpAny (model prog w) A (pyNext it) (fun r s₁=>match r with
   | none=>R (.ok .next) s₁
   | some v=>wpAny (model prog w) A (letOwnedTupleGo (.Name x px) it v) (fun _ s₂=>wpAny (model prog w) A (assign (.Name x px) env v) (fun _ s₃=>wpAny (model prog w) A (isTrue cnd env (eval cnd env)) (fun ok s₃=>if ok=true then wpAny (model prog w) A (eval elt env) (fun y s₄ =>
     wpAny (model prog w) A (call (.builtin "list.append") [acc,y]) (fun _ s₅=>∃ m,m < n∧I m s₅) (fun _ _=>False) s₄) (fun _ _=>False) s₃ else ∃ m,m < n∧I m s₃) (fun _ _=>False) s₃) (fun _ _=>False) s₂) (fun _ _=>False) s₁) (fun _ _=>False) s)
  (n:Nat) (h:I n s):codeAny (model prog w) A (.compLoop (.ListComp elt [⟨.Name x px,iter,[cnd],0⟩] sc pos) 0 it acc env) R s:=by
 refine codeAny_loop rfl I (fun n s hI=>?_) n h
 show wpAny _ _ ((compTurn (.ListComp elt [⟨.Name x px,iter,[cnd],0⟩] sc pos) 0 it acc env).onRaise (fun x=>do noteFrame x env;theTreesLotGoes x)) _ _ s
 refine wpAny_noted ?_
 rw [compTurn_list]
 have no:∀ (e:Value) (s':Shared),False→notedBy (model prog w) A env (fun e s'=>R (.error e) s') e s':=fun _ _ z=>z.elim
 refine wpAny_bind (wpAny_standAt (wpAny_bind (wpAny_mono (turn n s hI) (fun r s₁ h₁=>?_) no)))
 cases r with
 | none=>exact wpAny_pure h₁
 | some v =>
  refine wpAny_bind (wpAny_mono h₁ (fun _ s₂ h₂=>?_) no)
  refine wpAny_bind (wpAny_mono h₂ (fun _ s₃ h₃=>wpAny_bind (wpAny_mono (wpAny_tests_one h₃) (fun ok s₃' h₃'=>?_) no)) no)
  cases ok with
  | false=>exact wpAny_pure ⟨rfl,h₃'⟩
  | true =>
   exact wpAny_bind (wpAny_bind (wpAny_mono h₃' (fun y s₄ h₄=>wpAny_bind (wpAny_mono h₄ (fun _ s₅ h₅=>wpAny_pure (wpAny_pure ⟨rfl,h₅⟩)) no)) no))
end
def MP (wi:TI) (ks:List (Str × Nat)) (tc:TT) (te:TE):TE:=fun σ H Q=>wi σ H fun J H1=>∀ D,H1 D=none→∃ W:Nat→Nat→Hp→Prop,(∃ m,W 0 m (upd H1 D (.lst []))) ∧
 ∀ i m H2,W i m H2→(J.stop i H2∧Q (.ref D) H2)∨(J.go i H2∧∀ v H3,J.yld i H2 v H3→tc (some v :: dI ks σ) H3 fun b H4=>if b=true then te (some v :: dI ks σ) H4 fun y H5=>∃ ys,H5 D=some (.lst ys)∧ys.length < sizeLine∧∃ m',m' < m∧W (i + 1) m' (upd H5 D (.lst (ys ++ [y]))) else ∃ m',m' < m∧W (i + 1) m' H4)
section
variable {X:Cx}
theorem DE {elt iter cnd:Expr} {x:Str} {px:Pos} {sc:Scope} {pos:Pos} {te:TE} {tc:TT} {ks:List (Str × Nat)} {cl:List (Str × Addr)} {pins:List (Addr × Obj)} {σ:L2.St} {H:Hp} {s:Shared} {it:Addr} {fp:List Addr} {tn:Nat→Heap→Prop} {J:It} {Q:VK}
  {RR:Value→Addr→Result→Shared→Prop} {E:Value→Shared→Prop}
  (hc:X.calm=true) (ok:cQ sc X.env.scope X.N x ks) (h1:∀ y c,cl.lookup y=some c→X.env.cells.lookup y=some c) (h2:∀ y∈sc.names,y.2=.free→∃ c,cl.lookup y.1=some c)
  (he:∀ cl C s₀ H₀ fp pins,PE (fv X sc cl C x ks s₀ H₀ fp pins) elt te) (hcn:∀ cl C s₀ H₀ fp pins,PT (fv X sc cl C x ks s₀ H₀ fp pins) cnd tc)
  (I:Inv X pins σ H s) (T:Turn X.prog X.w X.K (.Name x px) J fp it tn) (st:tn 0 s.heap) (f:∀ b∈fp,jy X pins H b)
  (hw:∀ D,H D=none→∃ W:Nat→Nat→Hp→Prop,(∃ m,W 0 m (upd H D (.lst [])))∧∀ i m H2,W i m H2→(J.stop i H2∧Q (.ref D) H2) ∨
   (J.go i H2∧∀ v H3,J.yld i H2 v H3→tc (some v :: dI ks σ) H3 fun b H4=>if b=true then te (some v :: dI ks σ) H4 fun y H5=>∃ ys,H5 D=some (.lst ys)∧ys.length < sizeLine∧∃ m',m' < m∧W (i + 1) m' (upd H5 D (.lst (ys ++ [y]))) else ∃ m',m' < m∧W (i + 1) m' H4))
  (hR:∀ (D C:Addr) (s':Shared) (H':Hp) (m:Str→Option Value),Inv X pins σ H' s'→Q (.ref D) H'→s'.heap.Ns C m→H' C=none→C≠X.env.locals→X.s₀.heap.objs.size≤C→(∀ y c,X.env.cells.lookup y=some c→c≠C)→(∀ p∈X.pn ++ pins,p.1≠C)→RR (.ref D) C (.ok .next) s') :
  wpAny (model X.prog X.w) X.A (newList []) (fun acc s₃=>wpAny (model X.prog X.w) X.A (newFunctionEnv sc X.env.globals cl [] X.env.qual none .none (some X.env)) (fun cenv s₄ =>
   codeAny (model X.prog X.w) X.A (.compStart (.ListComp elt [⟨.Name x px,iter,[cnd],0⟩] sc pos) 0 (.ref it) acc { cenv with scope:=relabel sc X.env }) (RR acc cenv.locals) s₄) E s₃) E s:=by
 have okk:=ok
 obtain ⟨kd,nc,lx,ll,fr,kk,nd⟩:=okk
 have hD0:H s.heap.objs.size=none:=I.hok.fresh (Nat.le_refl _)
 obtain ⟨W,⟨m0,w0⟩,turn⟩:=hw s.heap.objs.size hD0
 refine wpAny_newObj_type ?_
 have I3:Inv X pins σ (upd H s.heap.objs.size (.lst [])) { s with heap:=s.heap.push { cls:=.type "list",dict:=none,data:=.seq ([]:List Value).toArray } } :=
  I.laid (t':=s.toks) (fun b u e=>Heap.get?_push_of_some _ e) (Nat.le_refl _) (show dy X.prog X.w _ _ _ (.lst []) from ⟨Nat.zero_le _,[],0,.nil,Heap.get?_push_size _ rfl⟩)
 have st3:tn 0 (s.heap.push { cls:=.type "list",dict:=none,data:=.seq ([]:List Value).toArray }):=T.keep 0 _ _ st fun b hb o e=>Heap.get?_push_of_some _ e
 generalize hD:s.heap.objs.size=D at *
 generalize hH:upd H D (.lst [])=H3 at *
 generalize hs3:({ s with heap:=s.heap.push { cls:=.type "list",dict:=none,data:=.seq ([]:List Value).toArray } }:Shared)=s3 at *
 have e3:s.heap.push { cls:=.type "list",dict:=none,data:=.seq ([]:List Value).toArray }=s3.heap:=by rw [← hs3]
 rw [e3] at st3
 have fD:∀ b∈fp,b≠D:=fun b hb z=>by
  obtain ⟨o,ho,_⟩:=T.obj 0 _ st b hb
  have:=Heap.lt_size ho
  rw [z,← hD] at this
  exact Nat.lt_irrefl _ this
 have f3:∀ b∈fp,jy X pins H3 b:=fun b hb=>⟨by rw [← hH,aK (fD b hb)];exact (f b hb).1,(f b hb).2⟩
 have g3:∀ b∈fp,∃ o,s3.heap.get? b=some o:=fun b hb=>by
  obtain ⟨o,ho,_⟩:=T.obj 0 _ st3 b hb
  exact ⟨o,ho⟩
 refine wpAny_newFunctionEnv nc (by intro y hy;simp at hy) (fun h₁ hns hsb=>?_) kd
 have kp:∀ b o,s3.heap.get? b=some o→h₁.get? b=some o:=fun b o e=>hsb.extBut b o (Nat.ne_of_lt (Heap.lt_size e)) (Heap.get?_push_of_some _ e)
 have J0:=rV (fp:=fp) (cl:=cl) (t':=s3.toks + ([]:List (Str × Value)).length) I3 ok h1 h2 (fun b hb=>⟨f3 b hb,g3 b hb⟩) hns kp
 have st4:tn 0 h₁:=T.keep 0 _ _ st3 fun b hb o e=>kp b o e
 have ltC:∀ b o,s3.heap.get? b=some o→b≠s3.heap.objs.size:=fun b o e=>Nat.ne_of_lt (Heap.lt_size e)
 have cC:∀ y c,X.env.cells.lookup y=some c→c≠s3.heap.objs.size:=fun y c e=>by
  obtain ⟨v,o,ho,_⟩:=I3.cell y c e
  exact ltC c o ho
 have pC:∀ p∈X.pn ++ pins,p.1≠s3.heap.objs.size:=fun p hp=>ltC _ _ (I3.pin p hp).1
 have lC:s3.heap.objs.size≠X.env.locals:=Nat.ne_of_gt I3.lt
 have fX:∀ {H':Hp},(∀ b∈fp,H' b=none)→∀ b∈fp,jy (fv X sc cl s3.heap.objs.size x ks s3 H3 fp pins) [] H' b:=fun hn b hb=>by
  obtain ⟨o,ho⟩:=g3 b hb
  obtain ⟨_,q1,q2,q3,q4,q5⟩:=f b hb
  refine ⟨hn b hb,ltC b o ho,fun z=>?_,.inl hb,fun y c e=>q4 y c (h1 y c e),fun p hp=>q5 p (by simpa [fv] using hp)⟩
  rcases List.mem_cons.mp (I3.nh b z) with e | e
  ·exact q1 e
  ·exact q2 e
 have back:∀ {o:Option V} {H':Hp} {s':Shared},Inv (fv X sc cl s3.heap.objs.size x ks s3 H3 fp pins) [] (o :: dI ks σ) H' s'→Inv X pins σ H' s':=fun {o H' s'} J=>by
  obtain ⟨hh,g,d,t,os'⟩:=s'
  obtain rfl:os'=s3.os:=J.os
  exact I3.call (h':=hh) (g':=g) (d':=d) (t':=t) (ch:=fp) J.base J.hok J.bare fun b hb=>⟨(f b hb).2.2.2.1,(f b hb).2.1,(f b hb).2.2.2.2.1,(f b hb).2.2.2.2.2⟩
 have lookX:(relabel sc X.env).names.lookup x=some .local:=lookup_relabel_local lx
 have loop:∀ s',(∃ (i:Nat) (o:Option V) (H':Hp),Inv (fv X sc cl s3.heap.objs.size x ks s3 H3 fp pins) [] (o :: dI ks σ) H' s'∧tn i s'.heap∧(∀ b∈fp,H' b=none)∧W i m0 H') →
   codeAny (model X.prog X.w) X.A (.compLoop (.ListComp elt [⟨.Name x px,iter,[cnd],0⟩] sc pos) 0 (.ref it) (.ref D) (compEnvC sc cl s3.heap.objs.size X.env)) (RR (.ref D) s3.heap.objs.size) s':=by
  intro s' hs'
  refine Ab (fun n s'=>∃ (i:Nat) (o:Option V) (H':Hp),Inv (fv X sc cl s3.heap.objs.size x ks s3 H3 fp pins) [] (o :: dI ks σ) H' s'∧tn i s'.heap∧(∀ b∈fp,H' b=none)∧W i n H') ?_ m0 hs'
  rintro n s5 ⟨i,o,H5,J5,t5,n5,w5⟩
  rcases turn i n H5 w5 with ⟨stop,hq⟩ | ⟨go,step⟩
  ·refine cg (T.done (fv X sc cl s3.heap.objs.size x ks s3 H3 fp pins) rfl rfl rfl hc i [] s5 _ H5 _ J5 (fX n5) t5 stop) fun r s6 ⟨hr,J6⟩=>?_
   subst hr
   obtain ⟨m,hm,_⟩:=J6.loc
   exact hR D _ s6 H5 m (back J6) hq hm J6.free lC I3.sz cC pC
  ·refine cg (T.item (fv X sc cl s3.heap.objs.size x ks s3 H3 fp pins) rfl rfl rfl hc i [] s5 _ H5 _ J5 (fX n5) t5 go) fun r s6 ⟨u,hr,h6⟩=>?_
   subst hr
   refine cg h6 fun _ s7 ⟨v,H7,J7,r7,y7,t7,n7⟩=>?_
   have J7':=J7.pinned (fX n7) (T.obj _ _ t7)
   refine wpAny_assign_Name (fm (X:=fv X sc cl s3.heap.objs.size x ks s3 H3 fp pins) (i:=0) J7' nd rfl (.inl lookX) r7 (fun s8 J8=>?_) (.inr lookX))
   refine cg (hcn cl s3.heap.objs.size s3 H3 fp pins _ s8 _ H7 _ J8 (step v H7 y7)) fun ok s8' ⟨H8,J8',q8⟩=>?_
   cases ok with
   | false =>
    simp only [Bool.false_eq_true,if_false] at q8 ⊢
    obtain ⟨m',hm,w'⟩:=q8
    refine ⟨m',hm,i + 1,_,_,J8'.fS,?_,?_,w'⟩
    ·exact T.keep _ _ _ t7 fun b hb o e=>(J8'.pin (b,o) (List.mem_append_right _ (List.mem_append_right _ (b9 hb e)))).1
    ·intro b hb
     obtain ⟨o,e,d⟩:=T.obj _ _ t7 b hb
     exact (J8'.pin (b,o) (List.mem_append_right _ (List.mem_append_right _ (b9 hb e)))).2.1
   | true =>
    simp only [if_true] at q8 ⊢
    refine cg (he cl s3.heap.objs.size s3 H3 fp pins _ s8' _ H8 _ J8' q8) fun y s9 ⟨vy,H9,J9,r9,ys,hys,hz,m',hm,w'⟩=>?_
    refine cg (gA (X:=fv X sc cl s3.heap.objs.size x ks s3 H3 fp pins) _ s9 _ H9 (.ref D) [vy] (.ref D) [y] (fun _ H'=>H'=upd H9 D (.lst (ys ++ [vy]))) J9 rfl (.cons r9 .nil) ⟨D,ys,vy,rfl,rfl,hys,hz,rfl⟩) fun _ s10 ⟨_,H10,J10,_,eH⟩=>?_
    subst eH
    refine ⟨m',hm,i + 1,_,_,J10.fS,?_,?_,w'⟩
    ·exact T.keep _ _ _ t7 fun b hb o e=>(J10.pin (b,o) (List.mem_append_right _ (List.mem_append_right _ (b9 hb e)))).1
    ·intro b hb
     obtain ⟨o,e,d⟩:=T.obj _ _ t7 b hb
     exact (J10.pin (b,o) (List.mem_append_right _ (List.mem_append_right _ (b9 hb e)))).2.1
 have l0:=loop _ ⟨0,none,H3,J0,st4,fun b hb=>(f3 b hb).1,w0⟩
 exact codeAny_compStart_list l0 (T.self _ 0 _ _ _ st4 l0)
def Pq (wi:TI) (ks:List (Str × Nat)) (tc:TT) (te:TE) (i:Nat):TS:=fun D σ H=>MP wi ks tc te σ H fun v H1=>D.nx (σ.set i (some v)) H1
theorem FH {elt iter cnd:Expr} {x y:Str} {px py:Pos} {sc:Scope} {pos spos:Pos} {wi:TI} {te:TE} {tc:TT} {i:Nat} (osc:Scope) (N:List Str) (ks:List (Str × Nat)) (hc:X.calm=true) (ho:X.env.scope=osc) (hN:X.N=N) (hnd:X.N.Nodup) (hy:X.N[i]?=some y) (hl:Loc X.env.scope y)
  (hi:PI X (.Name x px) iter wi) (he:∀ cl C s₀ H₀ fp pins,PE (fv X sc cl C x ks s₀ H₀ fp pins) elt te) (hcn:∀ cl C s₀ H₀ fp pins,PT (fv X sc cl C x ks s₀ H₀ fp pins) cnd tc) (ok:cQ sc osc N x ks:=by decide +kernel) (hs:∀ x,foldedSetIterable iter X.env x=pure x:=by intro _;rfl)
  (hsw:swapsWith (.ListComp elt [⟨.Name x px,iter,[cnd],0⟩] sc pos) (some (.Name y py)) spos.line X.env=pure true:=by rfl) (hf:X.fn y=true∨X.env.scope.names.lookup y=some .local:=by first | exact .inl rfl | exact .inr rfl | assumption) :
  PS X (.Assign [.Name y py] (.ListComp elt [⟨.Name x px,iter,[cnd],0⟩] sc pos) spos) (Pq wi ks tc te i):=by
 intro pins s σ H Dn I hw
 obtain ⟨cl,hcl,h1,h2⟩:=jK (n8 ok I ho)
 have ok':cQ sc X.env.scope X.N x ks:=by rw [ho,hN];exact ok
 rw [exec_Assign_Name_used _ _ _ _ hsw]
 refine wpAny_bind (wpAny_standAt (wpAny_bind ?_))
 show wpAny _ X.A (do let _ ← comprehension (.ListComp elt [⟨.Name x px,iter,[cnd],0⟩] sc pos) sc X.env _ (newList []) false (eval iter X.env) (some (assign (.Name y py) X.env))) _ _ s
 refine wpAny_bind (wpAny_mono (wpAny_comprehension_free (use:=some (assign (.Name y py) X.env)) (Q:=fun _ s'=>SP X pins Dn .next s') rfl hs hcl ok.1 ok.2.2.2.1
  (cg (hi pins s σ H _ I hw) fun v s1 h3=>cg h3 fun itv s2 h4=>?_)) (fun _ s' hq=>wpAny_pure (wpAny_pure hq)) fun _ _ e=>e)
 obtain ⟨it,fp,tn,J,H2,rfl,I2,T,st2,f2,hR⟩:=h4
 refine DE (Q:=fun v H1=>Dn.nx (σ.set i (some v)) H1) (RR:=fun acc C=>compPost (model X.prog X.w) X.A X.xe (some (assign (.Name y py) X.env)) (fun _ s'=>SP X pins Dn .next s') acc C) hc ok' h1 h2 he hcn I2 T st2 f2 hR ?_
 intro D C s' H' m J' q hn hC cl' cs cc cp
 show wpAny _ X.A (assign (.Name y py) X.env (.ref D)) _ _ _
 refine wpAny_assign_Name (p5 J' hnd hy hl (v:=.ref D) rfl (fun s'' J'' ⟨a,hsb,ha⟩=>?_) hf)
 refine ⟨m,hn.sameBut hsb (fun z=>?_),fun h' hsb'=>⟨_,H',?_,q⟩⟩
 ·rcases ha with e | e
  ·exact cl' (z.trans e)
  ·exact cc _ _ e z.symm
 ·exact J''.turned (t':=s''.toks) (it:=C) (fun b o ne e=>hsb'.extBut b o ne e) hC cl' (.inr cs) cc cp
end
end Ov
namespace Ov
open PySem PySem.Spec PyProof.Rows
open L2 (V HO Hp Inv Cx VK XK TE TT TA TS TG rF TI TO me Ends xA Loc Gl Rd RelV Vals fT y6 cD rA uu rD md R2 upd aE aK di g7 Sp tH It bF)
inductive PV where
 | non | bl (b:Bool) | int (i:Int) | str (x:Str) | ref (a:Addr) | ty (n:String) | tup (xs:List PV) | fl (xs:List PV)
inductive HQ where
 | lst (xs:List PV) | ins (C:Addr) (fs:List (Str × PV)) | dct (kvs:List (Str × PV)) (ep:Nat) | tab | dtp (hs:List Str→Int) (ks:List (List Str))
def Qe (hs:List Str→Int) (a:Addr) (xs:List (List Str × Addr × Value)) (h:Heap):Prop:=(a == sysModules)=false∧xs.length≤sizeLine∧(xs.map (·.1)).Nodup∧∃ o es ep,h.get? a=some o∧o.ExactDict∧o.data=.dict es ep∧es.toList=xs.map fun x=>(⟨hs x.1,.ref x.2.1,x.2.2⟩:DictEntry)
abbrev Hq:=Addr→Option HQ
def put (J:Hq) (a:Addr) (o:HQ):Hq:=fun b=>if b=a then some o else J b
theorem av {J:Hq} {a:Addr} {o:HQ}:put J a o a=some o:=by unfold put;rw [if_pos rfl]
theorem au {J:Hq} {a b:Addr} {o:HQ} (h:b≠a):put J a o b=J b:=by unfold put;rw [if_neg h]
theorem fe {J:Hq} {a:Addr} {o u:HQ}:put (put J a o) a u=put J a u:=by
 funext b;unfold put;split <;> rfl
theorem FO {J:Hq} {a b:Addr} {o u:HQ} (h:a≠b):put (put J a o) b u=put (put J b u) a o:=by
 funext c;unfold put
 by_cases h1:c=b <;> by_cases h2:c=a <;> simp [h1,h2]
 ·exact absurd (h2.symm.trans h1) h
 ·intro z;exact absurd z.symm h
 ·intro z;exact absurd z h
theorem AG {J:Hq} {a:Addr} {o:HQ} (h:J a=some o):put J a o=J:=by
 funext b;unfold put
 by_cases e:b=a
 ·subst e;rw [if_pos rfl,h]
 ·rw [if_neg e]
def D5 (K:PySem.W.Frag) (J:Hq) (H:Hp) (a:Addr) (vs:List V):Prop:=(J a=none∧Rd H a (.lst vs))∨∃ (o:Obj) (its:Array Value) (n:Nat),K.lookup a=some o∧o.cls=.type "list"∧o.dict=none∧o.data=.seq its n∧its.size≤sizeLine∧Vals vs its.toList
theorem D5.sq {K:PySem.W.Frag} {J:Hq} {H:Hp} {a:Addr} {vs:List V} (h:D5 K J H a vs):di K H a vs:=by
 rcases h with h | h
 ·exact .inl h.2
 ·exact .inr h
section
variable (K:PySem.W.Frag)
mutual
def cE (J:Hq) (H:Hp):PV→V→Prop
 | .non,v=>v=.non
 | .bl b,v=>v=.bl b
 | .int i,v=>v=.int i
 | .str x,v=>v=.str x
 | .ref a,v=>v=.ref a
 | .ty n,v=>v=.ty n
 | .tup xs,v=>∃ a vs,v=.ref a∧g7 K H a vs∧aR J H xs vs
 | .fl xs,v=>∃ a vs,v=.ref a∧D5 K J H a vs∧aR J H xs vs
def aR (J:Hq) (H:Hp):List PV→List V→Prop
 | [],vs=>vs=[]
 | x :: xs,vs=>∃ v us,vs=v :: us∧cE J H x v∧aR J H xs us
end
def mQ {κ:Type} (J:Hq) (H:Hp) (fs:List (κ × PV)) (gs:List (κ × V)):Prop:=fs.map (·.1)=gs.map (·.1)∧aR K J H (fs.map (·.2)) (gs.map (·.2))
def Ea (J:Hq) (H:Hp) (a:Addr):HQ→Prop
 | .lst xs=>∃ vs,H a=some (.lst vs)∧aR K J H xs vs
 | .ins C fs=>∃ dx gs,H a=some (.ins C dx gs)∧mQ K J H fs gs
 | .dct kvs ep=>∃ gs,H a=some (.dE gs ep)∧mQ K J H kvs gs
 | .tab=>H a=some (.ext (eX a))
 | .dtp hs ks=>∃ xs:List (List Str × Addr × Value),xs.map (·.1)=ks∧H a=some (.ext (Qe hs a xs))∧∀ x∈xs,g7 K H x.2.1 (x.1.map V.str)
def Rep (J:Hq) (H:Hp):Prop:=∀ a o,J a=some o→Ea K J H a o
structure Ext (J:Hq) (H:Hp) (J':Hq) (H':Hp):Prop where
 tup:∀ a vs,g7 K H a vs→g7 K H' a vs
 ll:∀ a o,J a=none→H a=some o→((∃ vs,o=.lst vs)∨∃ ob vs,o=.rQ ob (.lst vs))→J' a=none∧H' a=some o
end
section
variable {K:PySem.W.Frag} {J J' J'':Hq} {H H' H'':Hp}
theorem Ext.fl (e:Ext K J H J' H') (a:Addr) (vs:List V) (n:J a=none) (h:Rd H a (.lst vs)):J' a=none∧Rd H' a (.lst vs):=by
 rcases h with h | ⟨o,h⟩
 ·obtain ⟨a,b⟩:=e.ll a _ n h (.inl ⟨_,rfl⟩);exact ⟨a,.inl b⟩
 ·obtain ⟨a,b⟩:=e.ll a _ n h (.inr ⟨_,_,rfl⟩);exact ⟨a,.inr ⟨o,b⟩⟩
theorem Ext.flat (e:Ext K J H J' H') {a:Addr} {vs:List V} (h:D5 K J H a vs):D5 K J' H' a vs:=by
 rcases h with h | h
 ·exact .inl (e.fl a vs h.1 h.2)
 ·exact .inr h
mutual
theorem Ext.rep (e:Ext K J H J' H'):∀ {x:PV} {v:V},cE K J H x v→cE K J' H' x v
 | .non,_,h=>h
 | .bl _,_,h=>h
 | .int _,_,h=>h
 | .str _,_,h=>h
 | .ref _,_,h=>h
 | .ty _,_,h=>h
 | .tup xs,_,⟨a,vs,e1,h,k⟩=>⟨a,vs,e1,e.tup _ _ h,Ext.jv e k⟩
 | .fl xs,_,⟨a,vs,e1,h,k⟩=>⟨a,vs,e1,e.flat h,Ext.jv e k⟩
theorem Ext.jv (e:Ext K J H J' H'):∀ {xs:List PV} {vs:List V},aR K J H xs vs→aR K J' H' xs vs
 | [],_,h=>h
 | _ :: _,_,⟨v,us,e1,h,k⟩=>⟨v,us,e1,Ext.rep e h,Ext.jv e k⟩
end
theorem Ext.refl:Ext K J H J H:=⟨fun _ _ h=>h,fun _ _ n h _=>⟨n,h⟩⟩
theorem Ext.trans (a:Ext K J H J' H') (b:Ext K J' H' J'' H''):Ext K J H J'' H'' :=
 ⟨fun c vs h=>b.tup c vs (a.tup c vs h),fun c o n h z=>b.ll c o (a.ll c o n h z).1 (a.ll c o n h z).2 z⟩
theorem Ext.yA {κ:Type} (e:Ext K J H J' H') {fs:List (κ × PV)} {gs:List (κ × V)} (h:mQ K J H fs gs):mQ K J' H' fs gs:=⟨h.1,e.jv h.2⟩
theorem Ext.same (s:bF H H'):Ext K J H J H':=⟨fun a vs h=>s.tup h,fun a o n h _=>⟨n,s _ _ h⟩⟩
theorem Ea.same (s:bF H H') {a:Addr} {o:HQ} (h:Ea K J H a o):Ea K J H' a o:=by
 have e:=Ext.same (K:=K) (J:=J) s
 cases o with
 | lst xs=>obtain ⟨vs,h1,h2⟩:=h;exact ⟨vs,s _ _ h1,e.jv h2⟩
 | ins C fs=>obtain ⟨dx,gs,h1,h2⟩:=h;exact ⟨dx,gs,s _ _ h1,e.yA h2⟩
 | dct kvs ep=>obtain ⟨gs,h1,h2⟩:=h;exact ⟨gs,s _ _ h1,e.yA h2⟩
 | tab=>exact s _ _ (show H a=some (.ext (eX a)) from h)
 | dtp hs ks=>obtain ⟨xs,h0,h1,h2⟩:=h;exact ⟨xs,h0,s _ _ h1,fun x hx=>s.tup (h2 x hx)⟩
theorem Rep.same (s:bF H H') (h:Rep K J H):Rep K J H':=fun a o q=>(h a o q).same s
theorem Ext.less (h:∀ a,J' a=J a∨J' a=none):Ext K J H J' H:=⟨fun _ _ h=>h,fun a o n z _=>⟨(h a).elim (fun e=>e.trans n) (fun e=>e),z⟩⟩
theorem Rep.less (h:∀ a,J' a=J a∨J' a=none) (r:Rep K J H):Rep K J' H:=fun a o q=>by
 have e:J a=some o:=by
  rcases h a with e | e
  ·rw [← e];exact q
  ·rw [e] at q;cases q
 have x:=Ext.less (K:=K) (H:=H) h
 have z:=r a o e
 cases o with
 | lst xs=>obtain ⟨vs,h1,h2⟩:=z;exact ⟨vs,h1,x.jv h2⟩
 | ins C fs=>obtain ⟨dx,gs,h1,h2⟩:=z;exact ⟨dx,gs,h1,x.yA h2⟩
 | dct kvs ep=>obtain ⟨gs,h1,h2⟩:=z;exact ⟨gs,h1,x.yA h2⟩
 | tab=>exact z
 | dtp hs ks=>exact z
theorem aR.length:∀ {xs:List PV} {vs:List V},aR K J H xs vs→xs.length=vs.length
 | [],_,h=>by cases h;rfl
 | _ :: xs,_,⟨v,us,e1,_,k⟩=>by subst e1;simp [aR.length k]
theorem aR.get:∀ {xs:List PV} {vs:List V} {i:Nat} {x:PV},aR K J H xs vs→xs[i]?=some x→∃ v,vs[i]?=some v∧cE K J H x v
 | [],_,i,x,h,e=>by simp at e
 | y :: xs,_,0,x,⟨v,us,e1,h,k⟩,e=>by subst e1;simp at e;subst e;exact ⟨v,rfl,h⟩
 | y :: xs,_,i + 1,x,⟨v,us,e1,h,k⟩,e=>by
  subst e1
  obtain ⟨w,h1,h2⟩:=aR.get (i:=i) (x:=x) k (by simpa using e)
  exact ⟨w,by simpa using h1,h2⟩
theorem aR.get':∀ {xs:List PV} {vs:List V} {i:Nat} {v:V},aR K J H xs vs→vs[i]?=some v→∃ x,xs[i]?=some x∧cE K J H x v
 | [],_,i,x,h,e=>by cases h;simp at e
 | y :: xs,_,0,x,⟨v,us,e1,h,k⟩,e=>by subst e1;simp at e;subst e;exact ⟨y,rfl,h⟩
 | y :: xs,_,i + 1,x,⟨v,us,e1,h,k⟩,e=>by
  subst e1
  obtain ⟨w,h1,h2⟩:=aR.get' (i:=i) (v:=x) k (by simpa using e)
  exact ⟨w,by simpa using h1,h2⟩
theorem aR.append:∀ {xs ys:List PV} {vs us:List V},aR K J H xs vs→aR K J H ys us→aR K J H (xs ++ ys) (vs ++ us)
 | [],_,_,_,h,k=>by cases h;exact k
 | x :: xs,ys,_,us,⟨v,ws,e1,h,h'⟩,k=>by subst e1;exact ⟨v,ws ++ us,rfl,h,aR.append h' k⟩
theorem aR.drop:∀ (n:Nat) {xs:List PV} {vs:List V},aR K J H xs vs→aR K J H (xs.drop n) (vs.drop n)
 | 0,_,_,h=>h
 | n + 1,[],_,h=>by cases h;rfl
 | n + 1,x :: xs,_,⟨v,ws,e1,h,h'⟩=>by subst e1;exact aR.drop n h'
theorem aR.take:∀ (n:Nat) {xs:List PV} {vs:List V},aR K J H xs vs→aR K J H (xs.take n) (vs.take n)
 | 0,_,_,h=>rfl
 | n + 1,[],_,h=>by cases h;rfl
 | n + 1,x :: xs,_,⟨v,ws,e1,h,h'⟩=>by subst e1;exact ⟨v,_,rfl,h,aR.take n h'⟩
theorem mQ.look {κ:Type} [BEq κ] [LawfulBEq κ] {f:κ}:∀ {fs:List (κ × PV)} {gs:List (κ × V)} {x:PV},mQ K J H fs gs→fs.lookup f=some x→∃ v,gs.lookup f=some v∧cE K J H x v
 | [],_,_,_,e=>by cases e
 | (k,y) :: fs,[],x,h,e=>by cases h.1
 | (k,y) :: fs,(k',w) :: gs,x,h,e=>by
  obtain ⟨h1,v,us,h2,h3,h4⟩:=h
  simp only [List.map_cons,List.cons.injEq] at h1 h2
  obtain ⟨rfl,h1⟩:=h1
  obtain ⟨rfl,rfl⟩:=h2
  rw [List.lookup_cons] at e ⊢
  cases hk:f == k with
  | true=>rw [hk] at e;cases e;exact ⟨w,rfl,h3⟩
  | false=>rw [hk] at e;exact mQ.look ⟨h1,h4⟩ e
theorem mQ.none {κ:Type} [BEq κ] [LawfulBEq κ] {f:κ}:∀ {fs:List (κ × PV)} {gs:List (κ × V)},mQ K J H fs gs→fs.lookup f=none→gs.lookup f=none
 | [],[],_,_=>rfl
 | [],_ :: _,h,e=>by cases h.1
 | (k,y) :: fs,[],h,e=>by cases h.1
 | (k,y) :: fs,(k',w) :: gs,h,e=>by
  obtain ⟨h1,v,us,h2,h3,h4⟩:=h
  simp only [List.map_cons,List.cons.injEq] at h1 h2
  obtain ⟨rfl,h1⟩:=h1
  obtain ⟨rfl,rfl⟩:=h2
  rw [List.lookup_cons] at e ⊢
  cases hk:f == k with
  | true=>rw [hk] at e;cases e
  | false=>rw [hk] at e;exact mQ.none ⟨h1,h4⟩ e
end
section
variable {K:PySem.W.Frag} {J J':Hq} {H H':Hp} {p:Addr}
theorem HU {a p:Addr} {o:HQ} (r:Rep K J H) (h:J a=some o) (n:H p=none):a≠p:=by
 intro e;subst e
 have:=r _ _ h
 cases o with
 | lst xs=>obtain ⟨vs,h1,_⟩:=this;rw [n] at h1;cases h1
 | ins C fs=>obtain ⟨dx,gs,h1,_⟩:=this;rw [n] at h1;cases h1
 | dct kvs ep=>obtain ⟨gs,h1,_⟩:=this;rw [n] at h1;cases h1
 | tab=>have h1:H a=some (.ext (eX a)):=this;rw [n] at h1;cases h1
 | dtp hs ks=>obtain ⟨xs,_,h1,_⟩:=this;rw [n] at h1;cases h1
theorem Rep.free (r:Rep K J H) (n:H p=none):J p=none:=by
 cases e:J p with
 | none=>rfl
 | some o=>exact absurd rfl (HU r e n)
theorem Ext.laid {o:HO} {u:HQ} (n:H p=none):Ext K J H (put J p u) (upd H p o):=by
 refine ⟨fun a vs h=>(bF.new n o).tup h,fun a o' z h _=>⟨?_,bF.new n o _ _ h⟩⟩
 have ne:a≠p:=by intro e;subst e;rw [n] at h;cases h
 rw [au ne];exact z
theorem Rep.DO {J':Hq} {H':Hp} (e:Ext K J H J' H') (r:Rep K J H) (p:Addr) (q:∀ a,a≠p→J' a=J a) (s:∀ a o,a≠p→J a≠none→H a=some o→H' a=some o) (h:∀ u,J' p=some u→Ea K J' H' p u):Rep K J' H':=fun a o z=>by
 by_cases ep:a=p
 ·subst ep;exact h o z
 ·rw [q a ep] at z
  have t:=r a o z
  have jn:J a≠none:=by rw [z];exact fun y=>nomatch y
  cases o with
  | lst xs=>obtain ⟨vs,h1,h2⟩:=t;exact ⟨vs,s _ _ ep jn h1,e.jv h2⟩
  | ins C fs=>obtain ⟨dx,gs,h1,h2⟩:=t;exact ⟨dx,gs,s _ _ ep jn h1,e.yA h2⟩
  | dct kvs eq=>obtain ⟨gs,h1,h2⟩:=t;exact ⟨gs,s _ _ ep jn h1,e.yA h2⟩
  | tab=>exact s _ _ ep jn (show H a=some (.ext (eX a)) from t)
  | dtp hs ks=>obtain ⟨xs,h0,h1,h2⟩:=t;exact ⟨xs,h0,s _ _ ep jn h1,fun x hx=>e.tup _ _ (h2 x hx)⟩
theorem Rep.EX {xs:List PV} {vs:List V} (r:Rep K J H) (n:H p=none) (h:aR K J H xs vs):Rep K (put J p (.lst xs)) (upd H p (.lst vs)):=by
 have e:=Ext.laid (K:=K) (J:=J) (o:=.lst vs) (u:=.lst xs) n
 refine r.DO e p (fun a ne=>au ne) (fun a o ne _ z=>by rw [aK ne];exact z) fun u z=>?_
 rw [av] at z;cases z
 exact ⟨vs,aE,e.jv h⟩
theorem Ext.wrote {xs ys:List PV} {ws vs:List V} (h:J p=some (.lst xs)) (k:H p=some (.lst ws)):Ext K J H (put J p (.lst ys)) (upd H p (.lst vs)):=by
 have sm:∀ a u,(∀ l,u≠HO.lst l)∨a≠p→Rd H a u→Rd (upd H p (.lst vs)) a u:=fun a u d z=>by
  have ne:a≠p:=by
   rcases d with d | d
   ·intro e;subst e
    rcases z with z | ⟨o,z⟩
    ·rw [k] at z;cases z;exact d _ rfl
    ·rw [k] at z;cases z
   ·exact d
  rcases z with z | ⟨o,z⟩
  ·exact .inl (by rw [aK ne];exact z)
  ·exact .inr ⟨o,by rw [aK ne];exact z⟩
 refine ⟨fun a vs' z=>?_,fun a o z q _=>?_⟩
 ·rcases z with z | z
  ·exact .inl (sm a _ (.inl fun l e=>nomatch e) z)
  ·exact .inr z
 ·have ne:a≠p:=by intro e;subst e;rw [h] at z;cases z
  exact ⟨by rw [au ne];exact z,by rw [aK ne];exact q⟩
theorem Rep.wrote {xs ys:List PV} {ws vs:List V} (r:Rep K J H) (h:J p=some (.lst xs)) (k:H p=some (.lst ws)) (q:aR K J H ys vs):Rep K (put J p (.lst ys)) (upd H p (.lst vs)):=by
 have e:=Ext.wrote (K:=K) (ys:=ys) (vs:=vs) h k
 refine r.DO e p (fun a ne=>au ne) (fun a o ne _ z=>by rw [aK ne];exact z) fun u z=>?_
 rw [av] at z;cases z
 exact ⟨vs,aE,e.jv q⟩
end
abbrev Sr:=List (Option PV)
abbrev dG:=Sr→Hq→(PV→Hq→Prop)→Prop
abbrev mS:=Sr→Hq→(Bool→Hq→Prop)→Prop
abbrev p7:=Sr→Hq→(List PV→Hq→Prop)→Prop
structure En where
 nx:Sr→Hq→Prop
 rt:PV→Hq→Prop
 bk:Sr→Hq→Prop:=fun _ _=>False
 ct:Sr→Hq→Prop:=fun _ _=>False
abbrev i7:=En→Sr→Hq→Prop
structure mR (K:PySem.W.Frag) (J:Hq) (H:Hp) (τ:Sr) (σ:L2.St):Prop where
 len:τ.length=σ.length
 get:∀ (i:Nat) (x:PV),τ[i]?=some (some x)→∃ v,σ[i]?=some (some v)∧cE K J H x v
theorem mR.ext {K:PySem.W.Frag} {J J':Hq} {H H':Hp} {τ:Sr} {σ:L2.St} (r:mR K J H τ σ) (e:Ext K J H J' H'):mR K J' H' τ σ :=
 ⟨r.len,fun i x h=>let ⟨v,a,b⟩:=r.get i x h;⟨v,a,e.rep b⟩⟩
theorem mR.set {K:PySem.W.Frag} {J:Hq} {H:Hp} {τ:Sr} {σ:L2.St} (r:mR K J H τ σ) {x:PV} {v:V} (i:Nat) (h:cE K J H x v):mR K J H (τ.set i (some x)) (σ.set i (some v)):=by
 refine ⟨by rw [List.length_set,List.length_set,r.len],fun j y e=>?_⟩
 by_cases hj:i=j
 ·subst hj
  by_cases hl:i < τ.length
  ·rw [List.getElem?_set_self hl] at e
   cases e
   exact ⟨v,List.getElem?_set_self (by rw [← r.len];exact hl),h⟩
  ·rw [List.getElem?_eq_none (by rw [List.length_set];omega)] at e
   cases e
 ·rw [List.getElem?_set_ne hj] at e ⊢
  exact r.get j y e
abbrev G2:=Hq × Hp
structure xo (K:PySem.W.Frag) (G:G2) (τ:Sr) (J:Hq) (σ:L2.St) (H:Hp):Prop where
 sl:mR K J H τ σ
 hp:Rep K J H
 ext:Ext K G.1 G.2 J H
section
variable (K:PySem.W.Frag) (G:G2)
def LE (t:dG):TE:=fun σ H Q=>∃ τ J Q2,xo K G τ J σ H∧t τ J Q2∧∀ x J' v H',cE K J' H' x v→Rep K J' H'→Ext K J H J' H'→Q2 x J'→Q v H'
def LT (t:mS):TT:=fun σ H Q=>∃ τ J Q2,xo K G τ J σ H∧t τ J Q2∧∀ b J' H',Rep K J' H'→Ext K J H J' H'→Q2 b J'→Q b H'
def LA (t:p7):TA:=fun σ H Q=>∃ τ J Q2,xo K G τ J σ H∧t τ J Q2∧∀ xs J' vs H',aR K J' H' xs vs→Rep K J' H'→Ext K J H J' H'→Q2 xs J'→Q vs H'
structure Goes (J:Hq) (H:Hp) (D2:En) (D:Ends):Prop where
 nx:∀ τ J' σ H',mR K J' H' τ σ→Rep K J' H'→Ext K J H J' H'→D2.nx τ J'→D.nx σ H'
 rt:∀ x J' v H',cE K J' H' x v→Rep K J' H'→Ext K J H J' H'→D2.rt x J'→D.rt v H'
 bk:∀ τ J' σ H',mR K J' H' τ σ→Rep K J' H'→Ext K J H J' H'→D2.bk τ J'→D.bk σ H'
 ct:∀ τ J' σ H',mR K J' H' τ σ→Rep K J' H'→Ext K J H J' H'→D2.ct τ J'→D.ct σ H'
def LS (t:i7):TS:=fun D σ H=>∃ τ J D2,xo K G τ J σ H∧t D2 τ J∧Goes K J H D2 D
end
theorem Goes.ext {K:PySem.W.Frag} {J J':Hq} {H H':Hp} {D2:En} {D:Ends} (g:Goes K J H D2 D) (e:Ext K J H J' H'):Goes K J' H' D2 D :=
 ⟨fun τ J1 σ H1 a b c=>g.nx τ J1 σ H1 a b (e.trans c),fun x J1 v H1 a b c=>g.rt x J1 v H1 a b (e.trans c),fun τ J1 σ H1 a b c=>g.bk τ J1 σ H1 a b (e.trans c),fun τ J1 σ H1 a b c=>g.ct τ J1 σ H1 a b (e.trans c)⟩
theorem xo.go {K:PySem.W.Frag} {G:G2} {τ:Sr} {J J':Hq} {σ:L2.St} {H H':Hp} (a:xo K G τ J σ H) (r:Rep K J' H') (e:Ext K J H J' H'):xo K G τ J' σ H':=⟨a.sl.ext e,r,a.ext.trans e⟩
structure RE (X:Cx) (G:G2) (e:Expr) (t:dG):Prop where
 run:L2.PE X e (LE X.K G t)
structure RT (X:Cx) (G:G2) (e:Expr) (t:mS):Prop where
 run:L2.PT X e (LT X.K G t)
structure RW (X:Cx) (G:G2) (e:Expr) (t:mS):Prop where
 run:L2.PW X e (LT X.K G t)
structure RA (X:Cx) (G:G2) (es:List Expr) (t:p7):Prop where
 run:L2.PA X es (LA X.K G t)
structure RS (X:Cx) (G:G2) (st:Stmt) (t:i7):Prop where
 run:L2.PS X st (LS X.K G t)
structure RB (X:Cx) (G:G2) (st:List Stmt) (t:i7):Prop where
 run:L2.tE X st (LS X.K G t)
theorem mh {X:Cx} {e:Expr} {t t':TE} (h:L2.PE X e t) (k:∀ σ H Q,t' σ H Q→t σ H Q):L2.PE X e t':=fun pins s σ H Q I q=>h pins s σ H Q I (k _ _ _ q)
theorem P6 {X:Cx} {e:Expr} {t t':TT} (h:L2.PT X e t) (k:∀ σ H Q,t' σ H Q→t σ H Q):L2.PT X e t':=fun pins s σ H Q I q=>h pins s σ H Q I (k _ _ _ q)
theorem SD {X:Cx} {e:Expr} {t t':TT} (h:L2.PW X e t) (k:∀ σ H Q,t' σ H Q→t σ H Q):L2.PW X e t':=fun wh pins s σ H Q I q=>h wh pins s σ H Q I (k _ _ _ q)
theorem Rc {X:Cx} {e:List Expr} {t t':TA} (h:L2.PA X e t) (k:∀ σ H Q,t' σ H Q→t σ H Q):L2.PA X e t':=fun pos pins s σ H Q I q=>h pos pins s σ H Q I (k _ _ _ q)
theorem y9 {X:Cx} {e:Stmt} {t t':TS} (h:L2.PS X e t) (k:∀ D σ H,t' D σ H→t D σ H):L2.PS X e t':=fun pins s σ H D I q=>h pins s σ H D I (k _ _ _ q)
theorem Rf {X:Cx} {e:List Stmt} {t t':TS} (h:L2.tE X e t) (k:∀ D σ H,t' D σ H→t D σ H):L2.tE X e t':=fun pins s σ H D I q=>h pins s σ H D I (k _ _ _ q)
end Ov
namespace Ov
open PySem PySem.Spec PyProof.Rows
open L2 (V HO Hp Inv Cx VK XK TE TT TA TS TG rF TI TO me Ends xA Loc Gl Rd RelV Vals fT y6 cD rA uu rD md R2 upd aE aK di g7 Sp tH It bF dP bU Passes qA aH Meth Mk Binds aL cA aw dJ gY)
def gX {α:Sort _} (_:α):Type:=Unit
def dp {α:Sort _} {k:α}:gX k:=()
def v_ {α:Type} (o:Option α) (k:α→Prop) (_:gX k:=dp):Prop:=match o with | some x=>k x | none=>False
def Nd (o:Option (Option PV)) (k:PV→Prop) (_:gX k:=dp):Prop:=match o with | some (some x)=>k x | _=>False
def DW (x:PV) (k:Int→Prop) (_:gX k:=dp):Prop:=match x with | .int i=>k i | _=>False
def JX (x:PV) (k:Bool→Prop) (_:gX k:=dp):Prop:=match x with | .bl i=>k i | _=>False
def JZ (x:PV) (k:Str→Prop) (_:gX k:=dp):Prop:=match x with | .str i=>k i | _=>False
def Du (x:PV) (k:Addr→Prop) (_:gX k:=dp):Prop:=match x with | .ref a=>k a | _=>False
def Nf (x:PV) (k:List PV→Prop) (_:gX k:=dp):Prop:=match x with | .tup a=>k a | _=>False
def Dt (xs:List PV) (k:PV→Prop) (_:gX k:=dp):Prop:=match xs with | [x]=>k x | _=>False
def P4 (o:Option HQ) (k:List PV→Prop) (_:gX k:=dp):Prop:=match o with | some (.lst xs)=>k xs | _=>False
def GP (o:Option HQ) (k:List (Str × PV)→Nat→Prop) (_:gX k:=dp):Prop:=match o with | some (.dct xs e)=>k xs e | _=>False
def LZ (C:Addr) (o:Option HQ) (k:List (Str × PV)→Prop) (_:gX k:=dp):Prop:=match o with | some (.ins C' fs)=>if C'=C then k fs else False | _=>False
def Ra (xs:List PV) (k:Prop) (_:gX k:=dp):Prop:=match xs with | []=>k | _=>False
def L4 (xs:List PV) (k:PV→List PV→Prop) (_:gX k:=dp):Prop:=match xs with | x :: r=>k x r | []=>False
def L8 (xs:List PV) (k:PV→PV→Prop) (_:gX k:=dp):Prop:=match xs with | [x,y]=>k x y | _=>False
theorem Ox {k:Prop} {d:gX k}:Ra [] k d=k:=rfl
theorem L5 {x:PV} {r:List PV} {k:PV→List PV→Prop} {d:gX k}:L4 (x :: r) k d=k x r:=rfl
theorem Oy {x y:PV} {k:PV→PV→Prop} {d:gX k}:L8 [x,y] k d=k x y:=rfl
theorem L7 {xs:List PV} {k:Prop} {d:gX k} (h:Ra xs k d):xs=[]∧k:=by cases xs with | nil=>exact ⟨rfl,h⟩ | cons x r=>exact h.elim
theorem Ia {xs:List PV} {k:PV→List PV→Prop} {d:gX k} (h:L4 xs k d):∃ x r,xs=x :: r∧k x r:=by cases xs with | nil=>exact h.elim | cons x r=>exact ⟨_,_,rfl,h⟩
theorem Am {xs:List PV} {k:PV→PV→Prop} {d:gX k} (h:L8 xs k d):∃ x y,xs=[x,y]∧k x y:=by
 unfold L8 at h
 split at h
 ·exact ⟨_,_,rfl,h⟩
 ·exact h.elim
theorem OA {α:Type} {x:α} {k:α→Prop} {d:gX k}:v_ (some x) k d=k x:=rfl
theorem Oo {x:PV} {k:PV→Prop} {d:gX k}:Nd (some (some x)) k d=k x:=rfl
theorem Ou {x:Int} {k:Int→Prop} {d:gX k}:DW (.int x) k d=k x:=rfl
theorem Oq {x:Bool} {k:Bool→Prop} {d:gX k}:JX (.bl x) k d=k x:=rfl
theorem OB {x:Str} {k:Str→Prop} {d:gX k}:JZ (.str x) k d=k x:=rfl
theorem Oz {x:Addr} {k:Addr→Prop} {d:gX k}:Du (.ref x) k d=k x:=rfl
theorem OC {x:List PV} {k:List PV→Prop} {d:gX k}:Nf (.tup x) k d=k x:=rfl
theorem Om {x:PV} {k:PV→Prop} {d:gX k}:Dt [x] k d=k x:=rfl
theorem Ow {x:List PV} {k:List PV→Prop} {d:gX k}:P4 (some (.lst x)) k d=k x:=rfl
theorem Ot {x:List (Str × PV)} {e:Nat} {k:List (Str × PV)→Nat→Prop} {d:gX k}:GP (some (.dct x e)) k d=k x e:=rfl
theorem JY {C:Addr} {x:List (Str × PV)} {k:List (Str × PV)→Prop} {d:gX k}:LZ C (some (.ins C x)) k d=k x:=if_pos rfl
theorem e_ {α:Type} {o:Option α} {k:α→Prop} {d:gX k} (h:v_ o k d):∃ x,o=some x∧k x:=by cases o with | none=>exact h.elim | some x=>exact ⟨x,rfl,h⟩
theorem k7 {α:Type} {o:Option α} {x:α} {k:α→Prop} (e:o=some x) (h:k x):v_ o k:=by rw [e];exact h
theorem Fp {o:Option (Option PV)} {k:PV→Prop} {d:gX k} (h:Nd o k d):∃ x,o=some (some x)∧k x:=by
 unfold Nd at h
 split at h
 ·exact ⟨_,rfl,h⟩
 ·exact h.elim
theorem LY {o:Option (Option PV)} {x:PV} {k:PV→Prop} (e:o=some (some x)) (h:k x):Nd o k:=by rw [e];exact h
theorem iP {x:PV} {k:Int→Prop} {d:gX k} (h:DW x k d):∃ i,x=.int i∧k i:=by cases x <;> first | exact ⟨_,rfl,h⟩ | exact False.elim h
theorem pG {x:PV} {k:Bool→Prop} {d:gX k} (h:JX x k d):∃ i,x=.bl i∧k i:=by cases x <;> first | exact ⟨_,rfl,h⟩ | exact False.elim h
theorem pI {x:PV} {k:Str→Prop} {d:gX k} (h:JZ x k d):∃ i,x=.str i∧k i:=by cases x <;> first | exact ⟨_,rfl,h⟩ | exact False.elim h
theorem iQ {x:PV} {k:Addr→Prop} {d:gX k} (h:Du x k d):∃ i,x=.ref i∧k i:=by cases x <;> first | exact ⟨_,rfl,h⟩ | exact False.elim h
theorem An {x:PV} {k:List PV→Prop} {d:gX k} (h:Nf x k d):∃ i,x=.tup i∧k i:=by cases x <;> first | exact ⟨_,rfl,h⟩ | exact False.elim h
theorem k6 {xs:List PV} {k:PV→Prop} {d:gX k} (h:Dt xs k d):∃ x,xs=[x]∧k x:=by
 unfold Dt at h
 split at h
 ·exact ⟨_,rfl,h⟩
 ·exact h.elim
theorem L6 {o:Option HQ} {k:List PV→Prop} {d:gX k} (h:P4 o k d):∃ x,o=some (.lst x)∧k x:=by
 unfold P4 at h
 split at h
 ·exact ⟨_,rfl,h⟩
 ·exact h.elim
theorem pH {o:Option HQ} {k:List (Str × PV)→Nat→Prop} {d:gX k} (h:GP o k d):∃ x e,o=some (.dct x e)∧k x e:=by
 unfold GP at h
 split at h
 ·exact ⟨_,_,rfl,h⟩
 ·exact h.elim
theorem Al {C:Addr} {o:Option HQ} {k:List (Str × PV)→Prop} {d:gX k} (h:LZ C o k d):∃ x,o=some (.ins C x)∧k x:=by
 unfold LZ at h
 split at h
 ·split at h
  ·rename_i e;subst e;exact ⟨_,rfl,h⟩
  ·exact h.elim
 ·exact h.elim
theorem Ao {x:PV} {xs:List PV} {k:List PV→Prop} (e:x=.tup xs) (h:k xs):Nf x k:=by rw [e];exact h
theorem sk {x:PV} {b:Bool} {k:Bool→Prop} (e:x=.bl b) (h:k b):JX x k:=by rw [e];exact h
theorem m5 {C:Addr} {o:Option HQ} {x:List (Str × PV)} {k:List (Str × PV)→Prop} (e:o=some (.ins C x)) (h:k x):LZ C o k:=by rw [e,JY];exact h
section
variable {X:Cx} {G:G2} {a b c e o:Expr} {es rest:List Expr} {ta tb te tc to:dG} {tA tB':mS} {t:p7} {pos px p p2 apos cpos:Pos} {x:Str} {i j:Nat}
def j2 (i:Nat):dG:=fun τ J Q=>Nd τ[i]? fun x=>Q x J
theorem rv (i:Nat) {x:Str} {pos:Pos} (hN:X.N[i]?=some x:=by rfl) (hv:xA X.env.scope x:=by first | exact Or.inl rfl | exact Or.inr (Or.inl rfl) | exact Or.inr (Or.inr rfl)) (hd:(x == ("__debug__":Str))=false:=by decide)
  (hcd:(x == ("__classdict__":Str))=false:=by decide):RE X G (.Name x pos) (j2 i) :=
 ⟨mh (L2.Aw hN hv hd hcd) fun σ H Q ⟨τ,J,Q2,a2,hq,k⟩=>let ⟨y,ey,q⟩:=Fp hq;let ⟨v,e1,r⟩:=a2.sl.get i y ey;⟨v,e1,k y J v H r a2.hp .refl q⟩⟩
def rC (x:PV):dG:=fun _ J Q=>Q x J
theorem ag {i:Int} {j pos}:RE X G (.Constant (.int i) j pos) (rC (.int i)):=⟨mh L2.aP fun σ H Q ⟨τ,J,Q2,a2,q,k⟩=>k (.int i) J _ H rfl a2.hp .refl q⟩
theorem fQ {b:Bool} {j pos}:RE X G (.Constant (.bool b) j pos) (rC (.bl b)):=⟨mh L2.yq fun σ H Q ⟨τ,J,Q2,a2,q,k⟩=>k (.bl b) J _ H rfl a2.hp .refl q⟩
theorem m7 {j pos}:RE X G (.Constant .none j pos) (rC .non):=⟨mh L2.As fun σ H Q ⟨τ,J,Q2,a2,q,k⟩=>k .non J _ H rfl a2.hp .refl q⟩
theorem bJ {x:Str} {j pos}:RE X G (.Constant (.str x) j pos) (rC (.str x)):=⟨mh L2.pK fun σ H Q ⟨τ,J,Q2,a2,q,k⟩=>k (.str x) J _ H rfl a2.hp .refl q⟩
theorem gh {v:V} {u:Value} (y:PV) (hg:Gl X x) (hm:X.mg x=some u) (r:RelV v u) (hr:∀ J H,cE X.K J H y v) (hd:(x == ("__debug__":Str))=false:=by decide):RE X G (.Name x pos) (rC y) :=
 ⟨mh (L2.dA hg hm r hd) fun σ H Q ⟨τ,J,Q2,a2,q,k⟩=>k y J v H (hr J H) a2.hp .refl q⟩
theorem oB {n:String} (hg:Gl X x) (hm:X.mg x=none) (hv:bootBuiltins x=some (.type n)) (hn:x≠"__name__":=by decide) (hd:(x == ("__debug__":Str))=false:=by decide):RE X G (.Name x pos) (rC (.ty n)) :=
 ⟨mh (L2.qG (v:=.ty n) hg hm hv rfl hn hd) fun σ H Q ⟨τ,J,Q2,a2,q,k⟩=>k (.ty n) J _ H rfl a2.hp .refl q⟩
abbrev nC:=PV→PV→Hq→(PV→Hq→Prop)→Prop
abbrev Nt:=PV→Hq→(PV→Hq→Prop)→Prop
abbrev A6:=List PV→Hq→(PV→Hq→Prop)→Prop
def Kn (K:PySem.W.Frag) (J:Hq) (H:Hp) (Q2:PV→Hq→Prop) (Q:VK):Prop:=∀ z J' u H',cE K J' H' z u→Rep K J' H'→Ext K J H J' H'→Q2 z J'→Q u H'
def LR (K:PySem.W.Frag) (r:R2) (q:nC):Prop:=∀ J H x y v w Q2 Q,cE K J H x v→cE K J H y w→Rep K J H→q x y J Q2→Kn K J H Q2 Q→r v w H Q
def SR (K:PySem.W.Frag) (r:V→Hp→VK→Prop) (q:Nt):Prop:=∀ J H x v Q2 Q,cE K J H x v→Rep K J H→q x J Q2→Kn K J H Q2 Q→r v H Q
def Sa (K:PySem.W.Frag) (r:List V→Hp→VK→Prop) (q:A6):Prop:=∀ J H xs vs Q2 Q,aR K J H xs vs→Rep K J H→q xs J Q2→Kn K J H Q2 Q→r vs H Q
def nB (X:Cx) (f:Value→Value→Sem Value) (q:nC):Prop:=∃ r,fT X f r∧LR X.K r q
def Sf (X:Cx) (f:Value→Sem Value) (q:Nt):Prop:=∃ r,y6 X f r∧SR X.K r q
def Qf (X:Cx) (q:nC):Prop:=∃ r,rA X r∧LR X.K r q
def KR (X:Cx) (f:Value) (q:A6):Prop:=∃ r,cD X f r∧Sa X.K r q
def xp (q:nC) (ta tb:dG):dG:=fun τ J Q=>ta τ J fun x J1=>tb τ J1 fun y J2=>q x y J2 Q
def SM (q:Nt) (ta:dG):dG:=fun τ J Q=>ta τ J fun x J1=>q x J1 Q
theorem qF {r:R2} {q:nC} (lr:LR X.K r q):∀ σ H Q,LE X.K G (xp q ta tb) σ H Q→L2.Gz r (LE X.K G ta) (LE X.K G tb) σ H Q:=fun σ H Q ⟨τ,J,Q2,a2,h,k⟩ =>
 ⟨τ,J,_,a2,h,fun x J1 v H1 rx r1 e1 q1=>⟨τ,J1,_,a2.go r1 e1,q1,fun y J2 w H2 ry r2 e2 q2 =>
  lr J2 H2 x y v w Q2 Q (e2.rep rx) ry r2 q2 fun z J' u H' rz rr ee qq=>k z J' u H' rz rr ((e1.trans e2).trans ee) qq⟩⟩
theorem aJ {op:Operator} {q:nC} (ho:nB X (binaryOp op) q) (ha:RE X G a ta) (hb:RE X G b tb):RE X G (.BinOp a op b pos) (xp q ta tb):=by
 obtain ⟨r,h,lr⟩:=ho
 exact ⟨mh (L2.bB h ha.run hb.run) (qF lr)⟩
theorem uO {op:UnaryOp} {q:Nt} (ho:Sf X (unaryOp op) q) (ha:RE X G a ta):RE X G (.UnaryOp op a pos) (SM q ta):=by
 obtain ⟨r,h,lr⟩:=ho
 exact ⟨mh (L2.BJ h ha.run) fun σ H Q ⟨τ,J,Q2,a2,h,k⟩=>⟨τ,J,_,a2,h,fun x J1 v H1 rx r1 e1 q1 =>
  lr J1 H1 x v Q2 Q rx r1 q1 fun z J' u H' rz rr ee qq=>k z J' u H' rz rr (e1.trans ee) qq⟩⟩
theorem aq {q:nC} (hr:Qf X q) (ha:RE X G a ta) (hb:RE X G b tb) (hs:dP b:=by exact fun _ _=>rfl):RE X G (.Subscript a b pos) (xp q ta tb):=by
 obtain ⟨r,h,lr⟩:=hr
 exact ⟨mh (L2.cu h ha.run hb.run hs) (qF lr)⟩
theorem ff {op:CmpOp} {q:nC} (ho:nB X (compareOp op) q) (ha:RE X G a ta) (hb:RE X G b tb) (hm:behindInMarks op b=false:=by first | exact L2.fz _ | with_unfolding_all rfl):RE X G (.Compare a [op] [b] pos) (xp q ta tb):=by
 obtain ⟨r,h,lr⟩:=ho
 exact ⟨mh (L2.qH h ha.run hb.run hm) (qF lr)⟩
def rB (t:dG):mS:=fun τ J Q=>t τ J fun x J1=>JX x fun k=>Q k J1
theorem aD {op:CmpOp} {q:nC} (ho:nB X (compareOp op) q) (ha:RE X G a ta) (hb:RE X G b tb) (hm:behindInMarks op b=false:=by first | exact L2.fz _ | with_unfolding_all rfl):RT X G (.Compare a [op] [b] pos) (rB (xp q ta tb)):=by
 obtain ⟨r,h,lr⟩:=ho
 refine ⟨P6 (L2.dW h ha.run hb.run hm) fun σ H Q ⟨τ,J,Q2,a2,h,k⟩=>?_⟩
 refine qF lr σ H _ ⟨τ,J,_,a2,h,fun z J' u H' rz rr ee qq=>?_⟩
 obtain ⟨b,rfl,q⟩:=pG qq
 exact ⟨b,rz,k b J' H' rr ee q⟩
theorem bX (h:RE X G e te) (he:∀ whole,isTrue e X.env whole=(do let v ← whole;standAt e.pos;holding [v] (truthy v)):=by intro _;rfl):RT X G e (rB te) :=
 ⟨P6 (L2.AB h.run he) fun σ H Q ⟨τ,J,Q2,a2,h,k⟩=>⟨τ,J,_,a2,h,fun z J' u H' rz rr ee qq=>by obtain ⟨b,eb,q⟩:=pG qq;subst eb;exact ⟨b,rz,k b J' H' rr ee q⟩⟩⟩
def xk (J:Hq):PV→Option Bool
 | .non=>some false
 | .bl b=>some b
 | .int i=>some (i != 0)
 | .tup xs=>some (!xs.isEmpty)
 | .fl xs=>some (!xs.isEmpty)
 | .ref a=>match J a with
  | some (.lst xs)=>some (!xs.isEmpty)
  | some (.dct kvs _)=>some (!kvs.isEmpty)
  | _=>none
 | _=>none
theorem hE {α β:Type} {xs:List α} {ys:List β} (h:xs.length=ys.length):xs.isEmpty=ys.isEmpty:=by cases xs <;> cases ys <;> simp_all
theorem Jt {K:PySem.W.Frag} {J:Hq} {H:Hp} {x:PV} {v:V} {k:Bool} (r:cE K J H x v) (hp:Rep K J H) (h:xk J x=some k):L2.K4 K v H k:=by
 cases x with
 | non=>cases r;cases h;rfl
 | bl b=>cases r;cases h;rfl
 | int i=>cases r;cases h;rfl
 | str s=>cases h
 | ty n=>cases h
 | tup xs=>obtain ⟨a,vs,rfl,h1,h2⟩:=r;cases h;exact .inr (.inl ⟨vs,h1,by rw [hE h2.length]⟩)
 | fl xs=>obtain ⟨a,vs,rfl,h1,h2⟩:=r;cases h;exact .inl ⟨vs,h1.sq,by rw [hE h2.length]⟩
 | ref a =>
  cases r
  unfold xk at h
  dsimp only at h
  cases e:J a with
  | none=>rw [e] at h;cases h
  | some o =>
   rw [e] at h
   have z:=hp a o e
   cases o with
   | lst xs=>obtain ⟨vs,h1,h2⟩:=z;cases h;exact .inl ⟨vs,.inl (.inl h1),by rw [hE h2.length]⟩
   | ins C fs=>cases h
   | tab=>cases h
   | dtp hs ks=>cases h
   | dct kvs ep =>
    obtain ⟨gs,h1,h2⟩:=z;cases h
    refine .inr (.inr ⟨gs,ep,h1,?_⟩)
    have:=congrArg List.length h2.1
    simp only [List.length_map] at this
    rw [hE this]
def Pc (te:dG):mS:=fun τ J Q=>te τ J fun x J1=>v_ (xk J1 x) fun k=>Q k J1
theorem ME (h:RE X G e te) (he:∀ whole,isTrue e X.env whole=(do let v ← whole;standAt e.pos;holding [v] (truthy v)):=by intro _;rfl):RT X G e (Pc te) :=
 ⟨P6 (L2.FI h.run he) fun σ H Q ⟨τ,J,Q2,a2,h,k⟩=>⟨τ,J,_,a2,h,fun z J' u H' rz rr ee qq=>let ⟨b,eb,q⟩:=e_ qq;⟨b,Jt rz rr eb,k b J' H' rr ee q⟩⟩⟩
def IH (t u:mS):mS:=fun τ J Q=>t τ J fun c J1=>if c=true then u τ J1 Q else Q false J1
def Rr (t u:mS):mS:=fun τ J Q=>t τ J fun c J1=>if c=true then Q true J1 else u τ J1 Q
def O6 (t:mS):mS:=fun τ J Q=>t τ J fun c J1=>Q (!c) J1
theorem dw (ha:RT X G a tA):RT X G (.UnaryOp .Not a pos) (O6 tA):=⟨P6 (L2.AA ha.run) fun σ H Q ⟨τ,J,Q2,a2,h,k⟩=>⟨τ,J,_,a2,h,fun b J' H' rr ee q=>k _ J' H' rr ee q⟩⟩
theorem dB (ha:RT X G a tA):RW X G (.BoolOp .And [a] pos) tA:=⟨L2.qL ha.run⟩
theorem i4 (ha:RT X G a tA):RW X G (.BoolOp .Or [a] pos) tA:=⟨L2.wu ha.run⟩
theorem Ef {σ:L2.St} {H:Hp} {Q:Bool→Hp→Prop}:LT X.K G (IH tA tB') σ H Q→L2.Gv (LT X.K G tA) (LT X.K G tB') σ H Q:=fun ⟨τ,J,Q2,a2,h,k⟩ =>
 ⟨τ,J,_,a2,h,fun b J' H' rr ee q=>by
  cases b with
  | true=>simp only [if_true] at q ⊢;exact ⟨τ,J',Q2,a2.go rr ee,q,fun b J2 H2 r2 e2 q2=>k b J2 H2 r2 (ee.trans e2) q2⟩
  | false=>simp only [Bool.false_eq_true,if_false] at q ⊢;exact k _ J' H' rr ee q⟩
theorem Ij {σ:L2.St} {H:Hp} {Q:Bool→Hp→Prop}:LT X.K G (Rr tA tB') σ H Q→L2.Pt (LT X.K G tA) (LT X.K G tB') σ H Q:=fun ⟨τ,J,Q2,a2,h,k⟩ =>
 ⟨τ,J,_,a2,h,fun b J' H' rr ee q=>by
  cases b with
  | false=>simp only [Bool.false_eq_true,if_false] at q ⊢;exact ⟨τ,J',Q2,a2.go rr ee,q,fun b J2 H2 r2 e2 q2=>k b J2 H2 r2 (ee.trans e2) q2⟩
  | true=>simp only [if_true] at q ⊢;exact k _ J' H' rr ee q⟩
theorem eJ (ha:RT X G a tA) (hb:RW X G (.BoolOp .And (b :: rest) pos) tB'):RW X G (.BoolOp .And (a :: b :: rest) pos) (IH tA tB'):=⟨SD (L2.wt ha.run hb.run) fun σ H Q h=>Ef h⟩
theorem ku (ha:RT X G a tA) (hb:RW X G (.BoolOp .Or (b :: rest) pos) tB'):RW X G (.BoolOp .Or (a :: b :: rest) pos) (Rr tA tB'):=⟨SD (L2.BM ha.run hb.run) fun σ H Q h=>Ij h⟩
theorem dC (h:RW X G e tA):RT X G e tA:=⟨h.run.pt⟩
def Kp (ta tb:dG):dG:=fun τ J Q=>ta τ J fun x J1=>JX x fun c=>if c=true then tb τ J1 Q else Q (.bl false) J1
def O7 (ta tb:dG):dG:=fun τ J Q=>ta τ J fun x J1=>JX x fun c=>if c=true then Q (.bl true) J1 else tb τ J1 Q
def Kt (ta:dG):dG:=fun τ J Q=>ta τ J fun x J1=>JX x fun c=>Q (.bl (!c)) J1
theorem wB {op} (h:RE X G a ta):RE X G (.BoolOp op [a] pos) ta:=⟨L2.Av h.run⟩
theorem AI (ha:RE X G a ta) (hb:RE X G (.BoolOp .And (b :: rest) pos) tb):RE X G (.BoolOp .And (a :: b :: rest) pos) (Kp ta tb):=⟨mh (L2.Ar ha.run hb.run) fun σ H Q ⟨τ,J,Q2,a2,h,k⟩ =>
 ⟨τ,J,_,a2,h,fun x J' v H' rx rr ee qq=>by
  obtain ⟨c,ec,q⟩:=pG qq
  subst ec
  refine ⟨c,rx,?_⟩
  cases c with
  | true=>simp only [if_true] at q ⊢;exact ⟨τ,J',Q2,a2.go rr ee,q,fun z J2 u H2 rz r2 e2 q2=>k z J2 u H2 rz r2 (ee.trans e2) q2⟩
  | false=>simp only [Bool.false_eq_true,if_false] at q ⊢;exact k (.bl false) J' _ H' rfl rr ee q⟩⟩
theorem Ph (ha:RE X G a ta) (hb:RE X G (.BoolOp .Or (b :: rest) pos) tb):RE X G (.BoolOp .Or (a :: b :: rest) pos) (O7 ta tb):=⟨mh (L2.FE ha.run hb.run) fun σ H Q ⟨τ,J,Q2,a2,h,k⟩ =>
 ⟨τ,J,_,a2,h,fun x J' v H' rx rr ee qq=>by
  obtain ⟨c,ec,q⟩:=pG qq
  subst ec
  refine ⟨c,rx,?_⟩
  cases c with
  | false=>simp only [Bool.false_eq_true,if_false] at q ⊢;exact ⟨τ,J',Q2,a2.go rr ee,q,fun z J2 u H2 rz r2 e2 q2=>k z J2 u H2 rz r2 (ee.trans e2) q2⟩
  | true=>simp only [if_true] at q ⊢;exact k (.bl true) J' _ H' rfl rr ee q⟩⟩
theorem Mx (ha:RE X G a ta):RE X G (.UnaryOp .Not a pos) (Kt ta):=⟨mh (L2.Au ha.run) fun σ H Q ⟨τ,J,Q2,a2,h,k⟩ =>
 ⟨τ,J,_,a2,h,fun x J' v H' rx rr ee qq=>by obtain ⟨c,ec,q⟩:=pG qq;subst ec;exact ⟨c,rx,k (.bl (!c)) J' _ H' rfl rr ee q⟩⟩⟩
def SH (t:mS) (ta tb:dG):dG:=fun τ J Q=>t τ J fun c J1=>if c=true then ta τ J1 Q else tb τ J1 Q
theorem Pg (hc:RT X G c tA) (ha:RE X G a ta) (hb:RE X G b tb):RE X G (.IfExp c a b pos) (SH tA ta tb):=⟨mh (L2.sy hc.run ha.run hb.run) fun σ H Q ⟨τ,J,Q2,a2,h,k⟩ =>
 ⟨τ,J,_,a2,h,fun c J' H' rr ee q=>by
  cases c with
  | true=>simp only [if_true] at q ⊢;exact ⟨τ,J',Q2,a2.go rr ee,q,fun z J2 u H2 rz r2 e2 q2=>k z J2 u H2 rz r2 (ee.trans e2) q2⟩
  | false=>simp only [Bool.false_eq_true,if_false] at q ⊢;exact ⟨τ,J',Q2,a2.go rr ee,q,fun z J2 u H2 rz r2 e2 q2=>k z J2 u H2 rz r2 (ee.trans e2) q2⟩⟩⟩
def uf:p7:=fun _ J Q=>Q [] J
def lA (ta:dG) (tr:p7):p7:=fun τ J Q=>ta τ J fun x J1=>tr τ J1 fun xs J2=>Q (x :: xs) J2
theorem ah:RA X G [] uf:=⟨Rc L2.a_ fun σ H Q ⟨τ,J,Q2,a2,h,k⟩=>k [] J [] H rfl a2.hp .refl h⟩
theorem af (ha:RE X G e te) (hr:RA X G es t) (hs:starEach (e :: es) X.env=(false,eval e X.env) :: starEach es X.env:=by rfl):RA X G (e :: es) (lA te t) :=
 ⟨Rc (L2.ay ha.run hr.run hs) fun σ H Q ⟨τ,J,Q2,a2,h,k⟩=>⟨τ,J,_,a2,h,fun x J' v H' rx rr ee q=>⟨τ,J',_,a2.go rr ee,q,fun xs J2 vs H2 rs r2 e2 q2=>k (x :: xs) J2 (v :: vs) H2 ⟨v,vs,rfl,e2.rep rx,rs⟩ r2 (ee.trans e2) q2⟩⟩⟩
def vP:V→PV
 | .non=>.non | .bl b=>.bl b | .int i=>.int i | .str x=>.str x | _=>.non
theorem sI {K:PySem.W.Frag} {J:Hq} {H:Hp}:∀ {es:List Expr} {vs:List V},es.map vB=vs.map some→aR K J H (vs.map vP) vs
 | [],[],_=>rfl
 | [],_ :: _,h=>by cases h
 | _ :: _,[],h=>by cases h
 | e :: es,v :: vs,h=>by
  rw [List.map_cons,List.map_cons] at h
  injection h with h1 h2
  refine ⟨v,vs,rfl,?_,sI h2⟩
  cases e with
  | Constant c j pos =>
   cases c with
   | int i=>cases h1;rfl
   | str x=>cases h1;rfl
   | bool b=>cases h1;rfl
   | _=>cases h1
  | _=>cases h1
theorem wA {es:List Expr} (vs:List V) (h:es.map vB=vs.map some) (xs:List PV) (hx:vs.map vP=xs):RA X G es (fun _ J Q=>Q xs J) :=
 ⟨Rc (sv vs h) fun σ H Q ⟨τ,J,Q2,a2,q,k⟩=>k _ J _ H (by rw [← hx];exact sI h) a2.hp .refl q⟩
def Pe (t:p7):dG:=fun τ J Q=>t τ J fun xs J1=>xs.length≤sizeLine∧Q (.tup xs) J1
theorem cm {x1} (h:RA X G es t):RE X G (.Tuple es x1 pos) (Pe t):=⟨mh (L2.sC h.run) fun σ H Q ⟨τ,J,Q2,a2,h,k⟩=>⟨τ,J,_,a2,h,fun xs J' vs H' rs rr ee ⟨hl,q⟩ =>
 ⟨by rw [← rs.length];exact hl,fun p hp=>by
  have sm:=bF.new hp (.tup vs)
  have e2:=Ext.same (K:=X.K) (J:=J') sm
  exact k (.tup xs) J' (.ref p) _ ⟨p,vs,rfl,.inl (.inl aE),e2.jv rs⟩ (rr.same sm) (ee.trans e2) q⟩⟩⟩
def O5 (t:p7):dG:=fun τ J Q=>t τ J fun xs J1=>xs.length≤sizeLine∧∀ p,J1 p=none→Q (.ref p) (put J1 p (.lst xs))
theorem m6 (h:RA X G es t):RE X G (.List es pos) (O5 t):=⟨mh (L2.jY h.run) fun σ H Q ⟨τ,J,Q2,a2,h,k⟩=>⟨τ,J,_,a2,h,fun xs J' vs H' rs rr ee ⟨hl,q⟩ =>
 ⟨by rw [← rs.length];exact hl,fun p hp=>k (.ref p) _ (.ref p) _ rfl (rr.EX hp rs) (ee.trans (.laid hp)) (q p (rr.free hp))⟩⟩⟩
def SG (t:p7):dG:=fun τ J Q=>t τ J fun xs J1=>xs.length≤sizeLine∧Q (.fl xs) J1
theorem sf {K:PySem.W.Frag} {J:Hq} {H:Hp} {xs:List PV} {vs:List V} {p:Addr} (rr:Rep K J H) (rs:aR K J H xs vs) (hp:H p=none):cE K J (upd H p (.lst vs)) (.fl xs) (.ref p)∧Rep K J (upd H p (.lst vs))∧Ext K J H J (upd H p (.lst vs)):=by
 have sm:=bF.new hp (.lst vs)
 have e2:=Ext.same (K:=K) (J:=J) sm
 exact ⟨⟨p,vs,rfl,.inl ⟨rr.free hp,.inl aE⟩,e2.jv rs⟩,rr.same sm,e2⟩
theorem oA (h:RA X G es t):RE X G (.List es pos) (SG t):=⟨mh (L2.jY h.run) fun σ H Q ⟨τ,J,Q2,a2,h,k⟩=>⟨τ,J,_,a2,h,fun xs J' vs H' rs rr ee ⟨hl,q⟩ =>
 ⟨by rw [← rs.length];exact hl,fun p hp=>let ⟨x1,x2,x3⟩:=sf rr rs hp;k (.fl xs) _ (.ref p) _ x1 x2 (ee.trans x3) q⟩⟩⟩
abbrev M8:=Sr→Hq→(Option Int→Hq→Prop)→Prop
def LO (K:PySem.W.Frag) (G:G2) (t:M8):TO:=fun σ H Q=>∃ τ J Q2,xo K G τ J σ H∧t τ J Q2∧∀ b J' H',Rep K J' H'→Ext K J H J' H'→Q2 b J'→Q b H'
structure RO (X:Cx) (G:G2) (e:Option Expr) (t:M8):Prop where
 run:L2.PO X e (LO X.K G t)
theorem Sy {X:Cx} {e:Option Expr} {t t':TO} (h:L2.PO X e t) (k:∀ σ H Q,t' σ H Q→t σ H Q):L2.PO X e t':=fun pins s σ H Q I q=>h pins s σ H Q I (k _ _ _ q)
def BR:M8:=fun _ J Q=>Q none J
def Ku (t:dG):M8:=fun τ J Q=>t τ J fun x J1=>DW x fun i=>Q (some i) J1
theorem lY:RO X G none BR:=⟨Sy L2.qJ fun σ H Q ⟨τ,J,Q2,a2,h,k⟩=>k none J H a2.hp .refl h⟩
theorem lZ (h:RE X G e te):RO X G (some e) (Ku te):=⟨Sy (L2.lT h.run) fun σ H Q ⟨τ,J,Q2,a2,h,k⟩=>⟨τ,J,_,a2,h,fun x J' v H' rx rr ee qq=>by obtain ⟨i,ei,q⟩:=iP qq;subst ei;exact ⟨i,rx,k _ J' H' rr ee q⟩⟩⟩
abbrev CF:=PV→Option Int→Option Int→Hq→(PV→Hq→Prop)→Prop
def Qi (X:Cx) (q:CF):Prop:=∃ r,uu X r∧∀ J H x lo hi v Q2 Q,cE X.K J H x v→Rep X.K J H→q x lo hi J Q2→Kn X.K J H Q2 Q→r v lo hi H Q
def SK (q:CF) (te:dG) (tl th:M8):dG:=fun τ J Q=>te τ J fun x J1=>tl τ J1 fun l J2=>th τ J2 fun u J3=>q x l u J3 Q
theorem ju {lo hi:Option Expr} {tl th:M8} {q:CF} (hr:Qi X q) (he:RE X G e te) (hl:RO X G lo tl) (hu:RO X G hi th):RE X G (.Subscript e (.Slice lo hi none p2) pos) (SK q te tl th):=by
 obtain ⟨r,h,lr⟩:=hr
 exact ⟨mh (L2.k8 h he.run hl.run hu.run) fun σ H Q ⟨τ,J,Q2,a2,h,k⟩=>⟨τ,J,_,a2,h,fun x J' v H' rx rr ee q1=>⟨τ,J',_,a2.go rr ee,q1,fun l J2 H2 r2 e2 q2 =>
  ⟨τ,J2,_,a2.go r2 (ee.trans e2),q2,fun u J3 H3 r3 e3 q3=>lr J3 H3 x l u v Q2 Q ((e2.trans e3).rep rx) r3 q3 fun z J4 w H4 rz r4 e4 q4=>k z J4 w H4 rz r4 (((ee.trans e2).trans e3).trans e4) q4⟩⟩⟩⟩
def OW (q:A6) (t:p7):dG:=fun τ J Q=>t τ J fun xs J1=>q xs J1 Q
theorem Ba {r:List V→Hp→VK→Prop} {q:A6} (lr:Sa X.K r q):∀ σ H Q,LE X.K G (OW q t) σ H Q→L2.Jl r (LA X.K G t) σ H Q:=fun σ H Q ⟨τ,J,Q2,a2,h,k⟩ =>
 ⟨τ,J,_,a2,h,fun xs J1 vs H1 rs r1 e1 q1=>lr J1 H1 xs vs Q2 Q rs r1 q1 fun z J' u H' rz rr ee qq=>k z J' u H' rz rr (e1.trans ee) qq⟩
theorem aM {id:String} {q:A6} (hc:KR X (.builtin id) q) (hg:Gl X x) (hm:X.mg x=none) (hv:bootBuiltins x=some (.builtin id)) (ha:RA X G (e :: es) t) (hn:x≠"__name__":=by decide) (hdb:(x == ("__debug__":Str))=false:=by decide)
  (he:starEach (e :: es) X.env=(false,eval e X.env) :: starEach es X.env:=by rfl) (hpl:(backTo pos (starEach es X.env)).any (·.1)=false:=by rfl):RE X G (.Call (.Name x p) (e :: es) [] pos) (OW q t):=by
 obtain ⟨r,h,lr⟩:=hc
 exact ⟨mh (L2.bG h hg hm hv ha.run hn hdb he hpl) (Ba lr)⟩
theorem lW {T:String} {q:A6} (hc:KR X (.type T) q) (hg:Gl X x) (hm:X.mg x=none) (hv:bootBuiltins x=some (.type T)) (ha:RA X G (e :: es) t) (hn:x≠"__name__":=by decide) (hdb:(x == ("__debug__":Str))=false:=by decide)
  (he:starEach (e :: es) X.env=(false,eval e X.env) :: starEach es X.env:=by rfl) (hpl:(backTo pos (starEach es X.env)).any (·.1)=false:=by rfl):RE X G (.Call (.Name x p) (e :: es) [] pos) (OW q t):=by
 obtain ⟨r,h,lr⟩:=hc
 exact ⟨mh (L2.pJ h hg hm hv ha.run hn hdb he hpl) (Ba lr)⟩
abbrev DU:=PV→List PV→Hq→(PV→Hq→Prop)→Prop
def K3 (X:Cx) (T id:String) (q:DU):Prop:=∃ r,rD X id r∧∀ J H x xs v vs Q2 Q,cE X.K J H x v→aR X.K J H xs vs→Rep X.K J H→q x xs J Q2→Kn X.K J H Q2 Q→r v vs H Q
def Nk (T:String) (J:Hq):PV→Prop
 | .str _=>T="str"
 | .fl _=>T="list"
 | .ref a=>(T="list"∧∃ xs,J a=some (.lst xs))∨(T="dict"∧∃ kvs ep,J a=some (.dct kvs ep))
 | _=>False
theorem Cp {K:PySem.W.Frag} {T:String} {J:Hq} {H:Hp} {x:PV} {v:V} (r:cE K J H x v) (hp:Rep K J H) (h:Nk T J x):L2.Qc K T v H:=by
 cases x with
 | str s=>cases r;exact h
 | fl xs=>obtain ⟨a,vs,rfl,h1,h2⟩:=r;exact .inl ⟨h,vs,h1.sq⟩
 | ref a =>
  cases r
  rcases h with ⟨h,xs,e⟩ | ⟨h,kvs,ep,e⟩
  ·obtain ⟨vs,h1,_⟩:=hp _ _ e;exact .inl ⟨h,vs,.inl (.inl h1)⟩
  ·obtain ⟨gs,h1,_⟩:=hp _ _ e;exact .inr (.inr (.inl ⟨h,.inr ⟨gs,ep,h1⟩⟩))
 | _=>cases h
def Rm (T:String) (q:DU) (to:dG) (t:p7):dG:=fun τ J Q=>to τ J fun x J1=>Nk T J1 x∧t τ J1 fun xs J2=>q x xs J2 Q
def OV (T:String) (q:DU) (to:dG):dG:=fun τ J Q=>to τ J fun x J1=>Nk T J1 x∧q x [] J1 Q
theorem oz {name:Str} {T id:String} {q:DU} (pa:PlainAttrs T) (slot:Slot T name id) (hty:typeOf (.builtin id)=pure (.type "method_descriptor")) (hm:K3 X T id q) (ho:RE X G o to) (ha:RA X G (e :: es) t)
  (hbase:attributeBase o name X.env (eval o X.env)=eval o X.env:=by rfl)
  (hfew:((backTo cpos (starEach (e :: es) X.env)).all (fun x=>!x.1) && (backToKw cpos (keywordEach [] X.env)).all (fun x=>x.1.isSome)
   && decide ((e :: es).length + ([]:List Keyword).length + (if ([]:List Keyword).isEmpty then 0 else 1) < 30))=true:=by rfl)
  (hline:(apos.endLine == cpos.line)=true:=by rfl) (hs:starEach (e :: es) X.env=(false,eval e X.env) :: starEach es X.env:=by rfl) (hplain:(backTo cpos (starEach es X.env)).any (·.1)=false:=by rfl) :
  RE X G (.Call (.Attribute o name apos) (e :: es) [] cpos) (Rm T q to t):=by
 obtain ⟨r,h,lr⟩:=hm
 exact ⟨mh (L2.sx pa slot hty h ho.run ha.run hbase hfew hline hs hplain) fun σ H Q ⟨τ,J,Q2,a2,h,k⟩=>⟨τ,J,_,a2,h,fun x J1 v H1 rx r1 e1 ⟨ty,q1⟩=>⟨Cp rx r1 ty,τ,J1,_,a2.go r1 e1,q1,fun xs J2 vs H2 rs r2 e2 q2 =>
  lr J2 H2 x xs v vs Q2 Q (e2.rep rx) rs r2 q2 fun z J' u H' rz rr ee qq=>k z J' u H' rz rr ((e1.trans e2).trans ee) qq⟩⟩⟩
theorem Mw {name:Str} {T id:String} {q:DU} (pa:PlainAttrs T) (slot:Slot T name id) (hty:typeOf (.builtin id)=pure (.type "method_descriptor")) (hm:K3 X T id q) (ho:RE X G o to)
  (hbase:attributeBase o name X.env (eval o X.env)=eval o X.env:=by rfl) (hline:(apos.endLine == cpos.line)=true:=by rfl):RE X G (.Call (.Attribute o name apos) [] [] cpos) (OV T q to):=by
 obtain ⟨r,h,lr⟩:=hm
 exact ⟨mh (L2.Mf pa slot hty h ho.run hbase hline) fun σ H Q ⟨τ,J,Q2,a2,h,k⟩=>⟨τ,J,_,a2,h,fun x J1 v H1 rx r1 e1 ⟨ty,q1⟩=>⟨Cp rx r1 ty,
  lr J1 H1 x [] v [] Q2 Q rx rfl r1 q1 fun z J' u H' rz rr ee qq=>k z J' u H' rz rr (e1.trans ee) qq⟩⟩⟩
end
end Ov
namespace Ov
open PySem PySem.Spec PyProof.Rows
open L2 (V HO Hp Inv Cx VK XK TE TT TA TS TG rF TI TO me Ends xA Loc Gl Rd RelV Vals fT y6 cD rA uu rD md R2 upd aE aK di g7 Sp tH It bF dP bU Passes qA aH Meth Mk Binds aL cA aw dJ gY fC)
abbrev cJ:=List PV→Hq→(PV→Hq→Prop)→(Addr→Hq→Prop)→Prop
def JB (K:PySem.W.Frag) (J:Hq) (H:Hp) (E2:Addr→Hq→Prop) (E:XK):Prop:=∀ c J' H',Rep K J' H'→Ext K J H J' H'→E2 c J'→E (.ref c) none H'
def d4 (K:PySem.W.Frag) (sp:cJ):Sp:=fun vs H Q E=>∃ xs J Q2 E2,aR K J H xs vs∧Rep K J H∧sp xs J Q2 E2∧Kn K J H Q2 Q∧JB K J H E2 E
theorem JB.ext {K:PySem.W.Frag} {J J':Hq} {H H':Hp} {E2:Addr→Hq→Prop} {E:XK} (k:JB K J H E2 E) (e:Ext K J H J' H'):JB K J' H' E2 E:=fun c J1 H1 r x q=>k c J1 H1 r (e.trans x) q
theorem _root_.L2.aL.SW {P:Program} {w:World} {K:PySem.W.Frag} {mg:Str→Option Value} {base:Heap} {k:Nat} {f:Addr} {fd:FuncData} {ps:List Str} {sp:Sp} (F:aL P w K mg base L2.ra k f fd ps sp):aL P w K mg base (dh P w) k f fd ps sp :=
 ⟨F.len,fun A outer s H args us vs Q E hr he hb hv hs=>codeAny_mono (F.run A outer s H args us vs Q E hr he hb hv hs) fun r s' q=>by
  cases r with
  | error e=>exact False.elim q
  | ok fl=>cases fl <;> exact q⟩
theorem _root_.L2.aL.PM {P:Program} {w:World} {K:PySem.W.Frag} {mg:Str→Option Value} {base:Heap} {k:Nat} {f:Addr} {fd:FuncData} {ps:List Str} {sp:Sp} (F:aL P w K mg base (dh P w) k f fd ps sp):aL P w K mg base L2.ra k f fd ps (fun vs H Q _=>sp vs H Q L2.E0) :=
 ⟨fun vs H Q E q=>F.len vs H Q _ q,fun A outer s H args us vs Q E hr he hb hv hs=>codeAny_mono (F.run A outer s H args us vs Q _ hr he hb hv hs) fun r s' q=>by
  cases r with
  | error e=>obtain ⟨_,_,_,_,_,z⟩:=q;exact z.elim
  | ok fl=>cases fl <;> exact q⟩
def bt (P:Program) (w:World) (K:PySem.W.Frag) (mg:Str→Option Value) (base:Heap) (k:Nat) (x:Str) (ps:List Str) (sp:cJ):Prop:=D0 P w K mg base k x ps (d4 K sp)
theorem _root_.Ov.tD.lift {P:Program} {w:World} {K:PySem.W.Frag} {mg:Str→Option Value} {base:Heap} {k:Nat} {x:Str} {ps:List Str} {sp:Sp} (C:tD P w K mg base k x ps sp) {sp':cJ}
  (h:∀ xs J vs H Q2 E2 Q E,aR K J H xs vs→Rep K J H→sp' xs J Q2 E2→Kn K J H Q2 Q→sp vs H Q E):bt P w K mg base k x ps sp':=by
 obtain ⟨f,fd,F,r⟩:=C
 exact ⟨f,fd,(F.SW).imp fun vs H Q E ⟨xs,J,Q2,E2,a,b,c,d,_⟩=>h xs J vs H Q2 E2 Q E a b c d,r⟩
theorem D0.lift {P:Program} {w:World} {K:PySem.W.Frag} {mg:Str→Option Value} {base:Heap} {k:Nat} {x:Str} {ps:List Str} {sp:Sp} (C:D0 P w K mg base k x ps sp) {sp':cJ}
  (h:∀ xs J vs H Q2 E2 Q E,aR K J H xs vs→Rep K J H→sp' xs J Q2 E2→Kn K J H Q2 Q→JB K J H E2 E→sp vs H Q E):bt P w K mg base k x ps sp':=by
 obtain ⟨f,fd,F,r⟩:=C
 exact ⟨f,fd,F.imp fun vs H Q E ⟨xs,J,Q2,E2,a,b,c,d,e⟩=>h xs J vs H Q2 E2 Q E a b c d e,r⟩
section
variable {X:Cx} {G:G2} {a b c e o value:Expr} {es rest:List Expr} {ta tb te tc to tv:dG} {tA tB':mS} {t:p7} {pos px p p2 apos cpos pos':Pos} {x:Str} {i j:Nat} {E:XK} {E2:Addr→Hq→Prop}
structure Cy (X:Cx) (G:G2) (E2:Addr→Hq→Prop) (E:XK):Prop where
 pass:Passes (dh X.prog X.w) X E
 kn:JB X.K G.1 G.2 E2 E
def yy (sp:cJ) (E2:Addr→Hq→Prop) (t:p7):dG:=fun τ J Q=>t τ J fun xs J1=>sp xs J1 Q E2
theorem aS {k k':Nat} {ps:List Str} {sp:cJ} (C:bt X.prog X.w X.K X.mg X.base k x ps sp) (B:Cy X G E2 E) (hr:bU k' X.A) (ha:RA X G (e :: es) t) (hk:k≤k':=by decide) (hg:Gl X x:=by rfl)
  (hdb:(x == ("__debug__":Str))=false:=by decide) (he:starEach (e :: es) X.env=(false,eval e X.env) :: starEach es X.env:=by rfl) (hpl:(backTo pos (starEach es X.env)).any (·.1)=false:=by rfl) :
  RE X G (.Call (.Name x p) (e :: es) [] pos) (yy sp E2 t) :=
 ⟨mh (Il C B.pass hr hk hg ha.run hdb he hpl) fun σ H Q ⟨τ,J,Q2,a2,h,k⟩=>⟨τ,J,_,a2,h,fun xs J1 vs H1 rs r1 e1 q1=>by
  simp only [List.append_nil]
  exact ⟨xs,J1,Q2,E2,rs,r1,q1,fun z J' u H' rz rr ee qq=>k z J' u H' rz rr (e1.trans ee) qq,B.kn.ext (a2.ext.trans e1)⟩⟩⟩
def OX (C:Addr) (ta:dG) (f:Str):dG:=fun τ J Q=>ta τ J fun x J1=>Du x fun a=>LZ C (J1 a) fun fs=>v_ (fs.lookup f) fun v=>Q v J1
theorem aZ {C:Addr} {f:Str} (cl:qA X.K C) (na:aH X.K C f) (he:RE X G e ta) (hb:attributeBase e f X.env (eval e X.env)=eval e X.env:=by rfl):RE X G (.Attribute e f pos) (OX C ta f) :=
 ⟨mh (L2.Mh he.run hb) fun σ H Q ⟨τ,J,Q2,a2,h,k⟩=>⟨τ,J,_,a2,h,fun x J1 v H1 rx r1 e1 hh=>by
  obtain ⟨a,ex,hh⟩:=iQ hh;obtain ⟨fs,ja,hh⟩:=Al hh;obtain ⟨y,lk,q⟩:=e_ hh
  subst ex;cases rx
  obtain ⟨dx,gs,ha,rf⟩:=r1 _ _ ja
  obtain ⟨w,lw,rw'⟩:=rf.look lk
  exact ⟨a,C,dx,gs,w,rfl,ha,cl,na,lw,k y J1 w H1 rw' r1 e1 q⟩⟩⟩
structure cY (P:Program) (w:World) (K:PySem.W.Frag) (mg:Str→Option Value) (base:Heap) (C:Addr) (k:Nat) (m:Str) (ps:List Str) (sp:cJ):Prop where
 cl:qA K C
 ex:∃ f fd,Meth K C m f∧aL P w K mg base (dh P w) k f fd ps (d4 K sp)∧Binds K fd ps []
theorem cY.imp {P:Program} {w:World} {K:PySem.W.Frag} {mg:Str→Option Value} {base:Heap} {C:Addr} {k:Nat} {m:Str} {ps:List Str} {sp sp':cJ} (M:cY P w K mg base C k m ps sp) (h:∀ xs J Q E,sp' xs J Q E→sp xs J Q E):cY P w K mg base C k m ps sp':=by
 obtain ⟨cl,f,fd,hm,F,r⟩:=M
 exact ⟨cl,f,fd,hm,F.imp fun vs H Q E ⟨xs,J,Q2,E2,a,b,c,d⟩=>⟨xs,J,Q2,E2,a,b,h _ _ _ _ c,d⟩,r⟩
def IL (C:Addr) (m:Str) (sp:cJ) (E2:Addr→Hq→Prop) (ta:dG) (t:p7):dG:=fun τ J Q=>ta τ J fun x J1=>Du x fun a=>LZ C (J1 a) fun fs=>fs.lookup m=none∧t τ J1 fun xs J2=>sp (x :: xs) J2 Q E2
theorem x9 {C:Addr} {m:Str} {sp:cJ} (B:Cy X G E2 E):∀ σ H Q,LE X.K G (IL C m sp E2 to t) σ H Q→L2.Gy C m (d4 X.K sp) [] E (LE X.K G to) (LA X.K G t) σ H Q:=fun σ H Q ⟨τ,J,Q2,a2,h,k⟩ =>
 ⟨τ,J,_,a2,h,fun x J1 v H1 rx r1 e1 hh=>by
  obtain ⟨a,ex,hh⟩:=iQ hh;obtain ⟨fs,ja,lk,q⟩:=Al hh
  subst ex;cases rx
  obtain ⟨dx,gs,ha,rf⟩:=r1 _ _ ja
  refine ⟨a,dx,gs,rfl,ha,rf.none lk,τ,J1,_,a2.go r1 e1,q,fun xs J2 vs H2 rs r2 e2 q2=>?_⟩
  simp only [List.append_nil]
  exact ⟨.ref a :: xs,J2,Q2,E2,⟨.ref a,vs,rfl,rfl,rs⟩,r2,q2,fun z J' u H' rz rr ee qq=>k z J' u H' rz rr ((e1.trans e2).trans ee) qq,B.kn.ext ((a2.ext.trans e1).trans e2)⟩⟩
theorem bL {C:Addr} {m:Str} {k k':Nat} {ps:List Str} {sp:cJ} {pl:Sem Bool} (M:cY X.prog X.w X.K X.mg X.base C k m ps sp) (B:Cy X G E2 E) (hr:bU k' X.A) (ho:RE X G o to) (ha:RA X G (e :: es) t) (hk:k≤k':=by decide)
  (hst:starEach (e :: es) X.env=(false,eval e X.env) :: starEach es X.env:=by rfl) (hpl:(backTo pos (starEach es X.env)).any (·.1)=false:=by rfl)
  (ht:eval (.Call (.Attribute o m apos) (e :: es) [] pos) X.env=(do
   let ov ← eval o X.env
   standAt apos.atName
   let (f,first) ← holding [ov] (getMethod ov m pl)
   callWith pos f first (backTo pos (starEach (e :: es) X.env)) (backToKw pos (keywordEach [] X.env))):=by rfl) :
  RE X G (.Call (.Attribute o m apos) (e :: es) [] pos) (IL C m sp E2 to t):=by
 obtain ⟨cl,f,fd,hm,F,b⟩:=M
 exact ⟨mh (L2.Ip (pl:=pl) ho.run cl hm F (hr.mono hk) b .nil B.pass ha.run hst hpl ht) (x9 B)⟩
theorem d8 {C:Addr} {m:Str} {k k':Nat} {ps:List Str} {sp:cJ} {pl:Sem Bool} (M:cY X.prog X.w X.K X.mg X.base C k m ps sp) (B:Cy X G E2 E) (hr:bU k' X.A) (ho:RE X G o to) (hk:k≤k':=by decide)
  (ht:eval (.Call (.Attribute o m apos) [] [] pos) X.env=(do
   let ov ← eval o X.env
   standAt apos.atName
   let (f,first) ← holding [ov] (getMethod ov m pl)
   callWith pos f first (backTo pos (starEach [] X.env)) (backToKw pos (keywordEach [] X.env))):=by rfl) :
  RE X G (.Call (.Attribute o m apos) [] [] pos) (IL C m sp E2 to uf):=by
 obtain ⟨cl,f,fd,hm,F,b⟩:=M
 refine ⟨mh (L2.FD (pl:=pl) ho.run cl hm F (hr.mono hk) b .nil B.pass ht) fun σ H Q h=>?_⟩
 have z:=x9 B σ H Q h
 obtain ⟨τ,J,Q2,a2,h1,k1⟩:=z
 refine ⟨τ,J,Q2,a2,h1,fun x J1 v H1 rx r1 e1 q1=>?_⟩
 obtain ⟨a,dx,fs,h2,h3,h4,τ',J',Q',a2',h5,k5⟩:=k1 x J1 v H1 rx r1 e1 q1
 exact ⟨a,dx,fs,h2,h3,h4,k5 [] J' [] H1 rfl a2'.hp .refl h5⟩
structure zC (P:Program) (w:World) (K:PySem.W.Frag) (mg:Str→Option Value) (base:Heap) (C:Addr) (k:Nat) (x:Str) (ps:List Str) (sp:cJ):Prop where
 m:mg x=some (.ref C)
 ex:∃ f fd,Mk K C f∧aL P w K mg base (dh P w) k f fd ps (d4 K sp)∧Binds K fd ps []
def IK (C:Addr) (sp:cJ) (E2:Addr→Hq→Prop) (t:p7):dG:=fun τ J Q=>t τ J fun xs J1=>∀ a,J1 a=none→sp (.ref a :: xs) (put J1 a (.ins C [])) (fun v J2=>v=.non∧Q (.ref a) J2) E2
theorem xZ {C:Addr} {sp:cJ} (B:Cy X G E2 E):∀ σ H Q,LE X.K G (IK C sp E2 t) σ H Q→L2.Gx C (d4 X.K sp) [] E (LA X.K G t) σ H Q:=fun σ H Q ⟨τ,J,Q2,a2,h,k⟩ =>
 ⟨τ,J,_,a2,h,fun xs J1 vs H1 rs r1 e1 q1 x dx hx hdx ne=>by
  have s1:=bF.new hdx (.own x)
  have hx':upd H1 dx (.own x) x=none:=by rw [aK (Ne.symm ne)];exact hx
  have r2:=r1.same s1
  have e2:Ext X.K J1 H1 (put J1 x (.ins C [])) (upd (upd H1 dx (.own x)) x (.ins C dx [])):=(Ext.same s1).trans (.laid hx')
  have r3:Rep X.K (put J1 x (.ins C [])) (upd (upd H1 dx (.own x)) x (.ins C dx [])):=r2.DO (.laid hx') x (fun a ne=>au ne) (fun a o ne _ z=>by rw [aK ne];exact z) fun u z=>by
   rw [av] at z;cases z
   exact ⟨dx,[],aE,rfl,rfl⟩
  simp only [List.append_nil]
  refine ⟨.ref x :: xs,_,_,E2,⟨.ref x,vs,rfl,rfl,e2.jv rs⟩,r3,q1 x (r1.free hx),fun z J' u H' rz rr ee ⟨ez,qq⟩=>?_,B.kn.ext ((a2.ext.trans e1).trans e2)⟩
  subst ez
  exact ⟨rz,k (.ref x) J' (.ref x) H' rfl rr ((e1.trans e2).trans ee) qq⟩⟩
theorem IQ {C:Addr} {k k':Nat} {ps:List Str} {sp:cJ} (M:zC X.prog X.w X.K X.mg X.base C k x ps sp) (B:Cy X G E2 E) (hr:bU k' X.A) (ha:RA X G (e :: es) t) (hk:k + 1≤k':=by decide) (hg:Gl X x:=by rfl)
  (hdb:(x == ("__debug__":Str))=false:=by decide) (he:starEach (e :: es) X.env=(false,eval e X.env) :: starEach es X.env:=by rfl) (hpl:(backTo pos (starEach es X.env)).any (·.1)=false:=by rfl) :
  RE X G (.Call (.Name x p) (e :: es) [] pos) (IK C sp E2 t):=by
 obtain ⟨hm,f,fd,mk,F,b⟩:=M
 exact ⟨mh (L2.Io mk F (hr.mono hk) hg hm b .nil B.pass ha.run hdb he hpl) (xZ B)⟩
theorem sH {C:Addr} {k k':Nat} {ps:List Str} {sp:cJ} (M:zC X.prog X.w X.K X.mg X.base C k x ps sp) (B:Cy X G E2 E) (hr:bU k' X.A) (hk:k + 1≤k':=by decide) (hg:Gl X x:=by rfl)
  (hdb:(x == ("__debug__":Str))=false:=by decide):RE X G (.Call (.Name x p) [] [] pos) (IK C sp E2 uf):=by
 obtain ⟨hm,f,fd,mk,F,b⟩:=M
 refine ⟨mh (L2.FC mk F (hr.mono hk) hg hm b .nil B.pass hdb) fun σ H Q h=>?_⟩
 obtain ⟨τ,J,Q2,a2,h1,k1⟩:=xZ (t:=uf) B σ H Q h
 exact k1 [] J [] H rfl a2.hp .refl h1
end
section
variable {X:Cx} {G:G2} {st:Stmt} {rest:List Stmt} {t u:i7} {e tg o value:Expr} {es:List Expr} {te ta tv:dG} {tc:mS} {pos pos':Pos}
def sG:i7:=fun D τ J=>D.nx τ J
def bI (t u:i7):i7:=fun D τ J=>t { D with nx:=u D } τ J
theorem aI:RB X G [] sG:=⟨Rf L2.gf fun D σ H ⟨τ,J,D2,a2,h,g⟩=>g.nx τ J σ H a2.sl a2.hp .refl h⟩
theorem ai (h1:RS X G st t) (h2:RB X G rest u):RB X G (st :: rest) (bI t u):=⟨Rf (L2.aW h1.run h2.run) fun D σ H ⟨τ,J,D2,a2,h,g⟩=>⟨τ,J,{ D2 with nx:=u D2 },a2,h,
 { nx:=fun τ' J' σ' H' rs rr ee q=>⟨τ',J',D2,⟨rs,rr,a2.ext.trans ee⟩,q,g.ext ee⟩,rt:=g.rt,bk:=g.bk,ct:=g.ct }⟩⟩
theorem ak (h1:RS X G st t):RB X G [st] t:=⟨L2.bK h1.run⟩
def FV (t u:i7):i7:=fun D τ J=>∃ M:Sr→Hq→Prop,t { D with nx:=M } τ J∧∀ τ' J',M τ' J'→u D τ' J'
theorem cP (h1:RS X G st t) (h2:RB X G rest u):RB X G (st :: rest) (FV t u):=⟨Rf (L2.aW h1.run h2.run) fun D σ H ⟨τ,J,D2,a2,⟨M,h,hm⟩,g⟩=>⟨τ,J,{ D2 with nx:=M },a2,h,
 { nx:=fun τ' J' σ' H' rs rr ee q=>⟨τ',J',D2,⟨rs,rr,a2.ext.trans ee⟩,hm _ _ q,g.ext ee⟩,rt:=g.rt,bk:=g.bk,ct:=g.ct }⟩⟩
def Rn:i7:=fun D τ J=>D.bk τ J
def Ro:i7:=fun D τ J=>D.ct τ J
def BQ (te:dG):i7:=fun D τ J=>te τ J fun _ J1=>D.nx τ J1
theorem bh (he:RE X G e te) (hs:swapsWith e none pos.line X.env=pure false:=by rfl):RS X G (.Expr e pos) (BQ te):=⟨y9 (L2.lU he.run hs) fun D σ H ⟨τ,J,D2,a2,h,g⟩ =>
 ⟨τ,J,_,a2,h,fun x J' v H' rx rr ee q=>g.nx τ J' σ H' (a2.sl.ext ee) rr ee q⟩⟩
def O_ (te:dG):i7:=fun D τ J=>te τ J D.rt
theorem aA (he:RE X G e te):RS X G (.Return (some e) pos) (O_ te):=⟨y9 (L2.d6 he.run) fun D σ H ⟨τ,J,D2,a2,h,g⟩=>⟨τ,J,_,a2,h,fun x J' v H' rx rr ee q=>g.rt x J' v H' rx rr ee q⟩⟩
def Kv:i7:=fun D _ J=>D.rt .non J
theorem IV:RS X G (.Return none pos) Kv:=⟨y9 L2.wm fun D σ H ⟨τ,J,D2,a2,h,g⟩=>g.rt .non J .non H rfl a2.hp .refl h⟩
def AH (c:mS) (t u:i7):i7:=fun D τ J=>c τ J fun b J1=>if b=true then t D τ J1 else u D τ J1
theorem aU {c:Expr} {a b:List Stmt} (hc:RT X G c tc) (ha:RB X G a t) (hb:RB X G b u):RS X G (.If c a b pos) (AH tc t u):=⟨y9 (L2.ou hc.run ha.run hb.run) fun D σ H ⟨τ,J,D2,a2,h,g⟩ =>
 ⟨τ,J,_,a2,h,fun c J' H' rr ee q=>by
  cases c with
  | true=>simp only [if_true] at q ⊢;exact ⟨τ,J',D2,a2.go rr ee,q,g.ext ee⟩
  | false=>simp only [Bool.false_eq_true,if_false] at q ⊢;exact ⟨τ,J',D2,a2.go rr ee,q,g.ext ee⟩⟩⟩
abbrev y4:=PV→Sr→Hq→(Sr→Hq→Prop)→Prop
abbrev xy:=List PV→Sr→Hq→(Sr→Hq→Prop)→Prop
def LG (K:PySem.W.Frag) (G:G2) (t:y4):TG:=fun v σ H Q=>∃ x τ J Q2,cE K J H x v∧xo K G τ J σ H∧t x τ J Q2∧∀ τ' J' σ' H',mR K J' H' τ' σ'→Rep K J' H'→Ext K J H J' H'→Q2 τ' J'→Q σ' H'
def SO (K:PySem.W.Frag) (G:G2) (t:xy):rF:=fun vs σ H Q=>∃ xs τ J Q2,aR K J H xs vs∧xo K G τ J σ H∧t xs τ J Q2∧∀ τ' J' σ' H',mR K J' H' τ' σ'→Rep K J' H'→Ext K J H J' H'→Q2 τ' J'→Q σ' H'
structure RG (X:Cx) (G:G2) (e:Expr) (t:y4):Prop where
 run:L2.PG X e (LG X.K G t)
structure PX (X:Cx) (G:G2) (es:List Expr) (t:xy):Prop where
 run:L2.JC X es (SO X.K G t)
theorem Rg {X:Cx} {e:Expr} {t t':TG} (h:L2.PG X e t) (k:∀ v σ H Q,t' v σ H Q→t v σ H Q):L2.PG X e t':=fun pins s σ H v u Q I r q=>h pins s σ H v u Q I r (k _ _ _ _ q)
theorem OI {X:Cx} {e:List Expr} {t t':rF} (h:L2.JC X e t) (k:∀ v σ H Q,t' v σ H Q→t v σ H Q):L2.JC X e t':=fun pins s σ H v u Q I r q=>h pins s σ H v u Q I r (k _ _ _ _ q)
def Hs (i:Nat):y4:=fun x τ J Q=>Q (τ.set i (some x)) J
theorem bP {i:Nat} {x:Str} (hN:X.N.Nodup) (hi:X.N[i]?=some x:=by rfl) (hx:Loc X.env.scope x:=by first | exact .inl rfl | exact .inr rfl) (hf:X.fn x=true∨X.env.scope.names.lookup x=some .local:=by first | exact .inl rfl | exact .inr rfl | assumption):RG X G (.Name x pos) (Hs i) :=
 ⟨Rg (L2.lS hN hi hx hf) fun v σ H Q ⟨x,τ,J,Q2,rx,a2,q,k⟩=>k _ J _ H (a2.sl.set i rx) a2.hp .refl q⟩
def Sj:xy:=fun vs τ J Q=>Ra vs (Q τ J)
def Si (t:y4) (u:xy):xy:=fun vs τ J Q=>L4 vs fun v r=>t v τ J fun τ' J'=>u r τ' J' Q
theorem oE:PX X G [] Sj:=⟨OI L2.wd fun vs σ H Q ⟨xs,τ,J,Q2,rs,a2,hh,k⟩=>by obtain ⟨e,q⟩:=L7 hh;subst e;exact ⟨rs,k τ J σ H a2.sl a2.hp .refl q⟩⟩
theorem dn {e:Expr} {es:List Expr} {t:y4} {u:xy} (h1:RG X G e t) (h2:PX X G es u)
  (hs:(assignEach (e :: es) X.env).map (·.2)=assign e X.env :: (assignEach es X.env).map (·.2):=by rfl):PX X G (e :: es) (Si t u):=⟨OI (L2.sD h1.run h2.run hs) fun vs σ H Q ⟨xs,τ,J,Q2,rs,a2,hh,k⟩=>by
 obtain ⟨y,r,e,q⟩:=Ia hh
 subst e
 obtain ⟨v,us,rfl,rv,ru⟩:=rs
 exact ⟨v,us,rfl,y,τ,J,_,rv,a2,q,fun τ' J' σ' H' rs' rr ee q'=>⟨r,τ',J',Q2,ee.jv ru,⟨rs',rr,a2.ext.trans ee⟩,q',fun τ2 J2 σ2 H2 rs2 rr2 ee2 q2=>k τ2 J2 σ2 H2 rs2 rr2 (ee.trans ee2) q2⟩⟩⟩
def Sk (n:Nat) (t:xy):y4:=fun x τ J Q=>Nf x fun xs=>xs.length=n∧t xs τ J Q
theorem sJ {k:Nat} {t:xy} {n:Nat} (hc:X.calm=true) (h:PX X G es t)
  (hn:(assignEach es X.env).length=n:=by rfl) (hst:(assignEach es X.env).findIdx? (·.1)=none:=by rfl):RG X G (.Tuple es k pos) (Sk n t):=⟨Rg (L2.Ax hc h.run hn hst) fun v σ H Q ⟨x,τ,J,Q2,rx,a2,hh,k⟩=>by
 obtain ⟨xs,e,l,q⟩:=An hh
 subst e
 obtain ⟨a,vs,rfl,h1,h2⟩:=rx
 exact ⟨a,vs,rfl,h1,by rw [← h2.length];exact l,xs,τ,J,Q2,h2,a2,q,k⟩⟩
def ue (te:dG) (g:y4):i7:=fun D τ J=>te τ J fun x J1=>g x τ J1 D.nx
theorem wD {tg e:Expr} {g:y4} (he:RE X G e te) (hg:RG X G tg g) (hs:swapsWithSole [tg] e pos.line X.env=pure false:=by rfl) (hw:swappedStores [tg] e X.env=pure none:=by rfl)
  (h1:(assignEach [tg] X.env).map (·.2)=[assign tg X.env]:=by rfl):RS X G (.Assign [tg] e pos) (ue te g):=⟨y9 (L2.wj he.run hg.run hs hw h1) fun D σ H ⟨τ,J,D2,a2,h,g⟩ =>
 ⟨τ,J,_,a2,h,fun x J' v H' rx rr ee q=>⟨x,τ,J',_,rx,a2.go rr ee,q,fun τ' J2 σ' H2 rs r2 e2 q2=>g.nx τ' J2 σ' H2 rs r2 (ee.trans e2) q2⟩⟩⟩
theorem aF {i:Nat} {x:Str} {pos':Pos} (hN:X.N.Nodup) (he:RE X G e te) (hi:X.N[i]?=some x:=by rfl) (hx:Loc X.env.scope x:=by first | exact .inl rfl | exact .inr rfl) (hs:swapsWith e (some (.Name x pos')) pos.line X.env=pure false:=by rfl) (hf:X.fn x=true∨X.env.scope.names.lookup x=some .local:=by first | exact .inl rfl | exact .inr rfl | assumption) :
  RS X G (.Assign [.Name x pos'] e pos) (ue te (Hs i)):=⟨y9 (L2.cV hN hi hx he.run hs hf) fun D σ H ⟨τ,J,D2,a2,h,g⟩ =>
 ⟨τ,J,_,a2,h,fun x J' v H' rx rr ee q=>g.nx _ J' _ H' ((a2.sl.ext ee).set i rx) rr ee q⟩⟩
def O8 (i j:Nat) (ta:p7):i7:=fun D τ J=>ta τ J fun vs J1=>L8 vs fun v w=>D.nx ((τ.set i (some v)).set j (some w)) J1
theorem MC {i j:Nat} {x y:Str} {a b:Expr} {ta:p7} {px py pt:Pos} {kt k2 pt2} (hc:X.calm=true) (hN:X.N.Nodup) (hi:X.N[i]?=some x) (hj:X.N[j]?=some y) (hij:i≠j)
  (hx:X.env.scope.names.lookup x=some .local) (hy:X.env.scope.names.lookup y=some .local) (ha:RA X G [a,b] ta)
  (hw:swappedStores [.Tuple [.Name x px,.Name y py] kt pt] (.Tuple [a,b] k2 pt2) X.env=pure (some [x,y]))
  (hs:swapsWithSole [.Tuple [.Name x px,.Name y py] kt pt] (.Tuple [a,b] k2 pt2) pos.line X.env=pure false:=by rfl) :
  RS X G (.Assign [.Tuple [.Name x px,.Name y py] kt pt] (.Tuple [a,b] k2 pt2) pos) (O8 i j ta):=⟨y9 (L2.pM hc hN hi hj hij hx hy ha.run hw hs) fun D σ H ⟨τ,J,D2,a2,h,g⟩ =>
 ⟨τ,J,_,a2,h,fun xs J' vs H' rs rr ee hh=>by
  obtain ⟨v,w,e,q⟩:=Am hh
  subst e
  obtain ⟨v',us,rfl,rv,w',us',rfl,rw',e'⟩:=rs
  cases e'
  exact ⟨v',w',rfl,g.nx _ J' _ H' (((a2.sl.ext ee).set i rv).set j rw') rr ee q⟩⟩⟩
def pP (f:Str) (v:PV):List (Str × PV)→List (Str × PV)
 | []=>[(f,v)]
 | (g,w) :: r=>if g=f then (g,v) :: r else (g,w) :: pP f v r
theorem yx {K:PySem.W.Frag} {J:Hq} {H:Hp} {f:Str} {y:PV} {v:V} (r:cE K J H y v):∀ {fs:List (Str × PV)} {gs:List (Str × V)},mQ K J H fs gs→mQ K J H (pP f y fs) (fC f v gs)
 | [],[],_=>⟨rfl,v,[],rfl,r,rfl⟩
 | [],_ :: _,h=>by cases h.1
 | _ :: _,[],h=>by cases h.1
 | (k,y') :: fs,(k',w) :: gs,h=>by
  obtain ⟨h1,v',us,h2,h3,h4⟩:=h
  simp only [List.map_cons,List.cons.injEq] at h1 h2
  obtain ⟨rfl,h1⟩:=h1
  obtain ⟨rfl,rfl⟩:=h2
  unfold pP L2.fC
  by_cases hk:k=f
  ·rw [if_pos hk,if_pos hk]
   exact ⟨by simp only [List.map_cons,h1],v,_,rfl,r,h4⟩
  ·rw [if_neg hk,if_neg hk]
   obtain ⟨z1,z2⟩:=yx (f:=f) r (⟨h1,h4⟩:mQ K J H fs gs)
   exact ⟨by simp only [List.map_cons,z1],w,_,rfl,h3,z2⟩
def Kq (C:Addr) (ta tv:dG) (f:Str):i7:=fun D τ J=>tv τ J fun y J1=>ta τ J1 fun x J2=>Du x fun a=>LZ C (J2 a) fun fs=>fs.length < 1000∧D.nx τ (put J2 a (.ins C (pP f y fs)))
theorem Ext.MY {K:PySem.W.Frag} {J:Hq} {H:Hp} {p C dx:Addr} {fs gs:List (Str × PV)} {fs' gs':List (Str × V)} (h:J p=some (.ins C fs)) (k:H p=some (.ins C dx fs')):Ext K J H (put J p (.ins C gs)) (upd H p (.ins C dx gs')):=by
 have sm:∀ a u,a≠p→Rd H a u→Rd (upd H p (.ins C dx gs')) a u:=fun a u ne z=>by
  rcases z with z | ⟨o,z⟩
  ·exact .inl (by rw [aK ne];exact z)
  ·exact .inr ⟨o,by rw [aK ne];exact z⟩
 have nn:∀ a u,(∀ c d l,u≠HO.ins c d l)→Rd H a u→a≠p:=fun a u d z e=>by
  subst e
  rcases z with z | ⟨o,z⟩
  ·rw [k] at z;cases z;exact d _ _ _ rfl
  ·rw [k] at z;cases z
 refine ⟨fun a vs' z=>?_,fun a o z q _=>?_⟩
 ·rcases z with z | z
  ·exact .inl (sm a _ (nn a (.tup vs') (fun _ _ _ e=>nomatch e) z) z)
  ·exact .inr z
 ·have ne:a≠p:=by intro e;subst e;rw [h] at z;cases z
  exact ⟨by rw [au ne];exact z,by rw [aK ne];exact q⟩
theorem iZ {C:Addr} {f:Str} (cl:qA X.K C) (na:aH X.K C f) (ha:RE X G o ta) (hv:RE X G value tv) (hs:swapsWith value (some (.Attribute o f pos')) pos.line X.env=pure false:=by rfl):RS X G (.Assign [.Attribute o f pos'] value pos) (Kq C ta tv f) :=
 ⟨y9 (L2.Ml ha.run hv.run hs) fun D σ H ⟨τ,J,D2,a2,h,g⟩=>⟨τ,J,_,a2,h,fun y J1 v H1 ry r1 e1 q1=>⟨τ,J1,_,a2.go r1 e1,q1,fun x J2 w H2 rx r2 e2 hh=>by
  obtain ⟨a,ex,hh⟩:=iQ hh;obtain ⟨fs,ja,hl,q2⟩:=Al hh
  subst ex;cases rx
  obtain ⟨dx,gs,h2,rf⟩:=r2 _ _ ja
  have ll:gs.length=fs.length:=by have:=congrArg List.length rf.1;simpa using this.symm
  have e3:=Ext.MY (K:=X.K) (gs:=pP f y fs) (gs':=fC f v gs) ja h2
  refine ⟨a,C,dx,gs,rfl,h2,cl,na,by omega,g.nx τ _ σ _ (((a2.sl.ext e1).ext e2).ext e3) ?_ ((e1.trans e2).trans e3) q2⟩
  refine r2.DO e3 a (fun b ne=>au ne) (fun b o ne _ z=>by rw [aK ne];exact z) fun u z=>?_
  rw [av] at z;cases z
  exact ⟨dx,_,aE,e3.yA (yx (e2.rep ry) rf)⟩⟩⟩⟩
def FX (c:mS) (tb:i7):i7:=fun D τ J=>∃ W:Nat→Sr→Hq→Prop,(∃ m,W m τ J)∧∀ m τ J,W m τ J →
 c τ J fun b J1=>if b=true then ∃ N:Sr→Hq→Prop,(∀ τ' J',N τ' J'→∃ m',m' < m∧W m' τ' J')∧tb { D with nx:=N,ct:=N,bk:=D.nx } τ J1 else D.nx τ J1
theorem lD {c:Expr} {body:List Stmt} {tb:i7} (hp:PassesOwn (model X.prog X.w) X.A X.env X.xe) (hc:RT X G c tc) (hb:RB X G body tb):RS X G (.While c body [] pos) (FX tc tb):=⟨y9 (L2.lz hp hc.run hb.run) fun D σ H ⟨τ,J,D2,a2,⟨W,⟨m0,w0⟩,h⟩,g⟩=>by
 refine ⟨fun m σ' H'=>∃ τ' J',xo X.K G τ' J' σ' H'∧Ext X.K J H J' H'∧W m τ' J',⟨m0,τ,J,a2,.refl,w0⟩,fun m σ1 H1 ⟨τ1,J1,a1,e1,w1⟩=>?_⟩
 refine ⟨τ1,J1,_,a1,h m τ1 J1 w1,fun b J2 H2 r2 e2 q=>?_⟩
 cases b with
 | false=>simp only [Bool.false_eq_true,if_false] at q ⊢;exact g.nx τ1 J2 σ1 H2 (a1.sl.ext e2) r2 (e1.trans e2) q
 | true =>
  simp only [if_true] at q ⊢
  obtain ⟨N,hN,q⟩:=q
  refine ⟨fun σ' H'=>∃ τ' J',xo X.K G τ' J' σ' H'∧Ext X.K J H J' H'∧N τ' J',fun σ' H' ⟨τ',J',a',e',n'⟩=>let ⟨m',lt,w'⟩:=hN τ' J' n';⟨m',lt,τ',J',a',e',w'⟩,τ1,J2,{ D2 with nx:=N,ct:=N,bk:=D2.nx },a1.go r2 e2,q,?_⟩
  have ge:=g.ext (e1.trans e2)
  exact { nx:=fun τ' J' σ' H' rs rr ee q=>⟨τ',J',⟨rs,rr,(a1.ext.trans e2).trans ee⟩,(e1.trans e2).trans ee,q⟩,rt:=ge.rt,bk:=ge.nx,ct:=fun τ' J' σ' H' rs rr ee q=>⟨τ',J',⟨rs,rr,(a1.ext.trans e2).trans ee⟩,(e1.trans e2).trans ee,q⟩ }⟩
structure zu where
 xs:List PV
 ok:Hq→Prop
structure ur (K:PySem.W.Frag) (it:zu) (I:It) (J:Hq) (H:Hp):Prop where
 go:∀ J' H',Ext K J H J' H'→Rep K J' H'→it.ok J'→∀ i,i < it.xs.length→I.go i H'
 yl:∀ J' H',Ext K J H J' H'→Rep K J' H'→it.ok J'→∀ i,i < it.xs.length→∀ v H2,I.yld i H' v H2→∃ x,it.xs[i]?=some x∧cE K J' H2 x v∧Rep K J' H2∧Ext K J' H' J' H2
 stop:∀ J' H',Ext K J H J' H'→Rep K J' H'→it.ok J'→I.stop it.xs.length H'
abbrev tQ:=Sr→Hq→(zu→Hq→Prop)→Prop
def LI (K:PySem.W.Frag) (G:G2) (t:tQ):TI:=fun σ H R=>∃ τ J R2,xo K G τ J σ H∧t τ J R2∧∀ it J' I H',ur K it I J' H'→Rep K J' H'→Ext K J H J' H'→R2 it J'→R I H'
structure RI (X:Cx) (G:G2) (tg e:Expr) (t:tQ):Prop where
 run:L2.PI X tg e (LI X.K G t)
theorem Ng {X:Cx} {tg e:Expr} {t t':TI} (h:L2.PI X tg e t) (k:∀ σ H Q,t' σ H Q→t σ H Q):L2.PI X tg e t':=fun pins s σ H Q I q=>h pins s σ H Q I (k _ _ _ q)
def OY (wi:tQ) (g:y4) (tb:i7):i7:=fun D τ J=>wi τ J fun it J1=>∃ Pv:Nat→Sr→Hq→Prop,Pv 0 τ J1∧(∀ i τ J,Pv i τ J→it.ok J) ∧
 (∀ i x τ J,it.xs[i]?=some x→Pv i τ J→g x τ J fun τ2 J2=>tb { D with nx:=Pv (i + 1),ct:=Pv (i + 1),bk:=D.nx } τ2 J2)∧∀ τ J,Pv it.xs.length τ J→D.nx τ J
theorem fE {iter:Expr} {body:List Stmt} {wi:tQ} {g:y4} {tb:i7} {pos:Pos} (hp:PassesOwn (model X.prog X.w) X.A X.env X.xe) (hc:X.calm=true) (hi:RI X G tg iter wi) (hg:RG X G tg g) (hb:RB X G body tb)
  (hs:∀ x,foldedSetIterable iter X.env x=pure x:=by intro _;rfl):RS X G (.For tg iter body [] pos) (OY wi g tb):=⟨y9 (L2.pL hp hc hi.run hg.run hb.run hs) fun D σ H ⟨τ,J,D2,a2,h,g⟩=>by
 refine ⟨τ,J,_,a2,h,fun it J1 I H1 ir r1 e1 ⟨Pv,p0,pok,step,fin⟩=>?_⟩
 refine ⟨fun i m σ' H'=>m=it.xs.length - i∧i≤it.xs.length∧∃ τ' J',xo X.K G τ' J' σ' H'∧Ext X.K J1 H1 J' H'∧Pv i τ' J',⟨_,rfl,Nat.zero_le _,τ,J1,a2.go r1 e1,.refl,p0⟩,?_⟩
 rintro i m σ2 H2 ⟨rfl,hil,τ2,J2,a3,e3,p3⟩
 by_cases hlt:i < it.xs.length
 ·refine .inr ⟨ir.go J2 H2 e3 a3.hp (pok _ _ _ p3) i hlt,fun σ' H'=>∃ τ' J',xo X.K G τ' J' σ' H'∧Ext X.K J1 H1 J' H'∧Pv (i + 1) τ' J',fun σ' H' z=>⟨_,by omega,rfl,hlt,z⟩,fun v H4 y=>?_⟩
  obtain ⟨x,ex,rx,r4,e4⟩:=ir.yl J2 H2 e3 a3.hp (pok _ _ _ p3) i hlt v H4 y
  refine ⟨x,τ2,J2,_,rx,a3.go r4 e4,step i x τ2 J2 ex p3,fun τ5 J5 σ5 H5 rs5 r5 e5 q5=>?_⟩
  have ae:=(a3.ext.trans e4).trans e5
  have ge:=g.ext (((e1.trans e3).trans e4).trans e5)
  refine ⟨τ5,J5,{ D2 with nx:=Pv (i + 1),ct:=Pv (i + 1),bk:=D2.nx },⟨rs5,r5,ae⟩,q5,?_⟩
  exact { nx:=fun τ' J' σ' H' rs rr ee q=>⟨τ',J',⟨rs,rr,ae.trans ee⟩,((e3.trans e4).trans e5).trans ee,q⟩,rt:=ge.rt,bk:=ge.nx,ct:=fun τ' J' σ' H' rs rr ee q=>⟨τ',J',⟨rs,rr,ae.trans ee⟩,((e3.trans e4).trans e5).trans ee,q⟩ }
 ·have ei:i=it.xs.length:=by omega
  subst ei
  exact .inl ⟨ir.stop J2 H2 e3 a3.hp (pok _ _ _ p3),g.nx τ2 J2 σ2 H2 a3.sl a3.hp (e1.trans e3) (fin _ _ p3)⟩⟩
def P1 (J:Hq):PV→Option zu
 | .fl xs=>some ⟨xs,fun _=>True⟩
 | .ref a=>match J a with
  | some (.lst xs)=>some ⟨xs,fun J'=>J' a=some (.lst xs)⟩
  | _=>none
 | _=>none
def Sn (te:dG):tQ:=fun τ J R=>te τ J fun x J1=>v_ (P1 J1 x) fun it=>R it J1
theorem ur.list {K:PySem.W.Frag} {it:zu} {a:Addr} {J:Hq} {H:Hp} (h:∀ J' H',Ext K J H J' H'→Rep K J' H'→it.ok J'→∃ vs,di K H' a vs∧aR K J' H' it.xs vs):ur K it (L2.GY K a) J H where
 go:=fun J' H' e r o i hi=>by
  obtain ⟨vs,s,rs⟩:=h J' H' e r o
  exact ⟨vs,vs[i]'(by rw [← rs.length];exact hi),s,by simp⟩
 yl:=fun J' H' e r o i hi v H2 y=>by
  obtain ⟨vs,s,rs⟩:=h J' H' e r o
  obtain ⟨e1,y⟩:=y
  subst e1
  obtain ⟨x,ex,rx⟩:=rs.get' (y vs s)
  exact ⟨x,ex,rx,r,.refl⟩
 stop:=fun J' H' e r o=>by
  obtain ⟨vs,s,rs⟩:=h J' H' e r o
  exact ⟨vs,s,by rw [rs.length];exact Nat.le_refl _⟩
theorem fG {l:Expr} {tl:dG} (hl:RE X G l tl):RI X G tg l (Sn tl):=⟨Ng (L2.n9 hl.run) fun σ H R ⟨τ,J,R2,a2,h,k⟩=>⟨τ,J,_,a2,h,fun x J1 v H1 rx r1 e1 hh=>by
 obtain ⟨it,ei,q⟩:=e_ hh
 cases x with
 | fl xs =>
  obtain ⟨a,vs,rfl,h1,h2⟩:=rx
  cases ei
  refine ⟨a,rfl,⟨vs,h1.sq⟩,k _ J1 _ H1 (.list fun J' H' e r _=>⟨vs,(e.flat h1).sq,e.jv h2⟩) r1 e1 q⟩
 | ref a =>
  cases rx
  unfold P1 at ei
  dsimp only at ei
  cases ej:J1 a with
  | none=>rw [ej] at ei;cases ei
  | some o =>
   rw [ej] at ei
   cases o with
   | lst xs =>
    cases ei
    obtain ⟨vs,h1,h2⟩:=r1 _ _ ej
    refine ⟨a,rfl,⟨vs,.inl (.inl h1)⟩,k _ J1 _ H1 (.list fun J' H' e r o=>?_) r1 e1 q⟩
    obtain ⟨vs',h1',h2'⟩:=r _ _ o
    exact ⟨vs',.inl (.inl h1'),h2'⟩
   | _=>cases ei
 | _=>cases ei⟩⟩
def Sq (te:dG):tQ:=fun τ J R=>te τ J fun x J1=>Nf x fun xs=>R ⟨xs,fun _=>True⟩ J1
theorem Mz {l:Expr} {tl:dG} (hl:RE X G l tl):RI X G tg l (Sq tl):=⟨Ng (L2.Ay hl.run) fun σ H R ⟨τ,J,R2,a2,h,k⟩=>⟨τ,J,_,a2,h,fun x J1 v H1 rx r1 e1 hh=>by
 obtain ⟨xs,ei,q⟩:=An hh
 subst ei
 obtain ⟨a,vs,rfl,h1,h2⟩:=rx
 refine ⟨a,rfl,⟨vs,h1⟩,k _ J1 _ H1 ?_ r1 e1 q⟩
 exact {
  go:=fun J' H' e r o i hi=>⟨vs,vs[i]'(by rw [← h2.length];exact hi),e.tup _ _ h1,by simp⟩
  yl:=fun J' H' e r o i hi v H2 y=>by
   obtain ⟨e1,y⟩:=y
   subst e1
   obtain ⟨x,ex,rx⟩:=(e.jv h2).get' (y vs (e.tup _ _ h1))
   exact ⟨x,ex,rx,r,.refl⟩
  stop:=fun J' H' e r o=>⟨vs,e.tup _ _ h1,by rw [h2.length];exact Nat.le_refl _⟩ }⟩⟩
def rW (lo:Int) (n:Nat):List PV:=(List.range n).map fun (i:Nat)=>PV.int (lo + (i:Int))
theorem jg (lo:Int) (n:Nat):(rW lo n).length=n:=by simp [rW]
theorem rX (lo:Int) (n i:Nat) (x:PV):(rW lo n)[i]?=some x↔i < n∧x=.int (lo + i):=by
 unfold rW
 rw [List.getElem?_map]
 by_cases h:i < n
 ·rw [List.getElem?_range h];simp [h,eq_comm]
 ·rw [List.getElem?_eq_none (by simpa using h)];simp [h]
theorem ur.Ni {K:PySem.W.Frag} {J:Hq} {H:Hp} (lo:Int) (n:Nat):ur K ⟨rW lo n,fun _=>True⟩ (L2.D6 lo n) J H where
 go:=fun J' H' e r o i hi=>by
  show i < n
  simpa [jg] using hi
 yl:=fun J' H' e r o i hi v H2 y=>by
  obtain ⟨e1,y⟩:=y
  subst e1 y
  exact ⟨.int (lo + i),(rX lo n i _).mpr ⟨by simpa [jg] using hi,rfl⟩,rfl,r,.refl⟩
 stop:=fun J' H' e r o=>by
  show n≤(rW lo n).length
  rw [jg];exact Nat.le_refl _
def So (ta:p7):tQ:=fun τ J R=>ta τ J fun vs J1=>Dt vs fun x=>DW x fun j=>-(2 ^ 62)≤j∧j < 2 ^ 62∧R ⟨rW 0 j.toNat,fun _=>True⟩ J1
def SX (ta:p7):tQ:=fun τ J R=>ta τ J fun vs J1=>L8 vs fun x y=>DW x fun i=>DW y fun j=>(-(2 ^ 62)≤i∧i < 2 ^ 62∧-(2 ^ 62)≤j∧j < 2 ^ 62)∧R ⟨rW i (j - i).toNat,fun _=>True⟩ J1
theorem lX {a:Expr} {ta:p7} {p pos:Pos} (hg:Gl X "range") (hm:X.mg "range"=none) (ha:RA X G [a] ta) (hs:starEach [a] X.env=[(false,eval a X.env)]:=by rfl):RI X G tg (.Call (.Name "range" p) [a] [] pos) (So ta) :=
 ⟨Ng (L2.gB hg hm ha.run hs) fun σ H R ⟨τ,J,R2,a2,h,k⟩=>⟨τ,J,_,a2,h,fun xs J1 vs H1 rs r1 e1 hh=>by
  obtain ⟨x,ex,hh⟩:=k6 hh;obtain ⟨j,ej,l1,l2,q⟩:=iP hh;subst ej ex
  obtain ⟨v,us,rfl,rv,e'⟩:=rs
  cases rv;cases e'
  exact ⟨j,rfl,l1,l2,k _ J1 _ H1 (.Ni 0 _) r1 e1 q⟩⟩⟩
def gR (C:Addr) (E2:Addr→Hq→Prop) (t:p7):i7:=fun _ τ J=>t τ J fun xs J1=>xs.length≤sizeLine∧E2 C J1
theorem fh {E:XK} {E2:Addr→Hq→Prop} {C:Addr} {x:Str} {t:p7} {np cpos:Pos} (O:Own X.K X.mg x C) (hc:X.calm=true) (hx:Throws X E) (kn:JB X.K G.1 G.2 E2 E) (hg:Gl X x) (ha:RA X G (e :: es) t)
  (hd:(x == ("__debug__":Str))=false:=by decide) (he:starEach (e :: es) X.env=(false,eval e X.env) :: starEach es X.env:=by rfl) (hpl:(backTo cpos (starEach es X.env)).any (·.1)=false:=by rfl) :
  RS X G (.Raise (some (.Call (.Name x np) (e :: es) [] cpos)) none pos) (gR C E2 t):=⟨y9 (DC O hc hx hg ha.run hd he hpl) fun D σ H ⟨τ,J,D2,a2,h,g⟩ =>
 ⟨τ,J,_,a2,h,fun xs J1 vs H1 rs r1 e1 ⟨hl,q⟩=>⟨by rw [← rs.length];exact hl,kn C J1 H1 r1 (a2.ext.trans e1) q⟩⟩⟩
end
section
variable {P:Program} {w:World} {K:PySem.W.Frag} {mg:Str→Option Value} {base:Heap}
section
variable {α β:Type} {a b:α} {l m:List α} {i:Nat} {f:α→β} {c:Bool}
theorem M5:List.map f (a :: l)=f a :: List.map f l:=rfl
theorem M6:List.map f []=[]:=rfl
theorem M3:(a :: l).length=l.length + 1:=rfl
theorem M4:([]:List α).length=0:=rfl
theorem M0:(a :: l) ++ m=a :: (l ++ m):=rfl
theorem M1:[] ++ m=m:=rfl
theorem RU:(a :: l)[0]?=some a:=rfl
theorem RV:(a :: l)[i + 1]?=l[i]?:=rfl
theorem R4:(a :: l).set 0 b=b :: l:=rfl
theorem R5:(a :: l).set (i + 1) b=a :: l.set i b:=rfl
theorem R0:Option.map f (some a)=some (f a):=rfl
theorem RZ:(some a).getD b=a:=rfl
theorem RY:(!true)=false:=rfl
theorem RX:(!false)=true:=rfl
theorem R6:(true && c)=c:=rfl
theorem RQ:(false && c)=false:=rfl
theorem R1:List.replicate 0 a=[]:=rfl
theorem R3:List.replicate (i + 1) a=a :: List.replicate i a:=rfl
theorem PN:(a :: l).isEmpty=false:=rfl
theorem PQ:([]:List α).isEmpty=true:=rfl
end
def xg (N:List Str) (xs:List PV):Sr:=xs.map some ++ List.replicate (N.length - xs.length) none
theorem Gp {J:Hq} {H:Hp} {N:List Str} {xs:List PV} {vs:List V} (r:aR K J H xs vs):mR K J H (xg N xs) (L2.start N vs):=by
 refine ⟨by simp [xg,L2.start,r.length],fun i x e=>?_⟩
 unfold xg at e
 unfold L2.start
 by_cases hi:i < xs.length
 ·rw [List.getElem?_append_left (by simpa using hi),List.getElem?_map] at e
  cases ex:xs[i]? with
  | none=>rw [ex] at e;cases e
  | some y =>
   rw [ex] at e
   cases e
   obtain ⟨v,h1,h2⟩:=r.get ex
   exact ⟨v,by rw [List.getElem?_append_left (by rw [List.length_map,← r.length];exact hi),List.getElem?_map,h1];rfl,h2⟩
 ·rw [List.getElem?_append_right (by simpa using hi)] at e
  have:=List.mem_of_getElem? e
  rw [List.mem_replicate] at this
  cases this.2
theorem Q8 {x qual:Str} {st:Stmt} {f:Addr} {fd:FuncData} {N ps:List Str} {k:Nat} {sp:cJ} (F:cA K x qual st f fd) (S:aw N ps (L2.aj st)) (len:∀ xs J Q E,sp xs J Q E→xs.length=ps.length)
  (hbody:∀ (cdv:Value) (A:Around) (outer:List Env) (s:Shared) (H:Hp) (E:XK) (G:G2) (xs:List PV) (J:Hq) (Q:PV→Hq→Prop) (E2:Addr→Hq→Prop),bU k (A.deeper (envOfC qual (L2.aj st) s.heap.objs.size f cdv))→sp xs J Q E2 →
   Cy (y8 P w K mg base N qual (L2.aj st) f cdv A outer s H E) G E2 E →
   ∃ t,RB (y8 P w K mg base N qual (L2.aj st) f cdv A outer s H E) G (L2.bV st) t∧t { nx:=fun _ J'=>Q .non J',rt:=Q } (xg N xs) J):aL P w K mg base (dh P w) (k + 1) f fd ps (d4 K sp):=by
 refine S7 F S (fun vs H Q E ⟨xs,J,Q2,E2,a,_,b,_⟩=>by rw [← a.length];exact len _ _ _ _ b) fun cdv A outer s H vs Q E hr ⟨xs,J,Q2,E2,rs,rr,hs,kn,ke⟩=>?_
 obtain ⟨t,hb,q⟩:=hbody cdv A outer s H E (J,H) xs J Q2 E2 hr hs ⟨zO,ke⟩
 refine ⟨_,⟨hb.run⟩,xg N xs,J,_,⟨Gp rs,rr,.refl⟩,q,?_⟩
 exact { nx:=fun τ J' σ H' _ r e q=>kn .non J' .non H' rfl r e q,rt:=fun x J' v H' rx r e q=>kn x J' v H' rx r e q,bk:=fun _ _ _ _ _ _ _ q=>q.elim,ct:=fun _ _ _ _ _ _ _ q=>q.elim }
theorem S6 {x qual:Str} {st:Stmt} {f:Addr} {fd:FuncData} {N ps:List Str} {k:Nat} {sp:cJ} {t:(Addr→Hq→Prop)→i7} (F:cA K x qual st f fd) (S:aw N ps (L2.aj st)) (len:∀ xs J Q E,sp xs J Q E→xs.length=ps.length)
  (rd:∀ (cdv:Value) (A:Around) (outer:List Env) (s:Shared) (H:Hp) (E:XK) (G:G2) (E2:Addr→Hq→Prop),bU k (A.deeper (envOfC qual (L2.aj st) s.heap.objs.size f cdv)) →
   Cy (y8 P w K mg base N qual (L2.aj st) f cdv A outer s H E) G E2 E→RB (y8 P w K mg base N qual (L2.aj st) f cdv A outer s H E) G (L2.bV st) (t E2))
  (run:∀ (xs:List PV) (J:Hq) (Q:PV→Hq→Prop) (E2:Addr→Hq→Prop),sp xs J Q E2→∀ X:Prop,(t E2 { nx:=fun _ J'=>Q .non J',rt:=Q } (xg N xs) J→X)→X):aL P w K mg base (dh P w) (k + 1) f fd ps (d4 K sp) :=
 Q8 F S len fun cdv A outer s H E G xs J Q E2 hr h B=>⟨_,rd cdv A outer s H E G E2 hr B,run xs J Q E2 h _ id⟩
theorem _root_.Ov.Def.eR {x:Str} {st:Stmt} {k:Nat} {ps:List Str} {sp:cJ} (D:Def K mg x st)
  (h:∀ f fd,cA K x x st f fd→aL P w K mg base (dh P w) k f fd ps (d4 K sp))
  (hb:∀ (kV doc pm:Value) (an:Option Addr) (cdv ct:Value) (us:List Value),us.length=ps.length→bindArgs (PySem.W.fnOf x x (L2.dz st) (L2.bV st) (L2.aj st) .none kV doc pm an cdv ct) ⟨us,[]⟩=pure (ps.zip us)) :
  bt P w K mg base k x ps sp:=D.Qp h hb
end
section
variable {X:Cx} {K:PySem.W.Frag}
def FQ (g:Int→Int→PV):nC:=fun x y J Q=>DW x fun i=>DW y fun j=>Q (g i j) J
def qI (C:Int→Int→Prop) (g:Int→Int→PV):nC:=fun x y J Q=>DW x fun i=>DW y fun j=>C i j∧Q (g i j) J
theorem uK {g:Int→Int→V} {g':Int→Int→PV} (hg:∀ J H i j,cE K J H (g' i j) (g i j)):LR K (L2.GQ g) (FQ g'):=fun J H x y v w Q2 Q rx ry r h k=>by
 obtain ⟨i,ex,h⟩:=iP h;obtain ⟨j,ey,q⟩:=iP h
 subst ex ey;exact ⟨i,j,rx,ry,k _ J _ H (hg _ _ _ _) r .refl q⟩
theorem LJ {C:Int→Int→Prop} {g:Int→Int→V} {g':Int→Int→PV} (hg:∀ J H i j,cE K J H (g' i j) (g i j)):LR K (L2.rI C g) (qI C g'):=fun J H x y v w Q2 Q rx ry r h k=>by
 obtain ⟨i,ex,h⟩:=iP h;obtain ⟨j,ey,c,q⟩:=iP h
 subst ex ey;exact ⟨i,j,rx,ry,c,k _ J _ H (hg _ _ _ _) r .refl q⟩
theorem cS:nB X (binaryOp .Add) (FQ fun i j=>.int (i + j)):=⟨_,L2.jX,uK fun _ _ _ _=>rfl⟩
theorem du:nB X (binaryOp .Sub) (FQ fun i j=>.int (i - j)):=⟨_,L2.Ap,uK fun _ _ _ _=>rfl⟩
theorem bO:nB X (binaryOp .Mult) (qI CM fun i j=>.int (i * j)):=⟨_,cO,LJ fun _ _ _ _=>rfl⟩
theorem n6:nB X (binaryOp .FloorDiv) (qI CQ fun i j=>.int (i.fdiv j)):=⟨_,gL,LJ fun _ _ _ _=>rfl⟩
theorem fA:nB X (binaryOp .Mod) (qI (fun _ j=>0 < j) fun i j=>.int (i % j)):=⟨_,L2.gM,LJ fun _ _ _ _=>rfl⟩
theorem fN:nB X (compareOp .Lt) (FQ fun i j=>.bl (decide (i < j))):=⟨_,L2.BG,uK fun _ _ _ _=>rfl⟩
theorem Kd:nB X (compareOp .LtE) (FQ fun i j=>.bl (decide (i≤j))):=⟨_,L2.Kb,uK fun _ _ _ _=>rfl⟩
theorem ji:nB X (compareOp .Gt) (FQ fun i j=>.bl (decide (j < i))):=⟨_,L2.Ka,uK fun _ _ _ _=>rfl⟩
theorem Fu:nB X (compareOp .GtE) (FQ fun i j=>.bl (decide (j≤i))):=⟨_,L2.J_,uK fun _ _ _ _=>rfl⟩
def qU (g:Int→PV):Nt:=fun x J Q=>DW x fun i=>Q (g i) J
theorem p6:Sf X (unaryOp .USub) (qU fun i=>.int (-i)):=⟨_,L2.GF,fun J H x v Q2 Q rx r h k=>by obtain ⟨i,ex,q⟩:=iP h;subst ex;exact ⟨i,rx,k (.int (-i)) J _ H rfl r .refl q⟩⟩
def OP:nC:=fun x y J Q=>JZ x fun i=>JZ y fun j=>Q (.bl (decide (i.cps.toList < j.cps.toList))) J
theorem Aq:nB X (compareOp .Lt) OP:=⟨_,L2.Dw,fun J H x y v w Q2 Q rx ry r h k=>by obtain ⟨i,ex,h⟩:=pI h;obtain ⟨j,ey,q⟩:=pI h;subst ex ey;exact ⟨i,j,rx,ry,k (.bl _) J _ H rfl r .refl q⟩⟩
def EM:PV→Bool
 | .non=>true
 | _=>false
theorem Bz {J:Hq} {H:Hp} {x:PV} {v:V} (r:cE K J H x v):decide (v=.non)=EM x:=by
 cases x with
 | non=>cases r;rfl
 | tup xs=>obtain ⟨a,vs,rfl,_⟩:=r;rfl
 | fl xs=>obtain ⟨a,vs,rfl,_⟩:=r;rfl
 | _=>cases r;rfl
def SE:nC:=fun x y J Q=>y=.non∧Q (.bl (EM x)) J
def FR:nC:=fun x y J Q=>y=.non∧Q (.bl (!EM x)) J
theorem OF:nB X (compareOp .Is) SE:=⟨_,L2.Mc,fun J H x y v w Q2 Q rx ry r ⟨ey,q⟩ k=>by subst ey;cases ry;exact ⟨rfl,by rw [Bz rx];exact k (.bl _) J _ H rfl r .refl q⟩⟩
theorem so:nB X (compareOp .IsNot) FR:=⟨_,L2.Ig,fun J H x y v w Q2 Q rx ry r ⟨ey,q⟩ k=>by subst ey;cases ry;exact ⟨rfl,by rw [Bz rx];exact k (.bl _) J _ H rfl r .refl q⟩⟩
mutual
def fZ:PV→Py
 | .non=>.non | .bl b=>.bl b | .int i=>.int i | .str x=>.str x | .ref _=>.non | .ty _=>.non | .tup xs=>.tup (fP xs) | .fl xs=>.lst (fP xs)
def fP:List PV→List Py
 | []=>[]
 | x :: xs=>fZ x :: fP xs
end
mutual
def lV:PV→Bool
 | .ref _=>false | .ty _=>false | .tup xs=>gZ xs | .fl xs=>gZ xs | _=>true
def gZ:List PV→Bool
 | []=>true
 | x :: xs=>lV x && gZ xs
end
mutual
theorem vw {J:Hq} {H:Hp}:∀ {x:PV} {v:V},lV x=true→cE K J H x v→At K H (fZ x) v
 | .non,_,_,h=>h
 | .bl _,_,_,h=>h
 | .int _,_,_,h=>h
 | .str _,_,_,h=>h
 | .tup xs,_,p,⟨a,vs,e,h,k⟩=>⟨a,vs,e,h,rH (by simpa [lV] using p) k⟩
 | .fl xs,_,p,⟨a,vs,e,h,k⟩=>⟨a,vs,e,h.sq,rH (by simpa [lV] using p) k⟩
theorem rH {J:Hq} {H:Hp}:∀ {xs:List PV} {vs:List V},gZ xs=true→aR K J H xs vs→tF K H (fP xs) vs
 | [],_,_,h=>h
 | x :: xs,_,p,⟨v,us,e,h,k⟩=>by
  have p':lV x=true∧gZ xs=true:=by simpa [gZ] using p
  exact ⟨v,us,e,vw p'.1 h,rH p'.2 k⟩
end
def eqQ (x y:PV):Bool:=lP (fZ x) (fZ y)
def GL (x:PV):Prop:=lV x=true∧dep (fZ x)≤60
def Kj (f:Bool→Bool):nC:=fun x y J Q=>GL x∧lV y=true∧Q (.bl (f (eqQ x y))) J
theorem JS (f:Bool→Bool):LR K (rP K f) (Kj f):=fun J H x y v w Q2 Q rx ry r ⟨⟨px,d⟩,py,q⟩ k=>⟨fZ x,fZ y,vw px rx,vw py ry,d,k (.bl _) J _ H rfl r .refl q⟩
theorem cn (hu:X.A.units + 61 < cLine):nB X (compareOp .Eq) (Kj id):=⟨_,Ma hu,JS id⟩
theorem km (hu:X.A.units + 61 < cLine):nB X (compareOp .NotEq) (Kj not):=⟨_,Md hu,JS not⟩
def fY (J:Hq):PV→PV→Option PV
 | .tup xs,.int i=>dJ xs i
 | .fl xs,.int i=>dJ xs i
 | .ref a,.int i=>match J a with
  | some (.lst xs)=>dJ xs i
  | _=>none
 | _,_=>none
theorem aR.dJ {J:Hq} {H:Hp} {xs:List PV} {vs:List V} {i:Int} {x:PV} (r:aR K J H xs vs) (h:L2.dJ xs i=some x):∃ v,L2.dJ vs i=some v∧cE K J H x v:=by
 unfold L2.dJ at h ⊢
 rw [← r.length]
 cases e:L2.DV xs.length i with
 | none=>rw [e] at h;cases h
 | some j =>
  rw [e] at h
  obtain ⟨v,h1,h2⟩:=r.get h
  exact ⟨v,h1,h2⟩
def Kk:nC:=fun x y J Q=>v_ (fY J x y) fun v=>Q v J
theorem ar:Qf X Kk:=⟨_,L2.vK.or L2.de,fun J H x y v w Q2 Q rx ry r h k=>by
 obtain ⟨z,ez,q⟩:=e_ h
 cases y with
 | int i =>
  cases ry
  cases x with
  | tup xs =>
   obtain ⟨a,vs,rfl,h1,h2⟩:=rx
   obtain ⟨u,e1,e2⟩:=h2.dJ (show L2.dJ xs i=some z from ez)
   exact .inr ⟨a,vs,i,u,rfl,rfl,h1,e1,k z J u H e2 r .refl q⟩
  | fl xs =>
   obtain ⟨a,vs,rfl,h1,h2⟩:=rx
   obtain ⟨u,e1,e2⟩:=h2.dJ (show L2.dJ xs i=some z from ez)
   exact .inl ⟨a,vs,i,u,rfl,rfl,h1.sq,e1,k z J u H e2 r .refl q⟩
  | ref a =>
   cases rx
   unfold fY at ez
   dsimp only at ez
   cases ej:J a with
   | none=>rw [ej] at ez;cases ez
   | some o =>
    rw [ej] at ez
    cases o with
    | lst xs =>
     obtain ⟨vs,h1,h2⟩:=r _ _ ej
     obtain ⟨u,e1,e2⟩:=h2.dJ (show L2.dJ xs i=some z from ez)
     exact .inl ⟨a,vs,i,u,rfl,rfl,.inl (.inl h1),e1,k z J u H e2 r .refl q⟩
    | _=>cases ez
  | _=>cases ez
 | _=>cases x <;> cases ez⟩
def mU (xs:List PV) (lo hi:Option Int):List PV:=(xs.drop (HT.eK xs.length 0 lo)).take (HT.eK xs.length xs.length hi - HT.eK xs.length 0 lo)
theorem Be {J:Hq} {H:Hp} {xs:List PV} {vs:List V} {lo hi:Option Int} (r:aR K J H xs vs):aR K J H (mU xs lo hi) (L2.pf vs lo hi):=by
 unfold mU L2.pf
 rw [← r.length]
 exact (r.drop _).take _
def OT:CF:=fun x lo hi J Q=>Nf x fun xs=>¬ (HT.eK xs.length 0 lo=0∧HT.eK xs.length xs.length hi=xs.length)∧Q (.tup (mU xs lo hi)) J
theorem AU:Qi X OT:=⟨_,L2.MJ,fun J H x lo hi v Q2 Q rx r h k=>by
 obtain ⟨xs,ex,hn,q⟩:=An h
 subst ex
 obtain ⟨a,vs,rfl,h1,h2⟩:=rx
 refine ⟨a,vs,rfl,h1,by rw [← h2.length];exact hn,fun p hp=>?_⟩
 have sm:=bF.new hp (.tup (L2.pf vs lo hi))
 have e2:=Ext.same (K:=X.K) (J:=J) sm
 exact k (.tup (mU xs lo hi)) J (.ref p) _ ⟨p,_,rfl,.inl (.inl aE),e2.jv (Be h2)⟩ (r.same sm) e2 q⟩
def nt (J:Hq):PV→Option (List PV)
 | .fl xs=>some xs
 | .ref a=>match J a with
  | some (.lst xs)=>some xs
  | _=>none
 | _=>none
theorem nX {J:Hq} {H:Hp} {x:PV} {v:V} {xs:List PV} (rx:cE K J H x v) (r:Rep K J H) (h:nt J x=some xs):∃ a vs,v=.ref a∧di K H a vs∧aR K J H xs vs:=by
 cases x with
 | fl ys=>obtain ⟨a,vs,rfl,h1,h2⟩:=rx;cases h;exact ⟨a,vs,rfl,h1.sq,h2⟩
 | ref a =>
  cases rx
  unfold nt at h
  dsimp only at h
  cases ej:J a with
  | none=>rw [ej] at h;cases h
  | some o =>
   rw [ej] at h
   cases o with
   | lst ys=>cases h;obtain ⟨vs,h1,h2⟩:=r _ _ ej;exact ⟨a,vs,rfl,.inl (.inl h1),h2⟩
   | _=>cases h
 | _=>cases h
def OS:CF:=fun x lo hi J Q=>v_ (nt J x) fun xs=>Q (.fl (mU xs lo hi)) J
theorem Gm:Qi X OS:=⟨_,L2.wW,fun J H x lo hi v Q2 Q rx r h k=>by
 obtain ⟨xs,ex,q⟩:=e_ h
 obtain ⟨a,vs,rfl,h1,h2⟩:=nX rx r ex
 refine ⟨a,vs,rfl,h1,fun p hp=>?_⟩
 obtain ⟨x1,x2,x3⟩:=sf r (Be (lo:=lo) (hi:=hi) h2) hp
 exact k _ J _ _ x1 x2 x3 q⟩
def Rk:CF:=fun x lo hi J Q=>v_ (nt J x) fun xs=>∀ p,J p=none→Q (.ref p) (put J p (.lst (mU xs lo hi)))
def OK:A6:=fun xs J Q=>Dt xs fun x=>DW x fun i=>Q (.int (if i < 0 then -i else i)) J
theorem zN:KR X (.builtin "abs") OK:=⟨_,L2.nG,fun J H xs vs Q2 Q rs r h k=>by
 obtain ⟨x,ex,h⟩:=k6 h;obtain ⟨i,ei,q⟩:=iP h;subst ei
 subst ex;obtain ⟨v,us,rfl,rv,e⟩:=rs;cases rv;cases e
 exact ⟨i,rfl,k (.int _) J _ H rfl r .refl q⟩⟩
def xW (J:Hq):PV→Option Nat
 | .tup xs=>some xs.length
 | x=>(nt J x).map List.length
def Mr:A6:=fun xs J Q=>Dt xs fun x=>v_ (xW J x) fun n=>Q (.int n) J
theorem b7:KR X (.builtin "len") Mr:=⟨_,L2.jJ,fun J H xs vs Q2 Q rs r h k=>by
 obtain ⟨x,ex,h⟩:=k6 h;obtain ⟨n,en,q⟩:=e_ h
 subst ex;obtain ⟨v,us,rfl,rv,e⟩:=rs;cases e
 have go:∀ ys,nt J x=some ys→ys.length=n→∃ p ws,([v]:List V)=[.ref p]∧(di X.K H p ws∨g7 X.K H p ws)∧Q (.int ws.length) H:=fun ys h1 h2=>by
  obtain ⟨a,ws,rfl,h3,h4⟩:=nX rv r h1
  exact ⟨a,ws,rfl,.inl h3,by rw [← h4.length,h2];exact k (.int _) J _ H rfl r .refl q⟩
 cases x with
 | tup ys =>
  obtain ⟨a,ws,rfl,h1,h2⟩:=rv
  cases en
  exact ⟨a,ws,rfl,.inr h1,by rw [← h2.length];exact k (.int _) J _ H rfl r .refl q⟩
 | fl ys=>cases en;exact go _ rfl rfl
 | ref a =>
  unfold xW at en
  cases el:nt J (.ref a) with
  | none=>simp [el] at en
  | some ys=>simp [el] at en;exact go _ el en
 | _=>cases en⟩
def Co (J:Hq):PV→Option String
 | .non=>some "NoneType" | .bl _=>some "bool" | .int _=>some "int" | .str _=>some "str" | .tup _=>some "tuple" | .fl _=>some "list"
 | .ref a=>match J a with
  | some (.lst _)=>some "list"
  | some (.dct _ _)=>some "dict"
  | _=>none
 | _=>none
def ni (t n:String):Option Bool :=
 if n∈["int","bool","str","tuple","list"] then some (t == n || (t == "bool" && n == "int")) else none
theorem HD (K:PySem.W.Frag) {t n:String} {b:Bool} (ht:t∈["NoneType","bool","int","str","tuple","list","dict"]) (h:ni t n=some b):PySem.W.kitOne K (.type t) (.type n)=some b:=by
 unfold ni at h
 by_cases hn:n∈["int","bool","str","tuple","list"]
 ·rw [if_pos hn] at h
  simp only [List.mem_cons,List.not_mem_nil,or_false] at ht hn
  rcases ht with rfl | rfl | rfl | rfl | rfl | rfl | rfl <;> rcases hn with rfl | rfl | rfl | rfl | rfl <;> cases h <;> with_unfolding_all rfl
 ·rw [if_neg hn] at h;cases h
theorem Ju {J:Hq} {x:PV} {t:String} (h:Co J x=some t):t∈["NoneType","bool","int","str","tuple","list","dict"]:=by
 cases x with
 | ref a =>
  unfold Co at h
  dsimp only at h
  cases ej:J a with
  | none=>rw [ej] at h;cases h
  | some o=>rw [ej] at h;cases o <;> cases h <;> simp
 | ty n=>cases h
 | _=>cases h;simp
def Rb (x:PV) (k:String→Prop) (_:gX k:=dp):Prop:=match x with | .ty n=>k n | _=>False
theorem OD {x:String} {k:String→Prop} {d:gX k}:Rb (.ty x) k d=k x:=rfl
theorem L9 {x:PV} {k:String→Prop} {d:gX k} (h:Rb x k d):∃ n,x=.ty n∧k n:=by cases x <;> first | exact ⟨_,rfl,h⟩ | exact False.elim h
def OM:A6:=fun xs J Q=>L8 xs fun x y=>Rb y fun n=>v_ (Co J x) fun t=>v_ (ni t n) fun b=>Q (.bl b) J
theorem CI:cD X (.builtin "isinstance") (fun xs H Q=>∃ x n t b,xs=[x,.ty n]∧(gY X.K H x (.type t)∨(t="tuple"∧∃ a vs,x=.ref a∧g7 X.K H a vs)∨(t="list"∧∃ a vs,x=.ref a∧di X.K H a vs))∧PySem.W.kitOne X.K (.type t) (.type n)=some b∧Q (.bl b) H):=by
 intro pins s σ H xs us Q I r h
 obtain ⟨x,n,t,b,rfl,ty,e,q⟩:=h
 obtain ⟨u,w',rfl,rx,ry⟩:=L2.vals2 r
 cases (show w'=Value.type n from ry)
 rcases ty with ty | ⟨rfl,a,vs,rfl,hs⟩ | ⟨rfl,a,vs,rfl,hs⟩
 ·exact L2.CZ I rx ty e fun tk=>⟨.bl b,H,I.tok _,rfl,q⟩
 ·cases rx
  obtain ⟨its,_,⟨o,h1,h2,_⟩,_⟩:=I.tuple hs
  exact PySem.W.kia_one PySem.W.kitx_tuple I.mY ⟨o,h1,h2⟩ e (fun z=>nomatch z) fun tk=>⟨.bl b,H,I.tok _,rfl,q⟩
 ·cases rx
  obtain ⟨its,_,⟨o,_,h1,h2,_⟩,_⟩:=I.list hs
  exact PySem.W.kia_one PySem.W.kitx_list I.mY ⟨o,h1,h2⟩ e (fun z=>nomatch z) fun tk=>⟨.bl b,H,I.tok _,rfl,q⟩
theorem jL:KR X (.builtin "isinstance") OM:=⟨_,CI,fun J H xs vs Q2 Q rs r h k=>by
 obtain ⟨x,y,ex,h⟩:=Am h;obtain ⟨n,ey,h⟩:=L9 h;obtain ⟨t,et,h⟩:=e_ h;obtain ⟨b,es,q⟩:=e_ h
 subst ey
 subst ex
 obtain ⟨v,us,rfl,rv,w,us',rfl,rw',e⟩:=rs
 cases rw';cases e
 refine ⟨v,n,t,b,rfl,?_,HD X.K (Ju et) es,k (.bl _) J _ H rfl r .refl q⟩
 cases x with
 | non=>cases rv;cases et;exact .inl .non
 | bl i=>cases rv;cases et;exact .inl (.bl i)
 | int i=>cases rv;cases et;exact .inl (.int i)
 | str i=>cases rv;cases et;exact .inl (.str i)
 | tup xs=>obtain ⟨a,ws,rfl,h1,_⟩:=rv;cases et;exact .inr (.inl ⟨rfl,a,ws,rfl,h1⟩)
 | fl xs =>
  obtain ⟨a,ws,rfl,h1,_⟩:=rv;cases et
  exact .inr (.inr ⟨rfl,a,ws,rfl,h1.sq⟩)
 | ty n=>cases et
 | ref a =>
  cases rv
  unfold Co at et
  dsimp only at et
  cases ej:J a with
  | none=>rw [ej] at et;cases et
  | some o =>
   rw [ej] at et
   have z:=r _ _ ej
   cases o with
   | lst xs=>obtain ⟨ws,h1,_⟩:=z;cases et;exact .inl (.lst h1)
   | dct kvs ep=>obtain ⟨gs,h1,_⟩:=z;cases et;exact .inl (.dE h1)
   | tab=>cases et
   | dtp hs ks=>cases et
   | ins C fs=>cases et⟩
def Mo:A6:=fun xs J Q=>Dt xs fun x=>v_ (nt J x) fun ys=>Q (.fl ys) J
def FP:A6:=fun xs J Q=>Dt xs fun x=>v_ (nt J x) fun ys=>∀ p,J p=none→Q (.ref p) (put J p (.lst ys))
theorem xH:KR X (.type "list") FP:=⟨_,L2.vA,fun J H xs vs Q2 Q rs r h k=>by
 obtain ⟨x,ex,h⟩:=k6 h;obtain ⟨ys,el,q⟩:=e_ h
 subst ex;obtain ⟨v,us,rfl,rv,e⟩:=rs;cases e
 obtain ⟨a,ws,rfl,h3,h4⟩:=nX rv r el
 exact ⟨a,ws,rfl,.inl h3,fun p hp=>k (.ref p) _ _ _ rfl (r.EX hp h4) (.laid hp) (q p (r.free hp))⟩⟩
def Rj:A6:=fun xs J Q=>∃ i j,xs=[.int i,.int j]∧Q (.int (if j > i then j else i)) J
def wx:DU:=fun x xs J Q=>Du x fun a=>Dt xs fun y=>P4 (J a) fun ys=>ys.length < sizeLine∧Q .non (put J a (.lst (ys ++ [y])))
theorem pE:K3 X "list" "list.append" wx:=⟨_,L2.gA,fun J H x xs v vs Q2 Q rx rs r h k=>by
 obtain ⟨a,ex,h⟩:=iQ h;obtain ⟨y,exs,h⟩:=k6 h;obtain ⟨ys,ja,hl,q⟩:=L6 h
 subst ex exs;cases rx;obtain ⟨w,us,rfl,rw',e⟩:=rs;cases e
 obtain ⟨ws,h1,h2⟩:=r _ _ ja
 exact ⟨a,ws,w,rfl,rfl,h1,by rw [← h2.length];exact hl,k .non _ _ _ rfl (r.wrote (ys:=ys ++ [y]) ja h1 (h2.append (show aR X.K J H [y] [w] from ⟨w,[],rfl,rw',rfl⟩))) (.wrote ja h1) q⟩⟩
def OQ:DU:=fun x xs J Q=>∃ a ys y,x=.ref a∧xs=[]∧J a=some (.lst ys)∧ys[ys.length - 1]?=some y∧Q y (put J a (.lst ys.dropLast))
theorem aR.dropLast {J:Hq} {H:Hp} {xs:List PV} {vs:List V} (r:aR K J H xs vs):aR K J H xs.dropLast vs.dropLast:=by
 rw [List.dropLast_eq_take,List.dropLast_eq_take,← r.length]
 exact r.take _
theorem LN:K3 X "list" "list.pop" OQ:=⟨_,L2.LP,fun J H x xs v vs Q2 Q rx rs r ⟨a,ys,y,ex,exs,ja,hy,q⟩ k=>by
 subst ex exs;cases rx;cases rs
 obtain ⟨ws,h1,h2⟩:=r _ _ ja
 obtain ⟨w,e1,e2⟩:=h2.get hy
 have ex:=Ext.wrote (K:=X.K) (ys:=ys.dropLast) (vs:=ws.dropLast) ja h1
 exact ⟨a,ws,w,rfl,rfl,h1,by rw [← h2.length];exact e1,k y _ w _ (ex.rep e2) (r.wrote ja h1 h2.dropLast) ex q⟩⟩
def Mn:DU:=fun x xs J Q=>∃ a ys,x=.ref a∧xs=[]∧J a=some (.lst ys)∧Q .non (put J a (.lst []))
def IJ:V→List V→Hp→VK→Prop:=fun x vs H Q=>∃ l xs i y,x=.ref l∧vs=[.int (i:Nat),y]∧H l=some (.lst xs)∧i≤xs.length∧xs.length < sizeLine∧i < 2 ^ 62∧Q .non (upd H l (.lst (xs.take i ++ y :: xs.drop i)))
theorem zV (its:List Value) (i:Nat) (u:Value) (h:i≤its.length):((its.toArray.extract 0 (min ((i:Int)).toNat its.toArray.size)).push u ++ its.toArray.extract (min ((i:Int)).toNat its.toArray.size))=(its.take i ++ u :: its.drop i).toArray:=by
 have e:min ((i:Int)).toNat its.toArray.size=i:=by simp;omega
 rw [e]
 apply Array.ext'
 simp
 exact List.take_of_length_le (by simp)
theorem De:rD X "list.insert" IJ:=by
 intro pins s σ H x vs v us Q I rx rv h
 obtain ⟨l,xs,i,y,rfl,rfl,hH,hi,hz,hb,q⟩:=h
 cases rx
 obtain ⟨u,w,rfl,ru,rw'⟩:=L2.vals2 rv
 obtain ⟨t,rfl⟩:=ru
 obtain ⟨z,its,n,r,hl,e⟩:=I.HI hH
 have h63:((i:Nat):Int) < 2 ^ 63:=by
  have:((i:Nat):Int) < ((2 ^ 62:Nat):Int):=Int.ofNat_lt.mpr hb
  exact Int.lt_trans this (by decide)
 have hf:Builtin.List.listFitsIndex ((i:Nat):Int)=true:=fitsIndex_both (Int.le_trans (by decide) (Int.natCast_nonneg i)) h63
 have hs:its.toArray.size≤sizeLine:=by rw [List.size_toArray,← hl];exact z
 have hn:¬(!Builtin.List.listFitsIndex ((i:Nat):Int))=true:=by rw [hf];exact fun z=>nomatch z
 have hneg:¬ (((i:Nat):Int) < 0):=by omega
 have hins:=zV its i w (by omega)
 clear hb h63 hf
 generalize ((i:Nat):Int)=ii at *
 have mm:=PySem.AutoSeq1.list_insert_list_int_val_1 l its.toArray n ii t w hn hs
 refine call_meets PySem.F.slot_list_insert ⟨_,e,rfl⟩ PySem.F.entry_list_insert (PySem.F.args_list_insert_3 _ _ _) mm ⟨e,?_⟩
 refine ⟨.non,_,I.HH (its':=its.take i ++ w :: its.drop i) hH e ?_ ((r.take i).append (.cons rw' (r.drop i))) ?_,rfl,q⟩
 ·simp only [if_neg hneg]
  exact hins
 ·rw [List.length_append,List.length_cons,List.length_take,List.length_drop];omega
def BN:DU:=fun x xs J Q=>∃ a ys i y,x=.ref a∧xs=[.int (i:Nat),y]∧J a=some (.lst ys)∧i≤ys.length∧ys.length < sizeLine∧i < 2 ^ 62∧Q .non (put J a (.lst (ys.take i ++ y :: ys.drop i)))
theorem lR:K3 X "list" "list.insert" BN:=⟨_,De,fun J H x xs v vs Q2 Q rx rs r ⟨a,ys,i,y,ex,exs,ja,hi,hl,hb,q⟩ k=>by
 subst ex exs;cases rx;obtain ⟨w0,us,rfl,rw0,w,us',rfl,rw',e⟩:=rs;cases e;cases rw0
 obtain ⟨ws,h1,h2⟩:=r _ _ ja
 exact ⟨a,ws,i,w,rfl,rfl,h1,by rw [← h2.length];exact hi,by rw [← h2.length];exact hl,hb,k .non _ _ _ rfl (r.wrote (ys:=ys.take i ++ y :: ys.drop i) ja h1 ((h2.take i).append (show aR X.K J H (y :: ys.drop i) (w :: ws.drop i) from ⟨w,_,rfl,rw',h2.drop i⟩))) (.wrote ja h1) q⟩⟩
end
def qz (ks:List (Str × Nat)) (τ:Sr):Sr:=ks.map fun p=>(τ[p.2]?).getD none
theorem BY {K:PySem.W.Frag} {J:Hq} {H:Hp} {τ:Sr} {σ:L2.St} (r:mR K J H τ σ) {x:PV} {v:V} (rx:cE K J H x v) (ks:List (Str × Nat)):mR K J H (some x :: qz ks τ) (some v :: dI ks σ):=by
 refine ⟨by simp [qz,dI],fun i y e=>?_⟩
 cases i with
 | zero=>rw [List.getElem?_cons_zero] at e ⊢;cases e;exact ⟨v,rfl,rx⟩
 | succ i =>
  rw [List.getElem?_cons_succ] at e ⊢
  unfold qz at e
  unfold dI
  rw [List.getElem?_map] at e ⊢
  cases ep:ks[i]? with
  | none=>rw [ep] at e;cases e
  | some p =>
   rw [ep] at e
   have e':(τ[p.2]?).getD none=some y:=Option.some.inj e
   have e2:τ[p.2]?=some (some y):=by
    cases q:τ[p.2]? with
    | none=>rw [q] at e';cases e'
    | some w=>rw [q] at e';exact congrArg some e'
   obtain ⟨v',h1,h2⟩:=r.get _ _ e2
   exact ⟨v',by show some ((σ[p.2]?).getD none)=_;rw [h1];rfl,h2⟩
def Sub (J J':Hq):Prop:=∀ a o,J a=some o→J' a=some o
theorem Sub.put {J:Hq} {D:Addr} {o:HQ} (h:J D=none):Sub J (put J D o):=fun a u e=>by
 have ne:a≠D:=by intro z;subst z;rw [h] at e;cases e
 rw [au ne];exact e
def Qg (it:zu) (J1:Hq) (ks:List (Str × Nat)) (τ:Sr) (tc:mS) (te:dG) (c:PV→Bool) (g:PV→PV):Prop:=it.xs.length < sizeLine∧∀ J',Sub J1 J'→it.ok J' ∧
 ∀ x∈it.xs,tc (some x :: qz ks τ) J' (fun b J2=>b=c x∧J2=J')∧(c x=true→te (some x :: qz ks τ) J' fun y J2=>y=g x∧J2=J')
def wz (wi:tQ) (ks:List (Str × Nat)) (tc:mS) (te:dG):dG:=fun τ J Q=>wi τ J fun it J1=>∃ (c:PV→Bool) (g:PV→PV),Qg it J1 ks τ tc te c g∧Q (.fl ((it.xs.filter c).map g)) J1
def Mt (wi:tQ) (ks:List (Str × Nat)) (tc:mS) (te:dG):dG:=fun τ J Q=>wi τ J fun it J1=>∃ (c:PV→Bool) (g:PV→PV),Qg it J1 ks τ tc te c g∧∀ p,J1 p=none→Q (.ref p) (put J1 p (.lst ((it.xs.filter c).map g)))
def yz:mS:=fun _ J Q=>Q true J
section
variable {X:Cx} {G:G2}
theorem qm {α:Type} (c:α→Bool) {xs:List α} {i:Nat} {x:α} (h:xs[i]?=some x):(xs.take (i + 1)).filter c=(xs.take i).filter c ++ (if c x=true then [x] else []):=by
 rw [List.take_add_one,h,List.filter_append]
 congr 1
 simp only [Option.toList_some,List.filter_cons,List.filter_nil]
theorem vO {K:PySem.W.Frag} {ks:List (Str × Nat)} {tc:mS} {te:dG} {σ:L2.St} {H:Hp} {Q:VK} {τ:Sr} {J:Hq} (a2:xo K G τ J σ H) {it:zu} {J1:Hq} {I:It} {H1:Hp} (ir:ur K it I J1 H1) (r1:Rep K J1 H1) (e1:Ext K J H J1 H1) {c:PV→Bool} {g:PV→PV}
  (w:Qg it J1 ks τ tc te c g)
  (q:∀ D H2,H1 D=none→J1 D=none→Rep K (put J1 D (.lst ((it.xs.filter c).map g))) H2→Ext K J1 H1 (put J1 D (.lst ((it.xs.filter c).map g))) H2→Q (.ref D) H2) :
  ∀ D,H1 D=none→∃ W:Nat→Nat→Hp→Prop,(∃ m,W 0 m (upd H1 D (.lst [])))∧∀ i m H2,W i m H2→(I.stop i H2∧Q (.ref D) H2) ∨
   (I.go i H2∧∀ v H3,I.yld i H2 v H3→LT K G tc (some v :: dI ks σ) H3 fun b H4=>if b=true then LE K G te (some v :: dI ks σ) H4 fun y H5=>∃ ys,H5 D=some (.lst ys)∧ys.length < sizeLine∧∃ m',m' < m∧W (i + 1) m' (upd H5 D (.lst (ys ++ [y]))) else ∃ m',m' < m∧W (i + 1) m' H4):=by
 intro D hD
 obtain ⟨hlen,w⟩:=w
 have jD:J1 D=none:=r1.free hD
 refine ⟨fun i m H2=>m=it.xs.length - i∧i≤it.xs.length∧Rep K (put J1 D (.lst (((it.xs.take i).filter c).map g))) H2∧Ext K J1 H1 (put J1 D (.lst (((it.xs.take i).filter c).map g))) H2,⟨_,rfl,Nat.zero_le _,r1.EX (xs:=[]) (vs:=[]) hD rfl,.laid hD⟩,?_⟩
 rintro i m H2 ⟨rfl,hi,r2,e2⟩
 obtain ⟨ok,ww⟩:=w _ (Sub.put (o:=.lst (((it.xs.take i).filter c).map g)) jD)
 by_cases hlt:i < it.xs.length
 ·refine .inr ⟨ir.go _ H2 e2 r2 ok i hlt,fun v H3 y=>?_⟩
  obtain ⟨x,ex,rx,r3,e3⟩:=ir.yl _ H2 e2 r2 ok i hlt v H3 y
  obtain ⟨hc,he⟩:=ww x (List.mem_of_getElem? ex)
  have a3:xo K G (some x :: qz ks τ) _ (some v :: dI ks σ) H3:=⟨BY (a2.sl.ext ((e1.trans e2).trans e3)) rx ks,r3,((a2.ext.trans e1).trans e2).trans e3⟩
  refine ⟨_,_,_,a3,hc,fun b J4 H4 r4 e4 ⟨eb,ej⟩=>?_⟩
  subst ej
  cases hb:c x with
  | false =>
   rw [eb,hb]
   simp only [Bool.false_eq_true,if_false]
   refine ⟨_,by omega,rfl,hlt,?_⟩
   rw [qm c ex,hb]
   simp only [Bool.false_eq_true,if_false,List.append_nil]
   exact ⟨r4,(e2.trans e3).trans e4⟩
  | true =>
   rw [eb,hb]
   simp only [if_true]
   refine ⟨_,_,_,a3.go r4 e4,he hb,fun z J5 u H5 rz r5 e5 ⟨ez,ej⟩=>?_⟩
   subst ej ez
   obtain ⟨ys,h5,ry⟩:=r5 D _ av
   have ll:ys.length≤i:=by
    rw [← ry.length,List.length_map]
    exact Nat.le_trans (List.length_filter_le _ _) (by rw [List.length_take];omega)
   have r6:=r5.wrote (ys:=((it.xs.take i).filter c).map g ++ [g x]) (vs:=ys ++ [u]) av h5 (ry.append (show aR K _ H5 [g x] [u] from ⟨u,[],rfl,rz,rfl⟩))
   have e6:=Ext.wrote (K:=K) (ys:=((it.xs.take i).filter c).map g ++ [g x]) (vs:=ys ++ [u]) (J:=put J1 D (.lst (((it.xs.take i).filter c).map g))) av h5
   rw [fe] at r6 e6
   refine ⟨ys,h5,by omega,_,by omega,rfl,hlt,?_⟩
   rw [qm c ex,hb,if_pos rfl,List.map_append]
   exact ⟨r6,(((e2.trans e3).trans e4).trans e5).trans e6⟩
 ·have ei:i=it.xs.length:=by omega
  subst ei
  rw [List.take_length] at r2 e2 ok
  exact .inl ⟨ir.stop _ H2 e2 r2 ok,q D H2 hD jD r2 e2⟩
theorem freeze {K:PySem.W.Frag} {J1:Hq} {H2:Hp} {D:Addr} {xs:List PV} (jD:J1 D=none) (r:Rep K (put J1 D (.lst xs)) H2):cE K J1 H2 (.fl xs) (.ref D)∧Rep K J1 H2∧Ext K (put J1 D (.lst xs)) H2 J1 H2:=by
 obtain ⟨ys,h,ry⟩:=r D _ av
 have less:∀ a,J1 a=put J1 D (.lst xs) a∨J1 a=none:=fun a=>by
  by_cases e:a=D
  ·subst e;exact .inr jD
  ·rw [au e];exact .inl rfl
 have e:=Ext.less (K:=K) (H:=H2) less
 exact ⟨⟨D,ys,rfl,.inl ⟨jD,.inl h⟩,e.jv ry⟩,r.less less,e⟩
theorem E1 {wi:tQ} {ks:List (Str × Nat)} {tc:mS} {te:dG}:∀ σ H Q,LE X.K G (wz wi ks tc te) σ H Q→MP (LI X.K G wi) ks (LT X.K G tc) (LE X.K G te) σ H Q:=fun σ H Q ⟨τ,J,Q2,a2,h,k⟩ =>
 ⟨τ,J,_,a2,h,fun it J1 I H1 ir r1 e1 ⟨c,g,w,q⟩=>vO (Q:=Q) a2 ir r1 e1 w fun D H2 hD jD r2 e2=>let ⟨x1,x2,x3⟩:=freeze jD r2;k _ J1 _ H2 x1 x2 ((e1.trans e2).trans x3) q⟩
theorem E3 {wi:tQ} {ks:List (Str × Nat)} {tc:mS} {te:dG}:∀ σ H Q,LE X.K G (Mt wi ks tc te) σ H Q→MP (LI X.K G wi) ks (LT X.K G tc) (LE X.K G te) σ H Q:=fun σ H Q ⟨τ,J,Q2,a2,h,k⟩ =>
 ⟨τ,J,_,a2,h,fun it J1 I H1 ir r1 e1 ⟨c,g,w,q⟩=>vO (Q:=Q) a2 ir r1 e1 w fun D H2 hD jD r2 e2=>k (.ref D) _ _ H2 rfl r2 (e1.trans e2) (q D jD)⟩
theorem xT {wi:tQ} {ks:List (Str × Nat)} {te:dG}:∀ σ H Q,LE X.K G (wz wi ks yz te) σ H Q→P9 (LI X.K G wi) ks (LE X.K G te) σ H Q:=fun σ H Q ⟨τ,J,Q2,a2,h,k⟩ =>
 ⟨τ,J,_,a2,h,fun it J1 I H1 ir r1 e1 ⟨c,g,w,q⟩ D hD=>by
  obtain ⟨W,w0,turn⟩:=vO (Q:=Q) a2 ir r1 e1 w (fun D H2 hD jD r2 e2=>let ⟨x1,x2,x3⟩:=freeze jD r2;k _ J1 _ H2 x1 x2 ((e1.trans e2).trans x3) q) D hD
  refine ⟨W,w0,fun i m H2 hw=>?_⟩
  rcases turn i m H2 hw with z | ⟨go,z⟩
  ·exact .inl z
  ·refine .inr ⟨go,fun v H3 y=>?_⟩
   obtain ⟨τ',J',Q',a',t',k'⟩:=z v H3 y
   have:=k' true J' H3 a'.hp .refl t'
   simpa using this⟩
variable {elt iter cnd:Expr} {x y:Str} {px py:Pos} {sc:Scope} {pos spos:Pos} {wi:tQ} {te:dG} {tc:mS} {i:Nat}
theorem Kx (osc:Scope) (N:List Str) (ks:List (Str × Nat)) (hc:X.calm=true) (ho:X.env.scope=osc) (hN:X.N=N) (hi:RI X G (.Name x px) iter wi) (he:∀ cl C s₀ H₀ fp pins,RE (fv X sc cl C x ks s₀ H₀ fp pins) G elt te)
  (ok:cQ sc osc N x ks:=by decide +kernel) (hs:∀ x,foldedSetIterable iter X.env x=pure x:=by intro _;rfl):RE X G (.ListComp elt [⟨.Name x px,iter,[],0⟩] sc pos) (wz wi ks yz te) :=
 ⟨mh (Ke osc N ks hc ho hN hi.run (fun cl C s₀ H₀ fp pins=>(he cl C s₀ H₀ fp pins).run) ok hs) xT⟩
theorem r8 {t:dG} {u:TE} (h:∀ σ H Q,LE X.K G t σ H Q→u σ H Q):∀ D σ H,LS X.K G (ue t (Hs i)) D σ H→u σ H fun v H1=>D.nx (σ.set i (some v)) H1:=fun D σ H ⟨τ,J,D2,a2,q,g⟩ =>
 h σ H _ ⟨τ,J,_,a2,q,fun x J' v H' rx rr ee q=>g.nx _ J' _ H' ((a2.sl.ext ee).set i rx) rr ee q⟩
theorem MB (osc:Scope) (N:List Str) (ks:List (Str × Nat)) (hc:X.calm=true) (ho:X.env.scope=osc) (hN:X.N=N) (hnd:X.N.Nodup) (hy:X.N[i]?=some y) (hl:Loc X.env.scope y) (hi:RI X G (.Name x px) iter wi) (he:∀ cl C s₀ H₀ fp pins,RE (fv X sc cl C x ks s₀ H₀ fp pins) G elt te) (hcn:∀ cl C s₀ H₀ fp pins,RT (fv X sc cl C x ks s₀ H₀ fp pins) G cnd tc)
  (ok:cQ sc osc N x ks:=by decide +kernel) (hs:∀ x,foldedSetIterable iter X.env x=pure x:=by intro _;rfl) (hsw:swapsWith (.ListComp elt [⟨.Name x px,iter,[cnd],0⟩] sc pos) (some (.Name y py)) spos.line X.env=pure true:=by rfl) (hf:X.fn y=true∨X.env.scope.names.lookup y=some .local:=by first | exact .inl rfl | exact .inr rfl | assumption) :
  RS X G (.Assign [.Name y py] (.ListComp elt [⟨.Name x px,iter,[cnd],0⟩] sc pos) spos) (ue (wz wi ks tc te) (Hs i)) :=
 ⟨y9 (FH osc N ks hc ho hN hnd hy hl hi.run (fun cl C s₀ H₀ fp pins=>(he cl C s₀ H₀ fp pins).run) (fun cl C s₀ H₀ fp pins=>(hcn cl C s₀ H₀ fp pins).run) ok hs hsw hf) (r8 E1)⟩
theorem IU (osc:Scope) (N:List Str) (ks:List (Str × Nat)) (hc:X.calm=true) (ho:X.env.scope=osc) (hN:X.N=N) (hnd:X.N.Nodup) (hy:X.N[i]?=some y) (hl:Loc X.env.scope y) (hi:RI X G (.Name x px) iter wi) (he:∀ cl C s₀ H₀ fp pins,RE (fv X sc cl C x ks s₀ H₀ fp pins) G elt te) (hcn:∀ cl C s₀ H₀ fp pins,RT (fv X sc cl C x ks s₀ H₀ fp pins) G cnd tc)
  (ok:cQ sc osc N x ks:=by decide +kernel) (hs:∀ x,foldedSetIterable iter X.env x=pure x:=by intro _;rfl) (hsw:swapsWith (.ListComp elt [⟨.Name x px,iter,[cnd],0⟩] sc pos) (some (.Name y py)) spos.line X.env=pure true:=by rfl) (hf:X.fn y=true∨X.env.scope.names.lookup y=some .local:=by first | exact .inl rfl | exact .inr rfl | assumption) :
  RS X G (.Assign [.Name y py] (.ListComp elt [⟨.Name x px,iter,[cnd],0⟩] sc pos) spos) (ue (Mt wi ks tc te) (Hs i)) :=
 ⟨y9 (FH osc N ks hc ho hN hnd hy hl hi.run (fun cl C s₀ H₀ fp pins=>(he cl C s₀ H₀ fp pins).run) (fun cl C s₀ H₀ fp pins=>(hcn cl C s₀ H₀ fp pins).run) ok hs hsw hf) (r8 E3)⟩
theorem Pl (osc:Scope) (N:List Str) (ks:List (Str × Nat)) (hc:X.calm=true) (ho:X.env.scope=osc) (hN:X.N=N) (hnd:X.N.Nodup) (hy:X.N[i]?=some y) (hl:Loc X.env.scope y) (hi:RI X G (.Name x px) iter wi) (he:∀ cl C s₀ H₀ fp pins,RE (fv X sc cl C x ks s₀ H₀ fp pins) G elt te)
  (ok:cQ sc osc N x ks:=by decide +kernel) (hs:∀ x,foldedSetIterable iter X.env x=pure x:=by intro _;rfl) (hsw:swapsWith (.ListComp elt [⟨.Name x px,iter,[],0⟩] sc pos) (some (.Name y py)) spos.line X.env=pure true:=by rfl) (hf:X.fn y=true∨X.env.scope.names.lookup y=some .local:=by first | exact .inl rfl | exact .inr rfl | assumption) :
  RS X G (.Assign [.Name y py] (.ListComp elt [⟨.Name x px,iter,[],0⟩] sc pos) spos) (ue (wz wi ks yz te) (Hs i)) :=
 ⟨y9 (Kf osc N ks hc ho hN hnd hy hl hi.run (fun cl C s₀ H₀ fp pins=>(he cl C s₀ H₀ fp pins).run) ok hs hsw hf) (r8 xT)⟩
end
end Ov
namespace Ov
open PySem PySem.Spec PyProof.Rows
section
open HT (lexLt)
def m3:List Str→List Str→Bool
 | [],[]=>false
 | [],_ :: _=>true
 | _ :: _,[]=>false
 | x :: xs,y :: ys=>if x=y then m3 xs ys else decide (x.cps.toList < y.cps.toList)
theorem pB (x y:Str) (xs ys:List Str):m3 (x :: xs) (y :: ys)=if x=y then m3 xs ys else decide (x.cps.toList < y.cps.toList):=rfl
theorem nW:m3 [] []=false:=rfl
theorem tT (y:Str) (ys:List Str):m3 [] (y :: ys)=true:=rfl
theorem tS (x:Str) (xs:List Str):m3 (x :: xs) []=false:=rfl
theorem Et (A:Around) (s:Shared) (a:Str) (t:Tok) (c:Str) (u:Tok):∃ e,SeqAt.EqAt A s (.str a t) (.str c u) e∧(e=true↔a=c) :=
 ⟨(a == c),SeqAt.EqAt.str_str a t c u,by simp⟩
theorem FZ (A:Around) (s:Shared) (a:Str) (t:Tok) (c:Str) (u:Tok) (prog:Program) (w:World) (E:Value→Shared→Prop) (Q:Value→Shared→Prop) (h:Q (.bool (decide (a.cps.toList < c.cps.toList))) s) :
  wpAny (model prog w) A (richCompare .Lt (.str a t) (.str c u)) Q E s :=
 (PyProof.Rows.lt_str h:wpAny (model prog w) A (compareOp .Lt (.str a t) (.str c u)) Q E s)
open PySem.SeqAt
open PySem.AutoSeq1 (wpAny_loadPart')
open PySem.MeetsSeq PySem.MeetsSeq2 PySem.MeetsSeq3
theorem uo (l b:Addr) (items items2:Array Value) (n n2:Nat) (dd dd2:Option Addr) (sl sl2:Array (Option Value)) (ns ms:List Str) (hi:StrsAre items.toList ns) (hj:StrsAre items2.toList ms) :
  Meets (Builtin.«tuple.__lt__» ⟨[.ref l,.ref b],[]⟩)
   (fun _ R s=>s.heap.get? l=some { cls:=.type "tuple",dict:=dd,data:=.seq items n,slots:=sl }∧s.heap.get? b=some { cls:=.type "tuple",dict:=dd2,data:=.seq items2 n2,slots:=sl2 } ∧
    R (.ok (.ret (.bool (m3 ns ms)))) s) :=
 .of_wp fun prog w A R s h=>by
  obtain ⟨hp,g,d,tk,os⟩:=s;obtain ⟨hl,hb,h⟩:=h
  have f2:=AutoSeq1.sub_tuple_tuple
  have z1:items.size=ns.length:=by rw [← hi.length];simp
  have z2:items2.size=ms.length:=by rw [← hj.length];simp
  wp_walk using wpAny_loadPart' hl,wpAny_loadPart' hb,wpAny_forIn_list _ (fun rest b s'=>b.1=none∧s'=⟨hp,g,d,tk,os⟩∧∃ (vs ws:List Value) (ns' ms':List Str),rest=vs.zip ws ∧
   StrsAre vs ns'∧StrsAre ws ms'∧ns'.length + items2.size=ms'.length + items.size∧R (.ok (.ret (.bool (m3 ns' ms')))) ⟨hp,g,d,tk,os⟩) _
  case turn =>
   rintro ⟨y,x⟩ rest b s' ⟨hb',rfl,vs,ws,ns',ms',hz,hvi,hwi,hlen,hR⟩
   cases hvi with
   | nil=>rw [List.zip_nil_left] at hz;cases hz
   | cons a t hvi' =>
    cases hwi with
    | nil=>rw [List.zip_nil_right] at hz;cases hz
    | cons c u hwi' =>
     rw [List.zip_cons_cons] at hz
     injection hz with hyx hrest
     injection hyx with hy hx
     subst hy hx
     rw [pB] at hR
     simp only [List.length_cons] at hlen
     obtain ⟨e,he,hiff⟩:=Et A.in1 ⟨hp,g,d,tk,os⟩ a t c u
     refine wpAny_bind (he prog w _ _ ?_)
     cases e with
     | true =>
      rw [if_pos (hiff.mp rfl)] at hR
      wp_walk
      exact ⟨rfl,rfl,_,_,_,_,hrest,hvi',hwi',by omega,hR⟩
     | false =>
      rw [if_neg (fun q=>absurd (hiff.mpr q) Bool.false_ne_true)] at hR
      have hri:=FZ A.in1 ⟨hp,g,d,tk,os⟩ a t c u prog w
      wp_walk using hri
      exact ⟨_,rfl,by simpa using hR⟩
  case fin =>
   rintro ⟨b1,b2⟩ s' ⟨hb',rfl,vs,ws,ns',ms',hz,hvi,hwi,hlen,hR⟩
   simp only at hb'
   subst hb'
   have hv:m3 ns' ms'=decide (items.size < items2.size):=by
    cases hvi with
    | nil =>
     cases hwi with
     | nil =>
      simp only [List.length_nil] at hlen
      rw [nW]
      exact (decide_eq_false (by omega)).symm
     | cons c u hw =>
      simp only [List.length_nil,List.length_cons] at hlen
      rw [tT]
      exact (decide_eq_true (by omega)).symm
    | cons a t hv =>
     cases hwi with
     | nil =>
      simp only [List.length_nil,List.length_cons] at hlen
      rw [tS]
      exact (decide_eq_false (by omega)).symm
     | cons c u hw =>
      rw [List.zip_cons_cons] at hz
      cases hz
   rw [hv] at hR
   wp_walk
   exact ⟨_,rfl,by simpa [Builtin.Tuple.tupleCompareSizes] using hR⟩
  case h =>
   exact ⟨rfl,rfl,items.toList,items2.toList,ns,ms,rfl,hi,hj,by omega,h⟩
section
variable {prog:Program} {w:World} {A:Around} {E:Value→Shared→Prop} {s:Shared}
theorem Ac {l b:Addr} {items items2:Array Value} {ns ms:List Str} {Q:Value→Shared→Prop} (hl:IsTup s.heap l items) (hb:IsTup s.heap b items2) (hi:StrsAre items.toList ns) (hj:StrsAre items2.toList ms)
  (hu:A.units < cLine) (h:Q (.bool (m3 ns ms)) s):wpAny (model prog w) A (compareOp .Lt (.ref l) (.ref b)) Q E s:=by
 obtain ⟨⟨cls,dd,data,sl⟩,ho,hc,n,hd⟩:=id hl
 obtain ⟨⟨cls2,dd2,data2,sl2⟩,ho2,hc2,n2,hd2⟩:=id hb
 simp only at hc hd hc2 hd2
 subst hc hd hc2 hd2
 exact richCompare_meets_room (op:=.Lt) ⟨_,ho,rfl⟩ ⟨_,ho2,rfl⟩ PySem.F.slot_tuple_lt PySem.F.entry_tuple_lt (PySem.F.args_tuple_lt_2 _ _) (uo l b items items2 n n2 dd dd2 sl sl2 ns ms hi hj)
  ⟨ho,ho2,show Value.bool (m3 ns ms)≠Value.notImplemented∧Q (.bool (m3 ns ms)) s from ⟨(fun x=>nomatch x),h⟩⟩ hu
end
end
open L2 (V HO Hp Inv Cx VK XK TE TT TA TS TG rF TI TO me Ends xA Loc Gl Rd RelV Vals fT y6 cD rA uu rD md R2 upd aE aK di g7 Sp tH It bF dP bU Passes qA aH Meth Mk Binds aL cA aw dJ gY fC)
section
variable {X:Cx} {K:PySem.W.Frag}
theorem Ie (hu:X.A.units < cLine):fT X (compareOp .Lt) (fun x y H Q=>∃ a b ns ms,x=.ref a∧y=.ref b∧g7 X.K H a (ns.map V.str)∧g7 X.K H b (ms.map V.str)∧Q (.bl (m3 ns ms)) H):=by
 intro pins s σ H x y v u Q I rx ry h
 obtain ⟨a,b,ns,ms,rfl,rfl,ha,hb,q⟩:=h
 cases rx;cases ry
 obtain ⟨is,r1,t1,_⟩:=I.tuple ha
 obtain ⟨js,r2,t2,_⟩:=I.tuple hb
 exact Ac t1 t2 (by simpa using ka r1) (by simpa using ka r2) hu ⟨.bl _,H,I,rfl,q⟩
theorem tm {J:Hq} {H:Hp}:∀ {ns:List Str} {vs:List V},aR K J H (ns.map PV.str) vs→vs=ns.map V.str
 | [],_,h=>h
 | n :: ns,_,⟨v,us,e,h,k⟩=>by subst e;cases h;rw [tm k];rfl
def Kl:nC:=fun x y J Q=>∃ ns ms,x=.tup (ns.map .str)∧y=.tup (ms.map .str)∧Q (.bl (m3 ns ms)) J
theorem Ii (hu:X.A.units < cLine):nB X (compareOp .Lt) Kl:=⟨_,Ie hu,fun J H x y v w Q2 Q rx ry r ⟨ns,ms,ex,ey,q⟩ k=>by
 subst ex ey
 obtain ⟨a,vs,rfl,h1,h2⟩:=rx
 obtain ⟨b,ws,rfl,h3,h4⟩:=ry
 cases tm h2;cases tm h4
 exact ⟨a,b,ns,ms,rfl,rfl,h1,h3,k (.bl _) J _ H rfl r .refl q⟩⟩
theorem Ic:fT X (binaryOp .Add) (fun x y H Q=>∃ l b xs zs,x=.ref l∧y=.ref b∧di X.K H l xs∧di X.K H b zs∧xs.length + zs.length≤sizeLine∧∀ p,H p=none→Q (.ref p) (upd H p (.lst (xs ++ zs)))):=by
 intro pins s σ H x y v u Q I rx ry h
 obtain ⟨l,b,xs,zs,rfl,rfl,hH,hB,hz,q⟩:=h
 cases rx;cases ry
 obtain ⟨its,r,pl,_⟩:=I.list hH
 obtain ⟨its2,r2,pl2,_⟩:=I.list hB
 have l1:=r.length
 have l2:=r2.length
 obtain ⟨⟨c1,d1,da1,sl1⟩,n,e,hc,hd,hda⟩:=pl
 obtain ⟨⟨c2,d2,da2,sl2⟩,n2,e2,hc2,hd2,hda2⟩:=pl2
 simp only at hc hd hda hc2 hd2 hda2
 subst hc hd hda hc2 hd2 hda2
 refine concat_meets ⟨_,e,rfl⟩ ⟨_,e2,rfl⟩ noFill_list_add seq_list_add PySem.F.slot_list_add PySem.F.entry_list_add (PySem.F.args_list_add_2 _ _) (list_addW l b its.toArray its2.toArray n n2 none none sl1 sl2 (by simp only [List.size_toArray];omega)) ⟨e,e2,?_⟩
 have ea:its.toArray ++ its2.toArray=(its ++ its2).toArray:=by simp
 rw [ea]
 exact ⟨.ref _,_,I.QX (t':=s.toks) (r.append r2) (by rw [List.length_append];omega),rfl,q _ I.fresh⟩
def Ki:nC:=fun x y J Q=>∃ xs ys,nt J x=some xs∧nt J y=some ys∧xs.length + ys.length≤sizeLine∧Q (.fl (xs ++ ys)) J
theorem Ih:nB X (binaryOp .Add) Ki:=⟨_,Ic,fun J H x y v w Q2 Q rx ry r ⟨xs,ys,ex,ey,hl,q⟩ k=>by
 obtain ⟨a,vs,rfl,h1,h2⟩:=nX rx r ex
 obtain ⟨b,ws,rfl,h3,h4⟩:=nX ry r ey
 refine ⟨a,b,vs,ws,rfl,rfl,h1,h3,by rw [← h2.length,← h4.length];exact hl,fun p hp=>?_⟩
 obtain ⟨x1,x2,x3⟩:=sf r (h2.append h4) hp
 exact k _ J _ _ x1 x2 x3 q⟩
end
def bZ (K:PySem.W.Frag) (C:Addr) (m qual:Str) (st:Stmt):Prop:=∃ f fd,Meth K C m f∧cA K m qual st f fd
structure eD (K:PySem.W.Frag) (mg:Str→Option Value) (x:Str) (C:Addr):Prop where
 cl:qA K C
 m:mg x=some (.ref C)
 mkz:PySem.W.makesIn K C=true
 kp:PySem.W.keepIn K (.ref C)=true
theorem bN {K:PySem.W.Frag} {C f:Addr} {m qual:Str} {st:Stmt} {od an:Option Addr} {sl:Array (Option Value)} {oc kV dc pm cd ct:Value} (a:PySem.W.findIn K (.ref C) m=some (some (.ref f))) (i:PySem.W.isFn K (.ref f)=true)
  (l:K.lookup f=some ⟨oc,od,.func (PySem.W.fnOf m qual (L2.dz st) (L2.bV st) (L2.aj st) .none kV dc pm an cd ct),sl⟩) (c:PySem.W.codeIn K cd qual=true) (k:PySem.W.keepIn K (.ref f)=true):bZ K C m qual st :=
 ⟨f,_,⟨a,i,k⟩,L2.zT l c k⟩
theorem vL {K:PySem.W.Frag} {h:Heap} {mg:Str→Option Value} {x:Str} {C:Addr} (X:K.In h) (G:h.Ns mainGlobals mg) (aC:PySem.W.nsIn K mainGlobals x=some (some (.ref C)))
  (pg:PySem.W.plainGet K C Str.empty=true) (hd:PySem.W.hasDictIn K C=true) (po:PySem.W.plainOver K C=true) (sa:PySem.W.findIn K (.ref C) "__setattr__"=some (some (.builtin "object.__setattr__"))) (mk:PySem.W.makesIn K C=true) (kc:PySem.W.keepIn K (.ref C)=true):eD K mg x C :=
 ⟨⟨pg,hd,po,sa⟩,PySem.W.mg_of X G aC,mk,kc⟩
section
variable {P:Program} {w:World} {K:PySem.W.Frag} {mg:Str→Option Value} {base:Heap}
theorem bZ.uL {C:Addr} {m qual:Str} {st:Stmt} {k:Nat} {ps:List Str} {sp:cJ} (D:bZ K C m qual st) (cl:qA K C) (h:∀ f fd,cA K m qual st f fd→aL P w K mg base (dh P w) k f fd ps (d4 K sp))
  (hb:∀ (kV doc pm:Value) (an:Option Addr) (cdv ct:Value) (us:List Value),us.length=ps.length→bindArgs (PySem.W.fnOf m qual (L2.dz st) (L2.bV st) (L2.aj st) .none kV doc pm an cdv ct) ⟨us,[]⟩=pure (ps.zip us)):cY P w K mg base C k m ps sp:=by
 obtain ⟨f,fd,hm,F⟩:=D
 exact ⟨cl,f,fd,hm,h f fd F,F.binds hb⟩
theorem bZ.Q1 {x:Str} {C:Addr} {qual:Str} {st:Stmt} {k:Nat} {ps:List Str} {sp:cJ} (D:bZ K C "__init__" qual st) (kd:eD K mg x C) (h:∀ f fd,cA K "__init__" qual st f fd→aL P w K mg base (dh P w) k f fd ps (d4 K sp))
  (hb:∀ (kV doc pm:Value) (an:Option Addr) (cdv ct:Value) (us:List Value),us.length=ps.length→bindArgs (PySem.W.fnOf "__init__" qual (L2.dz st) (L2.bV st) (L2.aj st) .none kV doc pm an cdv ct) ⟨us,[]⟩=pure (ps.zip us)):zC P w K mg base C k x ps sp:=by
 obtain ⟨f,fd,hm,F⟩:=D
 exact ⟨kd.m,f,fd,⟨kd.mkz,hm.at_,hm.fn,kd.kp⟩,h f fd F,F.binds hb⟩
end
theorem M_ {n:Nat} {F:List Value→Prop} (h:∀ a us,us.length=n→F (a :: us)) (us:List Value) (hu:us.length=n + 1):F us:=by
 cases us with
 | nil=>cases hu
 | cons a us=>exact h a us (Nat.succ.inj hu)
theorem SS {F:List Value→Prop} (h:F []) (us:List Value) (hu:us.length=0):F us:=by
 cases us with
 | nil=>exact h
 | cons a us=>cases hu
theorem A7 {F:List Value→Prop} (h:∀ a,F [a]):∀ us:List Value,us.length=1→F us:=M_ fun a=>SS (F:=fun us=>F (a :: us)) (h a)
theorem kF {F:List Value→Prop} (h:∀ a b,F [a,b]):∀ us:List Value,us.length=2→F us:=M_ fun a=>A7 (F:=fun us=>F (a :: us)) (h a)
theorem G_ {F:List Value→Prop} (h:∀ a b c,F [a,b,c]):∀ us:List Value,us.length=3→F us:=M_ fun a=>kF (F:=fun us=>F (a :: us)) (h a)
theorem M9 {F:List Value→Prop} (h:∀ a b c d,F [a,b,c,d]):∀ us:List Value,us.length=4→F us:=M_ fun a=>G_ (F:=fun us=>F (a :: us)) (h a)
theorem Sg {F:List Value→Prop} (h:∀ a b c d e,F [a,b,c,d,e]):∀ us:List Value,us.length=5→F us:=M_ fun a=>M9 (F:=fun us=>F (a :: us)) (h a)
theorem SU {F:List Value→Prop} (h:∀ a b c d e f,F [a,b,c,d,e,f]):∀ us:List Value,us.length=6→F us:=M_ fun a=>Sg (F:=fun us=>F (a :: us)) (h a)
end Ov
namespace Ov
open PySem PySem.Spec PyProof.Rows
open L2 (V HO Hp Inv Cx VK XK Rd di g7 Sp bF bU Passes aL cA aw dJ upd aE aK)
def fr (q:Rat):PV:=.tup [.int q.num,.int (q.den:Int)]
theorem Lj (a b:Rat):(fr a=fr b)=(a=b):=by
 apply propext
 constructor
 ·intro h
  unfold fr at h
  simp only [PV.tup.injEq,List.cons.injEq,PV.int.injEq,and_true] at h
  exact Rat.ext h.1 (by have:=h.2;omega)
 ·intro h;rw [h]
theorem Ez (a:Rat):fr a=.tup [.int a.num,.int (a.den:Int)]:=rfl
theorem Lq (J:Hq) (q:Rat):fY J (fr q) (.int 0)=some (.int q.num):=d5 _ _
theorem Lr (J:Hq) (q:Rat):fY J (fr q) (.int 1)=some (.int (q.den:Int)):=f7 _ _ _
theorem PJ (J:Hq) (q:Rat):Co J (fr q)=some "tuple":=rfl
theorem LB (J:Hq) (q:Rat):xW J (fr q)=some 2:=rfl
theorem AF (q:Rat):lV (fr q)=true:=by simp [fr,lV,gZ]
theorem rZ (q:Rat):EM (fr q)=false:=rfl
theorem Lf (q:Rat):dep (fZ (fr q))=1:=by simp [fr,fZ,fP,dep,dQ]
theorem NJ (q:Rat):GL (fr q)=True:=eq_true ⟨AF q,by rw [Lf];decide⟩
theorem K_ (i:Int):GL (.int i)=True:=eq_true ⟨by simp [lV],by simp [fZ,dep]⟩
theorem La (i:Str):GL (.str i)=True:=eq_true ⟨by simp [lV],by simp [fZ,dep]⟩
theorem NI (i:Bool):GL (.bl i)=True:=eq_true ⟨by simp [lV],by simp [fZ,dep]⟩
theorem K':GL .non=True:=eq_true ⟨by simp [lV],by simp [fZ,dep]⟩
theorem ID (i:Int):lV (.int i)=true:=by simp [lV]
theorem wq (i:Str):lV (.str i)=true:=by simp [lV]
theorem AE (i:Bool):lV (.bl i)=true:=by simp [lV]
theorem IE:lV .non=true:=by simp [lV]
theorem IF (xs:List PV):lV (.tup xs)=gZ xs:=by simp [lV]
theorem FK (xs:List PV):lV (.fl xs)=gZ xs:=by simp [lV]
theorem pO (x:PV) (xs:List PV):gZ (x :: xs)=(lV x && gZ xs):=by simp [gZ]
theorem yw:gZ []=true:=by simp [gZ]
theorem yv {α:Type} (g:α→PV) (h:∀ a,lV (g a)=true):∀ xs:List α,gZ (xs.map g)=true
 | []=>by simp [gZ]
 | x :: xs=>by simp [gZ,h,yv g h xs]
theorem eq_int (a b:Int):eqQ (.int a) (.int b)=decide (a=b):=by unfold eqQ fZ lP;rw [Bool.beq_eq_decide_eq]
theorem eq_str (a b:Str):eqQ (.str a) (.str b)=decide (a=b):=by
 unfold eqQ fZ lP
 cases h:a == b with
 | true=>simp at h;simp [h]
 | false=>simp at h;simp [h]
theorem NM (a b:Bool):eqQ (.bl a) (.bl b)=decide (a=b):=by unfold eqQ fZ lP;rw [Bool.beq_eq_decide_eq]
def zP (xs ys:List PV):Bool:=kO (fP xs) (fP ys)
theorem rM (xs ys:List PV):eqQ (.tup xs) (.tup ys)=zP xs ys:=by unfold eqQ fZ lP zP;rfl
theorem dm (x y:PV) (xs ys:List PV):zP (x :: xs) (y :: ys)=(eqQ x y && zP xs ys):=by unfold zP eqQ;simp [fP,kO]
theorem nK:zP [] []=true:=by unfold zP;simp [fP,kO]
theorem eq_self (x:PV):eqQ x x=true:=xN _
theorem Bk (a b:Rat):eqQ (fr a) (fr b)=decide (a=b):=by
 rw [Ez,Ez,rM,dm,dm,nK,eq_int,eq_int,Bool.and_true,← Bool.decide_and]
 exact decide_eq_decide.mpr (by rw [IP])
theorem S_ (a b c:PV):mU [a,b,c] (some 1) none=[b,c]:=rfl
theorem MU:ni "int" "int"=some true:=by simp [ni]
theorem Jv:ni "int" "bool"=some false:=by simp [ni]
theorem PL:ni "bool" "bool"=some true:=by simp [ni]
theorem MV:ni "str" "str"=some true:=by simp [ni]
theorem MW:ni "tuple" "tuple"=some true:=by simp [ni]
theorem Jw:ni "list" "list"=some true:=by simp [ni]
theorem dR {n:Nat} (h:n≤1000):n≤sizeLine:=Nat.le_of_lt (L2.bp h)
theorem JQ:(0≤sizeLine)=True:=eq_true (Nat.zero_le _)
theorem N5:(1≤sizeLine)=True:=eq_true (dR (by decide))
theorem N6:(2≤sizeLine)=True:=eq_true (dR (by decide))
theorem N7:(3≤sizeLine)=True:=eq_true (dR (by decide))
theorem N8:(4≤sizeLine)=True:=eq_true (dR (by decide))
section
variable (J:Hq) (xs:List PV) (a:Addr) (i:Int) (b:Bool) (z:Str) (T:String)
theorem QM:fY J (.tup xs) (.int i)=dJ xs i:=rfl
theorem QL:fY J (.fl xs) (.int i)=dJ xs i:=rfl
theorem NZ:fY J (.ref a) (.int i)=(match J a with | some (.lst xs)=>dJ xs i | _=>none):=rfl
theorem QY:nt J (.fl xs)=some xs:=rfl
theorem QZ:nt J (.ref a)=(match J a with | some (.lst xs)=>some xs | _=>none):=rfl
theorem N4:xW J (.tup xs)=some xs.length:=rfl
theorem N3:xW J (.fl xs)=some xs.length:=rfl
theorem JO:xW J (.ref a)=(match J a with | some (.lst xs)=>some xs | _=>none).map List.length:=rfl
theorem RM:Co J .non=some "NoneType":=rfl
theorem PH:Co J (.bl b)=some "bool":=rfl
theorem RL:Co J (.int i)=some "int":=rfl
theorem RN:Co J (.str z)=some "str":=rfl
theorem RP:Co J (.tup xs)=some "tuple":=rfl
theorem RK:Co J (.fl xs)=some "list":=rfl
theorem PK:Co J (.ref a)=(match J a with | some (.lst _)=>some "list" | some (.dct _ _)=>some "dict" | _=>none):=rfl
theorem PB:xk J .non=some false:=rfl
theorem KH:xk J (.bl b)=some b:=rfl
theorem Pz:xk J (.int i)=some (i != 0):=rfl
theorem PD:xk J (.tup xs)=some (!xs.isEmpty):=rfl
theorem Px:xk J (.fl xs)=some (!xs.isEmpty):=rfl
theorem PC:xk J (.ref a)=(match J a with | some (.lst xs)=>some (!xs.isEmpty) | some (.dct kvs _)=>some (!kvs.isEmpty) | _=>none):=rfl
theorem QJ:P1 J (.fl xs)=some ⟨xs,fun _=>True⟩:=rfl
theorem QK:P1 J (.ref a)=(match J a with | some (.lst xs)=>some ⟨xs,fun J'=>J' a=some (.lst xs)⟩ | _=>none):=rfl
theorem NU:EM .non=true:=rfl
theorem Qy:EM (.bl b)=false:=rfl
theorem QC:EM (.int i)=false:=rfl
theorem QF:EM (.str z)=false:=rfl
theorem QH:EM (.tup xs)=false:=rfl
theorem Qz:EM (.fl xs)=false:=rfl
theorem QD:EM (.ref a)=false:=rfl
theorem RD:Nk T J (.fl xs)=(T="list"):=rfl
theorem RH:Nk T J (.str z)=(T="str"):=rfl
theorem RF:Nk T J (.ref a)=((T="list"∧∃ xs,J a=some (.lst xs))∨(T="dict"∧∃ kvs ep,J a=some (.dct kvs ep))):=rfl
end
def Fo (it:zu) (g:y4) (tb:i7) (D:En) (τ:Sr) (J1:Hq):Prop:=∃ Pv:Nat→Sr→Hq→Prop,Pv 0 τ J1∧(∀ i τ J,Pv i τ J→it.ok J) ∧
 (∀ i x τ J,it.xs[i]?=some x→Pv i τ J→g x τ J fun τ2 J2=>tb { D with nx:=Pv (i + 1),ct:=Pv (i + 1),bk:=D.nx } τ2 J2)∧∀ τ J,Pv it.xs.length τ J→D.nx τ J
theorem II (wi:tQ) (g:y4) (tb:i7) (D:En) (τ:Sr) (J:Hq):OY wi g tb D τ J=wi τ J fun it J1=>Fo it g tb D τ J1:=rfl
theorem vF {lo:Int} {n:Nat} {g:y4} {tb:i7} {D:En} {τ:Sr} {J1:Hq} (Pv:Nat→Sr→Hq→Prop) (h0:Pv 0 τ J1)
  (hs:∀ (i:Nat) τ J,i < n→Pv i τ J→g (.int (lo + (i:Int))) τ J fun τ2 J2=>tb { D with nx:=Pv (i + 1),ct:=Pv (i + 1),bk:=D.nx } τ2 J2) (hd:∀ τ J,Pv n τ J→D.nx τ J):Fo ⟨rW lo n,fun _=>True⟩ g tb D τ J1 :=
 ⟨Pv,h0,fun _ _ _ _=>trivial,fun i x τ J e p=>by obtain ⟨a,b⟩:=(rX lo n i x).mp e;subst b;exact hs i τ J a p,fun τ J p=>hd τ J (by simpa [jg] using p)⟩
structure bW (mg:Str→Option Value):Prop extends DT mg where
 str:mg "str"=none
 dict:mg "dict"=none
 max:mg "max"=none
 zip:mg "zip"=none
 enumerate:mg "enumerate"=none
def o9 (J' J:Hq):Prop:=∀ a,J' a=J a∨J' a=none
def Fg (Q:PV→Hq→Prop) (v:PV) (J:Hq):Prop:=∃ x J',o9 J' J∧(x=v∨∃ a xs,v=.ref a∧x=.fl xs∧J a=some (.lst xs)∧J' a=none)∧Q x J'
theorem Fg.same {Q:PV→Hq→Prop} {v:PV} {J:Hq} (h:Q v J):Fg Q v J:=⟨v,J,fun _=>.inl rfl,.inl rfl,h⟩
theorem Fg.less {Q:PV→Hq→Prop} {v:PV} {J J':Hq} (l:o9 J' J) (h:Q v J'):Fg Q v J:=⟨v,J',l,.inl rfl,h⟩
theorem Fg.rQ {Q:PV→Hq→Prop} {a:Addr} {xs:List PV} {J J':Hq} (l:o9 J' J) (ha:J a=some (.lst xs)) (hn:J' a=none) (h:Q (.fl xs) J'):Fg Q (.ref a) J:=⟨.fl xs,J',l,.inr ⟨a,xs,rfl,rfl,ha,hn⟩,h⟩
section
variable {P:Program} {w:World} {K:PySem.W.Frag} {mg:Str→Option Value} {base:Heap}
theorem Fg.kn {J:Hq} {H:Hp} {Q2:PV→Hq→Prop} {Q:VK} (k:Kn K J H Q2 Q):Kn K J H (Fg Q2) Q:=fun z J1 u H1 rz r1 e1 ⟨x,J',l,hx,q⟩=>by
 have el:=Ext.less (K:=K) (H:=H1) l
 rcases hx with rfl | ⟨a,xs,rfl,rfl,ha,hn⟩
 ·exact k x J' u H1 (el.rep rz) (r1.less l) (e1.trans el) q
 ·cases rz
  obtain ⟨vs,h1,h2⟩:=r1 _ _ ha
  exact k (.fl xs) J' _ H1 ⟨a,vs,rfl,.inl ⟨hn,.inl h1⟩,el.jv h2⟩ (r1.less l) (e1.trans el) q
theorem S4 {x qual:Str} {st:Stmt} {f:Addr} {fd:FuncData} {N ps:List Str} {k:Nat} {sp:cJ} (F:cA K x qual st f fd) (S:aw N ps (L2.aj st)) (len:∀ xs J Q E,sp xs J Q E→xs.length=ps.length)
  (hbody:∀ (cdv:Value) (A:Around) (outer:List Env) (s:Shared) (H:Hp) (E:XK) (G:G2) (xs:List PV) (J:Hq) (Q:PV→Hq→Prop) (E2:Addr→Hq→Prop),bU k (A.deeper (envOfC qual (L2.aj st) s.heap.objs.size f cdv))→sp xs J Q E2 →
   Cy (y8 P w K mg base N qual (L2.aj st) f cdv A outer s H E) G E2 E →
   ∃ t,RB (y8 P w K mg base N qual (L2.aj st) f cdv A outer s H E) G (L2.bV st) t∧t { nx:=fun _ J'=>Fg Q .non J',rt:=Fg Q } (xg N xs) J):aL P w K mg base (dh P w) (k + 1) f fd ps (d4 K sp):=by
 have:=Q8 (sp:=fun xs J Q E=>∃ Q0,Q=Fg Q0∧sp xs J Q0 E) F S (fun xs J Q E ⟨Q0,_,h⟩=>len xs J Q0 E h) (fun cdv A outer s H E G xs J Q E2 hr ⟨Q0,eq,h⟩ B=>by subst eq;exact hbody cdv A outer s H E G xs J Q0 E2 hr h B)
 exact this.imp fun vs H Q E ⟨xs,J,Q2,E2,a,b,c,d,e⟩=>⟨xs,J,Fg Q2,E2,a,b,⟨Q2,rfl,c⟩,Fg.kn d,e⟩
end
section
variable {P:Program} {w:World} {K:PySem.W.Frag} {mg:Str→Option Value} {base:Heap}
theorem Q7 {x qual:Str} {st:Stmt} {f:Addr} {fd:FuncData} {N ps:List Str} {k:Nat} {sp:cJ} {t:(Addr→Hq→Prop)→i7} (F:cA K x qual st f fd) (S:aw N ps (L2.aj st)) (len:∀ xs J Q E,sp xs J Q E→xs.length=ps.length)
  (rd:∀ (cdv:Value) (A:Around) (outer:List Env) (s:Shared) (H:Hp) (E:XK) (G:G2) (E2:Addr→Hq→Prop),bU k (A.deeper (envOfC qual (L2.aj st) s.heap.objs.size f cdv)) →
   Cy (y8 P w K mg base N qual (L2.aj st) f cdv A outer s H E) G E2 E→RB (y8 P w K mg base N qual (L2.aj st) f cdv A outer s H E) G (L2.bV st) (t E2))
  (run:∀ (xs:List PV) (J:Hq) (Q:PV→Hq→Prop) (E2:Addr→Hq→Prop),sp xs J Q E2→∀ X:Prop,(t E2 { nx:=fun _ J'=>Fg Q .non J',rt:=Fg Q } (xg N xs) J→X)→X):aL P w K mg base (dh P w) (k + 1) f fd ps (d4 K sp) :=
 S4 F S len fun cdv A outer s H E G xs J Q E2 hr h B=>⟨_,rd cdv A outer s H E G E2 hr B,run xs J Q E2 h _ id⟩
end
theorem NK {X:Cx} {G:G2}:Cy X G (fun _ _=>False) L2.E0:=⟨fun _ _ _ _ _ _ _ ⟨_,_,_,_,_,z⟩=>z.elim,fun _ _ _ _ _ z=>z.elim⟩
theorem pQ {K:PySem.W.Frag} {J:Hq} {H:Hp}:∀ ns:List Int,aR K J H (ns.map PV.int) (ns.map V.int)
 | []=>rfl
 | n :: ns=>⟨_,_,rfl,rfl,pQ ns⟩
end Ov
namespace Ov
open PySem PySem.Spec PyProof.Rows L2
theorem Ny {α:Type} (a b c d e:α) (xs:List α):dJ (a :: b :: c :: d :: e :: xs) 4=some e:=bq (j:=4) rfl
theorem Nz {α:Type} (a b c d e f:α) (xs:List α):dJ (a :: b :: c :: d :: e :: f :: xs) 5=some f:=bq (j:=5) rfl
theorem NA {α:Type} (a b c d e f g:α) (xs:List α):dJ (a :: b :: c :: d :: e :: f :: g :: xs) 6=some g:=bq (j:=6) rfl
theorem NB {α:Type} (a b c d e f g h:α) (xs:List α):dJ (a :: b :: c :: d :: e :: f :: g :: h :: xs) 7=some h:=bq (j:=7) rfl
theorem NC {α:Type} (a b c d e f g h i:α) (xs:List α):dJ (a :: b :: c :: d :: e :: f :: g :: h :: i :: xs) 8=some i:=bq (j:=8) rfl
theorem ND {α:Type} (a b c d e f g h i j:α) (xs:List α):dJ (a :: b :: c :: d :: e :: f :: g :: h :: i :: j :: xs) 9=some j:=bq (j:=9) rfl
theorem K6 {α:Type} (a b c d e f g h i j k:α) (xs:List α):dJ (a :: b :: c :: d :: e :: f :: g :: h :: i :: j :: k :: xs) 10=some k:=bq (j:=10) rfl
theorem K7 {α:Type} (a b c d e f g h i j k l:α) (xs:List α):dJ (a :: b :: c :: d :: e :: f :: g :: h :: i :: j :: k :: l :: xs) 11=some l:=bq (j:=11) rfl
theorem N9:(5≤sizeLine)=True:=eq_true (dR (by decide))
theorem N_:(6≤sizeLine)=True:=eq_true (dR (by decide))
theorem N':(7≤sizeLine)=True:=eq_true (dR (by decide))
theorem Oa:(8≤sizeLine)=True:=eq_true (dR (by decide))
theorem Ob:(9≤sizeLine)=True:=eq_true (dR (by decide))
theorem LC:(10≤sizeLine)=True:=eq_true (dR (by decide))
theorem LD:(11≤sizeLine)=True:=eq_true (dR (by decide))
theorem LF:(12≤sizeLine)=True:=eq_true (dR (by decide))
theorem oQ {ss:List Int} (h:ss.all (fun s=>decide (0 < s) && decide (s < 2 ^ 63))=true):∀ s∈ss,0 < s∧Bd 9000 s:=fun s hs=>by
 have:=List.all_eq_true.mp h s hs
 rw [Bool.and_eq_true,decide_eq_true_eq,decide_eq_true_eq] at this
 exact ⟨this.1,(Bd.small (by omega) (by omega)).mono (by decide)⟩
theorem Sz.div {n:Nat} {t b:Int} (ht:Bd n t) (hb:Bd n b) (h:b≠0):Sz n (Rat.divInt t b):=⟨ht.le (BE t b),hb.le (vD h)⟩
end Ov
namespace Ov
open PySem PySem.Spec PyProof.Rows
open L2 (V HO Hp Inv Cx VK XK TE TT TA TS TG rF TI TO me Ends xA Loc Gl Rd RelV Vals fT y6 cD rA uu rD md R2 upd aE aK di g7 Sp tH It bF dP bU Passes qA aH Meth Mk Binds aL cA aw dJ gY fC)
section
variable {X:Cx} {G:G2}
abbrev CG:=PV→PV→PV→Hq→(Hq→Prop)→Prop
def Qj (X:Cx) (q:CG):Prop:=∃ r,md X r∧∀ J H o i y ov iv u R2 R,cE X.K J H o ov→cE X.K J H i iv→cE X.K J H y u→Rep X.K J H→q o i y J R2→(∀ J' H',Rep X.K J' H'→Ext X.K J H J' H'→R2 J'→R H')→r ov iv u H R
def Qv (to ti:dG) (t:CG):y4:=fun y τ J R=>to τ J fun o J1=>ti τ J1 fun i J2=>t o i y J2 fun J3=>R τ J3
theorem My {o i:Expr} {to ti:dG} {t:CG} {pos:Pos} (hs:Qj X t) (ho:RE X G o to) (hi:RE X G i ti)
  (ha:∀ v,assign (.Subscript o i pos) X.env v=(do
   let ov ← holding [v] (eval o X.env)
   let iv ← holding [v,ov] (eval i X.env)
   standAt pos
   holding [v,ov,iv] (setItem ov iv v)
   release [v,ov,iv] []):=by intro _;rfl):RG X G (.Subscript o i pos) (Qv to ti t):=by
 obtain ⟨r,hr,lf⟩:=hs
 exact ⟨Rg (L2.wc ho.run hi.run hr ha) fun v σ H Q ⟨y,τ,J,Q2,ry,a2,h,k⟩ =>
  ⟨τ,J,_,a2,h,fun x J1 ov H1 rx r1 e1 h1=>⟨τ,J1,_,a2.go r1 e1,h1,fun z J2 iv H2 rz r2 e2 h2 =>
   lf J2 H2 x z y ov iv v _ _ (e2.rep rx) rz (e2.rep (e1.rep ry)) r2 h2 fun J3 H3 r3 e3 q=>k τ J3 σ H3 ((((a2.sl.ext e1).ext e2).ext e3)) r3 ((e1.trans e2).trans e3) q⟩⟩⟩
def OR:CG:=fun o i y J R=>∃ p xs k j,o=.ref p∧i=.int k∧J p=some (.lst xs)∧L2.DV xs.length k=some j∧R (put J p (.lst (xs.set j y)))
theorem wF {o i e:Expr} {to ti te:dG} {t:CG} {pos pos':Pos} (hs:Qj X t) (ho:RE X G o to) (hi:RE X G i ti) (he:RE X G e te)
  (ha:∀ v,assign (.Subscript o i pos') X.env v=(do
   let ov ← holding [v] (eval o X.env)
   let iv ← holding [v,ov] (eval i X.env)
   standAt pos'
   holding [v,ov,iv] (setItem ov iv v)
   release [v,ov,iv] []):=by intro _;rfl)
  (hq:swapsWithSole [.Subscript o i pos'] e pos.line X.env=pure false:=by rfl) (hw:swappedStores [.Subscript o i pos'] e X.env=pure none:=by rfl)
  (h1:(assignEach [.Subscript o i pos'] X.env).map (·.2)=[assign (.Subscript o i pos') X.env]:=by rfl):RS X G (.Assign [.Subscript o i pos'] e pos) (ue te (Qv to ti t)):=wD he (My hs ho hi ha) hq hw h1
def R7 (X:Cx) (op:Operator) (q:nC):Prop:=∃ r,L2.Qh X op r∧LR X.K r q
def OU (i:Nat) (te:dG) (q:nC):i7:=fun D τ J=>Nd τ[i]? fun x=>te τ J fun y J1=>q x y J1 fun z J2=>D.nx (τ.set i (some z)) J2
theorem F2 {i:Nat} {x:Str} {e:Expr} {te:dG} {op:Operator} {q:nC} {pos pos':Pos} (hN:X.N.Nodup) (he:RE X G e te) (ho:R7 X op q) (hi:X.N[i]?=some x:=by rfl) (hx:Loc X.env.scope x:=by first | exact .inl rfl | exact .inr rfl) (hf:X.fn x=true∨X.env.scope.names.lookup x=some .local:=by first | exact .inl rfl | exact .inr rfl | assumption) :
  RS X G (.AugAssign (.Name x pos') op e pos) (OU i te q):=by
 obtain ⟨r,hr,lf⟩:=ho
 exact ⟨y9 (L2.Mj hN hi hx he.run hr hf) fun D σ H ⟨τ,J,D2,a2,hh,g⟩=>by
  obtain ⟨x,hx,h⟩:=Fp hh
  obtain ⟨v,h1,h2⟩:=a2.sl.get _ _ hx
  exact ⟨v,h1,τ,J,_,a2,h,fun y J1 u H1 ry r1 e1 q1=>lf J1 H1 x y v u _ _ (e1.rep h2) ry r1 q1 fun z J2 u2 H2 rz r2 e2 q2=>g.nx _ J2 _ H2 (((a2.sl.ext e1).ext e2).set i rz) r2 (e1.trans e2) q2⟩⟩
theorem EK:R7 X .Sub (FQ fun i j=>.int (i - j)):=⟨_,L2.Lp,fun J H x y v w Q2 Q rx ry r h k=>by
 obtain ⟨i,ex,h⟩:=iP h;obtain ⟨j,ey,q⟩:=iP h
 subst ex ey;cases rx;cases ry;exact ⟨i,j,rfl,rfl,k (.int _) J _ H rfl r .refl q⟩⟩
end
theorem Ho {x y:PV} {ok:Hq→Prop} {g:y4} {tb:i7} {D:En} {τ:Sr} {J1:Hq} (hok:∀ J,ok J) (P:Sr→Hq→Prop) (h0:g x τ J1 fun τ2 J2=>tb { D with nx:=P,ct:=P,bk:=D.nx } τ2 J2)
  (h1:∀ τ J,P τ J→g y τ J fun τ2 J2=>tb { D with nx:=D.nx,ct:=D.nx,bk:=D.nx } τ2 J2):Fo ⟨[x,y],ok⟩ g tb D τ J1:=by
 refine ⟨fun i=>match i with | 0=>fun τ' J'=>τ'=τ∧J'=J1 | 1=>P | _=>D.nx,⟨rfl,rfl⟩,fun _ _ _ _=>hok _,?_,fun τ J p=>p⟩
 rintro (_ | _ | i) z τ' J' e p
 ·cases e;obtain ⟨rfl,rfl⟩:=p;exact h0
 ·cases e;exact h1 _ _ p
 ·simp at e
theorem jO {xs:List PV} {ok:Hq→Prop} {g:y4} {tb:i7} {D:En} {τ:Sr} {J1:Hq} (Pv:Nat→Sr→Hq→Prop) (h0:Pv 0 τ J1) (hk:∀ i τ J,Pv i τ J→ok J)
  (hs:∀ (i:Nat) x τ J,xs[i]?=some x→Pv i τ J→g x τ J fun τ2 J2=>tb { D with nx:=Pv (i + 1),ct:=Pv (i + 1),bk:=D.nx } τ2 J2) (hd:∀ τ J,Pv xs.length τ J→D.nx τ J):Fo ⟨xs,ok⟩ g tb D τ J1:=⟨Pv,h0,hk,hs,hd⟩
theorem A9 {α:Type} (xs:List α) (x:α):dJ (xs ++ [x]) (-1)=some x:=by
 unfold L2.dJ L2.DV
 rw [if_neg (by decide),if_pos (by simp;omega)]
 have e:(-1 + ((xs ++ [x]).length:Int)).toNat=xs.length:=by simp only [List.length_append,List.length_cons,List.length_nil];omega
 rw [e]
 simp
theorem nY {J:Hq} {x:PV} {ys:List PV} (h:nt J x=some ys):x=.fl ys∨∃ a,x=.ref a∧J a=some (.lst ys):=by
 cases x with
 | fl xs=>cases h;exact .inl rfl
 | ref a =>
  right
  refine ⟨a,rfl,?_⟩
  unfold nt at h
  simp only at h
  split at h
  ·rename_i e;cases h;exact e
  ·cases h
 | _=>cases h
theorem Og {J:Hq} {x:PV} {ys:List PV} (h:nt J x=some ys):Co J x=some "list":=by
 rcases nY h with rfl | ⟨a,rfl,ha⟩
 ·rfl
 ·rw [PK,ha]
theorem E7 {J:Hq} {x:PV} {ys:List PV} (h:nt J x=some ys):xW J x=some ys.length:=by
 rcases nY h with rfl | ⟨a,rfl,ha⟩
 ·rfl
 ·rw [JO,ha];rfl
theorem JT {J:Hq} {x:PV} {ys:List PV} (h:nt J x=some ys) (i:Int):fY J x (.int i)=dJ ys i:=by
 rcases nY h with rfl | ⟨a,rfl,ha⟩
 ·rfl
 ·rw [NZ,ha]
def jN (j:Nat):List PV:=.bl true :: (List.range 10).map fun k=>.bl (decide (j=k))
theorem CN {K:PySem.W.Frag} {J:Hq} {H:Hp} (j:Nat):aR K J H (jN j) (vE j):=by
 unfold jN vE
 refine ⟨_,_,rfl,rfl,?_⟩
 generalize List.range 10=l
 induction l with
 | nil=>rfl
 | cons k l ih=>exact ⟨_,_,rfl,rfl,ih⟩
def Pd (c:Nat→Addr) (N n:Nat) (t:(Addr→Hq→Prop)→i7):i7:=fun D τ J =>
 t (fun a J'=>∃ j,j < 10∧a=c j∧D.nx ((List.replicate N none).set n (some (.fl (jN j)))) J') D τ J
section
variable {X:Cx} {G:G2}
theorem MD {body suite:List Stmt} {b₀:Stmt} {x m:Str} {i n:Nat} {W:Addr} {c:Nat→Addr} {t:(Addr→Hq→Prop)→i7} {ts:TS} {np hpos pos:Pos} (Er:Cz X.K X.mg W c) (hg:Gl X x) (hm:X.mg x=some (.ref W))
  (hN:X.N.Nodup) (hi:X.N[i]?=some m) (hin:i≠n) (hk:X.env.kindOf m=some .local) (hb:∀ pn xe E G' E2,Cy (Lc X pn xe) G' E2 E→RB (Lc X pn xe) G' body (t E2)) (hs:∀ pn ea,QB (M' X pn ea) (b₀ :: suite) ts)
  (hq:∀ (j:Nat),j < 10→∀ (σ:L2.St) (H:Hp) (ea:Addr) (D:Ends),σ[i]?=some (some (.ref ea))→H ea=some (.ext (ExcAt ea (c j)))→(∀ l,H l=none→D.nx (σ.set n (some (.ref l))) (upd H l (.lst (vE j))))→ts D σ H)
  (hst:X.stack=X.env :: X.outer:=by rfl) (hfr:X.env.frame=some X.env.locals:=by rfl) (hex:X.ex=[]:=by rfl) (hd:(x == ("__debug__":Str))=false:=by decide) :
  RS X G (.Try body [.ExceptHandler (some (.Name x np)) (some m) (b₀ :: suite) hpos] [] [] pos) (Pd c X.N.length n t):=by
 have hiN:i < X.N.length:=by
  rcases Nat.lt_or_ge i X.N.length with e | e
  ·exact e
  ·rw [List.getElem?_eq_none e] at hi;cases hi
 refine ⟨y9 (IA (tb:=fun E D σ H=>∃ (G':G2) (E2:Addr→Hq→Prop),JB X.K G'.1 G'.2 E2 E∧LS X.K G' (t E2) D σ H) hst hfr hex hg hm hN hi hk (fun pn xe E hp pins s σ H D I ⟨G',E2,kn,h⟩=>(hb pn xe E G' E2 ⟨hp,kn⟩).run pins s σ H D I h) (fun pn ea=>(hs pn ea).run) hd) ?_⟩
 intro D σ H ⟨τ,J,D2,a2,h,g⟩
 refine ⟨(J,H),_,?_,τ,J,D2,⟨a2.sl,a2.hp,.refl⟩,h,g⟩
 intro C J' H' r e ⟨j,hj,hC,q⟩
 subst hC
 refine ⟨c j,rfl,Er.wat j hj,fun ea he=>?_⟩
 refine hq j hj _ _ ea _ (by rw [List.getElem?_set_self (by simpa using hiN)]) aE fun l hl=>?_
 have s1:bF H' (upd H' ea (.ext (ExcAt ea (c j)))):=bF.new he _
 have r1:=r.same s1
 obtain ⟨x1,x2,x3⟩:=sf (xs:=jN j) r1 (CN j) hl
 refine g.nx _ J' _ _ ?_ x2 ((e.trans (.same s1)).trans x3) q
 refine ⟨by simp,fun k y hy=>?_⟩
 have hkn:k=n:=by
  rcases Nat.lt_or_ge k X.N.length with hlt | hge
  ·by_cases e:n=k
   ·exact e.symm
   ·rw [List.getElem?_set_ne e,List.getElem?_replicate_of_lt hlt] at hy;cases hy
  ·rw [List.getElem?_eq_none (by simpa using hge)] at hy;cases hy
 subst hkn
 have hkN:k < X.N.length:=by
  rcases Nat.lt_or_ge k X.N.length with e | e
  ·exact e
  ·rw [List.getElem?_eq_none (by simpa using e)] at hy;cases hy
 rw [List.getElem?_set_self (by simpa using hkN)] at hy
 cases hy
 exact ⟨.ref l,by rw [List.getElem?_set_ne hin,List.getElem?_set_self (by simpa using hkN)],x1⟩
end
theorem AL {a b:i7} {D:En} {τ:Sr} {J:Hq} (h:∀ N:Sr→Hq→Prop,(∀ τ' J',b D τ' J'→N τ' J')→a { D with nx:=N } τ J):bI a b D τ J:=h _ fun _ _ z=>z
def Nj (J:Hq):PV→Option (List PV)
 | .tup xs=>some xs
 | .fl xs=>some xs
 | .ref a=>match J a with
  | some (.lst xs)=>some xs
  | _=>none
 | _=>none
theorem Gn {K:PySem.W.Frag} {J:Hq} {H:Hp} {y:PV} {u:V} {xs:List PV} (h:Nj J y=some xs) (r:cE K J H y u) (rr:Rep K J H):∃ p vs,u=.ref p∧(di K H p vs∨g7 K H p vs)∧aR K J H xs vs:=by
 cases y with
 | tup ys=>cases h;obtain ⟨a,vs,rfl,h1,h2⟩:=r;exact ⟨a,vs,rfl,.inr h1,h2⟩
 | fl ys=>cases h;obtain ⟨a,vs,rfl,h1,h2⟩:=r;exact ⟨a,vs,rfl,.inl h1.sq,h2⟩
 | ref a =>
  cases r
  unfold Nj at h
  simp only at h
  split at h
  ·rename_i e;cases h
   obtain ⟨vs,h1,h2⟩:=rr _ _ e
   exact ⟨a,vs,rfl,.inl (di.of h1),h2⟩
  ·cases h
 | _=>cases h
theorem j3 {K:PySem.W.Frag} {J:Hq} {H:Hp}:∀ {ns:List Str} {vs:List V},aR K J H (ns.map PV.str) vs→vs=ns.map V.str
 | [],_,h=>h
 | n :: ns,_,⟨v,us,e,h,k⟩=>by subst e;cases h;rw [j3 k];rfl
theorem oC {K:PySem.W.Frag} {J:Hq} {H:Hp}:∀ {ns:List Int} {vs:List V},aR K J H (ns.map PV.int) vs→vs=ns.map V.int
 | [],_,h=>h
 | n :: ns,_,⟨v,us,e,h,k⟩=>by subst e;cases h;rw [oC k];rfl
theorem A_ {α:Type} [BEq α] [LawfulBEq α] [DecidableEq α] (x y:α):(x == y)=decide (x=y):=by by_cases h:x=y <;> simp [h]
theorem HA (s:Str) (ss:List Str):L2.Nb (.str s) (ss.map V.str)=decide (s∈ss):=by
 unfold L2.Nb
 induction ss with
 | nil=>rfl
 | cons x ss ih =>
  rw [List.map_cons,List.any_cons,ih,show L2.GN (.str x) (.str s)=(x == s) from rfl,A_]
  by_cases h:x=s
  ·subst h;simp
  ·simp [h,show ¬ s=x from fun e=>h e.symm]
theorem Hz (s:Int) (ss:List Int):L2.Nb (.int s) (ss.map V.int)=decide (s∈ss):=by
 unfold L2.Nb
 induction ss with
 | nil=>rfl
 | cons x ss ih =>
  rw [List.map_cons,List.any_cons,ih,show L2.GN (.int x) (.int s)=(x == s) from rfl,A_]
  by_cases h:x=s
  ·subst h;simp
  ·simp [h,show ¬ s=x from fun e=>h e.symm]
section
variable {X:Cx} {G:G2}
def OL (f:Bool→Bool):nC:=fun x y J Q=>∃ (s:Str) (ss:List Str),x=.str s∧Nj J y=some (ss.map .str)∧Q (.bl (f (decide (s∈ss)))) J
def Ri (f:Bool→Bool):nC:=fun x y J Q=>∃ (s:Int) (ss:List Int),x=.int s∧Nj J y=some (ss.map .int)∧Q (.bl (f (decide (s∈ss)))) J
theorem CP (ss:List Str):(ss.map V.str).all L2.kj=true:=by simp [L2.kj]
theorem CO (ss:List Int):(ss.map V.int).all L2.kj=true:=by simp [L2.kj]
theorem BH:nB X (compareOp .NotIn) (OL not):=⟨_,L2.wa,fun J H x y v w Q2 Q rx ry r ⟨s,ss,ex,hy,q⟩ k=>by
 subst ex;cases rx
 obtain ⟨p,vs,rfl,hq,h2⟩:=Gn hy ry r
 cases j3 h2
 exact ⟨p,_,rfl,hq,rfl,CP ss,k (.bl _) J _ H (by rw [if_pos rfl,HA];rfl) r .refl q⟩⟩
theorem Fv:nB X (compareOp .In) (Ri id):=⟨_,L2.Dv,fun J H x y v w Q2 Q rx ry r ⟨s,ss,ex,hy,q⟩ k=>by
 subst ex;cases rx
 obtain ⟨p,vs,rfl,hq,h2⟩:=Gn hy ry r
 cases oC h2
 exact ⟨p,_,rfl,hq,rfl,CO ss,k (.bl _) J _ H (by rw [if_neg (by decide),Hz];rfl) r .refl q⟩⟩
end
end Ov
namespace L2
open PySem PySem.Spec PyProof.Rows
section
variable {X:Cx} {tg:Expr}
end
end L2
namespace Ov
open PySem PySem.Spec PyProof.Rows
open L2 (V HO Hp Inv Cx VK XK TE TT TA TS TG rF TI TO me Ends xA Loc Gl Rd RelV Vals fT y6 cD rA uu rD md R2 upd aE aK di g7 Sp tH It bF dP bU Passes qA aH Meth Mk Binds aL cA aw dJ gY fC)
section
variable {X:Cx} {G:G2} {tg:Expr}
theorem pD {K:PySem.W.Frag} {J:Hq} {H:Hp} {y:PV} {u:V} {xs:List PV} (h:nt J y=some xs) (r:cE K J H y u) (rr:Rep K J H):∃ p vs,u=.ref p∧di K H p vs∧aR K J H xs vs:=by
 rcases nY h with rfl | ⟨a,rfl,ha⟩
 ·obtain ⟨a,vs,rfl,h1,h2⟩:=r;exact ⟨a,vs,rfl,h1.sq,h2⟩
 ·cases r
  obtain ⟨vs,h1,h2⟩:=rr _ _ ha
  exact ⟨a,vs,rfl,di.of h1,h2⟩
end
end Ov
namespace L2
open PySem PySem.Spec PyProof.Rows
section
variable {X:Cx} {pins:List (Addr × Obj)} {σ:St} {H:Hp} {s:Shared} {h':Heap}
theorem Inv.q_ {t':Nat} {ch:List Addr} (I:Inv X pins σ H s) (k:∀ b o,b ∉ ch→s.heap.get? b=some o→h'.get? b=some o) (hf:∀ b∈ch,jy X pins H b):Inv X pins σ H { s with heap:=h',toks:=t' }:=by
 have nit:∀ b u,H b=some u→b ∉ ch:=fun b u e z=>by rw [(hf b z).1] at e;cases e
 refine I.step (g':=s.gens) (d':=s.drawn) (ch:=ch) (fun b hb=>?_) (fun b o _ _ hc e _=>k b o hc e) (fun b o _ _ hc e _=>⟨o.slots,k b o hc e⟩) (fun _ _ _ _ n=>n)
  (fun b o hc e=>⟨o,k b o hc e⟩) (fun _ _ e=>e) (fun _ _ _ e=>e) (fun b ps e=>⟨#[],by rw [e];simp⟩) (fun m hm=>?_) (fun b u e=>?_) I.bare
 ·obtain ⟨f0,f1,f2,f3,f4,f5⟩:=hf b hb
  exact ⟨f3,f1,f4,f5⟩
 ·obtain ⟨o,es,ep,ho,r⟩:=hm
  exact ⟨o,es,ep,k _ o (fun z=>(hf _ z).2.1 rfl) ho,r⟩
 ·refine (I.hok b u e).pZ (fun c v hc q=>k c v ?_ q) (fun _ q=>q) fun _ _ q=>q
  rcases hc with z | z
  ·rw [z];exact nit b u e
  ·exact nit c _ z
end
def R' (K:PySem.W.Frag) (a b:Addr):It :=
 ⟨fun i H=>∃ xs ys x y,di K H a xs∧di K H b ys∧xs[i]?=some x∧ys[i]?=some y,
  fun i H z H'=>∃ T x y,H T=none∧z=.ref T∧H'=upd H T (.tup [x,y])∧(∀ xs,di K H a xs→xs[i]?=some x)∧∀ ys,di K H b ys→ys[i]?=some y,
  fun i H=>∃ xs ys,di K H a xs∧di K H b ys∧(xs.length≤i∨ys.length≤i)⟩
theorem GC {P:Program} {w:World} {K:PySem.W.Frag} {elts:List Expr} {x1} {pos:Pos} {z TI TO i1 i2 l1 l2:Addr} (D:ZipApart z TI TO i1 i2 l1 l2) :
  Turn P w K (.Tuple elts x1 pos) (R' K l1 l2) [z,TI,TO,i1,i2] z (fun i h=>IsZip h z TI TO .none∧IsPair h TI (.ref i1) (.ref i2)∧(∃ a b,IsPair h TO a b)∧h.IsListIter i1 l1 i∧h.IsListIter i2 l2 i) where
 mem:=by simp
 obj:=fun i h ⟨hz,hTI,⟨a,b,hTO⟩,h1,h2⟩ c hc=>by
  simp only [List.mem_cons,List.not_mem_nil,or_false] at hc
  rcases hc with rfl | rfl | rfl | rfl | rfl
  ·exact ⟨_,hz,fun v z=>by cases z⟩
  ·exact ⟨_,hTI,fun v z=>by cases z⟩
  ·exact ⟨_,hTO,fun v z=>by cases z⟩
  ·obtain ⟨o,e,c,d⟩:=h1;exact ⟨o,e,fun v z=>by rw [d] at z;cases z⟩
  ·obtain ⟨o,e,c,d⟩:=h2;exact ⟨o,e,fun v z=>by rw [d] at z;cases z⟩
 keep:=fun i h h' ⟨hz,hTI,⟨a,b,hTO⟩,h1,h2⟩ k=>⟨k z (by simp) _ hz,k TI (by simp) _ hTI,⟨a,b,k TO (by simp) _ hTO⟩,h1.at fun o e=>k i1 (by simp) o e,h2.at fun o e=>k i2 (by simp) o e⟩
 item:=by
  intro X hP hw hK hc i pins s σ H E I hf st hg
  subst hP hw hK
  obtain ⟨hz,hTI,⟨a,b,hTO⟩,h1,h2⟩:=st
  obtain ⟨xs,ys,x,y,hqx,hqy,hx,hy⟩:=hg
  obtain ⟨its,rv,p,hzx⟩:=I.list hqx
  obtain ⟨jts,ru,p',hzy⟩:=I.list hqy
  obtain ⟨u,hu,rx⟩:=rv.get hx
  obtain ⟨v,hv,ry⟩:=ru.get hy
  refine wpAny_pyNext_zip_item D hz hTI hTO h1 h2 p.isList p'.isList (x:=u) (y:=v) (by simpa using hu) (by simpa using hv) fun h' a1 a2 a3 a4 a5 a6 hk=>?_
  refine ⟨_,rfl,wpAny_letOwnedTupleGo_zip a1 fun h'' hz' hs'=>?_⟩
  have hT:H s.heap.objs.size=none:=I.hok.fresh (Nat.le_refl _)
  have lt:∀ {c o},s.heap.get? c=some o→c≠s.heap.objs.size:=fun e=>Nat.ne_of_lt (Heap.lt_size e)
  have nz:s.heap.objs.size≠z:=Ne.symm (lt hz)
  have I0:Inv X pins σ (upd H s.heap.objs.size (.tup [x,y])) { s with heap:=s.heap.push { cls:=.type "tuple",data:=.seq #[u,v] },toks:=s.toks }:=I.laid (t':=s.toks) (fun b u e=>Heap.get?_push_of_some _ e) (Nat.le_refl _) ⟨by simp [sizeLine],[u,v],.cons rx (.cons ry .nil),⟨_,Heap.get?_push_size _ rfl,rfl,_,rfl⟩⟩
  have fpn:∀ b∈[z,TI,TO,i1,i2],b≠s.heap.objs.size:=fun b hb=>by
   simp only [List.mem_cons,List.not_mem_nil,or_false] at hb
   rcases hb with rfl | rfl | rfl | rfl | rfl
   ·exact lt hz
   ·exact lt hTI
   ·exact lt hTO
   ·obtain ⟨o,e,_⟩:=h1;exact lt e
   ·obtain ⟨o,e,_⟩:=h2;exact lt e
  have fpu:∀ b∈[z,TI,TO,i1,i2],jy X pins (upd H s.heap.objs.size (.tup [x,y])) b:=fun b hb=>⟨by rw [aK (fpn b hb)];exact (hf b hb).1,(hf b hb).2⟩
  have I1:Inv X pins σ (upd H s.heap.objs.size (.tup [x,y])) { s with heap:=h'' }:=Inv.q_ (s:={ s with heap:=s.heap.push { cls:=.type "tuple",data:=.seq #[u,v] },toks:=s.toks }) (t':=s.toks) (ch:=[z,TI,TO,i1,i2]) I0 (fun b o hb e=>by
   simp only [List.mem_cons,List.not_mem_nil,or_false,not_or] at hb
   rcases Heap.get?_push_cases e with ⟨rfl,rfl⟩ | e'
   ·exact hs'.extBut _ _ hb.1 a5
   ·exact hs'.extBut _ _ hb.1 (hk b o hb.1 hb.2.2.1 hb.2.2.2.1 hb.2.2.2.2 e')) fpu
  refine ⟨.ref s.heap.objs.size,_,I1,rfl,⟨_,x,y,hT,rfl,rfl,fun zs hq=>by rw [I.kT hq hqx];exact hx,fun zs hq=>by rw [I.kT hq hqy];exact hy⟩,⟨hz',hs'.extBut _ _ D.TIz (hk _ _ D.TIz D.TITO D.TIi1 D.TIi2 hTI),⟨_,_,hs'.extBut _ _ D.TOz a2⟩,a3.extBut hs'.extBut D.i1z,a4.extBut hs'.extBut D.i2z⟩,fun b hb=>(fpu b hb).1⟩
 done:=by
  intro X hP hw hK hc i pins s σ H E I hf st hg
  subst hP hw hK
  obtain ⟨hz,hTI,⟨a,b,hTO⟩,h1,h2⟩:=st
  obtain ⟨xs,ys,hqx,hqy,hl⟩:=hg
  obtain ⟨its,rv,p,hzx⟩:=I.list hqx
  obtain ⟨jts,ru,p',hzy⟩:=I.list hqy
  have e1:=rv.length
  have e2:=ru.length
  refine wpAny_pyNext_zip_end (I.ok.hd hc) D hz hTI hTO h1 h2 p.isList p'.isList ?_ fun h' hk=>⟨rfl,I.q_ (t':=s.toks) (ch:=[z,TI,TO,i1,i2]) (fun b o hb e=>?_) hf⟩
  ·rcases hl with hl | hl
   ·exact .inl (by simp;omega)
   ·exact .inr (by simp;omega)
  ·simp only [List.mem_cons,List.not_mem_nil,or_false,not_or] at hb
   exact hk b o hb.1 hb.2.2.1 hb.2.2.2.1 hb.2.2.2.2 e
 self:=fun _ _ _ _ _ st h=>wpAny_pyIter_zip st.1 h
def Qw (K:PySem.W.Frag) (ta:TA):TI:=fun σ H R=>ta σ H fun vs H1=>∃ a b xs ys,vs=[.ref a,.ref b]∧di K H1 a xs∧di K H1 b ys∧R (R' K a b) H1
section
variable {X:Cx}
theorem Mi {l m:Expr} {elts:List Expr} {x1} {tp:Pos} {ta:TA} {p pos:Pos} (hg:Gl X "zip") (hm:X.mg "zip"=none) (ha:PA X [l,m] ta) (hs:starEach [l,m] X.env=(false,eval l X.env) :: starEach [m] X.env:=by rfl) (hp:(backTo pos (starEach [m] X.env)).any (·.1)=false:=by rfl):PI X (.Tuple elts x1 tp) (.Call (.Name "zip" p) [l,m] [] pos) (Qw X.K ta):=by
 intro pins s σ H R I h
 refine Call_ (mZ I hg hm PyProof.Rows.Boot.«zip» (PyProof.Rows.callWith_type1 (cg (ha pos pins s σ H _ I h) fun us s1 ⟨vs,H1,I1,r1,q1⟩=>?_) hs hp))
 obtain ⟨a,b,xs,ys,e,hqa,hqb,q⟩:=q1
 subst e
 cases r1 with
 | cons r rr =>
  cases rr with
  | cons r' rr' =>
   cases rr'
   cases r
   cases r'
   obtain ⟨its,rv,pl,hz⟩:=I1.list hqa
   obtain ⟨jts,ru,pl',hz'⟩:=I1.list hqb
   refine call_zip_2 pl.isList pl'.isList fun h' b1 b2 b3 b4 b5 b6 hk=>?_
   refine wpAny_pyIter_zip b1 ?_
   have la:a < s1.heap.objs.size:=by obtain ⟨o,e,_⟩:=pl.isList;exact Heap.lt_size e
   have lb:b < s1.heap.objs.size:=by obtain ⟨o,e,_⟩:=pl'.isList;exact Heap.lt_size e
   have D:ZipApart (s1.heap.objs.size + 4) (s1.heap.objs.size + 2) (s1.heap.objs.size + 3) s1.heap.objs.size (s1.heap.objs.size + 1) a b:=by
    have la':@LT.lt Nat _ a s1.heap.objs.size:=la
    have lb':@LT.lt Nat _ b s1.heap.objs.size:=lb
    constructor <;> (show @Ne Nat _ _;omega)
   refine ⟨_,_,_,_,H1,rfl,I1.kept (t':=s1.toks) hk,GC D,⟨b1,b2,⟨_,_,b3⟩,b4,b5⟩,fun c hc=>?_,q⟩
   have hc':s1.heap.objs.size≤c:=by
    simp only [List.mem_cons,List.not_mem_nil,or_false] at hc
    show @LE.le Nat _ _ _
    rcases hc with rfl | rfl | rfl | rfl | rfl
    ·exact Nat.le_add_right _ _
    ·exact Nat.le_add_right _ _
    ·exact Nat.le_add_right _ _
    ·exact Nat.le_refl _
    ·exact Nat.le_add_right _ _
   exact I1.CT hc' (I1.hok.fresh hc')
end
end L2
namespace Ov
open PySem PySem.Spec PyProof.Rows
open L2 (V HO Hp Inv Cx VK XK TE TT TA TS TG rF TI TO me Ends xA Loc Gl Rd RelV Vals fT y6 cD rA uu rD md R2 upd aE aK di g7 Sp tH It bF dP bU Passes qA aH Meth Mk Binds aL cA aw dJ gY fC)
section
variable {X:Cx} {G:G2}
def Ss (ta:p7):tQ:=fun τ J R=>ta τ J fun vs J1=>L8 vs fun x y=>v_ (nt J1 x) fun xs=>v_ (nt J1 y) fun ys=>R ⟨(xs.zip ys).map fun p=>.tup [p.1,p.2],fun J'=>nt J' x=some xs∧nt J' y=some ys⟩ J1
theorem MA {l m:Expr} {elts:List Expr} {x1} {tp:Pos} {ta:p7} {p pos:Pos} (hg:Gl X "zip") (hm:X.mg "zip"=none) (ha:RA X G [l,m] ta) (hs:starEach [l,m] X.env=(false,eval l X.env) :: starEach [m] X.env:=by rfl) (hp:(backTo pos (starEach [m] X.env)).any (·.1)=false:=by rfl) :
  RI X G (.Tuple elts x1 tp) (.Call (.Name "zip" p) [l,m] [] pos) (Ss ta):=⟨Ng (L2.Mi hg hm ha.run hs hp) fun σ H R ⟨τ,J,R2,a2,h,k⟩=>⟨τ,J,_,a2,h,fun vs J1 us H1 rs r1 e1 hh=>by
 obtain ⟨x,y,ev,hh⟩:=Am hh;obtain ⟨xs,hx,hh⟩:=e_ hh;obtain ⟨ys,hy,q⟩:=e_ hh
 subst ev
 obtain ⟨v,us',rfl,rv,v',us'',rfl,rv',e'⟩:=rs
 cases e'
 obtain ⟨a,ws,rfl,h1,h2⟩:=pD hx rv r1
 obtain ⟨b,ws',rfl,h1',h2'⟩:=pD hy rv' r1
 refine ⟨a,b,ws,ws',rfl,h1,h1',k _ J1 _ H1 ?_ r1 e1 q⟩
 have at_:∀ J' H',Ext X.K J1 H1 J' H'→Rep X.K J' H'→nt J' x=some xs∧nt J' y=some ys→∃ vs us,di X.K H' a vs∧aR X.K J' H' xs vs∧di X.K H' b us∧aR X.K J' H' ys us:=fun J' H' e r o=>by
  obtain ⟨c,vs,eb,g1,g2⟩:=pD o.1 (e.rep rv) r
  cases eb
  obtain ⟨c',us,eb,g1',g2'⟩:=pD o.2 (e.rep rv') r
  cases eb
  exact ⟨vs,us,g1,g2,g1',g2'⟩
 exact {
  go:=fun J' H' e r o i hi=>by
   obtain ⟨vs,us,s,rs,s',rs'⟩:=at_ J' H' e r o
   rw [List.length_map,List.length_zip] at hi
   have i1:i < vs.length:=by rw [← rs.length];omega
   have i2:i < us.length:=by rw [← rs'.length];omega
   exact ⟨vs,us,vs[i],us[i],s,s',List.getElem?_eq_getElem i1,List.getElem?_eq_getElem i2⟩
  yl:=fun J' H' e r o i hi v H2 y=>by
   obtain ⟨vs,us,s,rs,s',rs'⟩:=at_ J' H' e r o
   obtain ⟨T,z,z',hT,rfl,rfl,y1,y2⟩:=y
   obtain ⟨c,ec,rc⟩:=rs.get' (y1 vs s)
   obtain ⟨c',ec',rc'⟩:=rs'.get' (y2 us s')
   have sm:=bF.new hT (.tup [z,z'])
   have e2:=Ext.same (K:=X.K) (J:=J') sm
   refine ⟨.tup [c,c'],?_,⟨T,[z,z'],rfl,.inl (.inl aE),e2.jv ⟨z,_,rfl,rc,z',_,rfl,rc',rfl⟩⟩,r.same sm,e2⟩
   rw [List.getElem?_map,(List.getElem?_zip_eq_some (z:=(c,c'))).mpr ⟨ec,ec'⟩];rfl
  stop:=fun J' H' e r o=>by
   obtain ⟨vs,us,s,rs,s',rs'⟩:=at_ J' H' e r o
   refine ⟨vs,us,s,s',?_⟩
   rw [List.length_map,List.length_zip,← rs.length,← rs'.length]
   omega }⟩⟩
end
end Ov
namespace L2
open PySem PySem.Spec PyProof.Rows
section
variable {α β:Type}
def nk (kvs:List (Str × α)) (k:Str):Option α:=(kvs.find? fun kv=>decide (kv.1=k)).map (·.2)
def wo (kvs:List (Str × α)) (k:Str) (v:α):List (Str × α):=if kvs.any (fun kv=>decide (kv.1=k)) then kvs.map (fun kv=>if kv.1=k then (kv.1,v) else kv) else kvs ++ [(k,v)]
def Es (kvs:List (Str × α)) (k:Str):List (Str × α):=kvs.filter fun kv=>decide (kv.1≠k)
theorem oZ (p:Str × α) (r:List (Str × α)) (k:Str):nk (p :: r) k=if p.1=k then some p.2 else nk r k:=by
 unfold nk
 rw [List.find?_cons]
 by_cases h:p.1=k <;> simp [h]
theorem BL (kvs:List (Str × α)) (k:Str) (v:α):(wo kvs k v).length≤kvs.length + 1:=by
 unfold wo;split <;> simp
theorem Hh (kvs:List (Str × α)) (k:Str):(Es kvs k).length≤kvs.length:=List.length_filter_le _ _
abbrev qB (R:α→β→Prop):List (Str × α)→List (Str × β)→Prop:=Paired fun p q=>p.1=q.1∧R p.2 q.2
variable {R:α→β→Prop}
theorem qB.va {kvs:List (Str × α)} {vs:List (Str × β)} (h:qB R kvs vs) (k:Str):(∀ x,nk kvs k=some x→∃ y,nk vs k=some y∧R x y)∧(nk kvs k).isSome=(nk vs k).isSome:=by
 induction h with
 | nil=>exact ⟨fun x e=>by simp [nk] at e,rfl⟩
 | @cons p q kvs vs r _ ih =>
  rw [oZ,oZ,← r.1]
  by_cases e:p.1=k
  ·rw [if_pos e,if_pos e];exact ⟨fun x z=>by cases z;exact ⟨_,rfl,r.2⟩,rfl⟩
  ·rw [if_neg e,if_neg e];exact ih
theorem qB.any {kvs:List (Str × α)} {vs:List (Str × β)} (h:qB R kvs vs) (k:Str):(kvs.any fun kv=>decide (kv.1=k))=vs.any fun kv=>decide (kv.1=k):=by
 induction h with
 | nil=>rfl
 | cons r _ ih=>rw [List.any_cons,List.any_cons,ih,r.1]
theorem qB.snoc {kvs:List (Str × α)} {vs:List (Str × β)} (h:qB R kvs vs) {k:Str} {x:α} {y:β} (r:R x y):qB R (kvs ++ [(k,x)]) (vs ++ [(k,y)]):=by
 induction h with
 | nil=>exact .cons ⟨rfl,r⟩ .nil
 | cons q _ ih=>exact .cons q ih
theorem qB.pu {kvs:List (Str × α)} {vs:List (Str × β)} (h:qB R kvs vs) {k:Str} {x:α} {y:β} (r:R x y):qB R (wo kvs k x) (wo vs k y):=by
 unfold wo
 rw [h.any k]
 split
 ·rename_i hany;clear hany
  induction h with
  | nil=>exact .nil
  | @cons p q kvs vs z _ ih =>
   rw [List.map_cons,List.map_cons]
   refine .cons ?_ ih
   by_cases e:p.1=k
   ·rw [if_pos e,if_pos (z.1 ▸ e)];exact ⟨z.1,r⟩
   ·rw [if_neg e,if_neg (z.1 ▸ e)];exact z
 ·exact h.snoc r
theorem qB.dr {kvs:List (Str × α)} {vs:List (Str × β)} (h:qB R kvs vs) (k:Str):qB R (Es kvs k) (Es vs k):=by
 unfold Es
 induction h with
 | nil=>exact .nil
 | @cons p q kvs vs z _ ih =>
  rw [List.filter_cons,List.filter_cons,z.1]
  split
  ·exact .cons z ih
  ·exact ih
theorem qB.len {kvs:List (Str × α)} {vs:List (Str × β)} (h:qB R kvs vs):kvs.length=vs.length:=Paired.length h
theorem qB.keys {kvs:List (Str × α)} {vs:List (Str × β)} (h:qB R kvs vs):kvs.map (·.1)=vs.map (·.1):=by
 induction h with
 | nil=>rfl
 | cons r _ ih=>rw [List.map_cons,List.map_cons,ih,r.1]
end
theorem DP (vs:List (Str × Value)) (k:Str):valueAt vs k=nk vs k:=rfl
theorem str_is {P:Program} {w:World} {k:Str} {u:Value} (r:RelV (.str k) u):(PySem.strKind P w).is k u=true:=by
 obtain ⟨t,rfl⟩:=r
 simp [PySem.strKind,Value.isStrOf]
theorem EO {P:Program} {w:World} {k:Str} {u:Value} (h:(PySem.strKind P w).is k u=true):RelV (.str k) u:=Value.isStrOf_shape h
section
variable {X:Cx} {pins:List (Addr × Obj)} {σ:St} {H:Hp} {s:Shared} {a:Addr} {A:Around} {E:Value→Shared→Prop} {kvs:List (Str × V)} {ep:Nat}
theorem nJ (I:Inv X pins σ H s) (e:H a=some (.dE kvs ep)):kvs.length≤sizeLine∧(a == sysModules)=false∧∃ vs,qB RelV kvs vs∧s.heap.DictAt (PySem.strKind X.prog X.w) a vs ep:=I.hok a _ e
theorem rK {h':Heap} {t':Nat} {kvs':List (Str × V)} {vs':List (Str × Value)} (I:Inv X pins σ H s) (e:H a=some (.dE kvs ep)) (hs:Heap.SameBut a s.heap h') (hz:kvs'.length≤sizeLine) (hd:(a == sysModules)=false) (rel:qB RelV kvs' vs') (dd:h'.DictOf (PySem.strKind X.prog X.w) a vs') :
  ∃ ep',Inv X pins σ (upd H a (.dE kvs' ep')) { s with heap:=h',toks:=t' }:=by
 obtain ⟨ep',da⟩:=dd.dictAt
 refine ⟨ep',I.write (x:=a) (e:=a) (by rw [e];exact True.intro) (.inl rfl) (fun b q hb z=>(hs.2 b hb).trans z) (let ⟨q,_,_,hq,_⟩:=dd;⟨q,hq⟩) ⟨hz,hd,vs',rel,da⟩⟩
theorem Inv.NG (I:Inv X pins σ H s):sysModules < s.heap.objs.size:=by
 have h:mainGlobals < s.heap.objs.size:=(I.mod.glob.keeps I.bk).lt
 exact Nat.lt_trans (by decide) h
end
theorem C0 {P:Program} {w:World} {kvs:List (Str × V)} {vs:List (Str × Value)} (rel:qB RelV kvs vs):∀ {us:List Value},us.length=kvs.length→(∀ (j:Nat) (v:Value),us[j]?=some v→∃ k x,vs[j]?=some (k,x)∧(PySem.strKind P w).is k v=true)→Vals (kvs.map fun kv=>V.str kv.1) us:=by
 induction rel with
 | nil =>
  intro us hlen _
  cases us with
  | nil=>exact .nil
  | cons _ _=>cases hlen
 | @cons p q kvs vs z _ ih =>
  intro us hlen hget
  cases us with
  | nil=>cases hlen
  | cons u us =>
   rw [List.map_cons]
   refine .cons ?_ (ih (by simpa using hlen) fun j v e=>?_)
   ·obtain ⟨k,x,e1,e2⟩:=hget 0 u rfl
    rw [List.getElem?_cons_zero] at e1
    cases e1
    rw [z.1];exact EO e2
   ·obtain ⟨k,x,e1,e2⟩:=hget (j + 1) v (by rw [List.getElem?_cons_succ];exact e)
    rw [List.getElem?_cons_succ] at e1
    exact ⟨k,x,e1,e2⟩
def Rq:R2:=fun x y H Q=>∃ a kvs ep k v,x=.ref a∧y=.str k∧H a=some (.dE kvs ep)∧nk kvs k=some v∧Q v H
def OZ (f:Bool→Bool):R2:=fun x y H Q=>∃ a kvs ep k,x=.str k∧y=.ref a∧H a=some (.dE kvs ep)∧Q (.bl (f (nk kvs k).isSome)) H
def Mu:List V→Hp→VK→Prop:=fun xs H Q=>∃ a kvs ep,xs=[.ref a]∧H a=some (.dE kvs ep)∧∀ p,H p=none→Q (.ref p) (upd H p (.lst (kvs.map fun kv=>.str kv.1)))
def O9:V→List V→Hp→VK→Prop:=fun x xs H Q=>∃ a kvs ep k v,x=.ref a∧xs=[.str k]∧H a=some (.dE kvs ep)∧nk kvs k=some v∧∀ ep',Q v (upd H a (.dE (Es kvs k) ep'))
def Pa:me:=fun o i v H Q=>∃ a kvs ep k,o=.ref a∧i=.str k∧H a=some (.dE kvs ep)∧kvs.length < sizeLine∧∀ ep',Q (upd H a (.dE (wo kvs k v) ep'))
def Pr:TE:=fun _ H Q=>∀ p,H p=none→∀ ep,Q (.ref p) (upd H p (.dE [] ep))
section
variable {X:Cx}
theorem NV:rA X Rq:=by
 intro value slice pins s σ H x y v u Q I rx ry q hs
 obtain ⟨a,kvs,ep,k,z,rfl,rfl,hp,hz,q⟩:=q
 cases rx
 obtain ⟨_,hd,vs,rel,da⟩:=nJ I hp
 have hT:s.TypeIs (.ref a) "dict":=da.dictOf.typeIs
 obtain ⟨w',hw,rw'⟩:=(rel.va k).1 z hz
 unfold subscriptTail
 refine wpAny_bind ?_
 rw [getitemInPython_of_ne hT.not_modules]
 refine wpAny_bind (wpAny_specialOf hT PySem.F.slot_dict_getitem.lookup ?_)
 have fin:wpAny (model X.prog X.w) X.A (subscripted slice false (.ref a) u) (fun r s₃=>wpAny (model X.prog X.w) X.A (letTemporaryGo value (.ref a) r >>= fun _=>pure r) (EP X pins σ Q) X.xe s₃) X.xe s:=by
  rw [hs]
  exact wpAny_operating (wpAny_getItem_of (str_is ry) da.dictOf.mapOf hw (wpAny_bind (wpAny_letTemporaryGo (wpAny_pure ⟨z,H,I.tok _,rw',q⟩))))
 first
  | exact wpAny_pure (wpAny_bind fin)
  | exact wpAny_bind (wpAny_pure (wpAny_bind fin))
  | exact wpAny_bind fin
theorem Mb:fT X (compareOp .In) (OZ id):=by
 intro pins s σ H x y v u Q I rx ry ⟨a,kvs,ep,k,ex,ey,hp,q⟩
 subst ex ey
 cases ry
 obtain ⟨_,hd,vs,rel,da⟩:=nJ I hp
 refine wpAny_in_of (str_is rx) hd da.dictOf.mapOf ?_
 exact ⟨.bl _,H,I.tok _,by rw [DP,← (rel.va k).2];rfl,q⟩
theorem xE (hc:X.calm=true):cD X (.type "list") Mu:=by
 intro pins s σ H xs us Q I r ⟨a,kvs,ep,ex,hp,q⟩
 subst ex
 obtain ⟨u,rfl,ru⟩:=vals1 r
 cases ru
 obtain ⟨hz,hd,vs,rel,da⟩:=nJ I hp
 have hl:=rel.len
 refine PySem.W.kdl_call (PySem.W.kdl_dict (knd:=PySem.strKind X.prog X.w) (kvs:=vs) (ep:=ep) hd) (I.ok.hd hc) da (by rw [← hl];exact hz) fun h' tk acc c hk hS hacc=>?_
 have hkeys:Vals (kvs.map fun kv=>V.str kv.1) acc.toList:=by
  have hlen:acc.toList.length=kvs.length:=by rw [Array.length_toList,hacc.1,hl]
  have hget:∀ j v,acc.toList[j]?=some v→∃ k x,vs[j]?=some (k,x)∧(PySem.strKind X.prog X.w).is k v=true:=fun j v e=>hacc.2 j v (by rw [← Array.getElem?_toList];exact e)
  exact C0 rel hlen hget
 have I2:Inv X pins σ (upd H s.heap.objs.size (.lst (kvs.map fun kv=>V.str kv.1))) { s with heap:=h',toks:=tk } :=
  I.laid (t':=tk) hk (Nat.le_refl _) (show dy X.prog X.w _ _ _ (.lst _) from ⟨by rw [List.length_map];exact hz,acc.toList,c,hkeys,by rw [Array.toArray_toList];exact hS⟩)
 exact ⟨.ref s.heap.objs.size,_,I2,rfl,q _ (I.hok.fresh (Nat.le_refl _))⟩
theorem HR:rD X "dict.pop" O9:=by
 intro pins s σ H x xs v us Q I rx r ⟨a,kvs,ep,k,z,ex,exs,hp,hv,q⟩
 subst ex exs
 cases rx
 obtain ⟨u,rfl,ru⟩:=vals1 r
 obtain ⟨hz,hd,vs,rel,da⟩:=nJ I hp
 obtain ⟨w',hw,rw'⟩:=(rel.va k).1 z hv
 have hpart:(keyPart u).isSome=true:=by obtain ⟨t,q⟩:=(show ∃ t,u=Value.str k t from ru);subst q;rfl
 refine call_meetsIn PySem.F.slot_dict_pop da.dictOf.typeIs PySem.F.entry_dict_pop (PySem.F.args_dict_pop_2 _ _) (meets_dict_pop_there (PySem.strKind X.prog X.w) a (str_is ru) [] (.inl rfl) hpart)
  ⟨vs,w',da.dictOf,by rw [← rel.len];exact hz,hw,fun h' dd' hs=>?_⟩
 obtain ⟨ep',I2⟩:=rK (t':=s.toks + 1) I hp hs (Nat.le_trans (Hh kvs k) hz) hd (rel.dr k) dd'
 exact ⟨z,_,I2,rw',q ep'⟩
theorem MI:md X Pa:=by
 intro pins s σ H o i v ov iv u Q I ro ri rv ⟨a,kvs,ep,k,eo,ei,hp,hl,q⟩
 subst eo ei
 cases ro
 obtain ⟨hz,hd,vs,rel,da⟩:=nJ I hp
 refine wpAny_setItem_pairs (hsz:=by rw [← rel.len];exact hz) (str_is ri) da.dictOf fun h' dd' hs=>?_
 obtain ⟨ep',I2⟩:=rK (t':=s.toks + 1) I hp hs (show (wo kvs k v).length≤sizeLine from Nat.le_trans (BL kvs k v) hl) hd (rel.pu rv) dd'
 exact ⟨_,I2,q ep'⟩
theorem Iq {pos:Pos}:PE X (.Dict [] [] pos) Pr:=fun pins s σ H Q I h=>by
 have hd:(s.heap.push { cls:=.type "dict",data:=.dict #[] }).DictOf (PySem.strKind X.prog X.w) s.heap.objs.size []:=Heap.DictOf.new s.heap
 obtain ⟨ep,da⟩:=hd.dictAt
 exact wpAny_Dict_empty ⟨.ref s.heap.objs.size,_,I.laid (a:=s.heap.objs.size) (o:=.dE [] ep) (t':=s.toks) (fun _ _ q=>Heap.get?_push_of_some _ q) (Nat.le_refl _)
  ⟨Nat.zero_le _,beq_eq_false_iff_ne.mpr (Ne.symm (Nat.ne_of_lt I.NG)),[],.nil,da⟩,rfl,h _ (I.hok.fresh (Nat.le_refl _)) ep⟩
end
def R8 (a:Addr) (ks:List Str) (ep:Nat):It :=
 ⟨fun i H=>(∃ kvs,H a=some (.dE kvs ep)∧kvs.map (·.1)=ks)∧i < ks.length,
  fun i H z H'=>H'=H∧∃ k,ks[i]?=some k∧z=.str k,
  fun i H=>(∃ kvs,H a=some (.dE kvs ep)∧kvs.map (·.1)=ks)∧ks.length≤i⟩
theorem DL {P:Program} {w:World} {K:PySem.W.Frag} {tg:Expr} (a it:Addr) (ks:List Str) (ep:Nat):Turn P w K tg (R8 a ks ep) [it] it (fun i h=>h.IsKeyIter it a i ks.length ep) where
 mem:=by simp
 obj:=fun i h st b hb=>by
  have e:b=it:=by simpa using hb
  subst e
  obtain ⟨o,e,c,d⟩:=st
  exact ⟨o,e,fun v z=>by rw [d] at z;cases z⟩
 keep:=fun i h h' st k=>st.at fun o e=>k it (by simp) o e
 item:=by
  intro X hP hw hK hc i pins s σ H E I hf st hg
  subst hP hw hK
  obtain ⟨⟨kvs,hp,hks⟩,hi⟩:=hg
  obtain ⟨hz,hd,vs,rel,da⟩:=nJ I hp
  have hl:ks.length=vs.length:=by rw [← hks,List.length_map];exact rel.len
  obtain ⟨f0,f1,f2,f3,f4,f5⟩:=hf it (by simp)
  obtain ⟨⟨k,x⟩,hx⟩:∃ p,vs[i]?=some p:=⟨vs[i]'(by omega),List.getElem?_eq_getElem (by omega)⟩
  have hk:ks[i]?=some k:=by rw [← hks,rel.keys,List.getElem?_map,hx];rfl
  refine wpAny_pyNext_dict_item (by rw [← hl];exact st) da hx fun key h' hkey st' sb=>?_
  rw [← hl] at st'
  have I1:Inv X pins σ H { s with heap:=h' }:=I.turned (t':=s.toks) (fun b o hb e=>(sb.2 b hb).trans e) f0 f1 f3 f4 f5
  obtain ⟨o,e,c,d⟩:=id st'
  exact ⟨key,rfl,Bs (s:={ s with heap:=h' }) e c d (by decide) ⟨.str k,H,I1,EO hkey,⟨rfl,k,hk,rfl⟩,st',fun b hb=>(hf b hb).1⟩⟩
 done:=by
  intro X hP hw hK hc i pins s σ H E I hf st hg
  subst hP hw hK
  obtain ⟨⟨kvs,hp,hks⟩,hi⟩:=hg
  obtain ⟨hz,hd,vs,rel,da⟩:=nJ I hp
  have hl:ks.length=vs.length:=by rw [← hks,List.length_map];exact rel.len
  obtain ⟨f0,f1,f2,f3,f4,f5⟩:=hf it (by simp)
  refine wpAny_pyNext_dict_end (I.ok.hd hc) (by rw [← hl];exact st) da (by rw [List.getElem?_eq_none_iff];omega) fun h' hk=>⟨rfl,I.turned (t':=s.toks) (fun b o hb e=>hk b o hb e) f0 f1 f3 f4 f5⟩
 self:=fun _ _ _ _ _ st h=>wpAny_pyIter_keyiter st h
def NR (td:TE):TI:=fun σ H R=>td σ H fun x H1=>∃ a kvs ep,x=.ref a∧H1 a=some (.dE kvs ep)∧R (R8 a (kvs.map (·.1)) ep) H1
theorem Ir {X:Cx} {tg l:Expr} {tl:TE} (hl:PE X l tl):PI X tg l (NR tl):=by
 intro pins s σ H R I h
 refine cg (hl pins s σ H _ I h) fun v s1 ⟨x,H1,I1,r1,q1⟩=>?_
 obtain ⟨a,kvs,ep,e,hp,q⟩:=q1
 subst e
 cases r1
 obtain ⟨hz,hd,vs,rel,da⟩:=nJ I1 hp
 refine wpAny_pyIter_dict hd da ?_
 refine ⟨s1.heap.objs.size,[s1.heap.objs.size],_,_,H1,rfl,I1.kept (t':=s1.toks) fun b o e=>Heap.get?_push_of_some _ e,DL a _ (kvs.map (·.1)) ep,⟨_,Heap.get?_push_size _ rfl,rfl,by rw [List.length_map,rel.len];rfl⟩,fun b hb=>?_,q⟩
 have e:b=s1.heap.objs.size:=by simpa using hb
 subst e
 exact I1.CT (Nat.le_refl _) (I1.hok.fresh (Nat.le_refl _))
end L2
namespace Ov
open PySem PySem.Spec PyProof.Rows L2
def Nr (X:Cx) (ifs:List Expr) (t:TT):Prop :=
 ∀ (pins:List (Addr × Obj)) (s:Shared) (σ:L2.St) (H:Hp) (Q:Bool→Hp→Prop),Inv X pins σ H s→t σ H Q →
  wpAny (model X.prog X.w) X.A (forIn ifs true fun c r=>if r=true then do let ok ← isTrue c X.env (eval c X.env);pure (ForInStep.yield ok) else pure (ForInStep.yield r)) (TP X pins σ Q) X.xe s
theorem IC {X:Cx}:Nr X [] (fun _ H Q=>Q true H):=fun pins s σ H Q I h=>by rw [List.forIn_nil];exact wpAny_pure ⟨H,I,h⟩
section
variable {prog:Program} {w:World} {A:Around} {R:Result→Shared→Prop} {s:Shared}
theorem Aa {kx vx iter:Expr} {ifs:List Expr} {x:Str} {px:Pos} {sc:Scope} {pos:Pos} {it:Value} {D:Addr} {env:Env} (I:Nat→Shared→Prop)
  (turn:∀ n s,I n s→wpAny (model prog w) A (pyNext it) (fun r s₁=>match r with
   | none=>R (.ok .next) s₁
   | some v=>wpAny (model prog w) A (letOwnedTupleGo (.Name x px) it v) (fun _ s₂=>wpAny (model prog w) A (assign (.Name x px) env v) (fun _ s₃=>wpAny (model prog w) A (forIn ifs true fun c r=>if r=true then do let ok ← isTrue c env (eval c env);pure (ForInStep.yield ok) else pure (ForInStep.yield r)) (fun ok s₃=>if ok=true then wpAny (model prog w) A (eval kx env) (fun kv s₄ =>
     wpAny (model prog w) A (eval vx env) (fun vv s₅=>wpAny (model prog w) A (dictSet D kv vv) (fun _ s₅=>∃ m,m < n∧I m s₅) (fun _ _=>False) s₅) (fun _ _=>False) s₄) (fun _ _=>False) s₃ else ∃ m,m < n∧I m s₃) (fun _ _=>False) s₃) (fun _ _=>False) s₂) (fun _ _=>False) s₁) (fun _ _=>False) s)
  (n:Nat) (h:I n s):codeAny (model prog w) A (.compLoop (.DictComp kx vx [⟨.Name x px,iter,ifs,0⟩] sc pos) 0 it (.ref D) env) R s:=by
 refine codeAny_loop rfl I (fun n s hI=>?_) n h
 show wpAny _ _ ((compTurn (.DictComp kx vx [⟨.Name x px,iter,ifs,0⟩] sc pos) 0 it (.ref D) env).onRaise (fun x=>do noteFrame x env;theTreesLotGoes x)) _ _ s
 refine wpAny_noted ?_
 rw [compTurn_dict]
 have no:∀ (e:Value) (s':Shared),False→notedBy (model prog w) A env (fun e s'=>R (.error e) s') e s':=fun _ _ z=>z.elim
 refine wpAny_bind (wpAny_standAt (wpAny_bind (wpAny_mono (turn n s hI) (fun r s₁ h₁=>?_) no)))
 cases r with
 | none=>exact wpAny_pure h₁
 | some v =>
  refine wpAny_bind (wpAny_mono h₁ (fun _ s₂ h₂=>?_) no)
  refine wpAny_bind (wpAny_mono h₂ (fun _ s₃ h₃=>wpAny_bind (wpAny_mono h₃ (fun ok s₃' h₃'=>?_) no)) no)
  cases ok with
  | false=>exact wpAny_pure ⟨rfl,h₃'⟩
  | true =>
   exact wpAny_bind (wpAny_bind (wpAny_mono h₃' (fun kv s₄ h₄=>wpAny_bind (wpAny_holding (wpAny_mono h₄ (fun vv s₅ h₅=>wpAny_bind (wpAny_standAt (wpAny_holding (wpAny_mono h₅ (fun _ s₆ h₆=>wpAny_pure ⟨rfl,h₆⟩) no)))) no))) no))
end
def SN (wi:TI) (ks:List (Str × Nat)) (tc:TT) (tk te:TE):TE:=fun σ H Q=>wi σ H fun J H1=>∀ D,H1 D=none→∀ ep,∃ W:Nat→Nat→Hp→Prop,(∃ m,W 0 m (upd H1 D (.dE [] ep))) ∧
 ∀ i m H2,W i m H2→(J.stop i H2∧Q (.ref D) H2)∨(J.go i H2∧∀ v H3,J.yld i H2 v H3→tc (some v :: dI ks σ) H3 fun b H4=>if b=true then tk (some v :: dI ks σ) H4 fun y H5=>te (some v :: dI ks σ) H5 fun z H6=>∃ kvs ep k,y=.str k∧H6 D=some (.dE kvs ep)∧kvs.length < sizeLine∧∃ m',m' < m∧∀ ep',W (i + 1) m' (upd H6 D (.dE (L2.wo kvs k z) ep')) else ∃ m',m' < m∧W (i + 1) m' H4)
section
variable {X:Cx}
theorem DD {kx vx iter:Expr} {ifs:List Expr} {x:Str} {px:Pos} {sc:Scope} {pos:Pos} {tk te:TE} {tc:TT} {ks:List (Str × Nat)} {cl:List (Str × Addr)} {pins:List (Addr × Obj)} {σ:L2.St} {H:Hp} {s:Shared} {it:Addr} {fp:List Addr} {tn:Nat→Heap→Prop} {J:It} {Q:VK}
  {RR:Value→Addr→Result→Shared→Prop} {E:Value→Shared→Prop}
  (hc:X.calm=true) (ok:cQ sc X.env.scope X.N x ks) (h1:∀ y c,cl.lookup y=some c→X.env.cells.lookup y=some c) (h2:∀ y∈sc.names,y.2=.free→∃ c,cl.lookup y.1=some c)
  (hk:∀ cl C s₀ H₀ fp pins,PE (fv X sc cl C x ks s₀ H₀ fp pins) kx tk) (he:∀ cl C s₀ H₀ fp pins,PE (fv X sc cl C x ks s₀ H₀ fp pins) vx te) (hcn:∀ cl C s₀ H₀ fp pins,Nr (fv X sc cl C x ks s₀ H₀ fp pins) ifs tc)
  (I:Inv X pins σ H s) (T:Turn X.prog X.w X.K (.Name x px) J fp it tn) (st:tn 0 s.heap) (f:∀ b∈fp,jy X pins H b)
  (hw:∀ D,H D=none→∀ ep,∃ W:Nat→Nat→Hp→Prop,(∃ m,W 0 m (upd H D (.dE [] ep)))∧∀ i m H2,W i m H2→(J.stop i H2∧Q (.ref D) H2) ∨
   (J.go i H2∧∀ v H3,J.yld i H2 v H3→tc (some v :: dI ks σ) H3 fun b H4=>if b=true then tk (some v :: dI ks σ) H4 fun y H5=>te (some v :: dI ks σ) H5 fun z H6=>∃ kvs ep k,y=.str k∧H6 D=some (.dE kvs ep)∧kvs.length < sizeLine∧∃ m',m' < m∧∀ ep',W (i + 1) m' (upd H6 D (.dE (L2.wo kvs k z) ep')) else ∃ m',m' < m∧W (i + 1) m' H4))
  (hR:∀ (D C:Addr) (s':Shared) (H':Hp) (m:Str→Option Value),Inv X pins σ H' s'→Q (.ref D) H'→s'.heap.Ns C m→H' C=none→C≠X.env.locals→X.s₀.heap.objs.size≤C→(∀ y c,X.env.cells.lookup y=some c→c≠C)→(∀ p∈X.pn ++ pins,p.1≠C)→RR (.ref D) C (.ok .next) s') :
  wpAny (model X.prog X.w) X.A newDict (fun acc s₃=>wpAny (model X.prog X.w) X.A (newFunctionEnv sc X.env.globals cl [] X.env.qual none .none (some X.env)) (fun cenv s₄ =>
   codeAny (model X.prog X.w) X.A (.compStart (.DictComp kx vx [⟨.Name x px,iter,ifs,0⟩] sc pos) 0 (.ref it) acc { cenv with scope:=relabel sc X.env }) (RR acc cenv.locals) s₄) E s₃) E s:=by
 have okk:=ok
 obtain ⟨kd,nc,lx,ll,fr,kk,nd⟩:=okk
 have hD0:H s.heap.objs.size=none:=I.hok.fresh (Nat.le_refl _)
 have hdd:(s.heap.push { cls:=.type "dict",dict:=none,data:=.dict #[] }).DictOf (PySem.strKind X.prog X.w) s.heap.objs.size []:=Heap.DictOf.new s.heap
 obtain ⟨ep0,da⟩:=hdd.dictAt
 obtain ⟨W,⟨m0,w0⟩,turn⟩:=hw s.heap.objs.size hD0 ep0
 refine wpAny_newObj_type ?_
 have I3:Inv X pins σ (upd H s.heap.objs.size (.dE [] ep0)) { s with heap:=s.heap.push { cls:=.type "dict",dict:=none,data:=.dict #[] } } :=
  I.laid (t':=s.toks) (fun b u e=>Heap.get?_push_of_some _ e) (Nat.le_refl _) ⟨Nat.zero_le _,beq_eq_false_iff_ne.mpr (Ne.symm (Nat.ne_of_lt I.NG)),[],.nil,da⟩
 have st3:tn 0 (s.heap.push { cls:=.type "dict",dict:=none,data:=.dict #[] }):=T.keep 0 _ _ st fun b hb o e=>Heap.get?_push_of_some _ e
 clear da hdd
 generalize hD:s.heap.objs.size=D at *
 generalize hH:upd H D (.dE [] ep0)=H3 at *
 generalize hs3:({ s with heap:=s.heap.push { cls:=.type "dict",dict:=none,data:=.dict #[] } }:Shared)=s3 at *
 have e3:s.heap.push { cls:=.type "dict",dict:=none,data:=.dict #[] }=s3.heap:=by rw [← hs3]
 rw [e3] at st3
 have fD:∀ b∈fp,b≠D:=fun b hb z=>by
  obtain ⟨o,ho,_⟩:=T.obj 0 _ st b hb
  have:=Heap.lt_size ho
  rw [z,← hD] at this
  exact Nat.lt_irrefl _ this
 have f3:∀ b∈fp,jy X pins H3 b:=fun b hb=>⟨by rw [← hH,aK (fD b hb)];exact (f b hb).1,(f b hb).2⟩
 have g3:∀ b∈fp,∃ o,s3.heap.get? b=some o:=fun b hb=>by
  obtain ⟨o,ho,_⟩:=T.obj 0 _ st3 b hb
  exact ⟨o,ho⟩
 refine wpAny_newFunctionEnv nc (by intro y hy;simp at hy) (fun h₁ hns hsb=>?_) kd
 have kp:∀ b o,s3.heap.get? b=some o→h₁.get? b=some o:=fun b o e=>hsb.extBut b o (Nat.ne_of_lt (Heap.lt_size e)) (Heap.get?_push_of_some _ e)
 have J0:=rV (fp:=fp) (cl:=cl) (t':=s3.toks + ([]:List (Str × Value)).length) I3 ok h1 h2 (fun b hb=>⟨f3 b hb,g3 b hb⟩) hns kp
 have st4:tn 0 h₁:=T.keep 0 _ _ st3 fun b hb o e=>kp b o e
 have ltC:∀ b o,s3.heap.get? b=some o→b≠s3.heap.objs.size:=fun b o e=>Nat.ne_of_lt (Heap.lt_size e)
 have cC:∀ y c,X.env.cells.lookup y=some c→c≠s3.heap.objs.size:=fun y c e=>by
  obtain ⟨v,o,ho,_⟩:=I3.cell y c e
  exact ltC c o ho
 have pC:∀ p∈X.pn ++ pins,p.1≠s3.heap.objs.size:=fun p hp=>ltC _ _ (I3.pin p hp).1
 have lC:s3.heap.objs.size≠X.env.locals:=Nat.ne_of_gt I3.lt
 have fX:∀ {H':Hp},(∀ b∈fp,H' b=none)→∀ b∈fp,jy (fv X sc cl s3.heap.objs.size x ks s3 H3 fp pins) [] H' b:=fun hn b hb=>by
  obtain ⟨o,ho⟩:=g3 b hb
  obtain ⟨_,q1,q2,q3,q4,q5⟩:=f b hb
  refine ⟨hn b hb,ltC b o ho,fun z=>?_,.inl hb,fun y c e=>q4 y c (h1 y c e),fun p hp=>q5 p (by simpa [fv] using hp)⟩
  rcases List.mem_cons.mp (I3.nh b z) with e | e
  ·exact q1 e
  ·exact q2 e
 have back:∀ {o:Option V} {H':Hp} {s':Shared},Inv (fv X sc cl s3.heap.objs.size x ks s3 H3 fp pins) [] (o :: dI ks σ) H' s'→Inv X pins σ H' s':=fun {o H' s'} J=>by
  obtain ⟨hh,g,d,t,os'⟩:=s'
  obtain rfl:os'=s3.os:=J.os
  exact I3.call (h':=hh) (g':=g) (d':=d) (t':=t) (ch:=fp) J.base J.hok J.bare fun b hb=>⟨(f b hb).2.2.2.1,(f b hb).2.1,(f b hb).2.2.2.2.1,(f b hb).2.2.2.2.2⟩
 have lookX:(relabel sc X.env).names.lookup x=some .local:=lookup_relabel_local lx
 have loop:∀ s',(∃ (i:Nat) (o:Option V) (H':Hp),Inv (fv X sc cl s3.heap.objs.size x ks s3 H3 fp pins) [] (o :: dI ks σ) H' s'∧tn i s'.heap∧(∀ b∈fp,H' b=none)∧W i m0 H') →
   codeAny (model X.prog X.w) X.A (.compLoop (.DictComp kx vx [⟨.Name x px,iter,ifs,0⟩] sc pos) 0 (.ref it) (.ref D) (compEnvC sc cl s3.heap.objs.size X.env)) (RR (.ref D) s3.heap.objs.size) s':=by
  intro s' hs'
  refine Aa (fun n s'=>∃ (i:Nat) (o:Option V) (H':Hp),Inv (fv X sc cl s3.heap.objs.size x ks s3 H3 fp pins) [] (o :: dI ks σ) H' s'∧tn i s'.heap∧(∀ b∈fp,H' b=none)∧W i n H') ?_ m0 hs'
  rintro n s5 ⟨i,o,H5,J5,t5,n5,w5⟩
  rcases turn i n H5 w5 with ⟨stop,hq⟩ | ⟨go,step⟩
  ·refine cg (T.done (fv X sc cl s3.heap.objs.size x ks s3 H3 fp pins) rfl rfl rfl hc i [] s5 _ H5 _ J5 (fX n5) t5 stop) fun r s6 ⟨hr,J6⟩=>?_
   subst hr
   obtain ⟨m,hm,_⟩:=J6.loc
   exact hR D _ s6 H5 m (back J6) hq hm J6.free lC I3.sz cC pC
  ·refine cg (T.item (fv X sc cl s3.heap.objs.size x ks s3 H3 fp pins) rfl rfl rfl hc i [] s5 _ H5 _ J5 (fX n5) t5 go) fun r s6 ⟨u,hr,h6⟩=>?_
   subst hr
   refine cg h6 fun _ s7 ⟨v,H7,J7,r7,y7,t7,n7⟩=>?_
   have J7':=J7.pinned (fX n7) (T.obj _ _ t7)
   refine wpAny_assign_Name (fm (X:=fv X sc cl s3.heap.objs.size x ks s3 H3 fp pins) (i:=0) J7' nd rfl (.inl lookX) r7 (fun s8 J8=>?_) (.inr lookX))
   refine cg (hcn cl s3.heap.objs.size s3 H3 fp pins _ s8 _ H7 _ J8 (step v H7 y7)) fun ok s8' ⟨H8,J8',q8⟩=>?_
   cases ok with
   | false =>
    simp only [Bool.false_eq_true,if_false] at q8 ⊢
    obtain ⟨m',hm,w'⟩:=q8
    refine ⟨m',hm,i + 1,_,_,J8'.fS,?_,?_,w'⟩
    ·exact T.keep _ _ _ t7 fun b hb o e=>(J8'.pin (b,o) (List.mem_append_right _ (List.mem_append_right _ (b9 hb e)))).1
    ·intro b hb
     obtain ⟨o,e,d⟩:=T.obj _ _ t7 b hb
     exact (J8'.pin (b,o) (List.mem_append_right _ (List.mem_append_right _ (b9 hb e)))).2.1
   | true =>
    simp only [if_true] at q8 ⊢
    refine cg (hk cl s3.heap.objs.size s3 H3 fp pins _ s8' _ H8 _ J8' q8) fun ky s8'' ⟨vk,H8',J8'',rk,q8'⟩=>?_
    refine cg (he cl s3.heap.objs.size s3 H3 fp pins _ s8'' _ H8' _ J8'' q8') fun y s9 ⟨vy,H9,J9,r9,kvs,ep,k,ek,hys,hz,m',hm,w'⟩=>?_
    subst ek
    obtain ⟨hz',hd',vs,rel,da⟩:=nJ J9 hys
    refine wpAny_dictSet_pairs (hsz:=by rw [← rel.len];exact hz') (str_is rk) da.dictOf fun h' dd' hsb=>?_
    obtain ⟨ep',J10⟩:=rK (t':=s9.toks + 1) J9 hys hsb (show (L2.wo kvs k vy).length≤sizeLine from Nat.le_trans (BL kvs k vy) hz) hd' (rel.pu r9) dd'
    refine ⟨m',hm,i + 1,_,_,J10.fS,?_,?_,w' ep'⟩
    ·exact T.keep _ _ _ t7 fun b hb o e=>(J10.pin (b,o) (List.mem_append_right _ (List.mem_append_right _ (b9 hb e)))).1
    ·intro b hb
     obtain ⟨o,e,d⟩:=T.obj _ _ t7 b hb
     exact (J10.pin (b,o) (List.mem_append_right _ (List.mem_append_right _ (b9 hb e)))).2.1
 have l0:=loop _ ⟨0,none,H3,J0,st4,fun b hb=>(f3 b hb).1,w0⟩
 exact codeAny_compStart_dict l0 (T.self _ 0 _ _ _ st4 l0)
theorem OH {kx vx iter:Expr} {ifs:List Expr} {x:Str} {px:Pos} {sc:Scope} {pos:Pos} {wi:TI} {tk te:TE} {tc:TT} (osc:Scope) (N:List Str) (ks:List (Str × Nat)) (hc:X.calm=true) (ho:X.env.scope=osc) (hN:X.N=N) (hi:PI X (.Name x px) iter wi)
  (hk:∀ cl C s₀ H₀ fp pins,PE (fv X sc cl C x ks s₀ H₀ fp pins) kx tk) (he:∀ cl C s₀ H₀ fp pins,PE (fv X sc cl C x ks s₀ H₀ fp pins) vx te) (hcn:∀ cl C s₀ H₀ fp pins,Nr (fv X sc cl C x ks s₀ H₀ fp pins) ifs tc) (ok:cQ sc osc N x ks:=by decide +kernel) (hs:∀ x,foldedSetIterable iter X.env x=pure x:=by intro _;rfl) :
  PE X (.DictComp kx vx [⟨.Name x px,iter,ifs,0⟩] sc pos) (SN wi ks tc tk te):=by
 intro pins s σ H Q I hw
 obtain ⟨cl,hcl,h1,h2⟩:=jK (n8 ok I ho)
 have ok':cQ sc X.env.scope X.N x ks:=by rw [ho,hN];exact ok
 rw [arm_eval_DictComp]
 refine wpAny_comprehension_free (use:=none) rfl hs hcl ok.1 ok.2.2.2.1 (cg (hi pins s σ H _ I hw) fun v s1 h3=>cg h3 fun itv s2 h4=>?_)
 obtain ⟨it,fp,tn,J,H2,rfl,I2,T,st2,f2,hR⟩:=h4
 refine DD (RR:=fun acc C=>compPost (model X.prog X.w) X.A X.xe none (EP X pins σ Q) acc C) hc ok' h1 h2 hk he hcn I2 T st2 f2 hR ?_
 intro D C s' H' m J' q hn hC cl' cs cc cp
 refine ⟨m,hn,fun h' hsb=>⟨.ref D,H',?_,rfl,q⟩⟩
 exact J'.turned (t':=s'.toks) (it:=C) (fun b o ne e=>hsb.extBut b o ne e) hC cl' (.inr cs) cc cp
end
end Ov
namespace Ov
open PySem PySem.Spec PyProof.Rows
open L2 (V HO Hp Inv Cx VK XK TE TT TA TS TG rF TI TO me Ends xA Loc Gl Rd RelV Vals fT y6 cD rA uu rD md R2 upd aE aK di g7 Sp tH It bF dP bU Passes qA aH Meth Mk Binds aL cA aw dJ gY fC nk wo Es qB)
section
variable {K:PySem.W.Frag} {J:Hq} {H:Hp}
theorem fg:∀ {kvs:List (Str × PV)} {gs:List (Str × V)},mQ K J H kvs gs→qB (cE K J H) kvs gs
 | [],[],_=>.nil
 | [],_ :: _,h=>by cases h.1
 | _ :: _,[],h=>by cases h.1
 | (k,y) :: fs,(k',w) :: gs,h=>by
  obtain ⟨h1,v',us,h2,h3,h4⟩:=h
  simp only [List.map_cons,List.cons.injEq] at h1 h2
  obtain ⟨rfl,h1⟩:=h1
  obtain ⟨rfl,rfl⟩:=h2
  exact .cons ⟨rfl,h3⟩ (fg ⟨h1,h4⟩)
theorem yt:∀ {kvs:List (Str × PV)} {gs:List (Str × V)},qB (cE K J H) kvs gs→mQ K J H kvs gs
 | _,_,.nil=>⟨rfl,rfl⟩
 | _,_,.cons (a:=p) (b:=q) r t=>by
  obtain ⟨h1,h2⟩:=yt t
  exact ⟨by rw [List.map_cons,List.map_cons,h1,r.1],q.2,_,rfl,r.2,h2⟩
theorem Ext.lI {p:Addr} {kvs kvs':List (Str × PV)} {gs gs':List (Str × V)} {ep ep':Nat} (h:J p=some (.dct kvs ep)) (k:H p=some (.dE gs ep)):Ext K J H (put J p (.dct kvs' ep')) (upd H p (.dE gs' ep')):=by
 have sm:∀ a u,a≠p→Rd H a u→Rd (upd H p (.dE gs' ep')) a u:=fun a u ne z=>by
  rcases z with z | ⟨o,z⟩
  ·exact .inl (by rw [aK ne];exact z)
  ·exact .inr ⟨o,by rw [aK ne];exact z⟩
 refine ⟨fun a vs' z=>?_,fun a o z q _=>?_⟩
 ·rcases z with z | z
  ·have ne:a≠p:=by
    intro e;subst e
    rcases z with z | ⟨o,z⟩
    ·rw [k] at z;cases z
    ·rw [k] at z;cases z
   exact .inl (sm a _ ne z)
  ·exact .inr z
 ·have ne:a≠p:=by intro e;subst e;rw [h] at z;cases z
  exact ⟨by rw [au ne];exact z,by rw [aK ne];exact q⟩
theorem Rep.lI {p:Addr} {kvs kvs':List (Str × PV)} {gs gs':List (Str × V)} {ep ep':Nat} (r:Rep K J H) (h:J p=some (.dct kvs ep)) (k:H p=some (.dE gs ep)) (q:qB (cE K J H) kvs' gs'):Rep K (put J p (.dct kvs' ep')) (upd H p (.dE gs' ep')):=by
 have e:=Ext.lI (K:=K) (kvs':=kvs') (gs':=gs') (ep':=ep') h k
 refine r.DO e p (fun a ne=>au ne) (fun a o ne _ z=>by rw [aK ne];exact z) fun u z=>?_
 rw [av] at z;cases z
 exact ⟨gs',aE,e.yA (yt q)⟩
theorem Rep.JM {p:Addr} {ep:Nat} (r:Rep K J H) (n:H p=none):Rep K (put J p (.dct [] ep)) (upd H p (.dE [] ep)):=by
 have e:=Ext.laid (K:=K) (J:=J) (o:=.dE [] ep) (u:=.dct [] ep) n
 refine r.DO e p (fun a ne=>au ne) (fun a o ne _ z=>by rw [aK ne];exact z) fun u z=>?_
 rw [av] at z;cases z
 exact ⟨[],aE,⟨rfl,rfl⟩⟩
end
def ON:nC:=fun x y J Q=>Du x fun a=>JZ y fun k=>GP (J a) fun kvs _=>v_ (nk kvs k) fun v=>Q v J
def Mp (f:Bool→Bool):nC:=fun x y J Q=>JZ x fun k=>Du y fun a=>GP (J a) fun kvs _=>Q (.bl (f (nk kvs k).isSome)) J
def OO:A6:=fun xs J Q=>Dt xs fun x=>Du x fun a=>GP (J a) fun kvs _=>Q (.int kvs.length) J
def FT:A6:=fun xs J Q=>Dt xs fun x=>Du x fun a=>GP (J a) fun kvs _=>Q (.fl (kvs.map fun kv=>.str kv.1)) J
def Km:DU:=fun x xs J Q=>Du x fun a=>Dt xs fun y=>JZ y fun k=>GP (J a) fun kvs _=>v_ (nk kvs k) fun v=>∀ ep',Q v (put J a (.dct (Es kvs k) ep'))
def Ko:CG:=fun o i y J R=>Du o fun a=>JZ i fun k=>GP (J a) fun kvs _=>kvs.length < sizeLine∧∀ ep',R (put J a (.dct (wo kvs k y) ep'))
def Ks:dG:=fun _ J Q=>∀ p,J p=none→∀ ep,Q (.ref p) (put J p (.dct [] ep))
def Sl (te:dG):tQ:=fun τ J R=>te τ J fun x J1=>Du x fun a=>GP (J1 a) fun kvs ep=>R ⟨kvs.map fun kv=>.str kv.1,fun J'=>J' a=some (.dct kvs ep)⟩ J1
section
variable {X:Cx} {G:G2}
theorem eI:Qf X ON:=⟨_,L2.NV,fun J H x y v w Q2 Q rx ry r h kn=>by
 obtain ⟨a,ex,h⟩:=iQ h;obtain ⟨k,ey,h⟩:=pI h;obtain ⟨kvs,ep,ja,h⟩:=pH h;obtain ⟨z,hz,q⟩:=e_ h
 subst ex ey
 cases rx;cases ry
 obtain ⟨gs,h1,h2⟩:=r _ _ ja
 obtain ⟨u,hu,ru⟩:=((fg h2).va k).1 z hz
 exact ⟨a,gs,ep,k,u,rfl,rfl,h1,hu,kn z J u H ru r .refl q⟩⟩
theorem LK (f:Bool→Bool):LR X.K (L2.OZ f) (Mp f):=fun J H x y v w Q2 Q rx ry r h kn=>by
 obtain ⟨k,ex,h⟩:=pI h;obtain ⟨a,ey,h⟩:=iQ h;obtain ⟨kvs,ep,ja,q⟩:=pH h
 subst ex ey
 cases rx;cases ry
 obtain ⟨gs,h1,h2⟩:=r _ _ ja
 exact ⟨a,gs,ep,k,rfl,rfl,h1,by rw [← ((fg h2).va k).2];exact kn (.bl _) J _ H rfl r .refl q⟩
theorem Me:nB X (compareOp .In) (Mp id):=⟨_,L2.Mb,LK id⟩
theorem pR {K:PySem.W.Frag} {J:Hq} {H:Hp}:∀ {ks:List Str},aR K J H (ks.map PV.str) (ks.map V.str)
 | []=>rfl
 | k :: ks=>⟨_,_,rfl,rfl,pR (ks:=ks)⟩
theorem xI (hc:X.calm=true):KR X (.type "list") FT:=⟨_,L2.xE hc,fun J H xs vs Q2 Q rs r h k=>by
 obtain ⟨x,ex,h⟩:=k6 h;obtain ⟨a,ea,h⟩:=iQ h;obtain ⟨kvs,ep,ja,q⟩:=pH h;subst ea
 subst ex;obtain ⟨v,us,rfl,rv,e⟩:=rs;cases e;cases rv
 obtain ⟨gs,h1,h2⟩:=r _ _ ja
 refine ⟨a,gs,ep,rfl,h1,fun p hp=>?_⟩
 have hk:aR X.K J H (kvs.map fun kv=>PV.str kv.1) (gs.map fun kv=>V.str kv.1):=by
  have:=(fg h2).keys
  rw [show (kvs.map fun kv=>PV.str kv.1)=(kvs.map (·.1)).map PV.str by rw [List.map_map];rfl,show (gs.map fun kv=>V.str kv.1)=(gs.map (·.1)).map V.str by rw [List.map_map];rfl,this]
  exact pR
 obtain ⟨x1,x2,x3⟩:=sf r hk hp
 exact k _ J _ _ x1 x2 x3 q⟩
theorem HN:K3 X "dict" "dict.pop" Km:=⟨_,L2.HR,fun J H x xs v vs Q2 Q rx rs r h kn=>by
 obtain ⟨a,ex,h⟩:=iQ h;obtain ⟨y,exs,h⟩:=k6 h;obtain ⟨k,ek,h⟩:=pI h;obtain ⟨kvs,ep,ja,h⟩:=pH h;obtain ⟨z,hz,q⟩:=e_ h;subst ek
 subst ex exs;cases rx
 obtain ⟨u,us,rfl,ru,e⟩:=rs;cases e;cases ru
 obtain ⟨gs,h1,h2⟩:=r _ _ ja
 have pk:=fg h2
 obtain ⟨y,hy,ry⟩:=(pk.va k).1 z hz
 refine ⟨a,gs,ep,k,y,rfl,rfl,h1,hy,fun ep'=>?_⟩
 have e2:=Ext.lI (K:=X.K) (kvs':=Es kvs k) (gs':=Es gs k) (ep':=ep') ja h1
 exact kn z _ y _ (e2.rep ry) (r.lI ja h1 (pk.dr k)) e2 (q ep')⟩
theorem qY:Qj X Ko:=⟨_,L2.MI,fun J H o i y ov iv u R2 R ro ri ry r h kk=>by
 obtain ⟨a,eo,h⟩:=iQ h;obtain ⟨k,ei,h⟩:=pI h;obtain ⟨kvs,ep,ja,hl,q⟩:=pH h
 subst eo ei;cases ro;cases ri
 obtain ⟨gs,h1,h2⟩:=r _ _ ja
 have pk:=fg h2
 refine ⟨a,gs,ep,k,rfl,rfl,h1,by rw [← pk.len];exact hl,fun ep'=>?_⟩
 exact kk _ _ (r.lI ja h1 (pk.pu ry)) (Ext.lI (K:=X.K) ja h1) (q ep')⟩
theorem BS {pos:Pos}:RE X G (.Dict [] [] pos) Ks:=⟨mh L2.Iq fun σ H Q ⟨τ,J,Q2,a2,q,k⟩ p hp ep=>k (.ref p) _ _ _ rfl (a2.hp.JM hp) (.laid hp) (q p (a2.hp.free hp) ep)⟩
theorem BU {tg l:Expr} {tl:dG} (hl:RE X G l tl):RI X G tg l (Sl tl):=⟨Ng (L2.Ir hl.run) fun σ H R ⟨τ,J,R2,a2,h,k⟩=>⟨τ,J,_,a2,h,fun x J1 v H1 rx r1 e1 h=>by
 obtain ⟨a,ex,h⟩:=iQ h;obtain ⟨kvs,ep,ja,q⟩:=pH h
 subst ex;cases rx
 obtain ⟨gs,h1,h2⟩:=r1 _ _ ja
 have pk:=fg h2
 have hl':=pk.len
 refine ⟨a,gs,ep,rfl,h1,k _ J1 _ H1 ?_ r1 e1 q⟩
 have hks:=pk.keys
 have key:∀ J' H',Rep X.K J' H'→J' a=some (.dct kvs ep)→∃ gs',H' a=some (.dE gs' ep)∧gs'.map (·.1)=gs.map (·.1):=fun J' H' r o=>by
  obtain ⟨gs',h1',h2'⟩:=r _ _ o
  exact ⟨gs',h1',by rw [← (fg h2').keys,hks]⟩
 exact {
  go:=fun J' H' e r o i hi=>⟨key J' H' r o,by rw [List.length_map] at hi ⊢;omega⟩
  yl:=fun J' H' e r o i hi v H2 y=>by
   obtain ⟨rfl,k,hk,rfl⟩:=y
   rw [← hks,List.getElem?_map] at hk
   obtain ⟨kv,hkv,rfl⟩:=Option.map_eq_some_iff.mp hk
   exact ⟨.str kv.1,by rw [List.getElem?_map,hkv];rfl,rfl,r,.refl⟩
  stop:=fun J' H' e r o=>⟨key J' H' r o,by rw [List.length_map,List.length_map];omega⟩ }⟩⟩
def Rp (wi:tQ) (ks:List (Str × Nat)) (tc:mS) (tk te:dG):dG:=fun τ J Q=>wi τ J fun it J1=>∀ D,J1 D=none→∀ ep,∃ W:Nat→Hq→Prop,W 0 (put J1 D (.dct [] ep))∧(∀ i J2,W i J2→it.ok J2) ∧
 (∀ i x J2,it.xs[i]?=some x→W i J2→tc (some x :: qz ks τ) J2 fun b J3=>if b=true then tk (some x :: qz ks τ) J3 fun y J4=>te (some x :: qz ks τ) J4 fun z J5 =>
  ∃ kvs ep k,y=.str k∧J5 D=some (.dct kvs ep)∧kvs.length < sizeLine∧∀ ep',W (i + 1) (put J5 D (.dct (wo kvs k z) ep')) else W (i + 1) J3)∧∀ J2,W it.xs.length J2→Q (.ref D) J2
theorem He {wi:tQ} {ks:List (Str × Nat)} {tc:mS} {tk te:dG}:∀ σ H Q,LE X.K G (Rp wi ks tc tk te) σ H Q→SN (LI X.K G wi) ks (LT X.K G tc) (LE X.K G tk) (LE X.K G te) σ H Q:=fun σ H Q ⟨τ,J,Q2,a2,h,k⟩ =>
 ⟨τ,J,_,a2,h,fun it J1 I H1 ir r1 e1 w D hD ep=>by
  obtain ⟨W,w0,wok,step,fin⟩:=w D (r1.free hD) ep
  refine ⟨fun i m H2=>m=it.xs.length - i∧i≤it.xs.length∧∃ J2,Rep X.K J2 H2∧Ext X.K J1 H1 J2 H2∧W i J2,⟨_,rfl,Nat.zero_le _,_,r1.JM hD,.laid hD,w0⟩,?_⟩
  rintro i m H2 ⟨rfl,hi,J2,r2,e2,w2⟩
  by_cases hlt:i < it.xs.length
  ·refine .inr ⟨ir.go J2 H2 e2 r2 (wok i J2 w2) i hlt,fun v H3 y=>?_⟩
   obtain ⟨x,ex,rx,r3,e3⟩:=ir.yl J2 H2 e2 r2 (wok i J2 w2) i hlt v H3 y
   have a3:xo X.K G (some x :: qz ks τ) J2 (some v :: dI ks σ) H3:=⟨BY (a2.sl.ext ((e1.trans e2).trans e3)) rx ks,r3,((a2.ext.trans e1).trans e2).trans e3⟩
   refine ⟨_,_,_,a3,step i x J2 ex w2,fun b J4 H4 r4 e4 q=>?_⟩
   cases b with
   | false =>
    simp only [Bool.false_eq_true,if_false] at q ⊢
    exact ⟨_,by omega,rfl,hlt,J4,r4,(e2.trans e3).trans e4,q⟩
   | true =>
    simp only [if_true] at q ⊢
    refine ⟨_,_,_,a3.go r4 e4,q,fun yk J5 u H5 rk r5 e5 q5=>?_⟩
    refine ⟨_,_,_,(a3.go r4 e4).go r5 e5,q5,fun z J6 vz H6 rz r6 e6 ⟨kvs,ep2,kk,ek,jD,hl,q6⟩=>?_⟩
    subst ek
    cases rk
    obtain ⟨gs,h1,h2⟩:=r6 _ _ jD
    have pk:=fg h2
    refine ⟨gs,ep2,kk,rfl,h1,by rw [← pk.len];exact hl,it.xs.length - (i + 1),by omega,fun ep'=>⟨rfl,hlt,_,r6.lI jD h1 (pk.pu rz),?_,q6 ep'⟩⟩
    exact ((((e2.trans e3).trans e4).trans e5).trans e6).trans (Ext.lI (K:=X.K) jD h1)
  ·have ei:i=it.xs.length:=by omega
   subst ei
   exact .inl ⟨ir.stop J2 H2 e2 r2 (wok _ J2 w2),k (.ref D) J2 _ H2 rfl r2 (e1.trans e2) (fin J2 w2)⟩⟩
theorem Rh {X:Cx} {ifs:List Expr} {t t':TT} (h:Nr X ifs t) (k:∀ σ H Q,t' σ H Q→t σ H Q):Nr X ifs t':=fun pins s σ H Q I q=>h pins s σ H Q I (k _ _ _ q)
variable {kx vx iter cnd:Expr} {x y:Str} {px py:Pos} {sc:Scope} {pos spos:Pos} {wi:tQ} {tk te:dG} {tc:mS} {i:Nat}
theorem Pf (osc:Scope) (N:List Str) (ks:List (Str × Nat)) (hc:X.calm=true) (ho:X.env.scope=osc) (hN:X.N=N) (hi:RI X G (.Name x px) iter wi) (hk:∀ cl C s₀ H₀ fp pins,RE (fv X sc cl C x ks s₀ H₀ fp pins) G kx tk) (he:∀ cl C s₀ H₀ fp pins,RE (fv X sc cl C x ks s₀ H₀ fp pins) G vx te)
  (ok:cQ sc osc N x ks:=by decide +kernel) (hs:∀ x,foldedSetIterable iter X.env x=pure x:=by intro _;rfl):RE X G (.DictComp kx vx [⟨.Name x px,iter,[],0⟩] sc pos) (Rp wi ks yz tk te) :=
 ⟨mh (OH osc N ks hc ho hN hi.run (fun cl C s₀ H₀ fp pins=>(hk cl C s₀ H₀ fp pins).run) (fun cl C s₀ H₀ fp pins=>(he cl C s₀ H₀ fp pins).run) (fun cl C s₀ H₀ fp pins=>Rh IC fun σ H Q ⟨τ,J,Q2,a2,q,k⟩=>k true J H a2.hp .refl q) ok hs) He⟩
end
def AS (tabs:List Addr):cJ:=fun xs J Q _=>∃ ns:List Int,xs=[.fl (ns.map .int)]∧ns.length≤63∧(∀ T∈tabs,J T=some .tab)∧(∀ a,a ∉ tabs→J a=none)∧∀ J',(∀ T∈tabs,J' T=some .tab)→Q (.bl true) J'
def Gf (tabs:List Addr) (K:PySem.W.Frag):Sp:=fun vs H Q _=>∃ (a:Addr) (ns:List Int),vs=[.ref a]∧di K H a (ns.map V.int)∧ns.length≤63∧(∀ T∈tabs,H T=some (.ext (eX T))) ∧
 (∀ b,H b≠none→b=a∨b∈tabs)∧(∀ u,H a=some u→∃ o xs,u=.rQ o (.lst xs))∧∀ H',bF H H'→Q (.bl true) H'
theorem C3 {P:Program} {w:World} {K:PySem.W.Frag} {mg:Str→Option Value} {base:Heap} {k:Nat} {f:Addr} {fd:FuncData} {ps:List Str} {tabs:List Addr} (F:aL P w K mg base (dh P w) k f fd ps (d4 K (AS tabs))) :
  aL P w K mg base L2.ra k f fd ps (Gf tabs K) :=
 F.PM.imp fun vs H Q E ⟨a,ns,e,hS,hl,hT,hA,hK,q⟩=>by
  subst e
  classical
  have na:∀ u,H a=some u→a ∉ tabs:=fun u hu hm=>by
   obtain ⟨o,xs,rfl⟩:=hK u hu
   rw [hT a hm] at hu;cases hu
  refine ⟨[.fl (ns.map .int)],fun b=>if b∈tabs then some .tab else none,fun x J'=>x=.bl true∧∀ T∈tabs,J' T=some .tab,fun _ _=>False,⟨.ref a,[],rfl,⟨a,ns.map V.int,rfl,?_,pQ ns⟩,rfl⟩,?_,⟨ns,rfl,hl,fun T hT=>if_pos hT,fun b hb=>if_neg hb,fun J' h=>⟨rfl,h⟩⟩,?_,?_⟩
  ·rcases hS with h | h
   ·refine .inl ⟨?_,h⟩
    have:a ∉ tabs:=by
     rcases h with h | ⟨o,h⟩
     ·exact na _ h
     ·exact na _ h
    exact if_neg this
   ·exact .inr h
  ·intro b o z
   by_cases hb:b∈tabs
   ·have z':=(if_pos hb).symm.trans z
    cases z'
    exact hT b hb
   ·have z':=(if_neg hb).symm.trans z
    cases z'
  ·rintro z J' u H' rz rr ee ⟨rfl,ht⟩
   cases rz
   refine q H' fun b o hb=>?_
   rcases hA b (by rw [hb];simp) with rfl | hm
   ·obtain ⟨ob,xs,rfl⟩:=hK o hb
    exact (ee.ll b _ (if_neg (na _ hb)) hb (.inr ⟨_,_,rfl⟩)).2
   ·have:=hT b hm
    rw [hb] at this;cases this
    exact rr b _ (ht b hm)
  ·intro _ _ _ _ _ z;exact z.elim
end Ov
namespace L2
open PySem PySem.Spec PyProof.Rows
def Qx (k:Str):Value→Bool
 | .str y _=>y.cps.toList == k.cps.toList
 | _=>false
theorem DR {ss:List Str} {us:List Value} (r:Vals (ss.map V.str) us):us.length=ss.length∧∀ (j:Nat) (u:Value),us[j]?=some u→∃ y t,ss[j]?=some y∧u=.str y t:=by
 induction ss generalizing us with
 | nil=>cases r;exact ⟨rfl,fun j u e=>by simp at e⟩
 | cons y ss ih =>
  rw [List.map_cons] at r
  cases r with
  | cons ru rr =>
   obtain ⟨t,rfl⟩:=ru
   obtain ⟨h1,h2⟩:=ih rr
   refine ⟨by simp [h1],fun j u e=>?_⟩
   cases j with
   | zero=>cases e;exact ⟨y,t,rfl,rfl⟩
   | succ j=>exact h2 j u (by simpa using e)
theorem uD {α β:Type} (f:α→β):∀ (l:List α) (j:Nat),(l.eraseIdx j).map f=(l.map f).eraseIdx j
 | [],_=>rfl
 | _ :: _,0=>rfl
 | x :: l,j + 1=>by simp only [List.eraseIdx_cons_succ,List.map_cons,uD f l j]
section
variable {X:Cx}
def FW:V→List V→Hp→VK→Prop:=fun x vs H Q=>∃ (l:Addr) (ss:List Str) (k:Str) (j:Nat),x=.ref l∧vs=[.str k]∧H l=some (.lst (ss.map V.str))∧ss[j]?=some k∧(∀ m:Nat,m < j→ss[m]?≠some k)∧Q .non (upd H l (.lst ((ss.eraseIdx j).map V.str)))
theorem Ag:rD X "list.remove" FW:=by
 intro pins s σ H x vs v us Q I rx rv h
 obtain ⟨l,ss,k,j,rfl,rfl,hH,hj,hno,q⟩:=h
 cases rx
 obtain ⟨u,rfl,ru⟩:=rv.one
 obtain ⟨t,rfl⟩:=ru
 obtain ⟨z,its,n,r,hl,e⟩:=I.HI hH
 obtain ⟨h1,h2⟩:=DR r
 obtain ⟨hjl,hje⟩:=List.getElem?_eq_some_iff.mp hj
 have hz:ss.length≤sizeLine:=by simpa using z
 have at_:∀ (m:Nat) (hm:m < its.toArray.size),Qx k its.toArray[m]=decide (ss[m]?=some k):=fun m hm=>by
  obtain ⟨y,t',hy,hu⟩:=h2 m its[m] (List.getElem?_eq_getElem (by simpa using hm))
  show Qx k its[m]=_
  rw [hu,hy]
  show (y.cps.toList == k.cps.toList)=_
  by_cases hk:y=k
  ·subst hk;simp
  ·have:(y.cps.toList == k.cps.toList)=false:=by
    rw [beq_eq_false_iff_ne]
    intro z
    exact hk (by cases y;cases k;simp at z;rw [z])
   rw [this];symm;exact decide_eq_false fun z=>hk (Option.some.inj z)
 refine call_meets PySem.F.slot_list_remove ⟨_,e,rfl⟩ PySem.F.entry_list_remove (PySem.F.args_list_remove_2 _ _)
  (MeetsSeq.list_remove l its.toArray n (.str k t) (Qx k) (fun y hy=>?_) j (by simpa using (show j < its.length by omega)) ?_ (fun m hm hlt=>?_) (by rw [List.size_toArray];omega)) ⟨e,?_⟩
 ·obtain ⟨m,hm⟩:=List.mem_iff_getElem?.mp (show y∈its by simpa using hy)
  obtain ⟨y',t',_,rfl⟩:=h2 m y hm
  exact SeqRoads2.EqGives.str _ _ _ _
 ·rw [at_];exact decide_eq_true hj
 ·rw [at_];exact decide_eq_false (hno m hlt)
 ·refine ⟨.non,_,I.HH (its':=its.eraseIdx j) hH e (by rw [List.eraseIdxIfInBounds_toArray]) ?_ ?_,rfl,q⟩
  ·rw [uD];exact r.eraseIdx j
  ·rw [List.length_map];exact Nat.le_trans (List.length_eraseIdx_le _ _) hz
end
end L2
namespace Ov
open PySem PySem.Spec PyProof.Rows
open L2 (V HO Hp Inv Cx VK XK TE TT TA TS TG rF TI TO me Ends xA Loc Gl Rd RelV Vals fT y6 cD rA uu rD md R2 upd aE aK di g7 Sp tH It bF dP bU Passes qA aH Meth Mk Binds aL cA aw dJ gY fC)
section
variable {X:Cx} {G:G2}
def Mq:DU:=fun x xs J Q=>∃ (a:Addr) (ss:List Str) (k:Str) (j:Nat),x=.ref a∧xs=[.str k]∧J a=some (.lst (ss.map .str))∧ss[j]?=some k∧(∀ m:Nat,m < j→ss[m]?≠some k)∧Q (.int (j:Nat)) J
def BO:DU:=fun x xs J Q=>∃ (a:Addr) (ss:List Str) (k:Str) (j:Nat),x=.ref a∧xs=[.str k]∧J a=some (.lst (ss.map .str))∧ss[j]?=some k∧(∀ m:Nat,m < j→ss[m]?≠some k)∧Q .non (put J a (.lst ((ss.eraseIdx j).map .str)))
theorem Dd:K3 X "list" "list.remove" BO:=⟨_,L2.Ag,fun J H x xs v vs Q2 Q rx rs r ⟨a,ss,k,j,ex,exs,ja,hj,hno,q⟩ kn=>by
 subst ex exs;cases rx
 obtain ⟨w,us,rfl,rw',e⟩:=rs;cases e;cases rw'
 obtain ⟨ws,h1,h2⟩:=r _ _ ja
 cases j3 h2
 exact ⟨a,ss,k,j,rfl,rfl,h1,hj,hno,kn .non _ _ _ rfl (r.wrote (ys:=(ss.eraseIdx j).map .str) ja h1 pR) (.wrote ja h1) q⟩⟩
variable {a b c:Expr} {ta tb tc:dG} {pos:Pos}
def wy (q q':nC) (ta tb tc:dG):dG:=fun τ J Q=>ta τ J fun x J1=>tb τ J1 fun y J2=>q x y J2 fun z J3=>JX z fun k=>(if k=true then tc τ J3 fun w J4=>q' y w J4 Q else Q (.bl false) J3)
theorem zL {r r':R2} {q q':nC} (lr:LR X.K r q) (lr':LR X.K r' q'):∀ σ H Q,LE X.K G (wy q q' ta tb tc) σ H Q→L2.Gw r r' (LE X.K G ta) (LE X.K G tb) (LE X.K G tc) σ H Q:=fun σ H Q ⟨τ,J,Q2,a2,hh,k⟩=>⟨τ,J,_,a2,hh,fun x J1 v H1 rx r1 e1 q1=>⟨τ,J1,_,a2.go r1 e1,q1,fun y J2 w H2 ry r2 e2 q2 =>
  lr J2 H2 x y v w _ _ (e2.rep rx) ry r2 q2 fun z J3 u H3 rz r3 e3 hz=>by
   obtain ⟨kk,ez,q3⟩:=pG hz
   subst ez;cases rz
   refine ⟨kk,rfl,?_⟩
   cases kk with
   | false=>simp only [Bool.false_eq_true,if_false] at q3 ⊢;exact k (.bl false) J3 _ H3 rfl r3 ((e1.trans e2).trans e3) q3
   | true =>
    simp only [if_true] at q3 ⊢
    exact ⟨τ,J3,_,((a2.go r1 e1).go r2 e2).go r3 e3,q3,fun w2 J4 u4 H4 r4 rr4 e4 q4=>lr' J4 H4 y w2 w u4 Q2 Q ((e3.trans e4).rep ry) r4 rr4 q4 fun z' J' u' H' rz' rr' ee' qq=>k z' J' u' H' rz' rr' ((((e1.trans e2).trans e3).trans e4).trans ee') qq⟩⟩⟩
theorem F1 {op op':CmpOp} {q q':nC} (ho:nB X (compareOp op) q) (ho':nB X (compareOp op') q') (ha:RE X G a ta) (hb:RE X G b tb) (hc:RE X G c tc) (hm:lastMarks [op,op'] [b,c]=false:=by with_unfolding_all rfl) :
  RE X G (.Compare a [op,op'] [b,c] pos) (wy q q' ta tb tc):=by
 obtain ⟨r,h,lr⟩:=ho
 obtain ⟨r',h',lr'⟩:=ho'
 exact ⟨mh (L2.FA h h' ha.run hb.run hc.run hm) (zL lr lr')⟩
end
end Ov
namespace L2
open PySem PySem.Spec PyProof.Rows
def R9 (K:PySem.W.Frag) (a:Addr):It :=
 ⟨fun i H=>∃ xs x,di K H a xs∧xs[i]?=some x,
  fun i H z H'=>∃ T x,H T=none∧z=.ref T∧H'=upd H T (.tup [.int (i:Nat),x])∧(∀ xs,di K H a xs→xs[i]?=some x),
  fun i H=>∃ xs,di K H a xs∧xs.length≤i⟩
theorem DM {P:Program} {w:World} {K:PySem.W.Frag} {elts:List Expr} {x1} {pos:Pos} {e it l:Addr} (ne:e≠it) :
  Turn P w K (.Tuple elts x1 pos) (R9 K l) [e,it] e (fun i h=>(∃ old,IsEnum h e it (i:Int) old)∧h.IsListIter it l i) where
 mem:=by simp
 obj:=fun i h ⟨⟨old,he⟩,h1⟩ c hc=>by
  simp only [List.mem_cons,List.not_mem_nil,or_false] at hc
  rcases hc with rfl | rfl
  ·exact ⟨_,he,fun v z=>by cases z⟩
  ·obtain ⟨o,e,c,d⟩:=h1;exact ⟨o,e,fun v z=>by rw [d] at z;cases z⟩
 keep:=fun i h h' ⟨⟨old,he⟩,h1⟩ k=>⟨⟨old,k e (by simp) _ he⟩,h1.at fun o q=>k it (by simp) o q⟩
 item:=by
  intro X hP hw hK hc i pins s σ H E I hf st hg
  subst hP hw hK
  obtain ⟨⟨old,he⟩,h1⟩:=st
  obtain ⟨xs,x,hqx,hx⟩:=hg
  obtain ⟨its,rv,p,hzx⟩:=I.list hqx
  obtain ⟨u,hu,rx⟩:=rv.get hx
  refine wpAny_pyNext_enum_item he h1 p.isList (x:=u) (by simpa using hu) ne fun h' a1 a3 a5 a6 hk=>?_
  refine ⟨_,rfl,wpAny_letOwnedTupleGo_enum a1 fun h'' hz' hs'=>?_⟩
  have hT:H s.heap.objs.size=none:=I.hok.fresh (Nat.le_refl _)
  have lt:∀ {c o},s.heap.get? c=some o→c≠s.heap.objs.size:=fun e=>Nat.ne_of_lt (Heap.lt_size e)
  have I0:Inv X pins σ (upd H s.heap.objs.size (.tup [.int (i:Nat),x])) { s with heap:=s.heap.push { cls:=.type "tuple",data:=.seq #[.int i s.toks,u] },toks:=s.toks + 1 }:=I.laid (t':=s.toks + 1) (fun b u e=>Heap.get?_push_of_some _ e) (Nat.le_refl _) ⟨by simp [sizeLine],[.int i s.toks,u],.cons ⟨_,rfl⟩ (.cons rx .nil),⟨_,Heap.get?_push_size _ rfl,rfl,_,rfl⟩⟩
  have fpn:∀ b∈[e,it],b≠s.heap.objs.size:=fun b hb=>by
   simp only [List.mem_cons,List.not_mem_nil,or_false] at hb
   rcases hb with rfl | rfl
   ·exact lt he
   ·obtain ⟨o,e,_⟩:=h1;exact lt e
  have fpu:∀ b∈[e,it],jy X pins (upd H s.heap.objs.size (.tup [.int (i:Nat),x])) b:=fun b hb=>⟨by rw [aK (fpn b hb)];exact (hf b hb).1,(hf b hb).2⟩
  have I1:Inv X pins σ (upd H s.heap.objs.size (.tup [.int (i:Nat),x])) { s with heap:=h'',toks:=s.toks + 1 }:=Inv.q_ (s:={ s with heap:=s.heap.push { cls:=.type "tuple",data:=.seq #[.int i s.toks,u] },toks:=s.toks + 1 }) (t':=s.toks + 1) (ch:=[e,it]) I0 (fun b o hb eb=>by
   simp only [List.mem_cons,List.not_mem_nil,or_false,not_or] at hb
   rcases Heap.get?_push_cases eb with ⟨rfl,rfl⟩ | e'
   ·exact hs'.extBut _ _ hb.1 a5
   ·exact hs'.extBut _ _ hb.1 (hk b o hb.1 hb.2 e')) fpu
  refine ⟨.ref s.heap.objs.size,_,I1,rfl,⟨_,x,hT,rfl,rfl,fun zs hq=>by rw [I.kT hq hqx];exact hx⟩,⟨⟨_,by rw [Int.natCast_add];exact hz'⟩,a3.extBut hs'.extBut (Ne.symm ne)⟩,fun b hb=>(fpu b hb).1⟩
 done:=by
  intro X hP hw hK hc i pins s σ H E I hf st hg
  subst hP hw hK
  obtain ⟨⟨old,he⟩,h1⟩:=st
  obtain ⟨xs,hqx,hl⟩:=hg
  obtain ⟨its,rv,p,hzx⟩:=I.list hqx
  have e1:=rv.length
  refine wpAny_pyNext_enum_end (I.ok.hd hc) he h1 p.isList (by rw [List.getElem?_toArray,List.getElem?_eq_none_iff];omega) fun h' hk=>⟨rfl,I.q_ (t':=s.toks) (ch:=[e,it]) (fun b o hb e=>?_) hf⟩
  simp only [List.mem_cons,List.not_mem_nil,or_false,not_or] at hb
  exact hk b o hb.2 e
 self:=fun _ _ _ _ _ st h=>let ⟨⟨_,he⟩,_⟩:=st;wpAny_pyIter_enum he h
def NS (K:PySem.W.Frag) (ta:TA):TI:=fun σ H R=>ta σ H fun vs H1=>∃ a xs,vs=[.ref a]∧di K H1 a xs∧R (R9 K a) H1
section
variable {X:Cx}
theorem Iu {l:Expr} {elts:List Expr} {x1} {tp:Pos} {ta:TA} {p pos:Pos} (hg:Gl X "enumerate") (hm:X.mg "enumerate"=none) (ha:PA X [l] ta) (hs:starEach [l] X.env=(false,eval l X.env) :: starEach [] X.env:=by rfl) (hp:(backTo pos (starEach [] X.env)).any (·.1)=false:=by rfl):PI X (.Tuple elts x1 tp) (.Call (.Name "enumerate" p) [l] [] pos) (NS X.K ta):=by
 intro pins s σ H R I h
 refine Call_ (mZ I hg hm PyProof.Rows.Boot.«enumerate» (PyProof.Rows.callWith_type1 (cg (ha pos pins s σ H _ I h) fun us s1 ⟨vs,H1,I1,r1,q1⟩=>?_) hs hp))
 obtain ⟨a,xs,e,hqa,q⟩:=q1
 subst e
 cases r1 with
 | cons r rr =>
  cases rr
  cases r
  obtain ⟨its,rv,pl,hz⟩:=I1.list hqa
  refine call_enumerate_list pl.isList ?_
  intro h' b1 b2 b6 hk
  refine wpAny_pyIter_enum b1 ?_
  have ne:s1.heap.objs.size + 1≠s1.heap.objs.size:=Nat.succ_ne_self _
  refine ⟨_,_,_,_,H1,rfl,I1.kept (t':=s1.toks) hk,DM ne,⟨⟨_,b1⟩,b2⟩,fun c hc=>?_,q⟩
  have hc':s1.heap.objs.size≤c:=by
   simp only [List.mem_cons,List.not_mem_nil,or_false] at hc
   show @LE.le Nat _ _ _
   rcases hc with rfl | rfl
   ·exact Nat.le_add_right _ _
   ·exact Nat.le_refl _
  exact I1.CT hc' (I1.hok.fresh hc')
end
end L2
namespace Ov
open PySem PySem.Spec PyProof.Rows
open L2 (V HO Hp Inv Cx VK XK TE TT TA TS TG rF TI TO me Ends xA Loc Gl Rd RelV Vals fT y6 cD rA uu rD md R2 upd aE aK di g7 Sp tH It bF dP bU Passes qA aH Meth Mk Binds aL cA aw dJ gY fC)
def xM (xs:List PV):List PV:=(List.range xs.length).zipWith (fun i x=>PV.tup [.int ((i:Nat):Int),x]) xs
theorem lO (xs:List PV):(xM xs).length=xs.length:=by unfold xM;simp
theorem uC (xs:List PV) (i:Nat) (x:PV) (h:xs[i]?=some x):(xM xs)[i]?=some (.tup [.int (i:Int),x]):=by
 unfold xM
 obtain ⟨hi,e⟩:=List.getElem?_eq_some_iff.mp h
 rw [List.getElem?_zipWith,List.getElem?_range hi,h]
section
variable {X:Cx} {G:G2}
def Sm (ta:p7):tQ:=fun τ J R=>ta τ J fun vs J1=>Dt vs fun x=>v_ (nt J1 x) fun xs=>R ⟨xM xs,fun J'=>nt J' x=some xs⟩ J1
theorem IS {l:Expr} {elts:List Expr} {x1} {tp:Pos} {ta:p7} {p pos:Pos} (hg:Gl X "enumerate") (hm:X.mg "enumerate"=none) (ha:RA X G [l] ta) (hs:starEach [l] X.env=(false,eval l X.env) :: starEach [] X.env:=by rfl) (hp:(backTo pos (starEach [] X.env)).any (·.1)=false:=by rfl) :
  RI X G (.Tuple elts x1 tp) (.Call (.Name "enumerate" p) [l] [] pos) (Sm ta):=⟨Ng (L2.Iu hg hm ha.run hs hp) fun σ H R ⟨τ,J,R2,a2,h,k⟩=>⟨τ,J,_,a2,h,fun vs J1 us H1 rs r1 e1 hh=>by
 obtain ⟨x,ev,hh⟩:=k6 hh;obtain ⟨xs,hx,q⟩:=e_ hh
 subst ev
 obtain ⟨v,us',rfl,rv,e'⟩:=rs
 cases e'
 obtain ⟨a,ws,rfl,h1,h2⟩:=pD hx rv r1
 refine ⟨a,ws,rfl,h1,k _ J1 _ H1 ?_ r1 e1 q⟩
 have at_:∀ J' H',Ext X.K J1 H1 J' H'→Rep X.K J' H'→nt J' x=some xs→∃ vs,di X.K H' a vs∧aR X.K J' H' xs vs:=fun J' H' e r o=>by
  obtain ⟨c,vs,eb,g1,g2⟩:=pD o (e.rep rv) r
  cases eb
  exact ⟨vs,g1,g2⟩
 exact {
  go:=fun J' H' e r o i hi=>by
   obtain ⟨vs,s,rs⟩:=at_ J' H' e r o
   rw [lO] at hi
   exact ⟨vs,vs[i]'(by rw [← rs.length];exact hi),s,by simp⟩
  yl:=fun J' H' e r o i hi v H2 y=>by
   obtain ⟨vs,s,rs⟩:=at_ J' H' e r o
   obtain ⟨T,z,hT,rfl,rfl,y1⟩:=y
   obtain ⟨c,ec,rc⟩:=rs.get' (y1 vs s)
   have sm:=bF.new hT (.tup [.int (i:Nat),z])
   have e2:=Ext.same (K:=X.K) (J:=J') sm
   refine ⟨.tup [.int (i:Int),c],uC _ _ _ ec,⟨T,[.int (i:Nat),z],rfl,.inl (.inl aE),e2.jv ⟨.int (i:Nat),_,rfl,rfl,z,_,rfl,rc,rfl⟩⟩,r.same sm,e2⟩
  stop:=fun J' H' e r o=>by
   obtain ⟨vs,s,rs⟩:=at_ J' H' e r o
   exact ⟨vs,s,by rw [lO,← rs.length];exact Nat.le_refl _⟩ }⟩⟩
end
section
variable {X:Cx} {pins:List (Addr × Obj)} {σ:L2.St} {H:Hp} {s:Shared}
open Classical in
def eT (K:PySem.W.Frag) (H:Hp) (zs:List Py) (y:Py) (u:Value):Bool:=decide (∃ z∈zs,∃ v,RelV v u∧At K H z v∧lP z y=true)
end
section
variable {X:Cx} {G:G2}
end
end Ov
namespace Ov
open PySem
structure aG where
 m:Rat
 h:Str
 f:Str
 deriving DecidableEq
def slt (a b:Str):Prop:=a.cps.toList < b.cps.toList
instance (a b:Str):Decidable (slt a b):=inferInstanceAs (Decidable (a.cps.toList < b.cps.toList))
def aG.lt (a b:aG):Bool:=if a.m=b.m then (if a.h=b.h then decide (slt a.f b.f) else decide (slt a.h b.h)) else decide (a.m < b.m)
theorem oR (a:Str):¬ slt a a:=List.lt_irrefl _
theorem pW {a b c:Str} (h:slt a b) (k:slt b c):slt a c:=List.lt_trans h k
theorem Fc:∀ (a b:List Nat),a≠b→a < b∨b < a
 | [],[],h=>absurd rfl h
 | [],_ :: _,_=>.inl (List.nil_lt_cons _ _)
 | _ :: _,[],_=>.inr (List.nil_lt_cons _ _)
 | x :: a,y :: b,h=>by
  rcases Nat.lt_trichotomy x y with z | z | z
  ·exact .inl (List.cons_lt_cons_iff.mpr (.inl z))
  ·subst z
   rcases Fc a b (fun e=>h (by rw [e])) with q | q
   ·exact .inl (List.cons_lt_cons_iff.mpr (.inr ⟨rfl,q⟩))
   ·exact .inr (List.cons_lt_cons_iff.mpr (.inr ⟨rfl,q⟩))
  ·exact .inr (List.cons_lt_cons_iff.mpr (.inl z))
theorem wY {a b:Str} (h:a≠b):slt a b∨slt b a:=by
 have ne:a.cps.toList≠b.cps.toList:=fun e=>h (by cases a;cases b;simp at e;rw [e])
 exact Fc _ _ ne
theorem MK {a b:Str} (h:slt a b):a≠b:=fun e=>by subst e;exact oR _ h
theorem aG.lt_iff (a b:aG):a.lt b=true↔a.m < b.m∨(a.m=b.m∧(slt a.h b.h∨(a.h=b.h∧slt a.f b.f))):=by
 unfold aG.lt
 by_cases e:a.m=b.m
 ·rw [if_pos e]
  have n:¬ a.m < b.m:=by rw [e];exact Rat.lt_irrefl
  by_cases k:a.h=b.h
  ·rw [if_pos k]
   have n2:¬ slt a.h b.h:=fun z=>MK z k
   simp [e,k,n,n2]
   try (intro z;first | exact absurd z Rat.lt_irrefl | exact absurd z (oR _))
  ·rw [if_neg k]
   simp [e,k]
   try (intro z;exact absurd z Rat.lt_irrefl)
 ·rw [if_neg e]
  simp [e]
theorem aG.LM (a:aG):a.lt a=false:=by
 cases h:a.lt a with
 | false=>rfl
 | true =>
  rcases (aG.lt_iff a a).mp h with h | ⟨_,h | ⟨_,h⟩⟩
  ·exact absurd h Rat.lt_irrefl
  ·exact absurd h (oR _)
  ·exact absurd h (oR _)
theorem uQ {a b c:Rat} (h:a < b) (k:b < c):a < c:=by grind
theorem aG.lt_trans {a b c:aG} (h:a.lt b=true) (k:b.lt c=true):a.lt c=true:=by
 rw [aG.lt_iff] at *
 rcases h with h | ⟨e,h⟩ <;> rcases k with k | ⟨e',k⟩
 ·exact .inl (uQ h k)
 ·exact .inl (e' ▸ h)
 ·exact .inl (e ▸ k)
 ·refine .inr ⟨e.trans e',?_⟩
  rcases h with h | ⟨z,h⟩ <;> rcases k with k | ⟨z',k⟩
  ·exact .inl (pW h k)
  ·exact .inl (z' ▸ h)
  ·exact .inl (z ▸ k)
  ·exact .inr ⟨z.trans z',pW h k⟩
theorem aG.E8 {a b:aG} (h:a≠b):a.lt b=true∨b.lt a=true:=by
 rw [aG.lt_iff,aG.lt_iff]
 by_cases e:a.m=b.m
 ·by_cases z:a.h=b.h
  ·have:a.f≠b.f:=fun q=>h (by cases a;cases b;simp_all)
   rcases wY this with q | q
   ·exact .inl (.inr ⟨e,.inr ⟨z,q⟩⟩)
   ·exact .inr (.inr ⟨e.symm,.inr ⟨z.symm,q⟩⟩)
  ·rcases wY z with q | q
   ·exact .inl (.inr ⟨e,.inl q⟩)
   ·exact .inr (.inr ⟨e.symm,.inl q⟩)
 ·rcases (by grind:a.m < b.m∨b.m < a.m) with q | q
  ·exact .inl (.inl q)
  ·exact .inr (.inl q)
def jF (l:List aG):Prop:=l.Pairwise fun a b=>a.lt b=true
def kC (b:aG) (l:List aG):List aG:=l.filter (fun x=>x.lt b) ++ b :: l.filter (fun x=>!x.lt b)
def uR (h f:Str) (x:aG):Bool:=decide (x.h=h∧x.f=f)
def dk (h f:Str) (l:List aG):List aG:=l.filter fun x=>!uR h f x
theorem uB {h f:Str} {l:List aG} (s:jF l):jF (dk h f l):=s.filter _
theorem xR {b:aG} {l:List aG} (s:jF l) (n:∀ x∈l,x≠b):jF (kC b l):=by
 unfold kC jF
 rw [List.pairwise_append]
 refine ⟨s.filter _,?_,?_⟩
 ·rw [List.pairwise_cons]
  refine ⟨fun y hy=>?_,s.filter _⟩
  rw [List.mem_filter] at hy
  rcases aG.E8 (n y hy.1) with q | q
  ·simp [q] at hy
  ·exact q
 ·intro x hx y hy
  rw [List.mem_filter] at hx
  rcases List.mem_cons.mp hy with rfl | hy
  ·exact hx.2
  ·rw [List.mem_filter] at hy
   rcases aG.E8 (n y hy.1) with q | q
   ·simp [q] at hy
   ·exact aG.lt_trans hx.2 q
theorem Hi {h f:Str} {l:List aG} {m:Rat}:∀ x∈dk h f l,x≠⟨m,h,f⟩:=fun x hx e=>by
 subst e
 unfold dk at hx
 rw [List.mem_filter] at hx
 simp [uR] at hx
theorem uN (p:aG→Bool):∀ {l:List aG} {i:Nat},i≤l.length→(∀ (j:Nat) x,j < i→l[j]?=some x→p x=true)→(∀ (j:Nat) x,i≤j→l[j]?=some x→p x=false)→l.take i ++ l.drop i=l∧l.filter p=l.take i∧l.filter (fun x=>!p x)=l.drop i
 | l,0,_,_,h=>by
  refine ⟨by simp,?_,?_⟩
  ·rw [List.take_zero]
   apply List.filter_eq_nil_iff.mpr
   intro x hx
   obtain ⟨j,hj⟩:=List.mem_iff_getElem?.mp hx
   rw [h j x (Nat.zero_le _) hj];simp
  ·rw [List.drop_zero]
   apply List.filter_eq_self.mpr
   intro x hx
   obtain ⟨j,hj⟩:=List.mem_iff_getElem?.mp hx
   rw [h j x (Nat.zero_le _) hj];rfl
 | [],i + 1,hi,_,_=>by simp at hi
 | x :: l,i + 1,hi,h1,h2=>by
  obtain ⟨a,b,c⟩:=uN p (l:=l) (i:=i) (by simpa using hi) (fun j y hj e=>h1 (j + 1) y (by omega) (by simpa using e)) (fun j y hj e=>h2 (j + 1) y (by omega) (by simpa using e))
  have hx:p x=true:=h1 0 x (by omega) rfl
  refine ⟨by simp,?_,?_⟩
  ·rw [List.filter_cons,hx];simp [b]
  ·rw [List.filter_cons,hx];simp [c]
theorem Bw {b:aG} {l:List aG} {i:Nat} (hi:i≤l.length) (h1:∀ (j:Nat) x,j < i→l[j]?=some x→x.lt b=true) (h2:∀ (j:Nat) x,i≤j→l[j]?=some x→x.lt b=false):l.take i ++ b :: l.drop i=kC b l:=by
 obtain ⟨_,e1,e2⟩:=uN (fun x=>x.lt b) hi h1 h2
 unfold kC
 rw [e1,e2]
theorem Cc {l:List aG} {b x y:aG} {i j:Nat} (s:jF l) (hx:l[i]?=some x) (hy:l[j]?=some y) (h:j≤i) (k:x.lt b=true):y.lt b=true:=by
 rcases Nat.lt_or_eq_of_le h with h | h
 ·obtain ⟨hi,ei⟩:=List.getElem?_eq_some_iff.mp hx
  obtain ⟨hj,ej⟩:=List.getElem?_eq_some_iff.mp hy
  have:=List.pairwise_iff_getElem.mp s j i hj hi h
  rw [ei,ej] at this
  exact aG.lt_trans this k
 ·subst h;rw [hx] at hy;cases hy;exact k
theorem yY {l:List aG} {b x y:aG} {i j:Nat} (s:jF l) (hx:l[i]?=some x) (hy:l[j]?=some y) (h:i≤j) (k:x.lt b=false):y.lt b=false:=by
 cases q:y.lt b with
 | false=>rfl
 | true=>rw [Cc s hy hx h q] at k;cases k
theorem EH {b x:aG} {l:List aG} (h:x∈kC b l):x=b∨x∈l:=by
 unfold kC at h
 rcases List.mem_append.mp h with h | h
 ·exact .inr (List.mem_filter.mp h).1
 ·rcases List.mem_cons.mp h with h | h
  ·exact .inl h
  ·exact .inr (List.mem_filter.mp h).1
theorem nL (p:aG→Bool):∀ l:List aG,(l.filter p).length + (l.filter fun x=>!p x).length=l.length
 | []=>rfl
 | x :: l=>by
  have:=nL p l
  cases h:p x <;> simp [h] <;> omega
theorem xQ (b:aG) (l:List aG):(kC b l).length=l.length + 1:=by
 unfold kC
 rw [List.length_append,List.length_cons]
 have:=nL (fun x=>x.lt b) l
 omega
theorem ph (h f:Str) (l:List aG):(dk h f l).length≤l.length:=List.length_filter_le _ _
structure aY where
 m:Rat
 p:Rat
 v:Int
 deriving DecidableEq
def aY.at (l:aY) (t:Rat):Rat:=l.p + (t - l.m) * l.v
def turned (rows:List aY) (t:Rat) (v:Int):List aY :=
 match rows.getLast? with
 | none=>[]
 | some l =>
  let rest:=if l.m=t then rows.dropLast else rows
  if rest.getLast?.map aY.v=some v then rest else rest ++ [⟨t,l.at t,v⟩]
theorem il (ls:List aY) (l:aY) (t:Rat) (v:Int):turned (ls ++ [l]) t v =
  if l.m=t then (if ls.getLast?.map aY.v=some v then ls else ls ++ [⟨t,l.at t,v⟩]) else (if l.v=v then ls ++ [l] else ls ++ [l] ++ [⟨t,l.at t,v⟩]):=by
 unfold turned
 simp only [List.getLast?_concat,List.dropLast_concat]
 split
 ·rfl
 ·simp only [List.getLast?_concat,Option.map_some,Option.some.injEq]
theorem uX {rows:List aY} {t:Rat} {v:Int} (h:rows≠[]):turned rows t v≠[]:=by
 obtain ⟨ls,l,rfl⟩:∃ ls l,rows=ls ++ [l]:=⟨rows.dropLast,rows.getLast h,(List.dropLast_concat_getLast h).symm⟩
 rw [il]
 split
 ·split
  ·rename_i e
   intro z;subst z;cases e
  ·simp
 ·split <;> simp
theorem AZ {rows:List aY} {t:Rat} {v:Int} {x:aY} (h:x∈turned rows t v):x∈rows∨∃ l∈rows,x=⟨t,l.at t,v⟩:=by
 by_cases e:rows=[]
 ·subst e;cases h
 obtain ⟨ls,l,rfl⟩:∃ ls l,rows=ls ++ [l]:=⟨rows.dropLast,rows.getLast e,(List.dropLast_concat_getLast e).symm⟩
 rw [il] at h
 have key:∀ {y:List aY},(∀ z∈y,z∈ls ++ [l])→x∈y ++ [⟨t,l.at t,v⟩]→x∈ls ++ [l]∨∃ l'∈ls ++ [l],x=⟨t,l'.at t,v⟩:=fun hy hx=>by
  rcases List.mem_append.mp hx with h | h
  ·exact .inl (hy _ h)
  ·exact .inr ⟨l,by simp,by simpa using h⟩
 split at h
 ·split at h
  ·exact .inl (List.mem_append.mpr (.inl h))
  ·exact key (fun z hz=>List.mem_append.mpr (.inl hz)) h
 ·split at h
  ·exact .inl h
  ·exact key (fun z hz=>hz) h
theorem nj (rows:List aY) (t:Rat) (v:Int):(turned rows t v).length≤rows.length + 1:=by
 by_cases e:rows=[]
 ·subst e;simp [turned]
 obtain ⟨ls,l,rfl⟩:∃ ls l,rows=ls ++ [l]:=⟨rows.dropLast,rows.getLast e,(List.dropLast_concat_getLast e).symm⟩
 rw [il]
 split <;> split <;> simp <;> omega
def xV (rows:List aY) (t:Rat):Option aY:=(rows.filter fun l=>decide (l.m≤t)).getLast?
def lb (ms:List Rat) (t:Rat):Nat→Nat
 | 0=>0
 | k + 1=>if ms.getD k 0≤t then k + 1 else lb ms t k
theorem JN (ms:List Rat) (t:Rat):∀ k,lb ms t k≤k
 | 0=>Nat.le_refl _
 | k + 1=>by unfold lb;split;exact Nat.le_refl _;exact Nat.le_succ_of_le (JN ms t k)
theorem EZ {ms:List Rat} {t:Rat} {j:Nat} (h:ms.getD j 0≤t):∀ {k},j < k→0 < lb ms t k
 | 0,hk=>absurd hk (Nat.not_lt_zero _)
 | k + 1,hk=>by
  unfold lb
  split
  ·exact Nat.succ_pos _
  ·rename_i c
   exact EZ h (by rcases Nat.lt_succ_iff_lt_or_eq.mp hk with e | e;exact e;subst e;exact absurd h c)
theorem BD (t:Rat) (rows:List aY):∀ k,k≤rows.length→((rows.take k).filter fun l=>decide (l.m≤t)).getLast?=if lb (rows.map aY.m) t k=0 then none else rows[lb (rows.map aY.m) t k - 1]?
 | 0,_=>rfl
 | k + 1,hk=>by
  have hk':k < rows.length:=by omega
  have e:rows.take (k + 1)=rows.take k ++ [rows[k]]:=by rw [List.take_add_one,List.getElem?_eq_getElem hk'];rfl
  have em:(rows.map aY.m).getD k 0=rows[k].m:=by simp [List.getD,hk']
  rw [e,List.filter_append]
  unfold lb
  rw [em]
  by_cases c:rows[k].m≤t
  ·rw [if_pos c,List.filter_cons,if_pos (decide_eq_true c),List.filter_nil,List.getLast?_concat,if_neg (Nat.succ_ne_zero _),Nat.add_sub_cancel,List.getElem?_eq_getElem hk']
  ·rw [if_neg c,List.filter_cons,if_neg (by simp [c]),List.filter_nil,List.append_nil]
   exact BD t rows k (by omega)
theorem E5 (rows:List aY) (t:Rat):xV rows t=if lb (rows.map aY.m) t rows.length=0 then none else rows[lb (rows.map aY.m) t rows.length - 1]?:=by
 have:=BD t rows rows.length (Nat.le_refl _)
 rw [List.take_length] at this
 exact this
def PZ (g:Option Rat) (t:Rat):Bool:=match g with | none=>true | some q=>decide (t < q)
def there (rows:List aY) (g:Option Rat) (t:Rat):Bool :=
 match rows.head? with
 | none=>false
 | some l=>!decide (t < l.m) && PZ g t
theorem GB {rows:List aY} {g:Option Rat} {t:Rat} (h:there rows g t=true):∃ l,xV rows t=some l∧l∈rows∧l.m≤t∧0 < lb (rows.map aY.m) t rows.length∧rows[lb (rows.map aY.m) t rows.length - 1]?=some l:=by
 cases rows with
 | nil=>cases h
 | cons l0 ls =>
  have h0:l0.m≤t:=by
   unfold there at h
   simp only [List.head?_cons,Bool.and_eq_true,Bool.not_eq_true',decide_eq_false_iff_not] at h
   exact Rat.not_lt.mp h.1
  have hp:0 < lb ((l0 :: ls).map aY.m) t (l0 :: ls).length:=EZ (j:=0) (by simpa using h0) (by simp)
  have hle:=JN ((l0 :: ls).map aY.m) t (l0 :: ls).length
  have hx:=E5 (l0 :: ls) t
  rw [if_neg (by omega)] at hx
  obtain ⟨l,hl⟩:∃ l,(l0 :: ls)[lb ((l0 :: ls).map aY.m) t (l0 :: ls).length - 1]?=some l:=⟨_,List.getElem?_eq_getElem (by omega)⟩
  rw [hl] at hx
  have hm:=List.mem_of_getLast? hx
  rw [List.mem_filter] at hm
  exact ⟨l,hx,hm.1,of_decide_eq_true hm.2,hp,hl⟩
def Sc (D A:Nat) (q:Rat):Prop:=∃ a:Int,q * (D:Rat)=(a:Rat)∧a.natAbs≤A
theorem Sc.mono {D A B:Nat} {q:Rat} (h:Sc D A q) (k:A≤B):Sc D B q:=let ⟨a,e,l⟩:=h;⟨a,e,Nat.le_trans l k⟩
theorem Oj {D:Nat} (h:0 < D):(D:Rat)≠0:=by
 intro e
 have:D=0:=by exact_mod_cast e
 omega
theorem Sc.sz {D A n:Nat} {q:Rat} (h:Sc D A q) (hD:0 < D) (h1:D < 2 ^ n) (h2:A < 2 ^ n):Sz n q:=by
 obtain ⟨a,e,l⟩:=h
 have nz:=Oj hD
 have:q=Rat.divInt a (D:Int):=by
  rw [Rat.divInt_eq_div,← e]
  have:((D:Int):Rat)=(D:Rat):=rfl
  rw [this]
  generalize (D:Rat)=d at nz ⊢
  grind
 rw [this]
 exact Sz.div ⟨Nat.lt_of_le_of_lt l h2⟩ ⟨by simpa using h1⟩ (by omega)
theorem Sc.scale {D A E:Nat} {p:Rat} (h:Sc D A p):Sc (E * D) (E * A) p:=by
 obtain ⟨a,e,l⟩:=h
 refine ⟨E * a,?_,?_⟩
 ·rw [Rat.intCast_mul,← e]
  have h1:((E * D:Nat):Rat)=(E:Rat) * (D:Rat):=Rat.natCast_mul ..
  have h2:((E:Int):Rat)=(E:Rat):=rfl
  rw [h1,h2]
  grind
 ·rw [Int.natAbs_mul];exact Nat.mul_le_mul (by simp) l
theorem Sc.LV {D A:Nat} {t:Int} {b:Nat} (hb:0 < b) (hd:b ∣ D) (hA:t.natAbs * (D / b)≤A):Sc D A (Rat.divInt t b):=by
 obtain ⟨c,rfl⟩:=hd
 rw [Nat.mul_div_cancel_left _ hb] at hA
 refine ⟨t * c,?_,by rw [Int.natAbs_mul];simpa using hA⟩
 have nb:=Oj hb
 have e1:((b:Int):Rat)=(b:Rat):=rfl
 have e2:((c:Int):Rat)=(c:Rat):=rfl
 rw [Rat.divInt_eq_div,Rat.intCast_mul,e1,e2,Rat.natCast_mul]
 generalize (b:Rat)=b at nb ⊢
 grind
def iw:Nat:=9690712164777231700912800
theorem Su:∀ b:Nat,1≤b→b≤60→b ∣ iw:=by
 intro b h1 h2
 have:∀ b:Fin 61,1≤b.val→b.val ∣ iw:=by decide
 exact this ⟨b,by omega⟩ h1
theorem vN:0 < iw:=by decide
def MM:Nat:=2097152 * iw
structure SQ (D k:Nat) (l:aY):Prop where
 m:Sc iw MM l.m
 p:Sc (D * iw) (iw * 2 ^ 101 + k * (2000 * (D * MM))) l.p
 v:l.v.natAbs≤1000
theorem Oi:MM < 2 ^ 106:=by decide
theorem x8 {q:Rat} (h:Sc iw MM q):Sz 106 q:=h.sz vN (by decide) Oi
structure Gd (D k:Nat) (rows:List aY):Prop where
 ne:rows≠[]
 ok:∀ l∈rows,SQ D k l
 len:rows.length≤k + 1
def Later (c q:Rat):Prop:=q=c∨∃ u s:Nat,1≤u∧u≤60∧1≤s∧s≤500 * u∧q=Rat.divInt ((c.num * u).fdiv c.den + s) u
theorem Later.sc {c q:Rat} {A:Nat} (h:Later c q) (k:Sc iw A c):Sc iw (A + 501 * iw) q:=by
 rcases h with rfl | ⟨u,s,h1,h2,h3,h4,rfl⟩
 ·exact k.mono (Nat.le_add_right _ _)
 obtain ⟨a,e,l⟩:=k
 obtain ⟨w,hw⟩:=Su u h1 h2
 refine Sc.LV (by omega) ⟨w,hw⟩ ?_
 have ew:iw / u=w:=by rw [hw,Nat.mul_div_cancel_left _ (by omega)]
 rw [ew]
 have hf:((c.num * u).fdiv c.den) * c.den≤c.num * u∧c.num * u < ((c.num * u).fdiv c.den + 1) * c.den:=by
  rw [Int.fdiv_eq_ediv_of_nonneg _ (by omega)]
  have:=eY c
  constructor
  ·exact Int.ediv_mul_le _ (by omega)
  ·have:=Int.lt_ediv_add_one_mul_self (c.num * u) this;exact this
 have ea:c.num * (iw:Int)=a * c.den:=by
  have h1:=cast_eq c
  have h2:=d7 c
  have h3:((iw:Nat):Rat)=(((iw:Nat):Int):Rat):=rfl
  have:((c.num * (iw:Int):Int):Rat)=((a * c.den:Int):Rat):=by
   rw [Rat.intCast_mul,Rat.intCast_mul,h1,← e,h3]
   grind
  exact_mod_cast this
 have hL:(iw:Int)=u * w:=by rw [hw];simp
 have hw0:0 < w:=by
  rcases Nat.eq_zero_or_pos w with z | z
  ·rw [z,Nat.mul_zero] at hw;exact absurd hw (by decide)
  ·exact z
 rw [hL] at ea
 have hd:=eY c
 generalize hF:(c.num * u).fdiv c.den=F at hf ⊢
 generalize hN:c.num=N at *
 generalize hDD:(c.den:Int)=d at *
 have g1:F * w≤a:=by
  have:F * w * d≤a * d:=by
   rw [← ea]
   have:=Int.mul_le_mul_of_nonneg_right hf.1 (show (0:Int)≤w by omega)
   calc F * w * d=F * d * w:=by rw [Int.mul_right_comm]
    _≤N * u * w:=this
    _=N * (u * w):=Int.mul_assoc ..
  exact Int.le_of_mul_le_mul_right this hd
 have g2:a≤(F + 1) * w:=by
  have:a * d≤(F + 1) * w * d:=by
   rw [← ea]
   have:=Int.mul_le_mul_of_nonneg_right (Int.le_of_lt hf.2) (show (0:Int)≤w by omega)
   calc N * (u * w)=N * u * w:=(Int.mul_assoc ..).symm
    _≤(F + 1) * d * w:=this
    _=(F + 1) * w * d:=by rw [Int.mul_right_comm]
  exact Int.le_of_mul_le_mul_right this hd
 have hsw:s * w≤500 * (u * w):=by
  calc s * w≤500 * u * w:=Nat.mul_le_mul_right _ h4
   _=500 * (u * w):=Nat.mul_assoc ..
 have huw:w≤u * w:=Nat.le_mul_of_pos_left _ (by omega)
 rw [hw]
 have:(F + s).natAbs * w=((F + s) * w).natAbs:=by rw [Int.natAbs_mul];simp
 rw [this,Int.add_mul]
 rw [Int.add_mul,Int.one_mul] at g2
 have hsw':(s:Int) * w≤500 * ((u * w:Nat):Int):=by exact_mod_cast hsw
 generalize F * (w:Int)=x at *
 have hs0:(0:Int)≤(s:Int) * w:=Int.mul_nonneg (by omega) (by omega)
 generalize (s:Int) * w=y at *
 generalize u * w=z at *
 omega
theorem Later.le {c q:Rat} (h:Later c q):c≤q:=by
 rcases h with rfl | ⟨u,s,h1,h2,h3,h4,rfl⟩
 ·exact Rat.le_refl
 have hf:c.num * u < ((c.num * u).fdiv c.den + 1) * c.den:=by
  rw [Int.fdiv_eq_ediv_of_nonneg _ (by omega)]
  exact Int.lt_ediv_add_one_mul_self (c.num * u) (eY c)
 generalize (c.num * u).fdiv c.den=F at hf ⊢
 have h5:c.num * u≤(F + s) * c.den:=by
  have:(F + 1) * c.den≤(F + s) * c.den:=Int.mul_le_mul_of_nonneg_right (by omega) (by omega)
  omega
 have hu:(0:Rat) < (u:Rat):=by exact_mod_cast (show 0 < u by omega)
 have hd:(0:Rat) < ((c.den:Int):Rat):=by exact_mod_cast eY c
 refine Rat.not_lt.mp fun hlt=>?_
 rw [Rat.divInt_eq_div] at hlt
 have e1:((u:Int):Rat)=(u:Rat):=rfl
 rw [e1,Rat.div_lt_iff hu] at hlt
 have h6:=Rat.mul_lt_mul_of_pos_right hlt hd
 have e2:c * (u:Rat) * ((c.den:Int):Rat)=((c.num * u:Int):Rat):=by
  rw [Rat.intCast_mul,cast_eq c,e1];grind
 rw [e2,← Rat.intCast_mul] at h6
 have h7:(F + s) * c.den < c.num * u:=by exact_mod_cast h6
 omega
section
variable {α:Type} {lt:α→α→Bool}
def qr (lt:α→α→Bool) (b:α) (l:List α):List α:=l.filter (fun x=>lt x b) ++ b :: l.filter (fun x=>!lt x b)
def pe (lt:α→α→Bool) (l:List α):Prop:=l.Pairwise fun a b=>lt a b=true
theorem Fy (p:α→Bool):∀ {l:List α} {i:Nat},i≤l.length→(∀ (j:Nat) x,j < i→l[j]?=some x→p x=true)→(∀ (j:Nat) x,i≤j→l[j]?=some x→p x=false)→l.filter p=l.take i∧l.filter (fun x=>!p x)=l.drop i
 | l,0,_,_,h=>by
  refine ⟨?_,?_⟩
  ·rw [List.take_zero]
   apply List.filter_eq_nil_iff.mpr
   intro x hx
   obtain ⟨j,hj⟩:=List.mem_iff_getElem?.mp hx
   rw [h j x (Nat.zero_le _) hj];simp
  ·rw [List.drop_zero]
   apply List.filter_eq_self.mpr
   intro x hx
   obtain ⟨j,hj⟩:=List.mem_iff_getElem?.mp hx
   rw [h j x (Nat.zero_le _) hj];rfl
 | [],i + 1,hi,_,_=>by simp at hi
 | x :: l,i + 1,hi,h1,h2=>by
  obtain ⟨b,c⟩:=Fy p (l:=l) (i:=i) (by simpa using hi) (fun j y hj e=>h1 (j + 1) y (by omega) (by simpa using e)) (fun j y hj e=>h2 (j + 1) y (by omega) (by simpa using e))
  have hx:p x=true:=h1 0 x (by omega) rfl
  refine ⟨?_,?_⟩
  ·rw [List.filter_cons,hx];simp [b]
  ·rw [List.filter_cons,hx];simp [c]
theorem Bx {b:α} {l:List α} {i:Nat} (hi:i≤l.length) (h1:∀ (j:Nat) x,j < i→l[j]?=some x→lt x b=true) (h2:∀ (j:Nat) x,i≤j→l[j]?=some x→lt x b=false):l.take i ++ b :: l.drop i=qr lt b l:=by
 obtain ⟨e1,e2⟩:=Fy (fun x=>lt x b) hi h1 h2
 unfold qr
 rw [e1,e2]
theorem xS {b x:α} {l:List α}:x∈qr lt b l↔x=b∨x∈l:=by
 unfold qr
 rw [List.mem_append,List.mem_cons,List.mem_filter,List.mem_filter]
 constructor
 ·rintro (h | h | h)
  ·exact .inr h.1
  ·exact .inl h
  ·exact .inr h.1
 ·rintro (h | h)
  ·exact .inr (.inl h)
  ·cases e:lt x b
   ·exact .inr (.inr ⟨h,by simp⟩)
   ·exact .inl ⟨h,rfl⟩
theorem EI (b:α) (l:List α):(qr lt b l).length=l.length + 1:=by
 unfold qr
 rw [List.length_append,List.length_cons]
 have:∀ l:List α,(l.filter fun x=>lt x b).length + (l.filter fun x=>!lt x b).length=l.length:=by
  intro l
  induction l with
  | nil=>rfl
  | cons x l ih=>cases h:lt x b <;> simp [h] <;> omega
 have:=this l
 omega
theorem EJ (tr:∀ {a b c},lt a b=true→lt b c=true→lt a c=true) {b:α} {l:List α} (s:pe lt l) (Pw:∀ x∈l,lt x b=true∨lt b x=true):pe lt (qr lt b l):=by
 unfold qr pe
 rw [List.pairwise_append]
 refine ⟨s.filter _,?_,?_⟩
 ·rw [List.pairwise_cons]
  refine ⟨fun y hy=>?_,s.filter _⟩
  rw [List.mem_filter] at hy
  rcases Pw y hy.1 with q | q
  ·simp [q] at hy
  ·exact q
 ·intro x hx y hy
  rw [List.mem_filter] at hx
  rcases List.mem_cons.mp hy with rfl | hy
  ·exact hx.2
  ·rw [List.mem_filter] at hy
   rcases Pw y hy.1 with q | q
   ·simp [q] at hy
   ·exact tr hx.2 q
theorem yX (tr:∀ {a b c},lt a b=true→lt b c=true→lt a c=true) {l:List α} {b x y:α} {i j:Nat} (s:pe lt l) (hx:l[i]?=some x) (hy:l[j]?=some y) (h:j≤i) (k:lt x b=true):lt y b=true:=by
 rcases Nat.lt_or_eq_of_le h with h | h
 ·obtain ⟨hi,ei⟩:=List.getElem?_eq_some_iff.mp hx
  obtain ⟨hj,ej⟩:=List.getElem?_eq_some_iff.mp hy
  have:=List.pairwise_iff_getElem.mp s j i hj hi h
  rw [ei,ej] at this
  exact tr this k
 ·subst h;rw [hx] at hy;cases hy;exact k
theorem DJ (tr:∀ {a b c},lt a b=true→lt b c=true→lt a c=true) {l:List α} {b x y:α} {i j:Nat} (s:pe lt l) (hx:l[i]?=some x) (hy:l[j]?=some y) (h:i≤j) (k:lt x b=false):lt y b=false:=by
 cases q:lt y b with
 | false=>rfl
 | true=>have:=yX (lt:=lt) (b:=b) tr s hy hx h q;rw [this] at k;cases k
theorem oT (GO:∀ a,lt a a=false) (tr:∀ {a b c},lt a b=true→lt b c=true→lt a c=true):∀ {l k:List α},pe lt l→pe lt k→(∀ x,x∈l↔x∈k)→l=k
 | [],[],_,_,_=>rfl
 | [],y :: k,_,_,h=>by have:=(h y).mpr List.mem_cons_self;cases this
 | x :: l,[],_,_,h=>by have:=(h x).mp List.mem_cons_self;cases this
 | x :: l,y :: k,hl,hk,h=>by
  obtain ⟨a1,a2⟩:=List.pairwise_cons.mp hl
  obtain ⟨b1,b2⟩:=List.pairwise_cons.mp hk
  have exy:x=y:=by
   rcases List.mem_cons.mp ((h x).mp List.mem_cons_self) with e | e
   ·exact e
   ·rcases List.mem_cons.mp ((h y).mpr List.mem_cons_self) with e' | e'
    ·exact e'.symm
    ·have:=tr (a1 y e') (b1 x e)
     rw [GO] at this;cases this
  subst exy
  rw [oT GO tr a2 b2 fun z=>?_]
  constructor
  ·intro hz
   rcases List.mem_cons.mp ((h z).mp (List.mem_cons_of_mem _ hz)) with e | e
   ·have:=a1 z hz;rw [e,GO] at this;cases this
   ·exact e
  ·intro hz
   rcases List.mem_cons.mp ((h z).mpr (List.mem_cons_of_mem _ hz)) with e | e
   ·have:=b1 z hz;rw [e,GO] at this;cases this
   ·exact e
end
structure Ky where
 p:Rat
 v:Int
 n:Str
 deriving DecidableEq
def Ky.lt (a b:Ky):Bool:=if a.p=b.p then (if a.v=b.v then decide (slt a.n b.n) else decide (a.v < b.v)) else decide (a.p < b.p)
theorem Ky.lt_iff (a b:Ky):a.lt b=true↔a.p < b.p∨(a.p=b.p∧(a.v < b.v∨(a.v=b.v∧slt a.n b.n))):=by
 unfold Ky.lt
 by_cases e:a.p=b.p
 ·rw [if_pos e]
  have n:¬ a.p < b.p:=by rw [e];exact Rat.lt_irrefl
  by_cases k:a.v=b.v
  ·rw [if_pos k,decide_eq_true_eq]
   have n2:¬ a.v < b.v:=by omega
   exact ⟨fun h=>.inr ⟨e,.inr ⟨k,h⟩⟩,fun h=>by
    rcases h with h | ⟨_,h | h⟩
    ·exact absurd h n
    ·exact absurd h n2
    ·exact h.2⟩
  ·rw [if_neg k,decide_eq_true_eq]
   exact ⟨fun h=>.inr ⟨e,.inl h⟩,fun h=>by
    rcases h with h | ⟨_,h | h⟩
    ·exact absurd h n
    ·exact h
    ·exact absurd h.1 k⟩
 ·rw [if_neg e,decide_eq_true_eq]
  exact ⟨.inl,fun h=>by
   rcases h with h | h
   ·exact h
   ·exact absurd h.1 e⟩
theorem Ky.GO (a:Ky):a.lt a=false:=by
 cases h:a.lt a with
 | false=>rfl
 | true =>
  rcases (Ky.lt_iff a a).mp h with h | ⟨_,h | ⟨_,h⟩⟩
  ·exact absurd h Rat.lt_irrefl
  ·omega
  ·exact absurd h (oR _)
theorem Ky.tr {a b c:Ky} (h:a.lt b=true) (k:b.lt c=true):a.lt c=true:=by
 rw [Ky.lt_iff] at *
 rcases h with h | ⟨e,h⟩ <;> rcases k with k | ⟨e',k⟩
 ·exact .inl (uQ h k)
 ·exact .inl (e' ▸ h)
 ·exact .inl (e ▸ k)
 ·refine .inr ⟨e.trans e',?_⟩
  rcases h with h | ⟨z,h⟩ <;> rcases k with k | ⟨z',k⟩
  ·exact .inl (by omega)
  ·exact .inl (by omega)
  ·exact .inl (by omega)
  ·exact .inr ⟨z.trans z',pW h k⟩
theorem Ky.Pw {a b:Ky} (h:a.n≠b.n):a.lt b=true∨b.lt a=true:=by
 rw [Ky.lt_iff,Ky.lt_iff]
 by_cases e:a.p=b.p
 ·by_cases z:a.v=b.v
  ·rcases wY h with q | q
   ·exact .inl (.inr ⟨e,.inr ⟨z,q⟩⟩)
   ·exact .inr (.inr ⟨e.symm,.inr ⟨z.symm,q⟩⟩)
  ·rcases (by omega:a.v < b.v∨b.v < a.v) with q | q
   ·exact .inl (.inr ⟨e,.inl q⟩)
   ·exact .inr (.inr ⟨e.symm,.inl q⟩)
 ·rcases (by grind:a.p < b.p∨b.p < a.p) with q | q
  ·exact .inl (.inl q)
  ·exact .inr (.inl q)
theorem Ky.Nx {a b:Ky} (h:a.lt b=true):b.lt a=false:=by
 cases k:b.lt a with
 | false=>rfl
 | true=>have:=Ky.tr h k;rw [Ky.GO] at this;cases this
def cF (ks:List Ky):List Ky:=ks.foldl (fun acc x=>qr Ky.lt x acc) []
theorem jk (ks:List Ky) (x:Ky):cF (ks ++ [x])=qr Ky.lt x (cF ks):=by unfold cF;rw [List.foldl_append];rfl
theorem snoc_ind {α:Type} {p:List α→Prop} (h0:p []) (h1:∀ l x,p l→p (l ++ [x])) (l:List α):p l:=by
 have:∀ l:List α,p l.reverse:=by
  intro l
  induction l with
  | nil=>exact h0
  | cons x l ih=>rw [List.reverse_cons];exact h1 _ _ ih
 have:=this l.reverse
 rwa [List.reverse_reverse] at this
theorem jW {α:Type} {l:List α} {x:α} (h:(l ++ [x]).Nodup):l.Nodup∧x ∉ l:=by
 rw [List.nodup_append] at h
 exact ⟨h.1,fun hm=>h.2.2 x hm x (by simp) rfl⟩
theorem bz:∀ (ks:List Ky) (x:Ky),x∈cF ks↔x∈ks:=by
 intro ks
 refine snoc_ind (p:=fun ks=>∀ x:Ky,x∈cF ks↔x∈ks) (fun x=>by simp [cF]) (fun ks y ih x=>?_) ks
 rw [jk,xS,ih,List.mem_append,List.mem_singleton]
 exact Or.comm
theorem cT {ks:List Ky} (h:(ks.map Ky.n).Nodup):pe Ky.lt (cF ks):=by
 revert h
 refine snoc_ind (p:=fun ks=>(ks.map Ky.n).Nodup→pe Ky.lt (cF ks)) (fun _=>List.Pairwise.nil) (fun ks y ih h=>?_) ks
 ·rw [List.map_append,List.map_cons,List.map_nil] at h
  obtain ⟨h1,h2⟩:=jW h
  rw [jk]
  refine EJ (lt:=Ky.lt) Ky.tr (ih h1) fun x hx=>Ky.Pw fun e=>h2 ?_
  rw [← e]
  exact List.mem_map_of_mem ((bz ks x).mp hx)
theorem jj (ks:List Ky):(cF ks).length=ks.length:=by
 refine snoc_ind (p:=fun ks=>(cF ks).length=ks.length) rfl (fun ks y ih=>?_) ks
 rw [jk,EI,ih,List.length_append];rfl
theorem yi {ks js:List Ky} (h:(ks.map Ky.n).Nodup) (k:(js.map Ky.n).Nodup) (e:∀ x,x∈ks↔x∈js):cF ks=cF js :=
 oT (lt:=Ky.lt) Ky.GO Ky.tr (cT h) (cT k) fun x=>by rw [bz,bz];exact e x
def key (t:Rat) (x:Str × aY):Ky:=⟨x.2.at t,x.2.v,x.1⟩
def cf (t:Rat) (fs:List (Str × aY)):List Str:=(cF (fs.map (key t))).map Ky.n
theorem dq (t:Rat) (fs:List (Str × aY)):(fs.map (key t)).map Ky.n=fs.map (·.1):=by rw [List.map_map];rfl
theorem yp {t:Rat} {fs:List (Str × aY)} {n:Str}:n∈cf t fs↔n∈fs.map (·.1):=by
 rw [← dq t fs]
 unfold cf
 rw [List.mem_map,List.mem_map]
 exact ⟨fun ⟨x,h,e⟩=>⟨x,(bz _ _).mp h,e⟩,fun ⟨x,h,e⟩=>⟨x,(bz _ _).mpr h,e⟩⟩
theorem yo (t:Rat) (fs:List (Str × aY)):(cf t fs).length=fs.length:=by unfold cf;rw [List.length_map,jj,List.length_map]
theorem l_ {l:List Ky} (s:pe Ky.lt l) (h:∀ x∈l,∀ y∈l,x.n=y.n→x=y):(l.map Ky.n).Nodup:=by
 refine List.pairwise_map.mpr (s.imp_of_mem fun {a b} ha hb hab e=>?_)
 have:=h a ha b hb e
 subst this
 rw [Ky.GO] at hab;cases hab
theorem jh {ks:List Ky} (h:(ks.map Ky.n).Nodup):∀ x∈ks,∀ y∈ks,x.n=y.n→x=y:=by
 intro x hx y hy e
 obtain ⟨i,hi,rfl⟩:=List.getElem_of_mem hx
 obtain ⟨j,hj,rfl⟩:=List.getElem_of_mem hy
 have:=(List.getElem_inj (xs:=ks.map Ky.n) (i:=i) (j:=j) (h₀:=by simpa using hi) (h₁:=by simpa using hj) h).mp (by rw [List.getElem_map,List.getElem_map];exact e)
 subst this;rfl
theorem su {t:Rat} {fs:List (Str × aY)} (h:(fs.map (·.1)).Nodup):(cf t fs).Nodup:=by
 rw [← dq t fs] at h
 exact l_ (cT h) fun x hx y hy e=>jh h x ((bz _ _).mp hx) y ((bz _ _).mp hy) e
theorem ym {t:Rat} {fs gs:List (Str × aY)} (h:(fs.map (·.1)).Nodup) (k:(gs.map (·.1)).Nodup) (e:∀ x,x∈fs.map (key t)↔x∈gs.map (key t)):cf t fs=cf t gs:=by
 unfold cf
 rw [yi (by rw [dq];exact h) (by rw [dq];exact k) e]
theorem ki {α β:Type} {fs:List (Str × α)} {f:α→β} (h:(fs.map (·.1)).Nodup) {n:Str} {l:α} (hm:(n,l)∈fs):L2.nk (fs.map fun x=>(x.1,f x.2)) n=some (f l):=by
 induction fs with
 | nil=>cases hm
 | cons x fs ih =>
  rw [List.map_cons,List.nodup_cons] at h
  rw [List.map_cons,L2.oZ]
  rcases List.mem_cons.mp hm with e | e
  ·subst e;rw [if_pos rfl]
  ·have ne:x.1≠n:=fun z=>h.1 (by rw [z];exact List.mem_map_of_mem (f:=fun x:Str × α=>x.1) e)
   rw [if_neg ne];exact ih h.2 e
theorem xm {α β:Type} {fs:List (Str × α)} {f:α→β} (h:(fs.map (·.1)).Nodup) {n:Str} (hm:n∈fs.map (·.1)):∃ l,(n,l)∈fs∧L2.nk (fs.map fun x=>(x.1,f x.2)) n=some (f l):=by
 obtain ⟨⟨m,l⟩,hx,rfl⟩:=List.mem_map.mp hm
 exact ⟨l,hx,ki h hx⟩
theorem Jy {α β:Type} {fs:List (Str × α)} {f:α→β} {n:Str} (hm:n ∉ fs.map (·.1)):L2.nk (fs.map fun x=>(x.1,f x.2)) n=none:=by
 induction fs with
 | nil=>rfl
 | cons x fs ih =>
  rw [List.map_cons,L2.oZ]
  rw [List.map_cons,List.mem_cons,not_or] at hm
  rw [if_neg (fun e=>hm.1 e.symm)];exact ih hm.2
theorem DQ {α β:Type} {fs:List (Str × α)} {f:α→β} {n:Str} (h:(fs.map (·.1)).Nodup):(L2.nk (fs.map fun x=>(x.1,f x.2)) n).isSome=decide (n∈fs.map (·.1)):=by
 by_cases hm:n∈fs.map (·.1)
 ·obtain ⟨l,_,e⟩:=xm (f:=f) h hm
  rw [e,decide_eq_true hm];rfl
 ·rw [Jy hm,decide_eq_false hm];rfl
theorem AD {α β:Type} {fs:List (Str × α)} {f:α→β} {n:Str} {l:α} (hm:n ∉ fs.map (·.1)):L2.wo (fs.map fun x=>(x.1,f x.2)) n (f l)=(fs ++ [(n,l)]).map fun x=>(x.1,f x.2):=by
 unfold L2.wo
 rw [if_neg,List.map_append]
 ·rfl
 ·intro h
  rw [List.any_eq_true] at h
  obtain ⟨y,hy,e⟩:=h
  obtain ⟨x,hx,rfl⟩:=List.mem_map.mp hy
  exact hm (by rw [← of_decide_eq_true e];exact List.mem_map_of_mem (f:=fun x:Str × α=>x.1) hx)
def PP:Nat:=1000000 * iw + 1000 * MM
structure tG (l:aY):Prop where
 m0:0≤l.m
 m:Sc iw MM l.m
 p:∃ a:Int,l.p * (iw:Rat)=(a:Rat)
 b0:-(1000000 + 1000 * l.m)≤l.p
 b1:l.p≤1000000 + 1000 * l.m
 v:l.v.natAbs≤1000
theorem N1:(0:Rat) < (iw:Rat):=by
 have:((0:Nat):Rat) < ((iw:Nat):Rat):=Rat.natCast_lt_natCast.mpr vN
 simpa using this
theorem tG.sc {l:aY} (h:tG l):Sc iw PP l.p:=by
 obtain ⟨a,ha⟩:=h.p
 obtain ⟨k,hk,hk1⟩:=h.m
 have hL:=N1
 have b0:=h.b0
 have b1:=h.b1
 have e1:(a:Rat)≤(((1000000 * iw + 1000 * k:Int)):Rat):=by
  rw [← ha,Rat.intCast_add,Rat.intCast_mul,Rat.intCast_mul,← hk]
  have:l.p * (iw:Rat)≤(1000000 + 1000 * l.m) * (iw:Rat):=Rat.mul_le_mul_of_nonneg_right b1 (Rat.le_of_lt hL)
  have e:(((iw:Nat):Int):Rat)=(iw:Rat):=rfl
  rw [e]
  grind
 have e2:(((-(1000000 * iw + 1000 * k):Int)):Rat)≤(a:Rat):=by
  rw [← ha,Rat.intCast_neg,Rat.intCast_add,Rat.intCast_mul,Rat.intCast_mul,← hk]
  have:-(1000000 + 1000 * l.m) * (iw:Rat)≤l.p * (iw:Rat):=Rat.mul_le_mul_of_nonneg_right b0 (Rat.le_of_lt hL)
  have e:(((iw:Nat):Int):Rat)=(iw:Rat):=rfl
  rw [e]
  grind
 have e1:=Rat.intCast_le_intCast.mp e1
 have e2:=Rat.intCast_le_intCast.mp e2
 refine ⟨a,ha,?_⟩
 unfold PP
 have:(k:Int)≤MM:=by omega
 have:-(MM:Int)≤k:=by omega
 omega
theorem OJ:PP < 2 ^ 120:=by decide
theorem tG.SA {l:aY} (h:tG l):Sz 120 l.p:=h.sc.sz vN (by decide) OJ
theorem tG.Sv {l:aY} (h:tG l):Sz 120 l.m:=(x8 h.m).mono (by decide)
theorem tG.at {l:aY} {t:Rat} {v:Int} (h:tG l) (h0:l.m≤t) (ht:Sc iw MM t) (hv:v.natAbs≤1000):tG ⟨t,l.at t,v⟩:=by
 have hm:=h.m0
 have t0:0≤t:=Rat.le_trans hm h0
 have d0:0≤t - l.m:=by grind
 have v1:(l.v:Rat)≤1000:=by
  have:((l.v:Int):Rat)≤((1000:Int):Rat):=Rat.intCast_le_intCast.mpr (by have:=h.v;omega)
  exact this
 have v2:-1000≤(l.v:Rat):=by
  have:((-1000:Int):Rat)≤((l.v:Int):Rat):=Rat.intCast_le_intCast.mpr (by have:=h.v;omega)
  exact this
 have m1:(t - l.m) * (l.v:Rat)≤(t - l.m) * 1000:=Rat.mul_le_mul_of_nonneg_left v1 d0
 have m2:(t - l.m) * (-1000)≤(t - l.m) * (l.v:Rat):=Rat.mul_le_mul_of_nonneg_left v2 d0
 have b0:=h.b0
 have b1:=h.b1
 refine ⟨t0,ht,?_,?_,?_,hv⟩
 ·obtain ⟨a,ha⟩:=h.p
  obtain ⟨k,hk,_⟩:=h.m
  obtain ⟨j,hj,_⟩:=ht
  refine ⟨a + (j - k) * l.v,?_⟩
  unfold aY.at
  dsimp only
  rw [Rat.intCast_add,Rat.intCast_mul,Rat.intCast_sub,← ha,← hk,← hj]
  grind
 ·show -(1000000 + 1000 * t)≤l.p + (t - l.m) * (l.v:Rat)
  grind
 ·show l.p + (t - l.m) * (l.v:Rat)≤1000000 + 1000 * t
  grind
theorem tG.new {t:Rat} {p v:Int} (t0:0≤t) (ht:Sc iw MM t) (hp:p.natAbs≤1000000) (hv:v.natAbs≤1000):tG ⟨t,(p:Rat),v⟩:=by
 have p1:(p:Rat)≤1000000:=by
  have:((p:Int):Rat)≤((1000000:Int):Rat):=Rat.intCast_le_intCast.mpr (by omega)
  exact this
 have p2:-1000000≤(p:Rat):=by
  have:((-1000000:Int):Rat)≤((p:Int):Rat):=Rat.intCast_le_intCast.mpr (by omega)
  exact this
 refine ⟨t0,ht,⟨p * iw,by rw [Rat.intCast_mul];rfl⟩,?_,?_,hv⟩
 ·show -(1000000 + 1000 * t)≤(p:Rat)
  grind
 ·show (p:Rat)≤1000000 + 1000 * t
  grind
def CH (b:aG) (l:List aG):List aG:=if b∈l then l else kC b l
theorem uG {b x:aG} {l:List aG}:x∈kC b l↔x=b∨x∈l:=xS (lt:=aG.lt)
theorem Eb {b x:aG} {l:List aG}:x∈CH b l↔x=b∨x∈l:=by
 unfold CH
 split
 ·rename_i h
  exact ⟨.inr,fun z=>by rcases z with rfl | z;exact h;exact z⟩
 ·exact uG
theorem Ec {b:aG} {l:List aG} (s:jF l):jF (CH b l):=by
 unfold CH
 split
 ·exact s
 ·rename_i h
  exact xR s fun x hx e=>h (e ▸ hx)
def ud (bs:List aG):List aG:=bs.foldl (fun acc b=>CH b acc) []
theorem uM (bs:List aG) (b:aG):ud (bs ++ [b])=CH b (ud bs):=by unfold ud;rw [List.foldl_append];rfl
theorem yg (bs:List aG) (x:aG):x∈ud bs↔x∈bs:=by
 refine snoc_ind (p:=fun bs=>∀ x:aG,x∈ud bs↔x∈bs) (fun x=>by simp [ud]) (fun bs y ih x=>?_) bs x
 rw [uM,Eb,ih,List.mem_append,List.mem_singleton]
 exact Or.comm
theorem yh (bs:List aG):jF (ud bs):=by
 refine snoc_ind (p:=fun bs=>jF (ud bs)) List.Pairwise.nil (fun bs y ih=>?_) bs
 rw [uM];exact Ec ih
theorem yZ {l k:List aG} (h:jF l) (h':jF k) (e:∀ x,x∈l↔x∈k):l=k:=oT (lt:=aG.lt) aG.LM aG.lt_trans h h' e
def e9 (t:Rat) (a b:Ky):Rat:=t + (b.p - a.p) / ((a.v - b.v:Int):Rat)
def g9 (t:Rat) (a b:Ky):aG:=⟨e9 t a b,a.n,b.n⟩
def qg (t:Rat) (ks:List Ky) (m:Rat):List aG:=ud (((ks.flatMap fun a=>ks.map fun b=>(a,b)).filter fun p=>decide (p.2.v < p.1.v∧p.1.p < p.2.p∧e9 t p.1 p.2≤m)).map fun p=>g9 t p.1 p.2)
theorem Dx {t m:Rat} {ks:List Ky} {x:aG}:x∈qg t ks m↔∃ a∈ks,∃ b∈ks,b.v < a.v∧a.p < b.p∧e9 t a b≤m∧x=g9 t a b:=by
 unfold qg
 rw [yg,List.mem_map]
 constructor
 ·rintro ⟨⟨a,b⟩,h,rfl⟩
  rw [List.mem_filter,List.mem_flatMap] at h
  obtain ⟨⟨c,hc,h1⟩,h2⟩:=h
  obtain ⟨d,hd,e⟩:=List.mem_map.mp h1
  cases e
  have h2:=of_decide_eq_true h2
  exact ⟨_,hc,_,hd,h2.1,h2.2.1,h2.2.2,rfl⟩
 ·rintro ⟨a,ha,b,hb,h1,h2,h3,rfl⟩
  exact ⟨(a,b),List.mem_filter.mpr ⟨List.mem_flatMap.mpr ⟨a,ha,List.mem_map.mpr ⟨b,hb,rfl⟩⟩,decide_eq_true ⟨h1,h2,h3⟩⟩,rfl⟩
theorem Dy (t m:Rat) (ks:List Ky):jF (qg t ks m):=yh _
def fV (t:Rat) (ks:List Ky):List aG:=ud ((((cF ks).zip (cF ks).tail).filter fun p=>decide (p.2.v < p.1.v)).map fun p=>g9 t p.1 p.2)
theorem dg {α:Type} {l:List α} {a b:α}:(a,b)∈l.zip l.tail↔∃ i:Nat,l[i]?=some a∧l[i + 1]?=some b:=by
 constructor
 ·intro h
  obtain ⟨i,hi⟩:=List.mem_iff_getElem?.mp h
  obtain ⟨h1,h2⟩:=List.getElem?_zip_eq_some.mp hi
  exact ⟨i,h1,by rw [List.getElem?_tail] at h2;exact h2⟩
 ·rintro ⟨i,h1,h2⟩
  exact List.mem_iff_getElem?.mpr ⟨i,List.getElem?_zip_eq_some.mpr ⟨h1,by rw [List.getElem?_tail];exact h2⟩⟩
theorem zJ {t:Rat} {ks:List Ky} {x:aG}:x∈fV t ks↔∃ (i:Nat) (a b:Ky),(cF ks)[i]?=some a∧(cF ks)[i + 1]?=some b∧b.v < a.v∧x=g9 t a b:=by
 unfold fV
 rw [yg,List.mem_map]
 constructor
 ·rintro ⟨⟨a,b⟩,h,rfl⟩
  rw [List.mem_filter] at h
  obtain ⟨i,h1,h2⟩:=dg.mp h.1
  exact ⟨i,a,b,h1,h2,of_decide_eq_true h.2,rfl⟩
 ·rintro ⟨i,a,b,h1,h2,h3,rfl⟩
  exact ⟨(a,b),List.mem_filter.mpr ⟨dg.mpr ⟨i,h1,h2⟩,decide_eq_true h3⟩,rfl⟩
theorem zK (t:Rat) (ks:List Ky):jF (fV t ks):=yh _
theorem zH {t:Rat} {ks js:List Ky} (h:(ks.map Ky.n).Nodup) (k:(js.map Ky.n).Nodup) (e:∀ x,x∈ks↔x∈js):fV t ks=fV t js:=by
 unfold fV;rw [yi h k e]
def n4 (l l':aY):Rat:=(l'.at 0 - l.at 0) / ((l.v - l'.v:Int):Rat)
theorem Gq {a b:Int} (h:a≠b):((a - b:Int):Rat)≠0:=by
 intro e
 have:(a - b:Int)=0:=by exact_mod_cast (show ((a - b:Int):Rat)=((0:Int):Rat) from e)
 omega
theorem qE {t:Rat} {n n':Str} {l l':aY} (h:l.v≠l'.v):n4 l l'=e9 t (key t (n,l)) (key t (n',l')):=by
 have k:=Gq h
 unfold n4 e9 key aY.at
 dsimp only
 rw [Rat.intCast_sub] at *
 grind
theorem F0 {a b:Rat} (ha:0 < a) (hb:0 < b):0 < a / b:=by
 have e:a / b * b=a:=by grind
 rcases Rat.le_total (a:=a / b) (b:=0) with h | h
 ·have:=Rat.mul_le_mul_of_nonneg_right h (Rat.le_of_lt hb)
  rw [e,Rat.zero_mul] at this
  exact absurd ha (Rat.not_lt.mpr this)
 ·rcases (by grind:a / b=0∨0 < a / b) with h | h
  ·rw [h,Rat.zero_mul] at e;rw [← e] at ha;exact absurd ha Rat.lt_irrefl
  ·exact h
def HK (t:Rat) (l l':aY):Option Rat:=if l.v≠l'.v∧t < n4 l l' then some (n4 l l') else none
theorem HL {t:Rat} {n n':Str} {l l':aY} (h:(key t (n,l)).lt (key t (n',l'))=true):(l.v≠l'.v∧t < n4 l l')↔(l'.v < l.v∧l.at t < l'.at t):=by
 rw [Ky.lt_iff] at h
 unfold key at h
 dsimp only at h
 constructor
 ·rintro ⟨h1,h2⟩
  rw [qE (t:=t) (n:=n) (n':=n') h1] at h2
  unfold e9 key at h2
  dsimp only at h2
  have k:=Gq h1
  have h3:0 < (l'.at t - l.at t) / ((l.v - l'.v:Int):Rat):=by grind
  have hp:l.at t≠l'.at t:=by
   intro e
   rw [e] at h3
   have:(l'.at t - l'.at t) / ((l.v - l'.v:Int):Rat)=0:=by grind
   rw [this] at h3
   exact absurd h3 Rat.lt_irrefl
  have hlt:l.at t < l'.at t:=by
   rcases h with h | ⟨h,_⟩
   ·exact h
   ·exact absurd h hp
  refine ⟨?_,hlt⟩
  rcases (by omega:l'.v < l.v∨l.v < l'.v) with q | q
  ·exact q
  ·exfalso
   have hn:((l.v - l'.v:Int):Rat) < 0:=by
    have:((l.v - l'.v:Int):Rat) < ((0:Int):Rat):=Rat.intCast_lt_intCast.mpr (by omega)
    exact this
   have hd:0 < l'.at t - l.at t:=by grind
   have e:(l'.at t - l.at t) / ((l.v - l'.v:Int):Rat) * ((l.v - l'.v:Int):Rat)=l'.at t - l.at t:=by grind
   generalize (l'.at t - l.at t) / ((l.v - l'.v:Int):Rat)=z at h3 e
   have:z * ((l.v - l'.v:Int):Rat) < 0:=by
    have:=Rat.mul_lt_mul_of_pos_left hn h3
    rwa [Rat.mul_zero] at this
   grind
 ·rintro ⟨h1,h2⟩
  have hne:l.v≠l'.v:=by omega
  refine ⟨hne,?_⟩
  rw [qE (t:=t) (n:=n) (n':=n') hne]
  unfold e9 key
  dsimp only
  have hpos:0 < ((l.v - l'.v:Int):Rat):=by
   have:((0:Int):Rat) < ((l.v - l'.v:Int):Rat):=Rat.intCast_lt_intCast.mpr (by omega)
   exact this
  have hd:0 < l'.at t - l.at t:=by grind
  have:0 < (l'.at t - l.at t) / ((l.v - l'.v:Int):Rat):=F0 hd hpos
  grind
end Ov
namespace Ov
def iY (t:Rat) (c:Ky × Ky→Bool) (rows:List aG) (p:Ky × Ky):List aG:=if c p=true then kC (g9 t p.1 p.2) (dk p.1.n p.2.n rows) else rows
def bS (t:Rat) (c:Ky × Ky→Bool) (ps:List (Ky × Ky)):List aG:=ps.foldl (iY t c) []
theorem eG (t:Rat) (c:Ky × Ky→Bool) (ps:List (Ky × Ky)) (p:Ky × Ky):bS t c (ps ++ [p])=iY t c (bS t c ps) p:=by unfold bS;rw [List.foldl_append];rfl
theorem jc (t:Rat) (c:Ky × Ky→Bool) (ps:List (Ky × Ky)):jF (bS t c ps):=by
 refine snoc_ind (p:=fun ps=>jF (bS t c ps)) List.Pairwise.nil (fun l x ih=>?_) ps
 rw [eG]
 unfold iY
 split
 ·exact xR (uB ih) Hi
 ·exact ih
theorem pq (t:Rat) (c:Ky × Ky→Bool) (ps:List (Ky × Ky)):(bS t c ps).length≤ps.length:=by
 refine snoc_ind (p:=fun ps=>(bS t c ps).length≤ps.length) (Nat.le_refl _) (fun l x ih=>?_) ps
 rw [eG,List.length_append]
 unfold iY
 split
 ·rw [xQ]
  have:=ph x.1.n x.2.n (bS t c l)
  simp only [List.length_cons,List.length_nil];omega
 ·omega
theorem je {t:Rat} {c:Ky × Ky→Bool} {x:aG} (ps:List (Ky × Ky)):x∈bS t c ps→∃ p∈ps,c p=true∧x=g9 t p.1 p.2:=by
 refine snoc_ind (p:=fun ps=>x∈bS t c ps→∃ p∈ps,c p=true∧x=g9 t p.1 p.2) (fun h=>by cases h) (fun l y ih h=>?_) ps
 rw [eG] at h
 unfold iY at h
 split at h
 ·rename_i hc
  rcases EH h with e | h
  ·exact ⟨y,by simp,hc,e⟩
  ·obtain ⟨p,hp,k⟩:=ih (List.mem_filter.mp h).1
   exact ⟨p,List.mem_append.mpr (.inl hp),k⟩
 ·obtain ⟨p,hp,k⟩:=ih h
  exact ⟨p,List.mem_append.mpr (.inl hp),k⟩
def xx (ps:List (Ky × Ky)):Prop:=∀ p∈ps,∀ q∈ps,p.1.n=q.1.n→p.2.n=q.2.n→p=q
theorem uE {t:Rat} {c:Ky × Ky→Bool} {x:aG} (ps:List (Ky × Ky)):xx ps→(x∈bS t c ps↔∃ p∈ps,c p=true∧x=g9 t p.1 p.2):=by
 refine snoc_ind (p:=fun ps=>xx ps→(x∈bS t c ps↔∃ p∈ps,c p=true∧x=g9 t p.1 p.2)) (fun _=>Iff.intro (fun h=>nomatch h) (fun h=>by obtain ⟨_,h,_⟩:=h;cases h)) (fun l y ih inj=>?_) ps
 have ih:=ih fun p hp q hq=>inj p (List.mem_append.mpr (.inl hp)) q (List.mem_append.mpr (.inl hq))
 refine ⟨je _,?_⟩
 rintro ⟨p,hp,hc,rfl⟩
 rw [eG]
 unfold iY
 have hold:p∈l→g9 t p.1 p.2∈bS t c l:=fun h=>ih.mpr ⟨p,h,hc,rfl⟩
 split
 ·rename_i hy
  rw [uG]
  by_cases e:p=y
  ·left;rw [e]
  ·right
   have hl:p∈l:=by
    rcases List.mem_append.mp hp with h | h
    ·exact h
    ·exact absurd (by simpa using h) e
   refine List.mem_filter.mpr ⟨hold hl,?_⟩
   unfold uR
   have:¬ ((g9 t p.1 p.2).h=y.1.n∧(g9 t p.1 p.2).f=y.2.n):=fun z=>e (inj p hp y (by simp) z.1 z.2)
   rw [decide_eq_false this];rfl
 ·rename_i hy
  rcases List.mem_append.mp hp with h | h
  ·exact hold h
  ·have:p=y:=by simpa using h
   subst this;exact absurd hc hy
theorem CS {t:Rat} {c:Ky × Ky→Bool} {ps:List (Ky × Ky)} {p:Ky × Ky} (inj:xx (ps ++ [p])) (h:p ∉ ps):dk p.1.n p.2.n (bS t c ps)=bS t c ps:=by
 unfold dk
 refine List.filter_eq_self.mpr fun x hx=>?_
 obtain ⟨q,hq,_,rfl⟩:=je _ hx
 unfold uR
 have:¬ ((g9 t q.1 q.2).h=p.1.n∧(g9 t q.1 q.2).f=p.2.n):=fun z=>by
  have:=inj q (List.mem_append.mpr (.inl hq)) p (by simp) z.1 z.2
  subst this;exact h hq
 rw [decide_eq_false this];rfl
theorem xx.of {ks:List Ky} (h:(ks.map Ky.n).Nodup) {ps:List (Ky × Ky)} (hp:∀ p∈ps,p.1∈ks∧p.2∈ks):xx ps:=fun p h1 q h2 e1 e2=>by
 have a:=jh h p.1 (hp p h1).1 q.1 (hp q h2).1 e1
 have b:=jh h p.2 (hp p h1).2 q.2 (hp q h2).2 e2
 cases p;cases q;simp only at a b;rw [a,b]
def y_ (ks:List Ky):Nat→List (Ky × Ky)
 | 0=>[]
 | i + 1=>y_ ks i ++ (match ks[i]? with | some a=>(ks.drop (i + 1)).map fun b=>(a,b) | none=>[])
theorem oY {ks:List Ky} {p:Ky × Ky}:∀ {i:Nat},p∈y_ ks i↔∃ i' j,i' < i∧i' < j∧ks[i']?=some p.1∧ks[j]?=some p.2
 | 0=>⟨fun h=>(by cases h),fun ⟨_,_,h,_⟩=>by omega⟩
 | i + 1=>by
  unfold y_
  rw [List.mem_append,oY (i:=i)]
  constructor
  ·rintro (⟨i',j,h1,h⟩ | h)
   ·exact ⟨i',j,by omega,h⟩
   ·cases e:ks[i]? with
    | none=>rw [e] at h;cases h
    | some a =>
     rw [e] at h
     obtain ⟨b,hb,rfl⟩:=List.mem_map.mp h
     obtain ⟨j,hj⟩:=List.mem_iff_getElem?.mp hb
     rw [List.getElem?_drop] at hj
     exact ⟨i,_,by omega,by omega,e,hj⟩
  ·rintro ⟨i',j,h1,h2,h3,h4⟩
   by_cases e:i' < i
   ·exact .inl ⟨i',j,e,h2,h3,h4⟩
   ·have:i'=i:=by omega
    subst this
    right
    rw [h3]
    refine List.mem_map.mpr ⟨p.2,List.mem_iff_getElem?.mpr ⟨j - (i' + 1),?_⟩,rfl⟩
    rw [List.getElem?_drop,show i' + 1 + (j - (i' + 1))=j by omega];exact h4
def gG (t m:Rat) (p:Ky × Ky):Bool:=decide (p.2.v < p.1.v∧p.1.p < p.2.p∧e9 t p.1 p.2≤m)
def cM (p:Ky × Ky):Bool:=decide (p.2.v < p.1.v)
theorem Jx {t m:Rat} {ks:List Ky} (h:(ks.map Ky.n).Nodup):bS t (gG t m) (y_ (cF ks) (cF ks).length)=qg t ks m:=by
 have hs:=cT h
 have hn:((cF ks).map Ky.n).Nodup:=l_ hs (fun x hx y hy e=>jh h x ((bz _ _).mp hx) y ((bz _ _).mp hy) e)
 refine yZ (jc _ _ _) (Dy _ _ _) fun x=>?_
 rw [uE _ (xx.of hn fun p hp=>by
  obtain ⟨i,j,_,_,h3,h4⟩:=oY.mp hp
  exact ⟨List.mem_of_getElem? h3,List.mem_of_getElem? h4⟩),Dx]
 constructor
 ·rintro ⟨p,hp,hc,rfl⟩
  obtain ⟨i,j,_,_,h3,h4⟩:=oY.mp hp
  have hc:=of_decide_eq_true hc
  exact ⟨p.1,(bz _ _).mp (List.mem_of_getElem? h3),p.2,(bz _ _).mp (List.mem_of_getElem? h4),hc.1,hc.2.1,hc.2.2,rfl⟩
 ·rintro ⟨a,ha,b,hb,h1,h2,h3,rfl⟩
  obtain ⟨i,hi⟩:=List.mem_iff_getElem?.mp ((bz _ _).mpr ha)
  obtain ⟨j,hj⟩:=List.mem_iff_getElem?.mp ((bz _ _).mpr hb)
  have hab:a.lt b=true:=(Ky.lt_iff a b).mpr (.inl h2)
  have hij:i < j:=by
   obtain ⟨hil,ei⟩:=List.getElem?_eq_some_iff.mp hi
   obtain ⟨hjl,ej⟩:=List.getElem?_eq_some_iff.mp hj
   rcases Nat.lt_trichotomy i j with z | z | z
   ·exact z
   ·subst z;rw [ei] at ej;subst ej;rw [Ky.GO] at hab;cases hab
   ·have:=List.pairwise_iff_getElem.mp hs j i hjl hil z
    rw [ei,ej] at this
    rw [Ky.Nx this] at hab;cases hab
  exact ⟨(a,b),oY.mpr ⟨i,j,(List.getElem?_eq_some_iff.mp hi).1,hij,hi,hj⟩,decide_eq_true ⟨h1,h2,h3⟩,rfl⟩
theorem tw {t:Rat} {ks:List Ky} (h:(ks.map Ky.n).Nodup):bS t cM ((cF ks).zip (cF ks).tail)=fV t ks:=by
 have hs:=cT h
 have hn:((cF ks).map Ky.n).Nodup:=l_ hs (fun x hx y hy e=>jh h x ((bz _ _).mp hx) y ((bz _ _).mp hy) e)
 refine yZ (jc _ _ _) (zK _ _) fun x=>?_
 rw [uE _ (xx.of hn fun p hp=>by
  obtain ⟨i,h3,h4⟩:=dg.mp (show (p.1,p.2)∈_ from hp)
  exact ⟨List.mem_of_getElem? h3,List.mem_of_getElem? h4⟩),zJ]
 constructor
 ·rintro ⟨p,hp,hc,rfl⟩
  obtain ⟨i,h3,h4⟩:=dg.mp (show (p.1,p.2)∈_ from hp)
  exact ⟨i,p.1,p.2,h3,h4,of_decide_eq_true hc,rfl⟩
 ·rintro ⟨i,a,b,h1,h2,h3,rfl⟩
  exact ⟨(a,b),dg.mpr ⟨i,h1,h2⟩,decide_eq_true h3,rfl⟩
end Ov
set_option maxHeartbeats 4000000
namespace Ov
open PySem PySem.Spec PyProof.Rows L2
def top (i:Nat):Stmt:=PySem.Challenge.pw_overhaul_k19_goings_refused.main.body.getD i (.Pass ⟨0,0,0,0⟩)
set_option compiler.extract_closed false
set_option hygiene false
local macro_rules | `(tactic| dsimp! [$ls,*])=>`(tactic| simp only [Jr,Ci,y0,p9,Jq,Cm,Jm,Cn,Gz,Qa,AW,tC,rI,GQ,rU,SF,SJ,Jg,Jf,Jh,Int.reduceLT,Jp,fo,xh,Jl,tq,Js,DK,Jn,Cj,Ce,Jo,Gv,Pt,tB,P8,Cg,P7,BP,Hu,Bp,Hr,Bu,Bv,JH,O1,O3,Kr,O4,S8,d5,f7,mj,Eg,HO.lst.injEq,HO.tup.injEq,List.set_cons_zero,List.set_cons_succ,List.getElem?_cons_zero,List.getElem?_cons_succ,Option.some.injEq,exists_eq_left',exists_eq_left,exists_and_left,exists_eq,exists_eq',V.int.injEq,V.bl.injEq,V.ref.injEq,V.str.injEq,V.ty.injEq,decide_eq_true_eq,true_and,and_true,List.cons.injEq,List.append_nil,List.cons_append,List.nil_append,reduceCtorEq,Bool.not_eq_true',decide_eq_false_iff_not,and_assoc,ite_not,if_true,if_false,Bool.false_eq_true,decide_true,decide_false,L2.start,List.map_cons,List.map_nil,List.length_cons,List.length_nil,Nat.reduceAdd,Nat.reduceSub,List.replicate,vC,Cx.LQ,Cx.tu,false_and,and_false,exists_false,false_or,or_false,id,dI,Option.getD_some,O2,P_,Ck,qZ,Pb,MQ,Ht,Kw,$ls,*])
local macro_rules | `(tactic| simp_arith [$t:term])=>`(tactic| refine Q8 F $t (fun xs J Q E h=>?_) (fun cdv A outer s H E G xs J Q E2 hr h B=>?_))
local macro_rules | `(tactic| simp_arith [$t:term,$r:term])=>`(tactic| refine S6 F $t (fun xs J Q E h=>?_) (fun cdv A outer s H E G E2 hr B=>$r) (fun xs J Q E2 h X hX=>?_))
local macro_rules | `(tactic| simp_arith [$t:term,$r:term,$u:term])=>`(tactic| refine Q7 F $t (fun xs J Q E h=>?_) (fun cdv A outer s H E G E2 hr B=>$r) (fun xs J Q E2 h X hX=>?_))
local macro_rules | `(tactic| simp_arith! [$ls,*])=>`(tactic| simp only [II,Pd,Qv,OR,OU,j2,rC,xp,SM,rB,Pc,IH,Rr,O6,Kp,O7,Kt,SH,uf,lA,Pe,O5,SG,BR,Ku,SK,OW,Rm,OV,yy,OX,IL,IK,sG,BQ,O_,Kv,AH,Hs,Sj,Si,Sk,ue,O8,Kq,pP,yz,Sn,Sq,So,SX,Rn,Ro,FQ,qI,qU,OP,SE,FR,Kk,OT,OS,Rk,OK,Mr,OM,Mo,FP,Rj,wx,OQ,Mn,BN,Ki,QM,QL,NZ,QY,QZ,N4,N3,JO,RM,PH,RL,RN,RP,RK,PK,PB,KH,Pz,PD,Px,PC,QJ,QK,NU,Qy,QC,QF,QH,Qz,QD,RD,RH,RF,Kj,K_,La,NI,K',NJ,ID,wq,AE,IE,AF,eq_int,eq_str,NM,Bk,Lq,Lr,PJ,LB,rZ,Lj,xg,M5,M6,M3,M4,Nat.reduceAdd,Nat.reduceSub,Nat.reduceLeDiff,R1,R3,M0,M1,List.append_nil,RU,RV,R4,R5,Option.some.injEq,exists_eq_left',exists_eq_left,exists_and_left,exists_eq,exists_eq',PV.int.injEq,PV.bl.injEq,PV.ref.injEq,PV.str.injEq,PV.ty.injEq,PV.tup.injEq,PV.fl.injEq,HQ.lst.injEq,HQ.ins.injEq,HQ.dct.injEq,decide_eq_true_eq,true_and,and_true,List.cons.injEq,reduceCtorEq,Bool.not_eq_true',decide_eq_false_iff_not,and_assoc,ite_not,if_true,if_false,Bool.false_eq_true,decide_true,decide_false,false_and,and_false,exists_false,false_or,or_false,id,d5,f7,mj,Eg,Ny,Nz,NA,NB,NC,ND,K6,K7,S_,RY,RX,R0,av,Bool.and_true,R6,Bool.and_false,RQ,JQ,N5,N6,N7,N8,N9,N_,N',Oa,Ob,LC,LD,LF,PL,MU,Jv,MV,MW,Jw,String.reduceEq,PN,PQ,qz,RZ,List.not_mem_nil,exists_const,OA,Oo,Ou,Oq,OB,Oz,OC,Om,Ow,Ot,JY,Ox,L5,Oy,OD,ON,Mp,OO,FT,Km,Ko,Ks,Sl,Mq,BO,wy,Sm,$ls,*])
local macro_rules | `(tactic| simp_all! [$ls,*])=>`(tactic| repeat (first | (with_reducible refine hNq _ _ ?_;clear hNq Nq) | with_reducible refine AL fun Nq hNq=>?_ | simp_arith! [$ls,*]))
section
variable {P:Program} {w:World} {K:PySem.W.Frag} {mg:Str→Option Value} {base:Heap}
abbrev oK:Stmt:=(top 14)
abbrev jt:List Str:=["one","two"]
theorem pU:L2.aw ["one","two"] ["one","two"] (L2.aj oK):=ed
def sY:Sp:=fun vs H Q _=>∃ a b:Int,vs=[.int a,.int b]∧Q (.int (Int.gcd a b:Nat)) H
theorem Dj {f:Addr} {fd:FuncData} (F:cA K "shared" "shared" oK f fd) (Z:DT mg):aL P w K mg base ra 1 f fd jt sY:=by
 refine F.ok pU (fun vs H Q E h=>?_) (fun cdv A outer s H vs Q E hr h=>?_)
 ·obtain ⟨a,b,rfl,_⟩:=h
  rfl
 obtain ⟨a,b,rfl,q⟩:=h
 refine ⟨_,(QB.run (aW (pM (i:=0) (j:=1) rfl pU.nd rfl rfl (by decide) rfl rfl (ay (bG nG rfl Z.abs boot_abs (ay (pv 0) a_)) (ay (bG nG rfl Z.abs boot_abs (ay (pv 1) a_)) a_)) rfl)
   (aW (lz PassesOwn.never (dW Kc (pv 1) aP (fz _)) (bK (pM (i:=0) (j:=1) rfl pU.nd rfl rfl (by decide) rfl rfl (ay (pv 1) (ay (bB gM (pv 0) (pv 1)) a_)) rfl)))
   (bK (d6 (pv 0)))))),?_⟩
 refine ⟨_,rfl,a,rfl,_,rfl,b,rfl,_,_,rfl,?_⟩
 refine y3 (fun σ H'=>∃ x y:Int,σ=[some (.int x),some (.int y)]∧H=H'∧0≤x∧0≤y∧Int.gcd x y=Int.gcd a b) (fun σ _=>match σ with | [_,some (.int y)]=>y.toNat | _=>0)
  ⟨_,_,rfl,rfl,by split <;> omega,by split <;> omega,Hv a b⟩ ?_ (fun σ H Q Q' m h=>?_)
 ·rintro σ H' ⟨x,y,rfl,rfl,hx,hy,hg⟩
  dsimp! [rJoin]
  split
  ·rename_i hy0
   subst hy0
   rw [← hg,Bq hx] at q
   exact q
  ·rename_i hy0
   have h1:=Int.emod_lt_of_pos x (show 0 < y by omega)
   have h2:=Int.emod_nonneg x hy0
   exact ⟨by omega,hy,h2,(xO hy0).trans hg,by omega⟩
 ·obtain ⟨v,e,hs,k,ek,hq⟩:=h
  exact ⟨v,e,hs,k,ek,m _ _ hq⟩
def Dig:List Int→List Int→Prop
 | [],[]=>True
 | d :: ds,s :: ss=>(0≤d∧d < s)∧Dig ds ss
 | _,_=>False
theorem Dig.snoc:∀ {ds ss:List Int} {d s:Int},Dig ds ss→0≤d→d < s→Dig (ds ++ [d]) (ss ++ [s])
 | [],[],_,_,_,h0,h1=>⟨⟨h0,h1⟩,trivial⟩
 | _ :: _,_ :: _,_,_,h,h0,h1=>⟨h.1,Dig.snoc h.2 h0 h1⟩
 | [],_ :: _,_,_,h,_,_=>h.elim
 | _ :: _,[],_,_,h,_,_=>h.elim
theorem Dig.cons:∀ {ds ss:List Int} {s:Int},Dig ds (s :: ss)→∃ d r,ds=d :: r∧0≤d∧d < s∧Dig r ss
 | [],_,_,h=>h.elim
 | d :: r,_,_,h=>⟨d,r,rfl,h.1.1,h.1.2,h.2⟩
theorem Dig.nil:∀ {ds:List Int},Dig ds []→ds=[]
 | [],_=>rfl
 | _ :: _,h=>h.elim
theorem Dig.len:∀ {ds ss:List Int},Dig ds ss→ds.length=ss.length
 | [],[],_=>rfl
 | _ :: _,_ :: _,h=>congrArg Nat.succ (Dig.len h.2)
 | [],_ :: _,h=>h.elim
 | _ :: _,[],h=>h.elim
theorem take_snoc {xs:List Int} {i:Nat} {x:Int} (h:xs[i]?=some x):xs.take (i + 1)=xs.take i ++ [x]:=by
 rw [List.take_add_one,h]
 rfl
theorem rT {ns:List Int} {i:Nat} {y:V} (h:(ns.map V.int)[i]?=some y):∃ z,y=V.int z∧ns[i]?=some z:=by
 rw [List.getElem?_map] at h
 cases e:ns[i]? with
 | none=>rw [e] at h;cases h
 | some z=>rw [e] at h;exact ⟨z,(Option.some.inj h).symm,rfl⟩
abbrev wH:Stmt:=(top 46)
abbrev oi:List Str:=["_law_script","_law_k"]
theorem IX:L2.aw ["_law_script","_law_k"] ["_law_script","_law_k"] (L2.aj wH):=ed
abbrev oG:Stmt:=(top 47)
abbrev cU:List Str:=["_law_cell_here","_law_sizes"]
theorem dZ:L2.aw ["_law_cell_here","_law_sizes","_law_out","_law_rest","_law_size","_law_one","_law_k","_law_two"] ["_law_cell_here","_law_sizes"] (L2.aj oG):=ed
def sU (K:PySem.W.Frag):Sp:=fun vs H Q _=>∃ (c:Int) (a:Addr) (ss:List Int),vs=[.int c,.ref a]∧di K H a (ss.map V.int)∧(∀ s∈ss,0 < s∧Bd 9000 s)∧ss.length≤1000 ∧
 ∀ (r:Addr) (H':Hp) (ds:List Int),H r=none→bF H H'→H' r=some (.lst (ds.map V.int))→Dig ds ss→Q (.ref r) H'
theorem Di {f:Addr} {fd:FuncData} (F:cA K "_law_digits" "_law_digits" oG f fd) (Z:DT mg):aL P w K mg base ra 1 f fd cU (sU K):=by
 refine F.ok dZ (fun vs H Q E h=>?_) (fun cdv A outer s H vs Q E hr h=>?_)
 ·obtain ⟨c,a,ss,rfl,_⟩:=h
  rfl
 obtain ⟨c,a,ss,rfl,hS,hs,hl,q⟩:=h
 refine ⟨_,(QB.run (aW (cV (i:=2) dZ.nd rfl (Or.inl rfl) (jY a_))
   (aW (ou (dW J_ (pv 0) (bB Ft aP aP) (fz _)) (aW (cV (i:=3) dZ.nd rfl (Or.inl rfl) (bB Ap (pv 0) (bB Ft aP aP)))
   (aW (pL PassesOwn.never rfl (n9 (pv 1)) (lS (i:=4) dZ.nd rfl (Or.inl rfl)) (aW (lU (sx PySem.F.plainAttrs_list PySem.F.slot_list_append PySem.F.type_list_append gA (pv 2) (ay (bB gM (pv 3) (pv 4)) a_)))
   (bK (cV (i:=3) dZ.nd rfl (Or.inl rfl) (bB gL (pv 3) (pv 4))))))
   (bK (d6 (pv 2))))) gf)
   (aW (cV (i:=5) dZ.nd rfl (Or.inl rfl) (bB gM (pv 0) aP))
   (aW (pL PassesOwn.never rfl (gB rfl Z.range (ay (bG jJ rfl Z.len boot_len (ay (pv 1) a_)) a_)) (lS (i:=6) dZ.nd rfl (Or.inl rfl)) (aW (cV (i:=5) dZ.nd rfl (Or.inl rfl) (bB gM (bB jX (bB cO (pv 5) aP) (bB cO aP (bB jX (pv 6) aP))) aP))
   (aW (cV (i:=7) dZ.nd rfl (Or.inl rfl) (bB gM (bB jX (bB jX (bB cO (pv 5) (pv 5)) (bB cO aP (pv 5))) (pv 6)) aP))
   (bK (lU (sx PySem.F.plainAttrs_list PySem.F.slot_list_append PySem.F.type_list_append gA (pv 2) (ay (bB gM (bB gL (pv 7) aP) (cu vK (pv 1) (pv 6) (fun _ _=>rfl))) a_)))))))
   (bK (d6 (pv 2)))))))),?_⟩
 refine ⟨Nat.zero_le _,fun r hr'=>?_⟩
 have g0:=bF.new hr' (.lst [])
 refine ⟨_,rfl,_,_,rfl,rfl,⟨by decide,by decide,by decide⟩,_,_,rfl,rfl,_,rfl,?_⟩
 refine ER (fun _=>?_) (fun _=>?_)
 ·refine ⟨_,rfl,_,_,rfl,rfl,⟨by decide,by decide,by decide⟩,_,_,rfl,rfl,?_⟩
  refine ⟨_,rfl,a,rfl,⟨_,g0.seq hS⟩,Ey (K:=K) (a:=a) (xs:=ss.map V.int) (fun i σ H2=>∃ (ds:List Int) (rest:Int) (u:Option V),σ=[some (.int c),some (.ref a),some (.ref r),some (.int rest),u,none,none,none] ∧
   bF H H2∧H2 r=some (.lst (ds.map V.int))∧Dig ds (ss.take i)) ⟨[],_,none,rfl,g0,aE,trivial⟩ (fun i σ H2 _ ⟨_,_,_,_,s2,_⟩=>s2.seq hS) ?_ ?_⟩
  ·rintro i y σ H2 hi ⟨ds,rest,u,rfl,s2,hd,hD⟩
   obtain ⟨z,rfl,hz⟩:=rT hi
   obtain ⟨z0,zb⟩:=hs z (List.mem_of_getElem? hz)
   have hil:i < ss.length:=(List.getElem?_eq_some_iff.mp hz).1
   have dl:=hD.len
   rw [List.length_take] at dl
   refine ⟨_,rfl,.inl ⟨rfl,_,di.of hd⟩,_,rfl,_,rfl,_,_,rfl,rfl,z0,r,_,_,rfl,rfl,hd,?_,?_⟩
   ·rw [List.length_map]
    exact bp (by omega)
   refine ⟨_,rfl,_,rfl,_,_,rfl,rfl,⟨by omega,zb⟩,?_⟩
   refine ⟨ds ++ [rest % z],_,_,rfl,s2.Nh hr' _,?_,?_⟩
   ·rw [aE,List.map_append]
    rfl
   ·rw [take_snoc hz]
    exact hD.snoc (Int.emod_nonneg _ (by omega)) (Int.emod_lt_of_pos _ z0)
  ·rintro σ H2 ⟨ds,rest,u,rfl,s2,hd,hD⟩
   rw [List.length_map,List.take_length] at hD
   exact ⟨_,rfl,q r H2 ds hr' s2 hd hD⟩
 ·refine ⟨_,rfl,_,_,rfl,rfl,(show (0:Int) < 2147483647 by decide),?_⟩
  refine ⟨_,rfl,a,_,rfl,.inl (g0.seq hS),_,rfl,?_,?_,uF (lo:=0) (n:=(ss.map V.int).length) (fun i σ H2=>∃ (ds:List Int) (one:Int) (u v:Option V),σ=[some (.int c),some (.ref a),some (.ref r),none,none,some (.int one),u,v] ∧
   0≤one∧one < 2147483647∧bF H H2∧H2 r=some (.lst (ds.map V.int))∧Dig ds (ss.take i)) ⟨[],_,none,none,rfl,Int.emod_nonneg _ (by decide),Int.emod_lt_of_pos _ (by decide),g0,aE,trivial⟩ ?_ ?_⟩
  ·omega
  ·rw [List.length_map];omega
  ·rintro i σ H2 hi ⟨ds,one,u,v,rfl,o0,o1,s2,hd,hD⟩
   rw [List.length_map] at hi
   have hz:ss[i]?=some ss[i]:=List.getElem?_eq_getElem hi
   obtain ⟨z0,zb⟩:=hs ss[i] (List.getElem_mem hi)
   have dl:=hD.len
   rw [List.length_take] at dl
   have e1:dJ (ss.map V.int) (0 + (i:Int))=some (.int ss[i]):=by
    rw [Int.zero_add]
    exact bq (by rw [List.getElem?_map,hz];rfl)
   dsimp! [rJoin]
   have A0:0≤(one * 48271 + 10007 * (0 + (i:Int) + 1)) % 2147483629:=Int.emod_nonneg _ (by decide)
   have A1:(one * 48271 + 10007 * (0 + (i:Int) + 1)) % 2147483629 < 2147483629:=Int.emod_lt_of_pos _ (by decide)
   generalize (one * 48271 + 10007 * (0 + (i:Int) + 1)) % 2147483629=A at A0 A1 ⊢
   generalize ((A * A + 69621 * A + (0 + (i:Int))) % 2147483563).fdiv 11=B
   have small:∀ x:Int,0≤x→x < 2147483648→Bd 64 x:=fun x h1 h2=>Bd.small (by omega) (by omega)
   refine ⟨.of (small _ o0 (by omega)) (small _ (by decide) (by decide)),.of (small _ (by decide) (by decide)) (small _ (by omega) (by omega)),.of (small _ A0 (by omega)) (small _ A0 (by omega)),
    .of (small _ (by decide) (by decide)) (small _ A0 (by omega)),.inl ⟨rfl,_,di.of hd⟩,⟨by decide,(small _ (by decide) (by decide)).mono (by decide)⟩,_,s2.seq hS,_,e1,_,rfl,z0,_,hd,?_,A0,by omega,s2.Nh hr' _,ds ++ [B % ss[i]],?_,?_⟩
   ·rw [List.length_map]
    exact bp (by omega)
   ·rw [aE,List.map_append]
    rfl
   ·rw [take_snoc hz]
    exact hD.snoc (Int.emod_nonneg _ (by omega)) (Int.emod_lt_of_pos _ z0)
  ·rintro σ H2 ⟨ds,one,u,v,rfl,o0,o1,s2,hd,hD⟩
   rw [List.length_map,List.take_length] at hD
   exact ⟨_,rfl,q r H2 ds hr' s2 hd hD⟩
def Nu (H:Hp) (q:Rat) (Q:VK):Prop:=∀ (r:Addr) (H':Hp),bF H H'→H' r=some (.tup [.int q.num,.int q.den])→Q (.ref r) H'
abbrev j6:Stmt:=(top 15)
abbrev dO:List Str:=["top","bottom"]
theorem lE:L2.aw ["top","bottom","divisor"] ["top","bottom"] (L2.aj j6):=ed
def gU:Sp:=fun vs H Q _=>∃ t b:Int,vs=[.int t,.int b]∧b≠0∧Bd 9000 b∧Nu H (Rat.divInt t b) Q
theorem EC {n:Nat} {t b:Int} (h:b≠0) (hb:Bd n b):Bd n ((Int.gcd t b:Nat):Int):=hb.le (by have:=Ll (t:=t) h;omega)
theorem yb {f:Addr} {fd:FuncData} (F:cA K "fraction" "fraction" j6 f fd) (Z:DT mg) (i8:tD P w K mg base 1 "shared" jt sY):aL P w K mg base ra 2 f fd dO gU:=by
 refine F.ok lE (fun vs H Q E h=>?_) (fun cdv A outer s H vs Q E hr h=>?_)
 ·obtain ⟨t,b,rfl,_⟩:=h
  rfl
 obtain ⟨t,b,rfl,hb,bb,q⟩:=h
 have hg:=Br (t:=t) hb
 have gb:=EC (t:=t) hb bb
 refine ⟨_,(QB.run (aW (ou (dW Fs (pv 1) aP (fz _)) pN gf)
   (aW (cV (i:=2) lE.nd rfl (Or.inl rfl) (yr i8 hr (by decide) rfl (ay (pv 0) (ay (pv 1) a_))))
   (yu (ou (dW BG (pv 1) aP (fz _)) (bK (cV (i:=2) lE.nd rfl (Or.inl rfl) (BJ GF (pv 2)))) gf)
   (bK (d6 (sC (ay (bB gL (pv 0) (pv 2)) (ay (bB gL (pv 1) (pv 2)) a_))))))))),?_⟩
 refine ⟨_,rfl,rfl,_,rfl,?_⟩
 refine ER (fun c=>absurd (V.int.inj (of_decide_eq_true c)) hb) (fun _=>?_)
 refine ⟨_,rfl,_,rfl,t,b,rfl,?_⟩
 refine ⟨fun σ' H'=>∃ d:Int,σ'=[some (.int t),some (.int b),some (.int d)]∧H=H'∧d≠0∧Bd 9000 d∧t.fdiv d=(Rat.divInt t b).num∧b.fdiv d=(Rat.divInt t b).den,?_,?_⟩
 ·refine ⟨_,rfl,_,_,rfl,rfl,_,rfl,ER (fun c=>?_) (fun c=>?_)⟩
  ·have c':b < 0:=of_decide_eq_true c
   exact ⟨_,rfl,_,rfl,_,rfl,rfl,by omega,gb.neg,BF c',Hg c'⟩
  ·have c':0 < b:=by
    have:=of_decide_eq_false (Bool.eq_false_iff.mpr c)
    omega
   exact ⟨_,rfl,rfl,by omega,gb,vS c',den_pos c'⟩
 rintro _ _ ⟨d,rfl,rfl,hd,bd,e1,e2⟩
 refine ⟨_,rfl,_,rfl,_,_,rfl,rfl,⟨hd,bd⟩,_,rfl,_,rfl,_,_,rfl,rfl,⟨hd,bd⟩,(by show 2≤sizeLine;decide),fun p hp=>?_⟩
 exact q p _ (bF.new hp _) (by rw [aE];show some (HO.tup [V.int (t.fdiv d),V.int (b.fdiv d)])=_;rw [e1,e2])
abbrev BW:Stmt:=(top 49)
abbrev cX:List Str:=["_law_top","_law_bottom"]
theorem wV:L2.aw ["_law_top","_law_bottom","_law_one","_law_two"] ["_law_top","_law_bottom"] (L2.aj BW):=ed
def Kz:Sp:=fun vs H Q _=>∃ t b:Int,vs=[.int t,.int b]∧0 < b∧Bd 9000 b∧Nu H (Rat.divInt t b) Q
theorem LW {f:Addr} {fd:FuncData} (F:cA K "_law_low" "_law_low" BW f fd) (Z:DT mg):aL P w K mg base ra 1 f fd cX Kz:=by
 refine F.ok wV (fun vs H Q E h=>?_) (fun cdv A outer s H vs Q E hr h=>?_)
 ·obtain ⟨t,b,rfl,_⟩:=h
  rfl
 obtain ⟨t,b,rfl,hb,bb,q⟩:=h
 have hg:=Br (t:=t) (show b≠0 by omega)
 have gb:=EC (t:=t) (show b≠0 by omega) bb
 refine ⟨_,(QB.run (aW (cV (i:=2) wV.nd rfl (Or.inl rfl) (bG nG rfl Z.abs boot_abs (ay (pv 0) a_)))
   (aW (cV (i:=3) wV.nd rfl (Or.inl rfl) (pv 1))
   (aW (lz PassesOwn.never (dW Kc (pv 3) aP (fz _)) (bK (pM (i:=2) (j:=3) rfl wV.nd rfl rfl (by decide) rfl rfl (ay (pv 3) (ay (bB gM (pv 2) (pv 3)) a_)) rfl)))
   (bK (d6 (sC (ay (bB gL (pv 0) (pv 2)) (ay (bB gL (pv 1) (pv 2)) a_))))))))),?_⟩
 refine ⟨_,rfl,t,rfl,_,rfl,?_⟩
 refine y3 (fun σ H'=>∃ x y:Int,σ=[some (.int t),some (.int b),some (.int x),some (.int y)]∧H=H'∧0≤x∧0≤y∧Int.gcd x y=Int.gcd t b) (fun σ _=>match σ with | [_,_,_,some (.int y)]=>y.toNat | _=>0)
  ⟨_,_,rfl,rfl,by split <;> omega,by omega,EB t b⟩ ?_ (fun σ H Q Q' m h=>?_)
 ·rintro σ H' ⟨x,y,rfl,rfl,hx,hy,hg'⟩
  dsimp! [rJoin]
  split
  ·rename_i hy0
   subst hy0
   have ex:x=((Int.gcd t b:Nat):Int):=by rw [← hg',Bq hx]
   subst ex
   refine ⟨⟨by omega,gb⟩,⟨by omega,gb⟩,(by show 2≤sizeLine;decide),fun p hp=>?_⟩
   exact q p _ (bF.new hp _) (by rw [aE,vS hb,den_pos hb])
  ·rename_i hy0
   have h1:=Int.emod_lt_of_pos x (show 0 < y by omega)
   have h2:=Int.emod_nonneg x hy0
   exact ⟨by omega,hy,h2,(xO hy0).trans hg',by omega⟩
 ·obtain ⟨v,e,hs,k,ek,hq⟩:=h
  exact ⟨v,e,hs,k,ek,m _ _ hq⟩
theorem Gs {m n:Nat} {t b:Int} (hb:b≠0) (h1:Bd m t) (h2:Bd n b) (k:Nat) (hm:m≤k) (hn:n≤k):Sz k (Rat.divInt t b) :=
 ⟨(h1.le (BE t b)).mono hm,(h2.le (vD hb)).mono hn⟩
theorem vR (p q:Rat):(p.den:Int) * (q.den:Int)≠0:=Int.mul_ne_zero (eZ p) (eZ q)
theorem Sz.add {m n k:Nat} {p q:Rat} (h:Sz m p) (g:Sz n q) (hk:m + n + 1≤k:=by decide):Sz k (p + q):=by
 rw [← add_eq]
 exact Gs (vR p q) (.add (.mul h.num g.den (Nat.le_refl _)) (.mul g.num h.den (Nat.le_refl _)) (Nat.le_refl _)) (.mul h.den g.den (Nat.le_refl _)) k (by omega) (by omega)
theorem Sz.sub {m n k:Nat} {p q:Rat} (h:Sz m p) (g:Sz n q) (hk:m + n + 1≤k:=by decide):Sz k (p - q):=by
 rw [← sub_eq]
 exact Gs (vR p q) (.sub (.mul h.num g.den (Nat.le_refl _)) (.mul g.num h.den (Nat.le_refl _)) (Nat.le_refl _)) (.mul h.den g.den (Nat.le_refl _)) k (by omega) (by omega)
theorem Sz.mul {m n k:Nat} {p:Rat} {i:Int} (h:Sz m p) (g:Bd n i) (hk:m + n≤k:=by decide):Sz k (p * i):=by
 rw [← mul_eq]
 exact Gs (eZ p) (.mul h.num g (Nat.le_refl _)) h.den k hk (by omega)
def Pn (K:PySem.W.Frag) (g:Rat→Rat→Rat):Sp:=fun vs H Q _=>∃ (a b:Addr) (p q:Rat),vs=[.ref a,.ref b]∧M7 K H a p∧M7 K H b q∧Sz 4000 p∧Sz 4000 q∧Nu H (g p q) Q
abbrev wL:Stmt:=(top 16)
abbrev qK:List Str:=["one","two"]
theorem Je:L2.aw ["one","two"] ["one","two"] (L2.aj wL):=ed
theorem HZ {f:Addr} {fd:FuncData} (F:cA K "plus" "plus" wL f fd) (Z:DT mg) (bY:tD P w K mg base 2 "fraction" dO gU):aL P w K mg base ra 3 f fd qK (Pn K fun p q=>p + q):=by
 refine F.ok Je (fun vs H Q E h=>?_) (fun cdv A outer s H vs Q E hr h=>?_)
 ·obtain ⟨a,b,p,q,rfl,_⟩:=h
  rfl
 obtain ⟨a,b,p,q,rfl,ha,hb,sp,sq,k⟩:=h
 refine ⟨_,(QB.run (bK (d6 (yr bY hr (by decide) rfl (ay (bB jX (bB cO (cu de (pv 0) aP (fun _ _=>rfl)) (cu de (pv 1) aP (fun _ _=>rfl))) (bB cO (cu de (pv 1) aP (fun _ _=>rfl)) (cu de (pv 0) aP (fun _ _=>rfl)))) (ay (bB cO (cu de (pv 0) aP (fun _ _=>rfl)) (cu de (pv 1) aP (fun _ _=>rfl))) a_)))))),?_⟩
 refine ⟨_,rfl,_,_,_,_,rfl,rfl,ha,rfl,_,rfl,_,_,_,_,rfl,rfl,hb,rfl,_,_,rfl,rfl,.of sp.num sq.den,_,rfl,_,_,_,_,rfl,rfl,hb,rfl,_,rfl,_,_,_,_,rfl,rfl,ha,rfl,_,_,rfl,rfl,.of sq.num sp.den,_,_,rfl,rfl,_,rfl,_,_,_,_,rfl,rfl,ha,rfl,_,rfl,_,_,_,_,rfl,rfl,hb,rfl,_,_,rfl,rfl,.of sp.den sq.den,_,_,rfl,vR p q,.mul sp.den sq.den,?_⟩
 rw [add_eq]
 exact k
abbrev qO:Stmt:=(top 17)
abbrev lq:List Str:=["one","two"]
theorem F3:L2.aw ["one","two"] ["one","two"] (L2.aj qO):=ed
theorem Fd {f:Addr} {fd:FuncData} (F:cA K "minus" "minus" qO f fd) (Z:DT mg) (bY:tD P w K mg base 2 "fraction" dO gU):aL P w K mg base ra 3 f fd lq (Pn K fun p q=>p - q):=by
 refine F.ok F3 (fun vs H Q E h=>?_) (fun cdv A outer s H vs Q E hr h=>?_)
 ·obtain ⟨a,b,p,q,rfl,_⟩:=h
  rfl
 obtain ⟨a,b,p,q,rfl,ha,hb,sp,sq,k⟩:=h
 refine ⟨_,(QB.run (bK (d6 (yr bY hr (by decide) rfl (ay (bB Ap (bB cO (cu de (pv 0) aP (fun _ _=>rfl)) (cu de (pv 1) aP (fun _ _=>rfl))) (bB cO (cu de (pv 1) aP (fun _ _=>rfl)) (cu de (pv 0) aP (fun _ _=>rfl)))) (ay (bB cO (cu de (pv 0) aP (fun _ _=>rfl)) (cu de (pv 1) aP (fun _ _=>rfl))) a_)))))),?_⟩
 refine ⟨_,rfl,_,_,_,_,rfl,rfl,ha,rfl,_,rfl,_,_,_,_,rfl,rfl,hb,rfl,_,_,rfl,rfl,.of sp.num sq.den,_,rfl,_,_,_,_,rfl,rfl,hb,rfl,_,rfl,_,_,_,_,rfl,rfl,ha,rfl,_,_,rfl,rfl,.of sq.num sp.den,_,_,rfl,rfl,_,rfl,_,_,_,_,rfl,rfl,ha,rfl,_,rfl,_,_,_,_,rfl,rfl,hb,rfl,_,_,rfl,rfl,.of sp.den sq.den,_,_,rfl,vR p q,.mul sp.den sq.den,?_⟩
 rw [sub_eq]
 exact k
abbrev qQ:Stmt:=(top 18)
abbrev oy:List Str:=["one","many"]
theorem F7:L2.aw ["one","many"] ["one","many"] (L2.aj qQ):=ed
def Ca (K:PySem.W.Frag):Sp:=fun vs H Q _=>∃ (a:Addr) (p:Rat) (m:Int),vs=[.ref a,.int m]∧M7 K H a p∧Sz 9000 p∧Bd 9000 m∧Nu H (p * m) Q
theorem Ff {f:Addr} {fd:FuncData} (F:cA K "times" "times" qQ f fd) (Z:DT mg) (bY:tD P w K mg base 2 "fraction" dO gU):aL P w K mg base ra 3 f fd oy (Ca K):=by
 refine F.ok F7 (fun vs H Q E h=>?_) (fun cdv A outer s H vs Q E hr h=>?_)
 ·obtain ⟨a,p,m,rfl,_⟩:=h
  rfl
 obtain ⟨a,p,m,rfl,ha,sp,bm,k⟩:=h
 refine ⟨_,(QB.run (bK (d6 (yr bY hr (by decide) rfl (ay (bB cO (cu de (pv 0) aP (fun _ _=>rfl)) (pv 1)) (ay (cu de (pv 0) aP (fun _ _=>rfl)) a_)))))),?_⟩
 refine ⟨_,rfl,_,_,_,_,rfl,rfl,ha,rfl,_,rfl,_,_,rfl,rfl,.of sp.num bm,_,rfl,_,_,_,_,rfl,rfl,ha,rfl,_,_,rfl,eZ p,sp.den,?_⟩
 rw [mul_eq]
 exact k
abbrev wJ:Stmt:=(top 19)
abbrev gd:List Str:=["one","two"]
theorem IZ:L2.aw ["one","two"] ["one","two"] (L2.aj wJ):=ed
def Gg (K:PySem.W.Frag):Sp:=fun vs H Q _=>∃ (a b:Addr) (p q:Rat),vs=[.ref a,.ref b]∧M7 K H a p∧M7 K H b q∧Sz 9000 p∧Sz 9000 q∧Q (.bl (decide (p < q))) H
theorem HF (p q:Rat):decide (p.num * q.den < q.num * p.den)=decide (p < q):=decide_eq_decide.mpr (Rat.lt_iff p q).symm
theorem HY {f:Addr} {fd:FuncData} (F:cA K "less" "less" wJ f fd) (Z:DT mg):aL P w K mg base ra 1 f fd gd (Gg K):=by
 refine F.ok IZ (fun vs H Q E h=>?_) (fun cdv A outer s H vs Q E hr h=>?_)
 ·obtain ⟨a,b,p,q,rfl,_⟩:=h
  rfl
 obtain ⟨a,b,p,q,rfl,ha,hb,sp,sq,k⟩:=h
 refine ⟨_,(QB.run (bK (d6 (qH BG (bB cO (cu de (pv 0) aP (fun _ _=>rfl)) (cu de (pv 1) aP (fun _ _=>rfl))) (bB cO (cu de (pv 1) aP (fun _ _=>rfl)) (cu de (pv 0) aP (fun _ _=>rfl))) (fz _))))),?_⟩
 refine ⟨_,rfl,_,_,_,_,rfl,rfl,ha,rfl,_,rfl,_,_,_,_,rfl,rfl,hb,rfl,_,_,rfl,rfl,.of sp.num sq.den,_,rfl,_,_,_,_,rfl,rfl,hb,rfl,_,rfl,_,_,_,_,rfl,rfl,ha,rfl,_,_,rfl,rfl,.of sq.num sp.den,_,_,rfl,rfl,?_⟩
 show Q (.bl (decide (p.num * q.den < q.num * p.den))) H
 rw [HF]
 exact k
theorem By {K:PySem.W.Frag} {J:Hq} {H:Hp}:∀ {ns:List Int} {vs:List V},aR K J H (ns.map PV.int) vs→vs=ns.map V.int
 | [],_,h=>h
 | n :: ns,_,⟨v,us,e,h,k⟩=>by subst e;cases h;rw [By k];rfl
theorem L_ {K:PySem.W.Frag} {J:Hq} {H:Hp} {x:PV} {vs:List V} (h:aR K J H [x] vs):∃ v,vs=[v]∧cE K J H x v:=by
 obtain ⟨v,us,rfl,h1,h2⟩:=h;cases h2;exact ⟨v,rfl,h1⟩
theorem kg {K:PySem.W.Frag} {J:Hq} {H:Hp} {x y:PV} {vs:List V} (h:aR K J H [x,y] vs):∃ v u,vs=[v,u]∧cE K J H x v∧cE K J H y u:=by
 obtain ⟨v,us,rfl,h1,u,us',rfl,h2,h3⟩:=h;cases h3;exact ⟨v,u,rfl,h1,h2⟩
theorem rO {K:PySem.W.Frag} {J:Hq} {H:Hp} {q:Rat} {v:V} (h:cE K J H (fr q) v):∃ a,v=.ref a∧M7 K H a q:=by
 obtain ⟨a,vs,rfl,h1,h2⟩:=h
 obtain ⟨x,y,rfl,r1,r2⟩:=kg h2
 cases r1;cases r2
 exact ⟨a,rfl,h1⟩
theorem wC {K:PySem.W.Frag} {J:Hq} {H:Hp} {q:Rat} {Q2:PV→Hq→Prop} {Q:VK} (r:Rep K J H) (k:Kn K J H Q2 Q) (h:Q2 (fr q) J):Nu H q Q:=fun a H' s e =>
 k (fr q) J (.ref a) H' ⟨a,_,rfl,g7.of e,⟨_,_,rfl,rfl,_,_,rfl,rfl,rfl⟩⟩ (r.same s) (.same s) h
def AQ:cJ:=fun xs J Q _=>∃ (c:Int) (ss:List Int),xs=[.int c,.fl (ss.map .int)]∧(∀ s∈ss,0 < s∧Bd 9000 s)∧ss.length≤1000∧∀ ds,Dig ds ss→Q (.fl (ds.map .int)) J
theorem xX (C:tD P w K mg base 1 "_law_digits" cU (sU K)):bt P w K mg base 1 "_law_digits" cU AQ:=C.lift fun xs J vs H Q2 E2 Q E rs r ⟨c,ss,ex,h0,h1,q⟩ kn=>by
 subst ex
 obtain ⟨v,u,rfl,r1,⟨a,ws,rfl,h2,h3⟩⟩:=kg rs
 cases r1;cases By h3
 refine ⟨c,a,ss,rfl,h2.sq,h0,h1,fun p H' ds hp s e D=>kn (.fl (ds.map .int)) J (.ref p) H' ⟨p,_,rfl,.inl ⟨r.free hp,.inl e⟩,pQ ds⟩ (r.same s) (.same s) (q ds D)⟩
def j_:cJ:=fun xs J Q _=>∃ t b:Int,xs=[.int t,.int b]∧0 < b∧Bd 9000 b∧Q (fr (Rat.divInt t b)) J
theorem E6 (C:tD P w K mg base 1 "_law_low" cX Kz):bt P w K mg base 1 "_law_low" cX j_:=C.lift fun xs J vs H Q2 E2 Q E rs r ⟨t,b,ex,h0,h1,q⟩ kn=>by
 subst ex
 obtain ⟨v,u,rfl,r1,r2⟩:=kg rs
 cases r1;cases r2
 exact ⟨t,b,rfl,h0,h1,wC r kn q⟩
def d3:cJ:=fun xs J Q _=>∃ p q:Rat,xs=[fr p,fr q]∧Sz 9000 p∧Sz 9000 q∧Q (.bl (decide (p < q))) J
theorem C6 (C:tD P w K mg base 1 "less" gd (Gg K)):bt P w K mg base 1 "less" gd d3:=C.lift fun xs J vs H Q2 E2 Q E rs r ⟨p,q,ex,h0,h1,z⟩ kn=>by
 subst ex
 obtain ⟨v,u,rfl,r1,r2⟩:=kg rs
 obtain ⟨a,rfl,f1⟩:=rO r1
 obtain ⟨b,rfl,f2⟩:=rO r2
 exact ⟨a,b,p,q,rfl,f1,f2,h0,h1,kn (.bl _) J _ H rfl r .refl z⟩
def AN (g:Rat→Rat→Rat):cJ:=fun xs J Q _=>∃ p q:Rat,xs=[fr p,fr q]∧Sz 4000 p∧Sz 4000 q∧Q (fr (g p q)) J
theorem JP {x:Str} {ps:List Str} {k:Nat} {g:Rat→Rat→Rat} (C:tD P w K mg base k x ps (Pn K g)):bt P w K mg base k x ps (AN g):=C.lift fun xs J vs H Q2 E2 Q E rs r ⟨p,q,ex,h0,h1,z⟩ kn=>by
 subst ex
 obtain ⟨v,u,rfl,r1,r2⟩:=kg rs
 obtain ⟨a,rfl,f1⟩:=rO r1
 obtain ⟨b,rfl,f2⟩:=rO r2
 exact ⟨a,b,p,q,rfl,f1,f2,h0,h1,wC r kn z⟩
theorem C7 (C:tD P w K mg base 3 "plus" qK (Pn K fun p q=>p + q)):bt P w K mg base 3 "plus" qK (AN fun p q=>p + q):=JP C
theorem zY (C:tD P w K mg base 3 "minus" lq (Pn K fun p q=>p - q)):bt P w K mg base 3 "minus" lq (AN fun p q=>p - q):=JP C
def s_:cJ:=fun xs J Q _=>∃ (p:Rat) (m:Int),xs=[fr p,.int m]∧Sz 9000 p∧Bd 9000 m∧Q (fr (p * m)) J
theorem z_ (C:tD P w K mg base 3 "times" oy (Ca K)):bt P w K mg base 3 "times" oy s_:=C.lift fun xs J vs H Q2 E2 Q E rs r ⟨p,m,ex,h0,h1,z⟩ kn=>by
 subst ex
 obtain ⟨v,u,rfl,r1,r2⟩:=kg rs
 obtain ⟨a,rfl,f1⟩:=rO r1
 cases r2
 exact ⟨a,p,m,rfl,f1,h0,h1,wC r kn z⟩
def aY.V (l:aY):PV:=.tup [fr l.m,fr l.p,.int l.v]
theorem uU (m p:Rat) (v:Int):PV.tup [fr m,fr p,.int v]=(aY.mk m p v).V:=rfl
theorem BB (J:Hq) (l:aY):fY J l.V (.int 0)=some (fr l.m):=d5 _ _
theorem NY (J:Hq) (l:aY):fY J l.V (.int 1)=some (fr l.p):=f7 _ _ _
theorem nS (J:Hq) (l:aY):fY J l.V (.int 2)=some (.int l.v):=mj _ _ _ _
theorem Qt (a b:aY):eqQ a.V b.V=decide (a=b):=by
 unfold aY.V
 rw [rM,dm,dm,dm,nK,Bk,Bk,eq_int,Bool.and_true,← Bool.decide_and,← Bool.decide_and]
 apply decide_eq_decide.mpr
 cases a;cases b
 simp [aY.mk.injEq]
theorem Nw (a b:aY):(a.V=b.V)=(a=b):=by
 apply propext
 constructor
 ·intro e
  have:=Qt a b
  rw [e,eq_self] at this
  exact of_decide_eq_true this.symm
 ·intro e;rw [e]
def ql:cJ:=fun xs J Q _=>∃ (l:aY) (t:Rat),xs=[l.V,fr t]∧Sz 900 l.m∧Sz 900 l.p∧Sz 900 t∧Bd 64 l.v∧Q (fr (l.at t)) J
abbrev j9:Stmt:=(top 27)
abbrev hW:List Str:=["leg","moment"]
theorem ij:L2.aw ["leg","moment","begun","place","pace"] ["leg","moment"] (L2.aj j9):=ed
theorem v9 {f:Addr} {fd:FuncData} (F:cA K "place_on" "place_on" j9 f fd) (Z:bW mg) (zh:bt P w K mg base 3 "plus" qK (AN fun p q=>p + q)) (nv:bt P w K mg base 3 "minus" lq (AN fun p q=>p - q)) (vd:bt P w K mg base 3 "times" oy s_) :
  aL P w K mg base (dh P w) 4 f fd hW (d4 K ql):=by
 simp_arith [ij,(ai (wD (rv 0) (sJ (n:=3) rfl (dn (bP (i:=2) ij.nd) (dn (bP (i:=3) ij.nd) (dn (bP (i:=4) ij.nd) oE)))))
   (ak (aA (aS zh B hr (af (rv 3) (af (aS vd B hr (af (aS nv B hr (af (rv 1) (af (rv 2) ah))) (af (rv 4) ah))) ah))))))]
 ·obtain ⟨l,t,rfl,_⟩:=h;rfl
 obtain ⟨l,t,rfl,sb,sp,sm,bv,q⟩:=h
 have s1:Sz 1801 (t - l.m):=sm.sub sb
 have s2:Sz 1900 ((t - l.m) * (l.v:Rat)):=s1.mul bv
 refine hX ?_
 simp_arith! [bI,aY.V,AN,s_]
 exact ⟨sm.mono (by decide),sb.mono (by decide),s1.mono (by decide),bv.mono (by decide),sp.mono (by decide),s2.mono (by decide),q⟩
theorem Lk (n:Int):PV.tup [.int n,.int 1]=fr (n:Rat):=rfl
theorem lN (p q:Rat):p.num * (q.den:Int)=q.num * (p.den:Int)↔p=q:=by
 have a:=cast_eq p
 have b:=cast_eq q
 have c:=d7 p
 have d:=d7 q
 constructor
 ·intro h
  have h':((p.num * (q.den:Int):Int):Rat)=((q.num * (p.den:Int):Int):Rat):=by rw [h]
  rw [Rat.intCast_mul,Rat.intCast_mul,a,b] at h'
  grind
 ·intro h;rw [h]
def gv:Option Rat→PV
 | none=>.non
 | some q=>fr q
structure GZ (cL:Addr) (J:Hq) (p r:Addr) (rows:List aY) (g:Option Rat):Prop where
 o:J p=some (.ins cL [("rows",.ref r),("gone",gv g)])
 l:J r=some (.lst (rows.map aY.V))
theorem GZ.ne {cL:Addr} {J:Hq} {p r:Addr} {rows:List aY} {g:Option Rat} (h:GZ cL J p r rows g):r≠p:=by
 intro e;subst e;have:=h.o;rw [h.l] at this;cases this
structure qo (n:Nat) (l:aY):Prop where
 m:Sz n l.m
 p:Sz n l.p
 v:Bd 64 l.v
theorem qo.mono {n k:Nat} {l:aY} (h:qo n l) (e:n≤k):qo k l:=⟨h.m.mono e,h.p.mono e,h.v⟩
theorem JR (a b:PV):([("rows",a),("gone",b)]:List (Str × PV)).lookup ("rows":Str)=some a:=rfl
theorem S2 (a b:PV):([("rows",a),("gone",b)]:List (Str × PV)).lookup ("gone":Str)=some b:=rfl
theorem HG {m:Str} (a b:PV) (h:(m == ("rows":Str))=false) (k:(m == ("gone":Str))=false):([("rows",a),("gone",b)]:List (Str × PV)).lookup m=none:=by rw [List.lookup_cons,h];simp only;rw [List.lookup_cons,k];rfl
theorem Of (a b:PV):([("rows",a),("gone",b)]:List (Str × PV)).lookup ("turn":Str)=none:=HG a b (by decide +kernel) (by decide +kernel)
theorem QR (a b:PV):([("rows",a),("gone",b)]:List (Str × PV)).lookup ("leave":Str)=none:=HG a b (by decide +kernel) (by decide +kernel)
theorem QU (a b:PV):([("rows",a),("gone",b)]:List (Str × PV)).lookup ("there":Str)=none:=HG a b (by decide +kernel) (by decide +kernel)
theorem QV (a b:PV):([("rows",a),("gone",b)]:List (Str × PV)).lookup ("leg_at":Str)=none:=HG a b (by decide +kernel) (by decide +kernel)
theorem JW:(("rows":Str)=("gone":Str))=False:=eq_false (by decide +kernel)
theorem kS {J:Hq} {l:Addr} {o:HQ} (h:J l=none):o9 J (put J l o):=fun a=>by
 by_cases e:a=l
 ·subst e;exact .inr h
 ·rw [au e];exact .inl rfl
theorem Iy (x z:PV):pP ("gone":Str) z (pP ("rows":Str) x [])=([("rows",x),("gone",z)]:List (Str × PV)):=by simp only [pP,JW,if_false]
abbrev fj:Stmt:=(L2.inClass (top 31) 0)
abbrev ko:List Str:=["self","moment","place","pace"]
theorem qy:L2.aw ["self","moment","place","pace"] ["self","moment","place","pace"] (L2.aj fj):=ed
def B4 (cL:Addr):cJ:=fun xs J Q _=>∃ (p:Addr) (l:aY),xs=[.ref p,fr l.m,fr l.p,.int l.v]∧J p=some (.ins cL [])∧∀ r,J r=none→Q .non (put (put J r (.lst [l.V])) p (.ins cL [("rows",.ref r),("gone",.non)]))
theorem x_ {cL f:Addr} {fd:FuncData} (F:cA K "__init__" "Log.__init__" fj f fd) (bH:eD K mg "Log" cL) (aV:aH K cL "rows") (bQ:aH K cL "gone"):aL P w K mg base (dh P w) 1 f fd ko (d4 K (B4 cL)):=by
 simp_arith [qy,(ai (iZ bH.cl aV (rv 0) (m6 (af (cm (af (rv 1) (af (rv 2) (af (rv 3) ah)))) ah)))
   (ak (iZ bH.cl bQ (rv 0) m7)))]
 ·obtain ⟨p,l,rfl,_⟩:=h;rfl
 obtain ⟨p,l,rfl,hp,q⟩:=h
 refine hX ?_
 simp_arith! [bI,uU]
 intro r hr'
 have ne:p≠r:=by intro e;subst e;rw [hp] at hr';cases hr'
 refine m5 (by rw [au ne];exact hp) ⟨by decide,m5 av ⟨by show (1:Nat) < 1000;decide,?_⟩⟩
 rw [fe,Iy]
 exact q r hr'
abbrev j4:Stmt:=(L2.inClass (top 31) 1)
abbrev k9:List Str:=["self","moment","pace"]
theorem qj:L2.aw ["self","moment","pace","place"] ["self","moment","pace"] (L2.aj j4):=ed
def xa (cL:Addr):cJ:=fun xs J Q _=>∃ p r rows g t v,xs=[.ref p,fr t,.int v]∧GZ cL J p r rows g∧rows≠[]∧rows.length≤900∧Sz 900 t∧(∀ l∈rows,qo 900 l)∧Q .non (put J r (.lst ((turned rows t v).map aY.V)))
theorem ya {cL f:Addr} {fd:FuncData} (F:cA K "turn" "Log.turn" j4 f fd) (Z:bW mg) (bH:eD K mg "Log" cL) (aV:aH K cL "rows") (eA:bt P w K mg base 4 "place_on" hW ql):aL P w K mg base (dh P w) 5 f fd k9 (d4 K (xa cL)):=by
 simp_arith [qj,(ai (aF (i:=3) qj.nd (aS eA B hr (af (aq ar (aZ bH.cl aV (rv 0)) (uO p6 ag)) (af (rv 1) ah))))
   (cP (aU (aD (cn hr.aO) (aq ar (aq ar (aZ bH.cl aV (rv 0)) (uO p6 ag)) ag) (rv 1)) (ak (bh (Mw PySem.F.plainAttrs_list PySem.F.slot_list_pop PySem.F.type_list_pop LN (aZ bH.cl aV (rv 0))))) aI)
   (ai (aU (dC (eJ (ME (aZ bH.cl aV (rv 0))) (dB (aD (cn hr.aO) (aq ar (aq ar (aZ bH.cl aV (rv 0)) (uO p6 ag)) ag) (rv 2))))) (ak IV) aI)
   (ak (bh (oz PySem.F.plainAttrs_list PySem.F.slot_list_append PySem.F.type_list_append pE (aZ bH.cl aV (rv 0)) (af (cm (af (rv 1) (af (rv 3) (af (rv 2) ah)))) ah)))))))]
 ·obtain ⟨p,r,rows,g,t,v,rfl,_⟩:=h;rfl
 obtain ⟨p,r,rows,g,t,v,rfl,b,hne,hl,st,sl,q⟩:=h
 obtain ⟨ls,l,rfl⟩:∃ ls l,rows=ls ++ [l]:=⟨rows.dropLast,rows.getLast hne,(List.dropLast_concat_getLast hne).symm⟩
 have bo:=b.o
 have bl:=b.l
 have npr:=b.ne
 have sl':=sl l (by simp)
 have hla:dJ ((ls ++ [l]).map aY.V) (-1)=some l.V:=by rw [List.map_append];exact A9 _ _
 refine hX ?_
 simp_arith! [bI,bo,bl,JR]
 refine k7 hla ⟨l,t,rfl,sl'.m,sl'.p,st,sl'.v,?_⟩
 obtain ⟨M,hM⟩:∃ M:Sr→Hq→Prop,∀ τ' J',M τ' J'↔τ'=[some (.ref p),some (fr t),some (.int v),some (fr (l.at t))]∧J'=put J r (.lst ((if l.m=t then ls else ls ++ [l]).map aY.V)):=⟨_,fun _ _=>Iff.rfl⟩
 refine ⟨M,?_,?_⟩
 ·simp_arith! [bI,bo,bl,JR,hla,BB]
  split
  ·rename_i e
   refine ⟨l.V,by simp,(hM _ _).mpr ⟨rfl,?_⟩⟩
   rw [if_pos e,List.map_append,List.map_cons,List.map_nil,List.dropLast_concat]
  ·rename_i e
   exact (hM _ _).mpr ⟨rfl,by rw [if_neg e,AG bl]⟩
 ·intro τ' J' hm
  obtain ⟨rfl,rfl⟩:=(hM _ _).mp hm
  clear hm hM M
  have et:turned (ls ++ [l]) t v=if (if l.m=t then ls else ls ++ [l]).getLast?.map aY.v=some v then (if l.m=t then ls else ls ++ [l]) else (if l.m=t then ls else ls ++ [l]) ++ [⟨t,l.at t,v⟩]:=by
   unfold turned
   simp only [List.getLast?_concat,List.dropLast_concat]
  have hrl:(if l.m=t then ls else ls ++ [l]).length≤900:=by
   split
   ·rw [List.length_append] at hl;omega
   ·exact hl
  rw [et] at q
  generalize (if l.m=t then ls else ls ++ [l])=rest at q hrl ⊢
  simp_arith! [bI,au (Ne.symm npr),bo,JR,fe,uU]
  rcases List.eq_nil_or_concat rest with rfl | ⟨ks,k,rfl⟩
  ·simp only [List.getLast?_nil,Option.map_none,reduceCtorEq,if_false,List.nil_append] at q
   simpa [JQ,sizeLine] using q
  ·rw [List.concat_eq_append] at *
   rw [List.getLast?_concat,Option.map_some] at q
   have hk:dJ ((ks ++ [k]).map aY.V) (-1)=some k.V:=by rw [List.map_append];exact A9 _ _
   rw [if_pos (by simp)]
   simp_arith! [bI,au (Ne.symm npr),bo,JR,hk,nS,List.length_map]
   by_cases e:k.v=v
   ·rw [if_pos e];rw [if_pos (congrArg some e)] at q;exact q
   ·rw [if_neg e];rw [if_neg (fun z=>e (Option.some.inj z))] at q
    simp_arith! [bI,au (Ne.symm npr),bo,JR,fe,uU,List.length_map]
    refine ⟨bp (by omega),?_⟩
    rw [List.map_append] at q
    exact q
theorem SV {rows:List aY} {i:Nat} {b:aY} (h:rows[i]?=some b):dJ (rows.map aY.V) (i:Int)=some b.V:=bq (by rw [List.getElem?_map,h];rfl)
abbrev l4:Stmt:=(top 21)
abbrev sE:List Str:=["rows","moment"]
theorem m9:L2.aw ["rows","moment","at"] ["rows","moment"] (L2.aj l4):=ed
def yO:cJ:=fun xs J Q _=>∃ (x:PV) (t:Rat) (ys:List PV) (ms:List Rat),xs=[x,fr t]∧nt J x=some ys∧ys.length=ms.length∧ms.length≤900∧(∀ (i:Nat) y m,ys[i]?=some y→ms[i]?=some m→fY J y (.int 0)=some (fr m))∧Sz 9000 t∧(∀ m∈ms,Sz 9000 m)∧Q (.int ((lb ms t ms.length:Int) - 1)) J
theorem yc {f:Addr} {fd:FuncData} (F:cA K "last_by" "last_by" l4 f fd) (Z:bW mg) (eu:bt P w K mg base 1 "less" gd d3):aL P w K mg base (dh P w) 2 f fd sE (d4 K yO):=by
 simp_arith [m9,(ai (aF (i:=2) m9.nd (aJ du (aM b7 rfl Z.len boot_len (af (rv 0) ah)) ag))
   (ai (lD cx (dC (eJ (aD Fu (rv 2) ag) (dB (bX (aS eu B hr (af (rv 1) (af (aq ar (aq ar (rv 0) (rv 2)) ag) ah))))))) (ak (F2 (i:=2) m9.nd ag EK)))
   (ak (aA (rv 2)))))]
 ·obtain ⟨x,t,ys,ms,rfl,_⟩:=h;rfl
 obtain ⟨x,t,ys,ms,rfl,hx,hlen,hl,h0,st,sm,q⟩:=h
 refine hX ?_
 simp_arith! [bI,E7 hx,hlen]
 refine ⟨fun k τ J'=>∃ j:Nat,τ=[some x,some (fr t),some (.int ((j:Int) - 1))]∧J'=J∧j≤ms.length∧k=j∧lb ms t ms.length=lb ms t j,⟨_,ms.length,rfl,rfl,Nat.le_refl _,rfl,rfl⟩,?_⟩
 rintro k τ J' ⟨j,rfl,rfl,hj,rfl,hb⟩
 simp_arith! [bI,JT hx,d3]
 cases k with
 | zero =>
  rw [if_neg (by omega)]
  rw [hb] at q
  exact q
 | succ k =>
  rw [if_pos (by omega)]
  obtain ⟨y,hy⟩:∃ y,ys[k]?=some y:=⟨_,List.getElem?_eq_getElem (by omega)⟩
  obtain ⟨m,hm⟩:∃ m,ms[k]?=some m:=⟨_,List.getElem?_eq_getElem (by omega)⟩
  have ha:dJ ys (((k + 1:Nat):Int) - 1)=some y:=by
   have:((k + 1:Nat):Int) - 1=(k:Int):=by omega
   rw [this];exact bq hy
  have em:ms.getD k 0=m:=by simp [List.getD,hm]
  have hu:lb ms t (k + 1)=if m≤t then k + 1 else lb ms t k:=by
   show (if ms.getD k 0≤t then k + 1 else lb ms t k)=_
   rw [em]
  refine k7 ha (k7 (h0 k y m hy hm) ?_)
  simp_arith! [bI]
  refine ⟨st,sm m (List.mem_of_getElem? hm),?_⟩
  by_cases c:t < m
  ·rw [if_pos c]
   have hn:¬ m≤t:=Rat.not_le.mpr c
   rw [if_neg hn] at hu
   refine ⟨fun τ J''=>τ=[some x,some (fr t),some (.int ((k:Int) - 1))]∧J''=J',fun τ' J'' ⟨e1,e2⟩=>⟨k,Nat.lt_succ_self _,k,e1,e2,by omega,rfl,by rw [hb,hu]⟩,?_⟩
   simp_arith! [bI]
   have:((k + 1:Nat):Int) - 1 - 1=(k:Int) - 1:=by omega
   exact this
  ·rw [if_neg c]
   rw [if_pos (Rat.not_lt.mp c)] at hu
   rw [hb,hu] at q
   exact q
abbrev ie:Stmt:=(L2.inClass (top 31) 5)
abbrev oh:List Str:=["self","moment"]
theorem oO:L2.aw ["self","moment","joined"] ["self","moment"] (L2.aj ie):=ed
def yN (cL:Addr):cJ:=fun xs J Q _=>∃ p r rows g t,xs=[.ref p,fr t]∧GZ cL J p r rows g∧rows≠[]∧Sz 900 t∧(∀ l∈rows,qo 900 l)∧(∀ q,g=some q→Sz 900 q)∧Q (.bl (there rows g t)) J
theorem vY {cL f:Addr} {fd:FuncData} (F:cA K "there" "Log.there" ie f fd) (Z:bW mg) (bH:eD K mg "Log" cL) (aV:aH K cL "rows") (bQ:aH K cL "gone") (eu:bt P w K mg base 1 "less" gd d3):aL P w K mg base (dh P w) 2 f fd oh (d4 K (yN cL)):=by
 simp_arith [oO,(ai (aF (i:=2) oO.nd (aq ar (aq ar (aZ bH.cl aV (rv 0)) ag) ag))
   (ai (aU (bX (aS eu B hr (af (rv 1) (af (rv 2) ah)))) (ak (aA fQ)) aI)
   (ak (aA (Ph (ff OF (aZ bH.cl bQ (rv 0)) m7) (wB (aS eu B hr (af (rv 1) (af (aZ bH.cl bQ (rv 0)) ah)))))))))]
 ·obtain ⟨p,r,rows,g,t,rfl,_⟩:=h;rfl
 obtain ⟨p,r,rows,g,t,rfl,b,hne,st,sl,sg,q⟩:=h
 have bo:=b.o
 have bl:=b.l
 obtain ⟨l,ls,rfl⟩:∃ l ls,rows=l :: ls:=List.exists_cons_of_ne_nil hne
 have sl':=(sl l (by simp)).m
 refine hX ?_
 simp_arith! [bI,bo,bl,JR,S2,BB,d3]
 refine ⟨st.mono (by decide),sl'.mono (by decide),?_⟩
 unfold there at q
 simp only [List.head?_cons] at q
 by_cases c:t < l.m
 ·rw [if_pos c]
  rw [decide_eq_true c] at q
  exact q
 ·rw [if_neg c]
  rw [decide_eq_false c] at q
  cases g with
  | none=>simpa [gv,NU,KH,PZ] using q
  | some u =>
   simp only [gv,rZ,Bool.false_eq_true,if_false]
   simp only [PZ] at q
   refine ⟨u,rfl,st.mono (by decide),(sg u rfl).mono (by decide),?_⟩
   simpa using q
abbrev gy:Stmt:=(L2.inClass (top 31) 6)
abbrev my:List Str:=["self","moment"]
theorem uk:L2.aw ["self","moment"] ["self","moment"] (L2.aj gy):=ed
def yM (cL eN:Addr):cJ:=fun xs J Q E=>∃ p r rows g t,xs=[.ref p,fr t]∧GZ cL J p r rows g∧rows≠[]∧rows.length≤900∧Sz 900 t∧(∀ l∈rows,qo 900 l)∧(∀ q,g=some q→Sz 900 q)∧(there rows g t=true→∀ l,xV rows t=some l→Q l.V J)∧(there rows g t=false→E eN J)
theorem uc {cL eN f:Addr} {fd:FuncData} (F:cA K "leg_at" "Log.leg_at" gy f fd) (Z:bW mg) (bH:eD K mg "Log" cL) (aV:aH K cL "rows") (mP:Own K mg "NotThere" eN) (kZ:cY P w K mg base cL 2 "there" oh (yN cL))
  (Ct:bt P w K mg base 2 "last_by" sE yO):aL P w K mg base (dh P w) 3 f fd my (d4 K (yM cL eN)):=by
 simp_arith [uk,(ai (aU (dw (bX (bL (pl:=_) kZ B hr (rv 0) (af (rv 1) ah)))) (ak (fh mP rfl c_ B.kn rfl (af bJ ah))) aI)
   (ak (aA (aq ar (aZ bH.cl aV (rv 0)) (aS Ct B hr (af (aZ bH.cl aV (rv 0)) (af (rv 1) ah)))))))]
 ·obtain ⟨p,r,rows,g,t,rfl,_⟩:=h;rfl
 obtain ⟨p,r,rows,g,t,rfl,b,hne,hl,st,sl,sg,q,qe⟩:=h
 have bo:=b.o
 have bl:=b.l
 refine hX ?_
 simp_arith! [bI,bo,bl,JR]
 refine ⟨QU _ _,p,r,rows,g,t,rfl,b,hne,st,sl,sg,?_⟩
 simp_arith! [bI,gR,bo,bl,JR]
 cases hc:there rows g t with
 | false=>rw [if_pos rfl];exact qe hc
 | true =>
  rw [if_neg (by decide)]
  obtain ⟨l,h1,h2,h3,h4,h5⟩:=GB hc
  refine ⟨_,t,rows.map aY.V,rows.map aY.m,rfl,by simp_arith! [bI,bl],by simp,by simpa using hl,?_,st.mono (by decide),?_,?_⟩
  ·intro i y m hy hm
   rw [List.getElem?_map] at hy hm
   cases e:rows[i]? with
   | none=>rw [e] at hy;cases hy
   | some z=>rw [e] at hy hm;cases hy;cases hm;exact BB _ _
  ·intro m hm
   obtain ⟨z,hz,rfl⟩:=List.mem_map.mp hm
   exact (sl z hz).m.mono (by decide)
  ·rw [List.length_map]
   simp_arith! [bI,bl]
   refine k7 (x:=l.V) ?_ (q hc l h1)
   have:((lb (rows.map aY.m) t rows.length:Nat):Int) - 1=((lb (rows.map aY.m) t rows.length - 1:Nat):Int):=by omega
   rw [this]
   exact SV h5
abbrev ib:Stmt:=(L2.inClass (top 31) 2)
abbrev og:List Str:=["self","moment"]
theorem wR:L2.aw ["self","moment"] ["self","moment"] (L2.aj ib):=ed
def yL (cL:Addr):cJ:=fun xs J Q _=>∃ p r rows g t,xs=[.ref p,fr t]∧GZ cL J p r rows g∧Q .non (put J p (.ins cL [("rows",.ref r),("gone",fr t)]))
theorem vX {cL f:Addr} {fd:FuncData} (F:cA K "leave" "Log.leave" ib f fd) (Z:bW mg) (bH:eD K mg "Log" cL) (bQ:aH K cL "gone"):aL P w K mg base (dh P w) 1 f fd og (d4 K (yL cL)):=by
 simp_arith [wR,(ak (iZ bH.cl bQ (rv 0) (rv 1)))]
 ·obtain ⟨p,r,rows,g,t,rfl,_⟩:=h;rfl
 obtain ⟨p,r,rows,g,t,rfl,b,q⟩:=h
 have bo:=b.o
 refine hX ?_
 simp_arith! [bI,bo,JW]
 exact ⟨by decide,q⟩
theorem kL {l:aY} {t:Rat} (h:qo 900 l) (sm:Sz 900 t):Sz 3000 (l.at t):=by
 have s1:Sz 1801 (t - l.m):=sm.sub h.m
 have s2:Sz 1900 ((t - l.m) * (l.v:Rat)):=s1.mul h.v
 exact h.p.add s2
abbrev fJ:Stmt:=(top 29)
abbrev lp:List Str:=["name","leg","other_name","other_leg","moment"]
theorem gT:L2.aw ["name","leg","other_name","other_leg","moment","place","other_place"] ["name","leg","other_name","other_leg","moment"] (L2.aj fJ):=ed
def Gh:cJ:=fun xs J Q _=>∃ (n n':Str) (l l':aY) (t:Rat),xs=[.str n,l.V,.str n',l'.V,fr t]∧qo 900 l∧qo 900 l'∧Sz 900 t∧Q (.bl ((key t (n,l)).lt (key t (n',l')))) J
theorem qw {f:Addr} {fd:FuncData} (F:cA K "lies_behind" "lies_behind" fJ f fd) (Z:bW mg) (eA:bt P w K mg base 4 "place_on" hW ql) (eu:bt P w K mg base 1 "less" gd d3):aL P w K mg base (dh P w) 5 f fd lp (d4 K Gh):=by
 simp_arith [gT,(ai (aF (i:=5) gT.nd (aS eA B hr (af (rv 1) (af (rv 4) ah))))
   (ai (aF (i:=6) gT.nd (aS eA B hr (af (rv 3) (af (rv 4) ah))))
   (ai (aU (aD (km hr.aO) (rv 5) (rv 6)) (ak (aA (aS eu B hr (af (rv 5) (af (rv 6) ah))))) aI)
   (ai (aU (aD (km hr.aO) (aq ar (rv 1) ag) (aq ar (rv 3) ag)) (ak (aA (ff fN (aq ar (rv 1) ag) (aq ar (rv 3) ag)))) aI)
   (ak (aA (ff Aq (rv 0) (rv 2))))))))]
 ·obtain ⟨n,n',l,l',t,rfl,_⟩:=h;rfl
 obtain ⟨n,n',l,l',t,rfl,sl,sl',st,q⟩:=h
 refine hX ?_
 simp_all! []
 refine ⟨l,t,rfl,sl.m,sl.p,st,sl.v,?_⟩
 simp_all! []
 refine ⟨l',t,rfl,sl'.m,sl'.p,st,sl'.v,?_⟩
 have a1:=kL sl st
 have a2:=kL sl' st
 simp_all! []
 unfold Ky.lt key at q
 dsimp only at q
 by_cases e:l.at t=l'.at t
 ·rw [if_pos e] at q
  rw [if_pos e]
  simp_all! [nS]
  by_cases e2:l.v=l'.v
  ·rw [if_pos e2] at q
   rw [if_pos e2]
   simp_all! []
   exact q
  ·rw [if_neg e2] at q
   rw [if_neg e2]
   simp_all! [nS]
   exact q
 ·rw [if_neg e] at q
  rw [if_neg e]
  simp_all! [d3]
  exact ⟨a1.mono (by decide),a2.mono (by decide),q⟩
abbrev j7:Stmt:=(top 43)
abbrev qi:List Str:=["legs","moment"]
theorem fR:L2.aw ["legs","moment","names","name","at"] ["legs","moment"] (L2.aj j7):=ed
def cb (fs:List (Str × aY)):List (Str × PV):=fs.map fun x=>(x.1,x.2.V)
def uS:cJ:=fun xs J Q _=>∃ (D:Addr) (fs:List (Str × aY)) (ep:Nat) (t:Rat),xs=[.ref D,fr t]∧J D=some (.dct (cb fs) ep)∧(fs.map (·.1)).Nodup∧fs.length≤100∧Sz 900 t∧(∀ x∈fs,qo 900 x.2)∧∀ p,J p=none→Q (.ref p) (put J p (.lst ((cf t fs).map .str)))
theorem v7 {f:Addr} {fd:FuncData} (F:cA K "in_order" "in_order" j7 f fd) (Z:bW mg) (tK:bt P w K mg base 5 "lies_behind" lp Gh):aL P w K mg base (dh P w) 6 f fd qi (d4 K uS):=by
 simp_arith [fR,(ai (aF (i:=2) fR.nd (m6 ah))
   (ai (fE cx rfl (BU (rv 0)) (bP (i:=3) fR.nd) (ai (aF (i:=4) fR.nd (aM b7 rfl Z.len boot_len (af (rv 2) ah)))
   (ai (lD cx (dC (eJ (aD ji (rv 4) ag) (dB (bX (aS tK B hr (af (rv 3) (af (aq eI (rv 0) (rv 3)) (af (aq ar (rv 2) (aJ du (rv 4) ag)) (af (aq eI (rv 0) (aq ar (rv 2) (aJ du (rv 4) ag))) (af (rv 1) ah)))))))))) (ak (F2 (i:=4) fR.nd ag EK)))
   (ak (bh (oz PySem.F.plainAttrs_list PySem.F.slot_list_insert PySem.F.type_list_insert lR (rv 2) (af (rv 4) (af (rv 3) ah))))))))
   (ak (aA (rv 2)))))]
 ·obtain ⟨D,fs,ep,t,rfl,_⟩:=h;rfl
 obtain ⟨D,fs,ep,t,rfl,hD,hnd,hlen,st,sl,q⟩:=h
 refine hX ?_
 simp_all! []
 intro r hr'
 have nDr:D≠r:=by intro e;subst e;rw [hD] at hr';cases hr'
 simp_all! [au nDr,hD]
 have hkv:(cb fs).map (fun kv=>PV.str kv.1)=fs.map fun x=>PV.str x.1:=by unfold cb;rw [List.map_map];rfl
 rw [hkv]
 obtain ⟨Inv,hInv⟩:∃ Inv:Nat→Sr→Hq→Prop,∀ i τ J',Inv i τ J'↔∃ (u3 u4:Option PV),τ=[some (.ref D),some (fr t),some (.ref r),u3,u4]∧J'=put J r (.lst ((cf t (fs.take i)).map .str)):=⟨_,fun _ _ _=>Iff.rfl⟩
 refine jO Inv ((hInv _ _ _).mpr ⟨_,_,rfl,rfl⟩) (fun i τ J' h=>?_) ?_ ?_
 ·obtain ⟨_,_,_,rfl⟩:=(hInv _ _ _).mp h
  rw [au nDr];exact hD
 ·intro i x τ J' hx hv
  obtain ⟨u3,u4,rfl,rfl⟩:=(hInv _ _ _).mp hv
  clear hv
  have hi:i < fs.length:=by have:=(List.getElem?_eq_some_iff.mp hx).1;simpa using this
  rw [List.getElem?_map,List.getElem?_eq_getElem hi] at hx
  cases hx
  rcases hfi:fs[i] with ⟨n,l⟩
  have hmem:(n,l)∈fs:=by rw [← hfi];exact List.getElem_mem hi
  have et:fs.take (i + 1)=fs.take i ++ [(n,l)]:=by rw [List.take_add_one,List.getElem?_eq_getElem hi,hfi];rfl
  have hndt:((fs.take (i + 1)).map (·.1)).Nodup:=by rw [List.map_take];exact hnd.sublist (List.take_sublist _ _)
  rw [et,List.map_append,List.map_cons,List.map_nil] at hndt
  obtain ⟨hnd1,hnew⟩:=jW hndt
  obtain ⟨ys,hys⟩:∃ ys,cF ((fs.take i).map (key t))=ys:=⟨_,rfl⟩
  have srt:pe Ky.lt ys:=by rw [← hys];exact cT (by rw [dq];exact hnd1)
  have hyl:ys.length=i:=by rw [← hys,jj,List.length_map,List.length_take];omega
  have hym:∀ y∈ys,∃ l',(y.n,l')∈fs∧y=key t (y.n,l')∧y.n≠n:=fun y hy=>by
   rw [← hys,bz,List.mem_map] at hy
   obtain ⟨x',hx',rfl⟩:=hy
   exact ⟨x'.2,List.mem_of_mem_take hx',rfl,fun e=>hnew (List.mem_map.mpr ⟨x',hx',e⟩)⟩
  have eo:(cf t (fs.take i)).map PV.str=ys.map fun y=>PV.str y.n:=by unfold cf;rw [hys,List.map_map];rfl
  have en:(cf t (fs.take (i + 1))).map PV.str=(qr Ky.lt (key t (n,l)) ys).map fun y=>PV.str y.n:=by
   unfold cf;rw [et,List.map_append,List.map_cons,List.map_nil,jk,hys,List.map_map];rfl
  rw [eo]
  have hvn:nk (cb fs) n=some l.V:=ki (f:=aY.V) hnd hmem
  have sll:=sl _ hmem
  simp_all! [av,List.length_map]
  refine ⟨fun m τ' J'=>m≤ys.length∧τ'=[some (.ref D),some (fr t),some (.ref r),some (.str n),some (.int (m:Nat))]∧J'=put J r (.lst (ys.map fun y=>PV.str y.n))∧∀ (j:Nat) y,m≤j→ys[j]?=some y→(key t (n,l)).lt y=true,⟨ys.length,Nat.le_refl _,rfl,rfl,fun j y hj e=>by rw [List.getElem?_eq_none hj] at e;cases e⟩,?_⟩
  rintro m τ' J' ⟨hm,rfl,rfl,hall⟩
  have fin:(∀ (j:Nat) y,j < m→ys[j]?=some y→y.lt (key t (n,l))=true)→Inv (i + 1) [some (.ref D),some (fr t),some (.ref r),some (.str n),some (.int (m:Nat))] (put J r (.lst ((ys.map fun y=>PV.str y.n).take m ++ .str n :: (ys.map fun y=>PV.str y.n).drop m))):=fun hlow=>by
   refine (hInv _ _ _).mpr ⟨_,_,rfl,?_⟩
   rw [en,← Bx hm hlow fun j y hj e=>Ky.Nx (hall j y hj e),List.map_append,List.map_cons,List.map_take,List.map_drop]
   rfl
  simp_all! [av,au nDr,hD,hvn]
  by_cases c0:0 < m
  ·rw [if_pos (by omega)]
   obtain ⟨m',rfl⟩:∃ m',m=m' + 1:=⟨m - 1,by omega⟩
   obtain ⟨y,hy⟩:∃ y,ys[m']?=some y:=⟨_,List.getElem?_eq_getElem (by omega)⟩
   obtain ⟨l',hl',ey,ny⟩:=hym y (List.mem_of_getElem? hy)
   have ha:dJ (ys.map fun y=>PV.str y.n) (((m' + 1:Nat):Int) - 1)=some (.str y.n):=by
    rw [show ((m' + 1:Nat):Int) - 1=((m':Nat):Int) by omega]
    exact bq (by rw [List.getElem?_map,hy];rfl)
   have hvy:nk (cb fs) y.n=some l'.V:=ki (f:=aY.V) hnd hl'
   simp_all! [ha,av,au nDr,hD,hvn,hvy]
   refine ⟨n,y.n,l,l',t,rfl,sll,sl _ hl',st,?_⟩
   rw [← ey]
   cases hc:(key t (n,l)).lt y with
   | true =>
    simp_all! []
    refine ⟨_,fun τ'' J'' h=>⟨m',Nat.lt_succ_self _,h⟩,⟨by omega,?_,rfl,fun j z hj e=>?_⟩⟩
    ·rw [show ((m' + 1:Nat):Int) - 1=((m':Nat):Int) by omega]
    ·rcases Nat.lt_or_eq_of_le hj with h | h
     ·exact hall j z (by omega) e
     ·subst h;rw [hy] at e;cases e;exact hc
   | false =>
    simp_all! [av]
    refine ⟨_,m' + 1,rfl,rfl,by rw [List.length_map];omega,bp (by rw [List.length_map];omega),by omega,?_⟩
    rw [fe]
    refine fin fun j z hj e=>?_
    have hyx:y.lt (key t (n,l))=true:=by
     rcases Ky.Pw (a:=y) (b:=key t (n,l)) ny with h | h
     ·exact h
     ·rw [hc] at h;cases h
    exact yX (lt:=Ky.lt) Ky.tr srt hy e (by omega) hyx
  ·rw [if_neg (by omega)]
   simp_all! [av]
   refine ⟨_,m,rfl,rfl,by rw [List.length_map];omega,bp (by rw [List.length_map];omega),by omega,?_⟩
   rw [fe]
   exact fin fun j z hj e=>by omega
 ·intro τ J' hv
  obtain ⟨u3,u4,rfl,rfl⟩:=(hInv _ _ _).mp hv
  rw [List.length_map,List.take_length]
  simp_all! []
  exact q r hr'
def rE (K:PySem.W.Frag) (mg:Str→Option Value):Prop:=∃ a:Addr,mg "NOUGHT"=some (.ref a)∧∀ H:Hp,g7 K H a [.int 0,.int 1]
theorem Dg {K:PySem.W.Frag} {h:Heap} {mg:Str→Option Value} (X:K.In h) (G:h.Ns mainGlobals mg) {a:Addr} {od:Option Addr} {n:Nat} {sl:Array (Option Value)} {t u:Tok}
  (e:PySem.W.nsIn K mainGlobals "NOUGHT"=some (some (.ref a))) (l:K.lookup a=some ⟨.type "tuple",od,.seq #[.int 0 t,.int 1 u] n,sl⟩):rE K mg :=
 ⟨a,PySem.W.mg_of X G e,fun _=>.inr ⟨_,_,_,l,rfl,rfl,(by show 2≤sizeLine;decide),.cons ⟨t,rfl⟩ (.cons ⟨u,rfl⟩ .nil)⟩⟩
structure Cf where
 n:Str
 a:Addr
 r:Addr
 w:List aY
 g:Option Rat
structure Ln where
 t:Rat
 d:Addr
 e:Nat
 o:Addr
 cs:List Cf
 row:List Str
def Cf.cur (c:Cf):aY:=c.w.getLast?.getD ⟨0,0,0⟩
def Ln.DX (L:Ln):List Cf:=L.cs.filter fun c=>c.g.isNone
def Ln.fs (L:Ln):List (Str × aY):=L.DX.map fun c=>(c.n,c.cur)
structure bc (cN cL:Addr) (J:Hq) (p:Addr) (L:Ln):Prop where
 ob:J p=some (.ins cN [("now",fr L.t),("logs",.ref L.d),("row",.ref L.o)])
 dc:J L.d=some (.dct (L.cs.map fun c=>(c.n,PV.ref c.a)) L.e)
 rw:J L.o=some (.lst (L.row.map .str))
 lg:∀ c∈L.cs,GZ cL J c.a c.r c.w c.g
 ap:(L.cs.map Cf.r).Nodup
 ao:∀ c∈L.cs,c.r≠L.o
structure bj (L:Ln):Prop where
 nd:(L.cs.map Cf.n).Nodup
 ne:∀ c∈L.cs,c.w≠[]
 le:∀ c∈L.cs,∀ l∈c.w,l.m≤L.t
 ck:∀ c∈L.cs,∀ l∈c.w,tG l
 len:∀ c∈L.cs,c.w.length≤200
 gz:∀ c∈L.cs,∀ q,c.g=some q→Sc iw MM q∧q≤L.t
 t0:0≤L.t
 ts:Sc iw MM L.t
 many:L.cs.length≤100
 rm:∀ n,n∈L.row↔n∈L.fs.map (·.1)
 rn:L.row.Nodup
 rl:L.row.length≤12
structure b_ (L:Ln):Prop extends bj L where
 row:L.row=cf L.t L.fs
def Ln.own (L:Ln) (p a:Addr):Prop:=a=p∨a=L.d∨a=L.o∨∃ c∈L.cs,a=c.a∨a=c.r
structure Mv (J J':Hq) (S S':Addr→Prop):Prop where
 keep:∀ a o,J a=some o→¬ S a→J' a=some o
 own:∀ a,S' a→S a∨J a=none
 mono:∀ a,J' a=none→J a=none
theorem Mv.refl (J:Hq) (S:Addr→Prop):Mv J J S S:=⟨fun _ _ h _=>h,fun _ h=>.inl h,fun _ h=>h⟩
theorem Mv.trans {J J' J'':Hq} {S S' S'':Addr→Prop} (h:Mv J J' S S') (k:Mv J' J'' S' S''):Mv J J'' S S'':=by
 refine ⟨fun a o e n=>k.keep a o (h.keep a o e n) fun z=>?_,fun a z=>?_,fun a z=>h.mono a (k.mono a z)⟩
 ·rcases h.own a z with q | q
  ·exact n q
  ·rw [q] at e;cases e
 ·rcases k.own a z with q | q
  ·exact h.own a q
  ·exact .inr (h.mono a q)
theorem Mv.new {J:Hq} {S:Addr→Prop} {x:Addr} {o:HQ} (h:J x=none):Mv J (put J x o) S S:=by
 refine ⟨fun a u e _=>?_,fun _ z=>.inl z,fun a z=>?_⟩
 ·rw [au (fun q=>by subst q;rw [h] at e;cases e)];exact e
 ·by_cases q:a=x
  ·subst q;rw [av] at z;cases z
  ·rw [au q] at z;exact z
theorem Mv.Df {J:Hq} {S:Addr→Prop} {x:Addr} {o:HQ} (h:J x=none):Mv J (put J x o) S (fun a=>S a∨a=x) :=
 ⟨(Mv.new (S:=S) h).keep,fun a z=>z.elim .inl fun e=>.inr (by rw [e];exact h),(Mv.new (S:=S) h).mono⟩
theorem bc.keep {cN cL:Addr} {J J':Hq} {p:Addr} {L:Ln} (h:bc cN cL J p L) (k:∀ a o,L.own p a→J a=some o→J' a=some o):bc cN cL J' p L :=
 ⟨k _ _ (.inl rfl) h.ob,k _ _ (.inr (.inl rfl)) h.dc,k _ _ (.inr (.inr (.inl rfl))) h.rw,fun c hc=>⟨k _ _ (.inr (.inr (.inr ⟨c,hc,.inl rfl⟩))) (h.lg c hc).o,k _ _ (.inr (.inr (.inr ⟨c,hc,.inr rfl⟩))) (h.lg c hc).l⟩,h.ap,h.ao⟩
theorem bc.some {cN cL:Addr} {J:Hq} {p:Addr} {L:Ln} (h:bc cN cL J p L) {a:Addr} (o:L.own p a):J a≠none:=by
 rcases o with rfl | rfl | rfl | ⟨c,hc,rfl | rfl⟩
 ·rw [h.ob];exact fun z=>nomatch z
 ·rw [h.dc];exact fun z=>nomatch z
 ·rw [h.rw];exact fun z=>nomatch z
 ·rw [(h.lg c hc).o];exact fun z=>nomatch z
 ·rw [(h.lg c hc).l];exact fun z=>nomatch z
theorem bc.fresh {cN cL:Addr} {J:Hq} {p x:Addr} {L:Ln} {o:HQ} (h:bc cN cL J p L) (hx:J x=none):bc cN cL (put J x o) p L :=
 h.keep fun a u ow e=>by rw [au (fun q=>by subst q;rw [hx] at e;cases e)];exact e
theorem Lo {J:Hq} {a b C C':Addr} {fs gs:List (Str × PV)} (h:J a=Option.some (.ins C fs)) (k:J b=Option.some (.ins C' gs)) (n:fs.map (·.1)≠gs.map (·.1)):a≠b:=by
 intro e;subst e;rw [h] at k
 have:=HQ.ins.inj (Option.some.inj k)
 exact n (by rw [this.2])
theorem bc.HS {cN cL:Addr} {J:Hq} {p:Addr} {L:Ln} (h:bc cN cL J p L):L.d≠p:=by intro e;have:=h.ob;rw [← e,h.dc] at this;cases this
theorem bc.HV {cN cL:Addr} {J:Hq} {p:Addr} {L:Ln} (h:bc cN cL J p L):L.o≠p:=by intro e;have:=h.ob;rw [← e,h.rw] at this;cases this
theorem bc.Q4 {cN cL:Addr} {J:Hq} {p:Addr} {L:Ln} (h:bc cN cL J p L):L.d≠L.o:=by intro e;have:=h.rw;rw [← e,h.dc] at this;cases this
theorem Fb:([("rows":Str),("gone":Str)]:List Str)≠[("now":Str),("logs":Str),("row":Str)]:=by decide +kernel
theorem bc.P2 {cN cL:Addr} {J:Hq} {p:Addr} {L:Ln} (h:bc cN cL J p L) {c:Cf} (hc:c∈L.cs):c.a≠p:=Lo (h.lg c hc).o h.ob Fb
theorem bc.Nc {cN cL:Addr} {J:Hq} {p:Addr} {L:Ln} (h:bc cN cL J p L) {c:Cf} (hc:c∈L.cs):c.r≠p:=by intro e;have:=h.ob;rw [← e,(h.lg c hc).l] at this;cases this
theorem bc.Sw {cN cL:Addr} {J:Hq} {p:Addr} {L:Ln} (h:bc cN cL J p L) {c:Cf} (hc:c∈L.cs):c.a≠L.d:=by intro e;have:=h.dc;rw [← e,(h.lg c hc).o] at this;cases this
theorem bc.Sx {cN cL:Addr} {J:Hq} {p:Addr} {L:Ln} (h:bc cN cL J p L) {c:Cf} (hc:c∈L.cs):c.r≠L.d:=by intro e;have:=h.dc;rw [← e,(h.lg c hc).l] at this;cases this
theorem bc.Q3 {cN cL:Addr} {J:Hq} {p:Addr} {L:Ln} (h:bc cN cL J p L) {c:Cf} (hc:c∈L.cs):c.a≠L.o:=by intro e;have:=h.rw;rw [← e,(h.lg c hc).o] at this;cases this
theorem bc.S3 {cN cL:Addr} {J:Hq} {p:Addr} {L:Ln} (h:bc cN cL J p L) {c c':Cf} (hc:c∈L.cs) (hc':c'∈L.cs):c.a≠c'.r:=by intro e;have:=(h.lg c' hc').l;rw [← e,(h.lg c hc).o] at this;cases this
theorem bc.MH {cN cL:Addr} {J:Hq} {p o':Addr} {L:Ln} {row:List Str} (h:bc cN cL J p L) (ho:J o'=Option.some (.lst (row.map .str))) (nc:∀ c∈L.cs,c.r≠o'):bc cN cL (put J p (.ins cN [("now",fr L.t),("logs",.ref L.d),("row",.ref o')])) p { L with o:=o',row:=row } :=
 ⟨av,by show put J p _ L.d=_;rw [au h.HS];exact h.dc,by show put J p _ o'=_;rw [au (fun e=>by rw [e,h.ob] at ho;cases ho)];exact ho,
  fun c hc=>⟨by rw [au (h.P2 hc)];exact (h.lg c hc).o,by rw [au (h.Nc hc)];exact (h.lg c hc).l⟩,h.ap,nc⟩
theorem gK {J:Hq} {S S':Addr→Prop} {x:Addr} {o:HQ} (hx:S x) (hS:∀ a,S' a→S a∨J a=none):Mv J (put J x o) S S':=by
 refine ⟨fun a u e n=>?_,hS,fun a z=>?_⟩
 ·rw [au (fun q=>by subst q;exact n hx)];exact e
 ·by_cases q:a=x
  ·subst q;rw [av] at z;cases z
  ·rw [au q] at z;exact z
theorem bj.KI {L:Ln} (h:bj L):Sz 900 L.t:=(x8 h.ts).mono (by decide)
theorem tG.Oh {l:aY} (h:tG l):qo 900 l:=⟨h.Sv.mono (by decide),h.SA.mono (by decide),.small (by have:=h.v;omega) (by have:=h.v;omega)⟩
theorem Cf.jM {c:Cf} (h:c.w≠[]):c.w.getLast?=Option.some c.cur∧c.cur∈c.w:=by
 unfold Cf.cur
 rw [List.getLast?_eq_some_getLast h]
 exact ⟨rfl,List.getLast_mem h⟩
theorem bj.S1 {L:Ln} (h:bj L) {c:Cf} (hc:c∈L.cs):xV c.w L.t=Option.some c.cur:=by
 unfold xV
 rw [List.filter_eq_self.mpr fun l hl=>decide_eq_true (h.le c hc l hl)]
 exact (Cf.jM (h.ne c hc)).1
theorem bj.there {L:Ln} (h:bj L) {c:Cf} (hc:c∈L.cs) (hg:c.g=none):there c.w c.g L.t=true:=by
 obtain ⟨l,ls,e⟩:=List.exists_cons_of_ne_nil (h.ne c hc)
 have:=h.le c hc l (by rw [e];simp)
 rw [hg,e]
 unfold Ov.there
 simp only [List.head?_cons,PZ,Bool.and_true]
 rw [decide_eq_false (Rat.not_lt.mpr this)];rfl
theorem Ln.eg {L:Ln} {c:Cf}:c∈L.DX↔c∈L.cs∧c.g=none:=by
 unfold Ln.DX
 rw [List.mem_filter]
 cases c.g <;> simp
theorem fL (L:Ln):L.fs.map (·.1)=L.DX.map Cf.n:=by unfold Ln.fs;rw [List.map_map];rfl
theorem bj.Li {L:Ln} (h:bj L):(L.fs.map (·.1)).Nodup:=by
 rw [fL]
 unfold Ln.DX
 exact h.nd.sublist (List.Sublist.map _ List.filter_sublist)
theorem bj.found {L:Ln} (h:bj L) {n:Str} (hn:n∈L.row):∃ c∈L.cs,c.n=n∧c.g=none:=by
 have:=(h.rm n).mp hn
 rw [fL,List.mem_map] at this
 obtain ⟨c,hc,e⟩:=this
 exact ⟨c,(Ln.eg.mp hc).1,e,(Ln.eg.mp hc).2⟩
theorem bj.va {L:Ln} (h:bj L) {c:Cf} (hc:c∈L.cs):nk (L.cs.map fun c=>(c.n,PV.ref c.a)) c.n=Option.some (.ref c.a):=by
 have e:(L.cs.map fun c=>(c.n,PV.ref c.a))=((L.cs.map fun c=>(c.n,c.a)).map fun x=>(x.1,PV.ref x.2)):=by rw [List.map_map];rfl
 rw [e]
 exact ki (f:=PV.ref) (by rw [List.map_map];exact h.nd) (List.mem_map.mpr ⟨c,hc,rfl⟩)
theorem bj.Tb {L:Ln} (h:bj L) {n:Str}:(nk (L.cs.map fun c=>(c.n,PV.ref c.a)) n).isSome=decide (n∈L.cs.map Cf.n):=by
 have e:(L.cs.map fun c=>(c.n,PV.ref c.a))=((L.cs.map fun c=>(c.n,c.a)).map fun x=>(x.1,PV.ref x.2)):=by rw [List.map_map];rfl
 rw [e,DQ (f:=PV.ref) (by rw [List.map_map];exact h.nd)]
 rw [List.map_map];rfl
theorem bj.uniq {L:Ln} (h:bj L) {c c':Cf} (hc:c∈L.cs) (hc':c'∈L.cs) (e:c.n=c'.n):c=c':=by
 obtain ⟨i,hi,rfl⟩:=List.getElem_of_mem hc
 obtain ⟨j,hj,rfl⟩:=List.getElem_of_mem hc'
 have:=(List.getElem_inj (xs:=L.cs.map Cf.n) (i:=i) (j:=j) (h₀:=by simpa using hi) (h₁:=by simpa using hj) h.nd).mp (by rw [List.getElem_map,List.getElem_map];exact e)
 subst this;rfl
theorem tV (a b c:PV):([("now",a),("logs",b),("row",c)]:List (Str × PV)).lookup ("now":Str)=Option.some a:=rfl
theorem C8 (a b c:PV):([("now",a),("logs",b),("row",c)]:List (Str × PV)).lookup ("logs":Str)=Option.some b:=rfl
theorem tW (a b c:PV):([("now",a),("logs",b),("row",c)]:List (Str × PV)).lookup ("row":Str)=Option.some c:=rfl
theorem f_ (m:Str) (a b c:PV) (h:(m == ("now":Str))=false:=by decide +kernel) (k:(m == ("logs":Str))=false:=by decide +kernel) (l:(m == ("row":Str))=false:=by decide +kernel):([("now",a),("logs",b),("row",c)]:List (Str × PV)).lookup m=none:=by
 rw [List.lookup_cons,h];simp only;rw [List.lookup_cons,k];simp only;rw [List.lookup_cons,l];rfl
theorem Ol:(("now":Str)=("logs":Str))=False:=eq_false (by decide +kernel)
theorem JV:(("now":Str)=("row":Str))=False:=eq_false (by decide +kernel)
theorem JU:(("logs":Str)=("row":Str))=False:=eq_false (by decide +kernel)
theorem Iw (a b c z:PV):pP ("row":Str) z ([("now",a),("logs",b),("row",c)]:List (Str × PV))=([("now",a),("logs",b),("row",z)]:List (Str × PV)):=by simp only [pP,JV,JU,if_false,if_true]
theorem ML {J:Hq} {a:Addr} {xs:List PV} (h:J a=Option.some (.lst xs)):Nj J (.ref a)=Option.some xs:=by unfold Nj;simp only [h]
abbrev eh:Stmt:=(L2.inClass (top 44) 0)
abbrev jl:List Str:=["self"]
theorem pS:L2.aw ["self"] ["self"] (L2.aj eh):=ed
def B7 (cN cL:Addr):cJ:=fun xs J Q _=>∃ p,xs=[.ref p]∧J p=some (.ins cN [])∧∀ J' d e o,bc cN cL J' p ⟨0,d,e,o,[],[]⟩→Mv J J' (fun a=>a=p) (Ln.own ⟨0,d,e,o,[],[]⟩ p)→Q .non J'
theorem vU {cN cL f:Addr} {fd:FuncData} (F:cA K "__init__" "Lane.__init__" eh f fd) (N:rE K mg) (ax:eD K mg "Lane" cN) (az:aH K cN "now") (aQ:aH K cN "logs") (aB:aH K cN "row"):aL P w K mg base (dh P w) 1 f fd jl (d4 K (B7 cN cL)):=by
 simp_arith [pS]
 ·obtain ⟨p,rfl,_⟩:=h;rfl
 obtain ⟨p,rfl,hp,q⟩:=h
 obtain ⟨aN,gN,sN⟩:=N
 have rN:∀ (J:Hq) (H:Hp),cE K J H (fr 0) (.ref aN):=fun J H=>⟨aN,_,rfl,sN H,⟨_,_,rfl,rfl,_,_,rfl,rfl,rfl⟩⟩
 refine ⟨_,(ai (iZ ax.cl az (rv 0) (gh (v:=.ref aN) (fr 0) rfl gN rfl rN))
   (ai (iZ ax.cl aQ (rv 0) BS)
   (ak (iZ ax.cl aB (rv 0) (m6 ah))))),?_⟩
 simp_all! [hp]
 refine ⟨by decide,?_⟩
 simp_all! []
 intro d hd ep
 have HS:d≠p:=by intro e;subst e;rw [av] at hd;cases hd
 simp_all! [au (Ne.symm HS),av]
 simp only [Ol,if_false]
 refine ⟨by decide,?_⟩
 simp_all! []
 intro o ho
 have jd:J d=none:=by rw [au HS] at hd;exact hd
 have HV:o≠p:=by intro e;subst e;rw [av] at ho;cases ho
 have nod:o≠d:=by intro e;subst e;rw [au HV,av] at ho;cases ho
 have jo:J o=none:=by rw [au HV,au nod,au HV] at ho;exact ho
 refine m5 (by rw [au (Ne.symm HV)];exact av) ⟨by show (2:Nat) < 1000;decide,?_⟩
 have pr:pP ("row":Str) (PV.ref o) ([("now",fr 0),("logs",.ref d)]:List (Str × PV))=([("now",fr 0),("logs",.ref d),("row",.ref o)]:List (Str × PV)):=by simp only [pP,JV,JU,if_false]
 rw [pr]
 refine q _ d ep o ⟨av,by rw [au HS,au (Ne.symm nod),au HS];exact av,by rw [au HV];exact av,(by simp),(by simp),(by simp)⟩ ⟨fun a u e na=>?_,fun a ow=>?_,fun a z=>?_⟩
 ·have na1:a≠d:=fun z=>by subst z;rw [jd] at e;cases e
  have na2:a≠o:=fun z=>by subst z;rw [jo] at e;cases e
  rw [au na,au na2,au na,au na1,au na];exact e
 ·rcases ow with rfl | rfl | rfl | ⟨c,hc,_⟩
  ·exact .inl rfl
  ·exact .inr jd
  ·exact .inr jo
  ·cases hc
 ·by_cases z1:a=p
  ·subst z1;rw [av] at z;cases z
  by_cases z2:a=o
  ·subst z2;exact jo
  by_cases z3:a=d
  ·subst z3;exact jd
  rw [au z1,au z2,au z1,au z3,au z1] at z;exact z
abbrev cI:Stmt:=(L2.inClass (top 44) 22)
abbrev cy:List Str:=["self","name"]
theorem kE:L2.aw ["self","name"] ["self","name"] (L2.aj cI):=ed
def qW (cN cL eC:Addr):cJ:=fun xs J Q E=>∃ p L n,xs=[.ref p,.str n]∧bc cN cL J p L∧(n∈L.row→Q .non J)∧(n ∉ L.row→E eC J)
theorem kD {cN cL eC f:Addr} {fd:FuncData} (F:cA K "must_be_there" "Lane.must_be_there" cI f fd) (Z:bW mg) (ax:eD K mg "Lane" cN) (aB:aH K cN "row") (pd:Own K mg "NoCraft" eC):aL P w K mg base (dh P w) 1 f fd cy (d4 K (qW cN cL eC)):=by
 simp_arith [kE,(ak (aU (aD BH (rv 1) (aZ ax.cl aB (rv 0))) (ak (fh pd rfl c_ B.kn rfl (af bJ ah))) aI))]
 ·obtain ⟨p,L,n,rfl,_⟩:=h;rfl
 obtain ⟨p,L,n,rfl,b,q,qe⟩:=h
 have bo:=b.ob
 refine hX ?_
 simp_all! [bo,tW,OL,ML b.rw]
 refine ⟨L.row,rfl,?_⟩
 by_cases c:n∈L.row
 ·rw [if_pos (by simp [c])]
  exact q c
 ·rw [if_neg (by simp [c])]
  simp_all! [gR]
  exact qe c
abbrev fH:Stmt:=(L2.inClass (top 44) 23)
abbrev fc:List Str:=["self","name"]
theorem sM:L2.aw ["self","name"] ["self","name"] (L2.aj fH):=ed
def oS (cN cL eC:Addr):cJ:=fun xs J Q E=>∃ p L n,xs=[.ref p,.str n]∧bc cN cL J p L∧bj L∧(∀ c∈L.cs,c.n=n→c.g=none→Q c.cur.V J)∧(n ∉ L.row→E eC J)
theorem si {cN cL eC eN f:Addr} {fd:FuncData} (F:cA K "leg_of" "Lane.leg_of" fH f fd) (Z:bW mg) (ax:eD K mg "Lane" cN) (aQ:aH K cN "logs") (az:aH K cN "now") (aX:cY P w K mg base cN 1 "must_be_there" cy (qW cN cL eC)) (jV:cY P w K mg base cL 3 "leg_at" my (yM cL eN)) :
  aL P w K mg base (dh P w) 4 f fd fc (d4 K (oS cN cL eC)):=by
 simp_arith [sM,(ai (bh (bL (pl:=_) aX B hr (rv 0) (af (rv 1) ah)))
   (ak (aA (bL (pl:=_) jV B hr (aq eI (aZ ax.cl aQ (rv 0)) (rv 1)) (af (aZ ax.cl az (rv 0)) ah)))))]
 ·obtain ⟨p,L,n,rfl,_⟩:=h;rfl
 obtain ⟨p,L,n,rfl,b,ok,q,qe⟩:=h
 have bo:=b.ob
 have bd:=b.dc
 refine hX ?_
 simp_all! [bo]
 refine ⟨f_ _ _ _ _,p,L,n,rfl,b,fun hn=>?_,qe⟩
 obtain ⟨c,hc,rfl,hg⟩:=ok.found hn
 have lo:=(b.lg c hc).o
 simp_all! [bo,C8,bd,ok.va hc,lo]
 refine ⟨QV _ _,?_⟩
 simp_all! [bo,tV]
 refine ⟨c.a,c.r,c.w,c.g,L.t,rfl,b.lg c hc,ok.ne c hc,Nat.le_trans (ok.len c hc) (by decide),ok.KI,fun l hl=>(ok.ck c hc l hl).Oh,fun q' hq=>(x8 (ok.gz c hc q' hq).1).mono (by decide),fun _ l hl=>?_,fun z=>?_⟩
 ·rw [ok.S1 hc] at hl;cases hl
  exact q c hc rfl hg
 ·rw [ok.there hc hg] at z;cases z
abbrev d9:Stmt:=(L2.inClass (top 44) 24)
abbrev dN:List Str:=["self"]
theorem sP:L2.aw ["self"] ["self"] (L2.aj d9):=ed
theorem Fw {L:Ln} (ok:bj L) {f:Str→aY} (hf:∀ c∈L.cs,c.g=none→f c.n=c.cur):cf L.t (L.row.map fun n=>(n,f n))=cf L.t L.fs:=by
 refine ym (by rw [List.map_map];show (L.row.map fun n=>n).Nodup;rw [List.map_id'];exact ok.rn) ok.Li fun x=>?_
 rw [List.mem_map,List.mem_map]
 constructor
 ·rintro ⟨y,hy,rfl⟩
  obtain ⟨n,hn,rfl⟩:=List.mem_map.mp hy
  obtain ⟨c,hc,rfl,hg⟩:=ok.found hn
  exact ⟨(c.n,c.cur),List.mem_map.mpr ⟨c,Ln.eg.mpr ⟨hc,hg⟩,rfl⟩,by rw [hf c hc hg]⟩
 ·rintro ⟨y,hy,rfl⟩
  obtain ⟨c,hc,rfl⟩:=List.mem_map.mp hy
  obtain ⟨hc,hg⟩:=Ln.eg.mp hc
  refine ⟨(c.n,f c.n),List.mem_map.mpr ⟨c.n,(ok.rm c.n).mpr ?_,rfl⟩,by rw [hf c hc hg]⟩
  rw [fL];exact List.mem_map.mpr ⟨c,Ln.eg.mpr ⟨hc,hg⟩,rfl⟩
def Ln.vQ (L:Ln) (n:Str):aY:=((L.cs.find? fun c=>decide (c.n=n)).map Cf.cur).getD ⟨0,0,0⟩
theorem bj.vQ {L:Ln} (ok:bj L) {c:Cf} (hc:c∈L.cs):L.vQ c.n=c.cur:=by
 unfold Ln.vQ
 cases h:L.cs.find? fun d=>decide (d.n=c.n) with
 | none=>have:=List.find?_eq_none.mp h c hc;simp at this
 | some d =>
  have h1:=List.mem_of_find?_eq_some h
  have h2:d.n=c.n:=by simpa using List.find?_some h
  rw [ok.uniq h1 hc h2];rfl
def jx (cN cL:Addr):cJ:=fun xs J Q E=>∃ p L,xs=[.ref p]∧bc cN cL J p L∧bj L∧∀ J' o',bc cN cL J' p { L with o:=o',row:=cf L.t L.fs }→Mv J J' (L.own p) (Ln.own { L with o:=o',row:=cf L.t L.fs } p)→Q .non J'
theorem sj {cN cL eC f:Addr} {fd:FuncData} (F:cA K "settle" "Lane.settle" d9 f fd) (Z:bW mg) (ax:eD K mg "Lane" cN) (aB:aH K cN "row") (az:aH K cN "now") (bM:cY P w K mg base cN 4 "leg_of" fc (oS cN cL eC)) (ze:bt P w K mg base 6 "in_order" qi uS) :
  aL P w K mg base (dh P w) 7 f fd dN (d4 K (jx cN cL)):=by
 simp_arith [sP,(ak (iZ ax.cl aB (rv 0) (aS ze B hr (af (Pf (L2.aj d9) ["self"] [("self",0)] rfl rfl rfl (fG (aZ ax.cl aB (rv 0))) (fun _ _ _ _ _ _=>(rv 0)) (fun _ _ _ _ _ _=>(bL (pl:=_) bM NK hr (rv 1) (af (rv 0) ah)))) (af (aZ ax.cl az (rv 0)) ah)))))]
 ·obtain ⟨p,L,rfl,_⟩:=h;rfl
 obtain ⟨p,L,rfl,b,ok,q⟩:=h
 have bo:=b.ob
 have br:=b.rw
 refine hX ?_
 simp_all! [Rp,bo,tW,br]
 intro D hD ep
 have bf:∀ e2 kvs,bc cN cL (put J D (.dct kvs e2)) p L:=fun e2 kvs=>b.fresh hD
 have hrl:=ok.rl
 refine ⟨fun i J2=>∃ e2,J2=put J D (.dct (cb ((L.row.take i).map fun n=>(n,L.vQ n))) e2),⟨ep,rfl⟩,?_,?_,?_⟩
 ·rintro i J2 ⟨e2,rfl⟩;exact (bf e2 _).rw
 ·rintro i x J2 hx ⟨e2,rfl⟩
  have hi:i < L.row.length:=by have:=(List.getElem?_eq_some_iff.mp hx).1;simpa using this
  rw [List.getElem?_map,List.getElem?_eq_getElem hi] at hx
  cases hx
  have hn:L.row[i]∈L.row:=List.getElem_mem hi
  refine m5 (bf e2 _).ob ⟨f_ _ _ _ _,p,L,L.row[i],rfl,bf e2 _,ok,fun c hc e hg=>?_,fun z=>absurd hn z⟩
  refine ⟨_,e2,L.row[i],rfl,av,bp (by simp only [cb,List.length_map,List.length_take];omega),fun ep'=>⟨ep',?_⟩⟩
  rw [fe]
  congr 2
  have et:L.row.take (i + 1)=L.row.take i ++ [L.row[i]]:=by rw [List.take_add_one,List.getElem?_eq_getElem hi];rfl
  rw [et,List.map_append,List.map_cons,List.map_nil,← e,ok.vQ hc]
  refine AD (f:=aY.V) (l:=c.cur) fun z=>?_
  rw [List.map_map] at z
  obtain ⟨m,hm,e3⟩:=List.mem_map.mp z
  have hnd:(L.row.take (i + 1)).Nodup:=ok.rn.sublist (List.take_sublist _ _)
  rw [et] at hnd
  exact (jW hnd).2 (by rw [← e,← e3];exact hm)
 ·rintro J2 ⟨e2,rfl⟩
  rw [List.length_map,List.take_length]
  refine m5 (bf e2 _).ob (k7 (tV _ _ _) ⟨D,_,e2,L.t,rfl,av,?_,by rw [List.length_map];omega,ok.KI,?_,fun o' ho'=>?_⟩)
  ·rw [List.map_map];show (L.row.map fun n=>n).Nodup;rw [List.map_id'];exact ok.rn
  ·intro x hx
   obtain ⟨n,hn,rfl⟩:=List.mem_map.mp hx
   obtain ⟨c,hc,rfl,hg⟩:=ok.found hn
   show qo 900 (L.vQ c.n)
   rw [ok.vQ hc]
   exact (ok.ck c hc _ (Cf.jM (ok.ne c hc)).2).Oh
  ·rw [Fw ok fun c hc _=>ok.vQ hc]
   have b2:bc cN cL (put (put J D (.dct (cb (L.row.map fun n=>(n,L.vQ n))) e2)) o' (.lst ((cf L.t L.fs).map .str))) p L:=(bf e2 _).fresh ho'
   have jo:J o'=none:=by
    by_cases z:o'=D
    ·subst z;exact hD
    ·rw [au z] at ho';exact ho'
   refine m5 b2.ob ⟨by show (3:Nat) < 1000;decide,?_⟩
   rw [Iw]
   refine q _ o' (b2.MH av fun c hc e=>?_) ?_
   ·have:=(b.lg c hc).l;rw [e,jo] at this;cases this
   ·refine ((Mv.new hD).trans (Mv.Df ho')).trans (gK (.inl (.inl rfl)) fun a ow=>.inl ?_)
    rcases ow with h | h | h | h
    ·exact .inl (.inl h)
    ·exact .inl (.inr (.inl h))
    ·exact .inr h
    ·exact .inl (.inr (.inr (.inr h)))
abbrev ig:Stmt:=(top 35)
abbrev f':List Str:=["text"]
theorem wU:L2.aw ["text"] ["text"] (L2.aj ig):=ed
def cK:Str:="abcdefghijklmnopqrstuvwxyz0123456789"
def good (y:Str):Bool:=decide (1≤y.cps.size) && decide (y.cps.size≤8) && y.cps.toList.all (eL cK)
def Ge (T:Addr):Sp:=fun vs H Q _=>∃ y:Str,vs=[.str y]∧y.length≤sizeLine∧H T=some (.ext (eX T))∧Q (.bl (good y)) H
theorem vZ {T f c:Addr} {fd:FuncData} (F:GX K mg "good_name" ig T f fd c) (Z:DT mg) (Bm:BMain mg base) {ma q9:Tok} (jf:mg "LONGEST"=some (.int 8 ma)) (nM:mg "SIGNS"=some (.str "abcdefghijklmnopqrstuvwxyz0123456789" q9)) :
  aL P w K mg base ra 1 f fd f' (Ge T):=by
 refine S5 F wU (fun vs H Q E h=>?_) (fun A outer s H vs Q E hr h=>?_)
 ·obtain ⟨y,rfl,_⟩:=h
  rfl
 obtain ⟨y,rfl,hz,hT,q⟩:=h
 refine ⟨_,(aW (ou (Kh (BM (dW BG (bG nH rfl Z.len boot_len (ay (pv 0) a_)) aP (fz _)) (wu (dW Ka (bG nH rfl Z.len boot_len (ay (pv 0) a_)) (dA (v:=.int 8) rfl jf ⟨_,rfl⟩) (fz _))))) (bK (d6 yq)) gf)
   (bK (d6 (Fz rfl Bm rfl F.tab hr rfl Z.all nM (pv 0))))),?_⟩
 have el:y.cps.size=y.length:=rfl
 refine ⟨_,rfl,y,rfl,hz,_,_,rfl,rfl,_,rfl,ER (fun e=>?_) (fun e=>⟨_,rfl,y,rfl,hz,_,_,rfl,rfl,_,rfl,ER (fun e2=>?_) (fun e2=>?_)⟩)⟩
 ·have e:(y.length:Int) < 1:=of_decide_eq_true e
  have z:good y=false:=by
   unfold good
   rw [decide_eq_false (show ¬ 1≤y.cps.size by omega)]
   rfl
  show Q (.bl false) H
  rw [← z]
  exact q
 ·have e2:(8:Int) < (y.length:Int):=of_decide_eq_true e2
  have z:good y=false:=by
   unfold good
   rw [decide_eq_false (show ¬ y.cps.size≤8 by omega),Bool.and_false]
   rfl
  show Q (.bl false) H
  rw [← z]
  exact q
 ·have e:¬ (y.length:Int) < 1:=of_decide_eq_false (Bool.eq_false_iff.mpr e)
  have e2:¬ (8:Int) < (y.length:Int):=of_decide_eq_false (Bool.eq_false_iff.mpr e2)
  have z:good y=y.cps.toList.all (eL cK):=by
   unfold good
   rw [decide_eq_true (show 1≤y.cps.size by omega),decide_eq_true (show y.cps.size≤8 by omega)]
   rfl
  refine ⟨_,rfl,y,rfl,hT,?_⟩
  show Q (.bl (y.cps.toList.all (eL cK))) H
  rw [← z]
  exact q
def B3 (T:Addr):cJ:=fun xs J Q _=>∃ y:Str,xs=[.str y]∧y.length≤sizeLine∧J T=some .tab∧Q (.bl (good y)) J
theorem r_ {T:Addr} (C:tD P w K mg base 1 "good_name" f' (Ge T)):bt P w K mg base 1 "good_name" f' (B3 T):=C.lift fun xs J vs H Q2 E2 Q E rs r ⟨y,ex,hl,hT,q⟩ kn=>by
 subst ex
 obtain ⟨v,rfl,r1⟩:=L_ rs
 cases r1
 exact ⟨y,rfl,hl,r _ _ hT,kn (.bl _) J _ H rfl r .refl q⟩
theorem Bo (L:Ln) {L':Ln} {c:Cf} (h:L'.cs=L.cs ++ [c]) (hg:c.g=none):L'.fs=L.fs ++ [(c.n,c.cur)]:=by
 unfold Ln.fs Ln.DX
 rw [h,List.filter_append,List.map_append]
 simp [hg]
def Ln.joined (L:Ln) (n:Str) (x v:Int) (L':Ln):Prop:=∃ a r,L'.cs=L.cs ++ [⟨n,a,r,[⟨L.t,(x:Rat),v⟩],none⟩]∧L'.t=L.t
def Na (x v:Int):Prop:=x.natAbs≤1000000∧v.natAbs≤1000
def B8 (cN cL T eB eF eT eU:Addr):cJ:=fun xs J Q E=>∃ p L n x v,xs=[.ref p,.str n,.int x,.int v]∧bc cN cL J p L∧b_ L∧J T=some .tab∧n.length≤sizeLine∧L.cs.length < 100∧(good n=false→E eB J)∧(good n=true→¬ Na x v→E eF J) ∧
 (good n=true→Na x v→n∈L.cs.map Cf.n→E eT J)∧(good n=true→Na x v→n ∉ L.cs.map Cf.n→12≤L.row.length→E eU J) ∧
 (good n=true→Na x v→n ∉ L.cs.map Cf.n→L.row.length < 12→∀ J' L',bc cN cL J' p L'→b_ L'→L.joined n x v L'→Mv J J' (L.own p) (L'.own p)→Q .non J')
abbrev h_:Stmt:=(L2.inClass (top 44) 1)
abbrev n_:List Str:=["self","name","place","pace"]
theorem wO:L2.aw ["self","name","place","pace"] ["self","name","place","pace"] (L2.aj h_):=ed
theorem bc.add {cN cL:Addr} {J:Hq} {p:Addr} {L:Ln} {c:Cf} {ep:Nat} (h:bc cN cL J p L) (hc:GZ cL J c.a c.r c.w c.g) (h1:c.r ∉ L.cs.map Cf.r) (h2:c.r≠L.o) :
  bc cN cL (put (put J L.d (.dct ((L.cs ++ [c]).map fun c=>(c.n,PV.ref c.a)) ep)) L.o (.lst ((L.row ++ [c.n]).map .str))) p ⟨L.t,L.d,ep,L.o,L.cs ++ [c],L.row ++ [c.n]⟩:=by
 have n1:c.a≠L.d:=by intro e;have:=h.dc;rw [← e,hc.o] at this;cases this
 have n2:c.a≠L.o:=by intro e;have:=h.rw;rw [← e,hc.o] at this;cases this
 have n3:c.r≠L.d:=by intro e;have:=h.dc;rw [← e,hc.l] at this;cases this
 refine ⟨?_,?_,av,fun x hx=>?_,?_,fun x hx=>?_⟩
 ·rw [au (Ne.symm h.HV),au (Ne.symm h.HS)];exact h.ob
 ·show put (put J L.d _) L.o _ L.d=_
  rw [au h.Q4];exact av
 ·rcases List.mem_append.mp hx with hx | hx
  ·exact ⟨by rw [au (h.Q3 hx),au (h.Sw hx)];exact (h.lg x hx).o,by rw [au (h.ao x hx),au (h.Sx hx)];exact (h.lg x hx).l⟩
  ·rw [List.mem_singleton] at hx;subst hx
   exact ⟨by rw [au n2,au n1];exact hc.o,by rw [au h2,au n3];exact hc.l⟩
 ·show ((L.cs ++ [c]).map Cf.r).Nodup
  rw [List.map_append,List.map_cons,List.map_nil,List.nodup_append]
  exact ⟨h.ap,by simp,fun x hx y hy e=>by rw [List.mem_singleton] at hy;subst hy;subst e;exact h1 hx⟩
 ·show x.r≠L.o
  rcases List.mem_append.mp hx with hx | hx
  ·exact h.ao x hx
  ·rw [List.mem_singleton] at hx;subst hx;exact h2
theorem bj.add {L:Ln} (h:bj L) {c:Cf} {l:aY} {ep:Nat} (hw:c.w=[l]) (hg:c.g=none) (hl:tG l) (hm:l.m=L.t) (hn:c.n ∉ L.cs.map Cf.n) (hr:L.row.length < 12) (hs:L.cs.length < 100):bj ⟨L.t,L.d,ep,L.o,L.cs ++ [c],L.row ++ [c.n]⟩:=by
 have hf:Ln.fs ⟨L.t,L.d,ep,L.o,L.cs ++ [c],L.row ++ [c.n]⟩=L.fs ++ [(c.n,c.cur)]:=Bo L rfl hg
 have all:∀ {P:Cf→Prop},(∀ x∈L.cs,P x)→P c→∀ x∈L.cs ++ [c],P x:=fun h1 h2 x hx=>by
  rcases List.mem_append.mp hx with hx | hx
  ·exact h1 x hx
  ·rw [List.mem_singleton] at hx;subst hx;exact h2
 refine ⟨?_,all h.ne (by rw [hw];simp),all h.le (by rw [hw];simp [hm]),all h.ck (by rw [hw];simpa using hl),all h.len (by rw [hw];show (1:Nat)≤200;decide),all h.gz (by rw [hg];intro q e;cases e),h.t0,h.ts,by show (L.cs ++ [c]).length≤100;rw [List.length_append];simp;omega,fun n=>?_,?_,by show (L.row ++ [c.n]).length≤12;rw [List.length_append];simp;omega⟩
 ·show ((L.cs ++ [c]).map Cf.n).Nodup
  rw [List.map_append,List.map_cons,List.map_nil,List.nodup_append]
  exact ⟨h.nd,by simp,fun x hx y hy e=>by rw [List.mem_singleton] at hy;subst hy;subst e;exact hn hx⟩
 ·rw [hf,List.map_append,List.mem_append,List.mem_append,h.rm n];simp
 ·show (L.row ++ [c.n]).Nodup
  rw [List.nodup_append]
  refine ⟨h.rn,by simp,fun x hx y hy e=>?_⟩
  rw [List.mem_singleton] at hy
  rw [e,hy] at hx
  have:=(h.rm _).mp hx
  rw [fL,List.mem_map] at this
  obtain ⟨d,hd,e⟩:=this
  exact hn (List.mem_map.mpr ⟨d,(Ln.eg.mp hd).1,e⟩)
theorem b_.settled {L:Ln} (h:bj L) (o':Addr):b_ { L with o:=o',row:=cf L.t L.fs }:=by
 have hl:(cf L.t L.fs).length≤12:=by
  have h1:(cf L.t L.fs).Perm L.row:=(List.perm_ext_iff_of_nodup (su h.Li) h.rn).mpr fun n=>by rw [yp];exact (h.rm n).symm
  rw [h1.length_eq];exact h.rl
 exact ⟨⟨h.nd,h.ne,h.le,h.ck,h.len,h.gz,h.t0,h.ts,h.many,fun n=>yp,su h.Li,hl⟩,rfl⟩
theorem vV {cN cL T eB eF eT eU f:Addr} {fd:FuncData} (F:cA K "join" "Lane.join" h_ f fd) (Z:bW mg) (ax:eD K mg "Lane" cN) (aB:aH K cN "row") (az:aH K cN "now") (aQ:aH K cN "logs") {kb gC xj:Tok} (gH:mg "FARTHEST"=some (.int 1000000 kb)) (eO:mg "FASTEST"=some (.int 1000 gC)) (rR:mg "MOST"=some (.int 12 xj))
  (o_:Own K mg "BadName" eB) (i9:Own K mg "TooFar" eF) (vq:Own K mg "Taken" eT) (zD:Own K mg "Full" eU) (kG:bt P w K mg base 1 "good_name" f' (B3 T)) (D':zC P w K mg base cL 1 "Log" ko (B4 cL)) (bA:cY P w K mg base cN 7 "settle" dN (jx cN cL)) :
  aL P w K mg base (dh P w) 8 f fd n_ (d4 K (B8 cN cL T eB eF eT eU)):=by
 simp_arith [wO,(ai (aU (dw (bX (aS kG B hr (af (rv 1) ah)))) (ak (fh o_ rfl c_ B.kn rfl (af bJ ah))) aI)
   (ai (aU (dC (ku (aD ji (aM zN rfl Z.abs boot_abs (af (rv 2) ah)) (gh (v:=.int 1000000) (.int 1000000) rfl gH ⟨_,rfl⟩ (fun _ _=>rfl))) (i4 (aD ji (aM zN rfl Z.abs boot_abs (af (rv 3) ah)) (gh (v:=.int 1000) (.int 1000) rfl eO ⟨_,rfl⟩ (fun _ _=>rfl)))))) (ak (fh i9 rfl c_ B.kn rfl (af bJ ah))) aI)
   (ai (aU (aD Me (rv 1) (aZ ax.cl aQ (rv 0))) (ak (fh vq rfl c_ B.kn rfl (af bJ ah))) aI)
   (ai (aU (aD Fu (aM b7 rfl Z.len boot_len (af (aZ ax.cl aB (rv 0)) ah)) (gh (v:=.int 12) (.int 12) rfl rR ⟨_,rfl⟩ (fun _ _=>rfl))) (ak (fh zD rfl c_ B.kn rfl (af bJ ah))) aI)
   (ai (wF qY (aZ ax.cl aQ (rv 0)) (rv 1) (IQ D' B hr (af (aZ ax.cl az (rv 0)) (af (cm (af (rv 2) (af ag ah))) (af (rv 3) ah)))))
   (ai (bh (oz PySem.F.plainAttrs_list PySem.F.slot_list_append PySem.F.type_list_append pE (aZ ax.cl aB (rv 0)) (af (rv 1) ah)))
   (ak (bh (d8 (pl:=_) bA B hr (rv 0))))))))))]
 ·obtain ⟨p,L,n,x,v,rfl,_⟩:=h;rfl
 obtain ⟨p,L,n,x,v,rfl,b,ok,hT,hnl,hcs,qb,qf,qt,qu,q⟩:=h
 have bo:=b.ob
 have bd:=b.dc
 have br:=b.rw
 refine hX ?_
 simp_all! []
 refine ⟨n,rfl,hnl,hT,?_⟩
 cases hg:good n with
 | false =>
  simp_all! [gR]
  exact qb hg
 | true =>
 simp_all! []
 by_cases hB:Na x v
 ·obtain ⟨hx,hv⟩:=id hB
  rw [if_neg (by split <;> omega),if_neg (by split <;> omega)]
  simp_all! [bo,C8,bd,ok.Tb]
  by_cases hm:n∈L.cs.map Cf.n
  ·rw [if_pos hm]
   simp_all! [gR]
   exact qt hg hB hm
  rw [if_neg hm]
  simp_all! [bo,tW,br,List.length_map]
  by_cases hr12:12≤L.row.length
  ·rw [if_pos (by omega)]
   simp_all! [gR]
   exact qu hg hB hm hr12
  rw [if_neg (by omega)]
  simp_all! [bo,tV]
  intro a ha
  refine ⟨a,⟨L.t,(x:Rat),v⟩,rfl,av,fun r hr'=>?_⟩
  have nra:r≠a:=by intro e;subst e;rw [av] at hr';cases hr'
  have jr:J r=none:=by rw [au nra] at hr';exact hr'
  have b1:bc cN cL (put (put (put J a (.ins cL [])) r (.lst [(aY.mk L.t (x:Rat) v).V])) a (.ins cL [("rows",.ref r),("gone",.non)])) p L:=b.keep fun c u ow e=>by
   have n1:c≠a:=fun z=>by subst z;rw [ha] at e;cases e
   have n2:c≠r:=fun z=>by subst z;rw [jr] at e;cases e
   rw [au n1,au n2,au n1];exact e
  have l1:GZ cL (put (put (put J a (.ins cL [])) r (.lst [(aY.mk L.t (x:Rat) v).V])) a (.ins cL [("rows",.ref r),("gone",.non)])) a r [⟨L.t,(x:Rat),v⟩] none:=⟨av,by rw [au nra];exact av⟩
  have mv1:Mv J (put (put (put J a (.ins cL [])) r (.lst [(aY.mk L.t (x:Rat) v).V])) a (.ins cL [("rows",.ref r),("gone",.non)])) (L.own p) (fun c=>(L.own p c∨c=a)∨c=r) :=
   ((Mv.Df ha).trans (Mv.Df hr')).trans (gK (.inl (.inr rfl)) fun c h=>.inl h)
  generalize (put (put (put J a (.ins cL [])) r (.lst [(aY.mk L.t (x:Rat) v).V])) a (.ins cL [("rows",.ref r),("gone",.non)]))=J1 at b1 l1 mv1 ⊢
  have bo1:=b1.ob
  have bd1:=b1.dc
  simp_all! [bo1,C8,bd1]
  refine ⟨bp (by rw [List.length_map];omega),fun ep'=>?_⟩
  have epu:wo (L.cs.map fun c=>(c.n,PV.ref c.a)) n (PV.ref a)=(L.cs ++ [Cf.mk n a r [⟨L.t,(x:Rat),v⟩] none]).map fun c=>(c.n,PV.ref c.a):=by
   have e:(L.cs.map fun c=>(c.n,PV.ref c.a))=((L.cs.map fun c=>(c.n,c.a)).map fun x=>(x.1,PV.ref x.2)):=by rw [List.map_map];rfl
   rw [e,AD (f:=PV.ref) (l:=a) (by rw [List.map_map];exact hm),List.map_append,List.map_append,List.map_map];rfl
  rw [epu]
  have hrs:r ∉ L.cs.map Cf.r:=fun h=>by
   obtain ⟨c,hc,e⟩:=List.mem_map.mp h
   have:=(b.lg c hc).l;rw [e,jr] at this;cases this
  have hro:r≠L.o:=fun e=>by have:=b.rw;rw [← e,jr] at this;cases this
  have b2:=b1.add (c:=Cf.mk n a r [⟨L.t,(x:Rat),v⟩] none) (ep:=ep') l1 hrs hro
  have ok2:bj ⟨L.t,L.d,ep',L.o,L.cs ++ [Cf.mk n a r [⟨L.t,(x:Rat),v⟩] none],L.row ++ [n]⟩:=ok.tobj.add (c:=Cf.mk n a r [⟨L.t,(x:Rat),v⟩] none) rfl rfl (tG.new ok.t0 ok.ts hx hv) rfl hm (by omega) hcs
  have bo2:(put J1 L.d (HQ.dct ((L.cs ++ [Cf.mk n a r [⟨L.t,(x:Rat),v⟩] none]).map fun c=>(c.n,PV.ref c.a)) ep')) p=some (.ins cN [("now",fr L.t),("logs",.ref L.d),("row",.ref L.o)]):=by rw [au (Ne.symm b1.HS)];exact b1.ob
  have br2:(put J1 L.d (HQ.dct ((L.cs ++ [Cf.mk n a r [⟨L.t,(x:Rat),v⟩] none]).map fun c=>(c.n,PV.ref c.a)) ep')) L.o=some (.lst (L.row.map .str)):=by rw [au (Ne.symm b1.Q4)];exact b1.rw
  have mv2:Mv J1 (put (put J1 L.d (HQ.dct ((L.cs ++ [Cf.mk n a r [⟨L.t,(x:Rat),v⟩] none]).map fun c=>(c.n,PV.ref c.a)) ep')) L.o (.lst ((L.row ++ [n]).map .str))) (fun c=>(L.own p c∨c=a)∨c=r) (Ln.own ⟨L.t,L.d,ep',L.o,L.cs ++ [Cf.mk n a r [⟨L.t,(x:Rat),v⟩] none],L.row ++ [n]⟩ p):=by
   refine (gK (S':=fun c=>(L.own p c∨c=a)∨c=r) (.inl (.inl (.inr (.inl rfl)))) fun c h=>.inl h).trans (gK (.inl (.inl (.inr (.inr (.inl rfl))))) fun c h=>.inl ?_)
   rcases h with h | h | h | ⟨d,hd,h⟩
   ·exact .inl (.inl (.inl h))
   ·exact .inl (.inl (.inr (.inl h)))
   ·exact .inl (.inl (.inr (.inr (.inl h))))
   ·rcases List.mem_append.mp hd with hd | hd
    ·exact .inl (.inl (.inr (.inr (.inr ⟨d,hd,h⟩))))
    ·rw [List.mem_singleton] at hd;subst hd
     rcases h with h | h
     ·exact .inl (.inr h)
     ·exact .inr h
  have mv3:=mv1.trans mv2
  simp_all! [bo2,tW,br2]
  refine ⟨bp (by rw [List.length_map];omega),?_⟩
  rw [show L.row.map PV.str ++ [PV.str n]=(L.row ++ [n]).map .str by rw [List.map_append];rfl]
  have bo3:=b2.ob
  generalize (put (put J1 L.d (HQ.dct ((L.cs ++ [Cf.mk n a r [⟨L.t,(x:Rat),v⟩] none]).map fun c=>(c.n,PV.ref c.a)) ep')) L.o (.lst ((L.row ++ [n]).map .str)))=J2 at b2 mv3 bo3 ⊢
  simp_all! [bo3]
  refine ⟨f_ _ _ _ _,p,_,rfl,b2,ok2,fun J' o' b' mv'=>?_⟩
  exact q hg hB hm (by omega) J' _ b' (b_.settled ok2 o') ⟨a,r,rfl,rfl⟩ (mv3.trans mv')
 ·have hf:=qf hg hB
  by_cases h1:x.natAbs≤1000000
  ·have h2:¬ v.natAbs≤1000:=fun h=>hB ⟨h1,h⟩
   rw [if_neg (by split <;> omega),if_pos (by split <;> omega)]
   simp_all! [gR]
   exact hf
  ·rw [if_pos (by split <;> omega)]
   simp_all! [gR]
   exact hf
abbrev gq:Stmt:=(L2.inClass (top 44) 7)
abbrev mr:List Str:=["self"]
theorem uh:L2.aw ["self"] ["self"] (L2.aj gq):=ed
def yS (cN cL:Addr):cJ:=fun xs J Q _=>∃ p L,xs=[.ref p]∧bc cN cL J p L∧Q (fr L.t) J
theorem t8 {cN cL f:Addr} {fd:FuncData} (F:cA K "clock" "Lane.clock" gq f fd) (Z:bW mg) (ax:eD K mg "Lane" cN) (az:aH K cN "now"):aL P w K mg base (dh P w) 1 f fd mr (d4 K (yS cN cL)):=by
 simp_arith [uh,(ak (aA (aZ ax.cl az (rv 0))))]
 ·obtain ⟨p,L,rfl,_⟩:=h;rfl
 obtain ⟨p,L,rfl,b,q⟩:=h
 have bo:=b.ob
 refine hX ?_
 simp_all! [bo,tV]
 exact q
abbrev gx:Stmt:=(L2.inClass (top 44) 8)
abbrev mx:List Str:=["self"]
theorem uj:L2.aw ["self"] ["self"] (L2.aj gx):=ed
def yU (cN cL:Addr):cJ:=fun xs J Q _=>∃ p L,xs=[.ref p]∧bc cN cL J p L∧(Q (.fl (L.row.map .str)) J∨∀ l,J l=none→Q (.ref l) (put J l (.lst (L.row.map .str))))
theorem ub {cN cL f:Addr} {fd:FuncData} (F:cA K "order" "Lane.order" gx f fd) (Z:bW mg) (ax:eD K mg "Lane" cN) (aB:aH K cN "row"):aL P w K mg base (dh P w) 1 f fd mx (d4 K (yU cN cL)):=by
 simp_arith [uj,(ak (aA (lW xH rfl Z.list boot_list (af (aZ ax.cl aB (rv 0)) ah)))),F]
 ·obtain ⟨p,L,rfl,_⟩:=h;rfl
 obtain ⟨p,L,rfl,b,q⟩:=h
 have bo:=b.ob
 have br:=b.rw
 refine hX ?_
 simp_all! [bo,br,tW]
 intro l hl
 rcases q with q | q
 ·exact Fg.rQ (kS hl) av hl q
 ·exact Fg.same (q l hl)
def aG.v (b:aG):PV:=.tup [fr b.m,.str b.h,.str b.f]
theorem ES (J:Hq) (b:aG):fY J b.v (.int 0)=some (fr b.m):=d5 _ _
theorem ET (J:Hq) (b:aG):fY J b.v (.int 1)=some (.str b.h):=f7 _ _ _
theorem EU (J:Hq) (b:aG):fY J b.v (.int 2)=some (.str b.f):=mj _ _ _ _
theorem RJ (J:Hq) (b:aG):Co J b.v=some "tuple":=rfl
theorem N2 (J:Hq) (b:aG):xW J b.v=some 3:=rfl
theorem Kg (b:aG):lV b.v=true:=by simp [aG.v,IF,pO,yw,AF,wq]
theorem Qq (b:aG):GL b.v=True:=eq_true ⟨Kg b,by simp [aG.v,fr,fZ,fP,dep,dQ]⟩
theorem Qs (a b:aG):eqQ a.v b.v=decide (a=b):=by
 unfold aG.v
 rw [rM,dm,dm,dm,nK,Bk,eq_str,eq_str,Bool.and_true,← Bool.decide_and,← Bool.decide_and]
 apply decide_eq_decide.mpr
 cases a;cases b
 simp [aG.mk.injEq]
theorem KJ (a:Rat) (h f:Str):PV.tup [fr a,.str h,.str f]=(aG.mk a h f).v:=rfl
theorem Ek (J:Hq) (b:aG):∃ xs,b.v=.tup xs∧¬ (HT.eK xs.length 0 (some 1)=0∧HT.eK xs.length xs.length none=xs.length)∧mU xs (some 1) none=[b.h,b.f].map .str:=⟨_,rfl,fun h=>absurd h.1 (show HT.eK 3 0 (some 1)≠0 by decide),rfl⟩
abbrev fK:Stmt:=(top 23)
abbrev ly:List Str:=["one","other"]
theorem sQ:L2.aw ["one","other"] ["one","other"] (L2.aj fK):=ed
def w8:cJ:=fun xs J Q _=>∃ a b:aG,xs=[a.v,b.v]∧Sz 9000 a.m∧Sz 9000 b.m∧Q (.bl (a.lt b)) J
theorem QP (a b c d:Str):m3 [a,b] [c,d]=if a=c then decide (slt b d) else decide (slt a c):=by
 rw [pB]
 by_cases h:a=c
 ·rw [if_pos h,if_pos h,pB]
  by_cases k:b=d
  ·rw [if_pos k,nW];subst k;exact (decide_eq_false (by unfold slt;exact List.lt_irrefl _)).symm
  ·rw [if_neg k];rfl
 ·rw [if_neg h,if_neg h];rfl
theorem qx {f:Addr} {fd:FuncData} (F:cA K "rings_ahead" "rings_ahead" fK f fd) (Z:bW mg) (eu:bt P w K mg base 1 "less" gd d3):aL P w K mg base (dh P w) 2 f fd ly (d4 K w8):=by
 simp_arith [sQ,(ai (aU (aD (km hr.aO) (aq ar (rv 0) ag) (aq ar (rv 1) ag)) (ak (aA (aS eu B hr (af (aq ar (rv 0) ag) (af (aq ar (rv 1) ag) ah))))) aI)
   (ak (aA (ff (Ii hr.MX) (ju AU (rv 0) (lZ ag) lY) (ju AU (rv 1) (lZ ag) lY)))))]
 ·obtain ⟨a,b,rfl,_⟩:=h;rfl
 obtain ⟨a,b,rfl,sa,sb,q⟩:=h
 refine hX ?_
 simp_arith! [bI,ES,ET,EU,d3,Kl]
 unfold aG.lt at q
 by_cases e:a.m=b.m
 ·rw [if_pos e] at q ⊢
  obtain ⟨xs,h1,h2,h3⟩:=Ek J a
  obtain ⟨ys,h4,h5,h6⟩:=Ek J b
  refine Ao h1 ⟨h2,?_⟩
  refine Ao h4 ⟨h5,?_⟩
  exact ⟨[a.h,a.f],[b.h,b.f],congrArg PV.tup h3,congrArg PV.tup h6,by rw [QP];exact q⟩
 ·rw [if_neg e] at q ⊢
  exact ⟨sa,sb,q⟩
theorem Oc (v:PV):([("rows",v)]:List (Str × PV)).lookup ("rows":Str)=some v:=rfl
theorem LH {m:Str} (v:PV) (h:(m == ("rows":Str))=false):([("rows",v)]:List (Str × PV)).lookup m=none:=by rw [List.lookup_cons,h];rfl
theorem QQ (v:PV):([("rows",v)]:List (Str × PV)).lookup ("drop":Str)=none:=LH v (by decide +kernel)
theorem Od (v:PV):([("rows",v)]:List (Str × PV)).lookup ("put":Str)=none:=LH v (by decide +kernel)
theorem Oe (v:PV):([("rows",v)]:List (Str × PV)).lookup ("told":Str)=none:=LH v (by decide +kernel)
theorem IG {J:Hq} {r p:Addr} {a b c:HQ} (h:r≠p):put (put (put J r a) p b) r c=put (put J r c) p b:=by
 rw [FO (Ne.symm h),fe]
structure GR (cB:Addr) (J:Hq) (p r:Addr) (rows:List aG):Prop where
 o:J p=some (.ins cB [("rows",.ref r)])
 l:J r=some (.lst (rows.map aG.v))
abbrev dX:Stmt:=(L2.inClass (top 24) 0)
abbrev fb:List Str:=["self"]
theorem oN:L2.aw ["self"] ["self"] (L2.aj dX):=ed
def w9 (cB:Addr):cJ:=fun xs J Q _=>∃ p,xs=[.ref p]∧J p=some (.ins cB [])∧∀ r,J r=none→Q .non (put (put J r (.lst [])) p (.ins cB [("rows",.ref r)]))
theorem tY {cB f:Addr} {fd:FuncData} (F:cA K "__init__" "Bells.__init__" dX f fd) (bC:eD K mg "Bells" cB) (aT:aH K cB "rows"):aL P w K mg base (dh P w) 1 f fd fb (d4 K (w9 cB)):=by
 simp_arith [oN,(ak (iZ bC.cl aT (rv 0) (m6 ah)))]
 ·obtain ⟨p,rfl,_⟩:=h;rfl
 obtain ⟨p,rfl,hp,q⟩:=h
 refine hX ?_
 simp_arith! [bI]
 intro r hr'
 have ne:p≠r:=by intro e;subst e;rw [hp] at hr';cases hr'
 exact m5 (x:=[]) (by rw [au ne];exact hp) ⟨by decide,q r hr'⟩
abbrev fi:Stmt:=(L2.inClass (top 24) 2)
abbrev ml:List Str:=["self","hind","fore"]
theorem i5:L2.aw ["self","hind","fore","kept","found"] ["self","hind","fore"] (L2.aj fi):=ed
def BZ (cB:Addr):cJ:=fun xs J Q _=>∃ p r rows h f,xs=[.ref p,.str h,.str f]∧GR cB J p r rows∧rows.length≤900∧∀ r',J r'=none→Q (.bl (decide ((dk h f rows).length < rows.length))) (put (put J r' (.lst ((dk h f rows).map aG.v))) p (.ins cB [("rows",.ref r')]))
def tail3:PV→PV
 | .tup xs=>.tup (mU xs (some 1) none)
 | _=>.non
def BC (h f:Str) (x:PV):Bool:=!eqQ (tail3 x) (.tup [.str h,.str f])
theorem Ls (h f:Str) (b:aG):BC h f b.v=!uR h f b:=by
 show (!eqQ (.tup [.str b.h,.str b.f]) (.tup [.str h,.str f]))=_
 rw [rM,dm,dm,nK,eq_str,eq_str,Bool.and_true,← Bool.decide_and]
 rfl
theorem Ew (h f:Str):∀ rows:List aG,((rows.map aG.v).filter (BC h f)).map (fun x=>x)=(dk h f rows).map aG.v
 | []=>rfl
 | b :: rows=>by
  have ih:=Ew h f rows
  unfold dk at ih ⊢
  rw [List.map_cons,List.filter_cons,List.filter_cons,Ls]
  cases uR h f b <;> simp at ih ⊢ <;> exact ih
theorem tX {cB f:Addr} {fd:FuncData} (F:cA K "drop" "Bells.drop" fi f fd) (Z:bW mg) (bC:eD K mg "Bells" cB) (aT:aH K cB "rows"):aL P w K mg base (dh P w) 1 f fd ml (d4 K (BZ cB)):=by
 simp_arith [i5,(ai (IU (i:=3) (L2.aj fi) ["self","hind","fore","kept","found"] [("hind",1),("fore",2)] rfl rfl rfl i5.nd rfl (Or.inl rfl) (fG (aZ bC.cl aT (rv 0))) (fun _ _ _ _ _ _=>(rv 0)) (fun _ _ _ _ _ _=>(aD (km hr.aO) (ju AU (rv 0) (lZ ag) lY) (cm (af (rv 1) (af (rv 2) ah))))))
   (ai (aF (i:=4) i5.nd (ff fN (aM b7 rfl Z.len boot_len (af (rv 3) ah)) (aM b7 rfl Z.len boot_len (af (aZ bC.cl aT (rv 0)) ah))))
   (ai (iZ bC.cl aT (rv 0) (rv 3))
   (ak (aA (rv 4))))))]
 ·obtain ⟨p,r,rows,h,f,rfl,_⟩:=h;rfl
 obtain ⟨p,r,rows,h,f,rfl,b,hl,q⟩:=h
 have bo:=b.o
 have bl:=b.l
 refine hX ?_
 simp_arith! [bI,Mt,bo,bl,Oc]
 refine ⟨BC h f,fun x=>x,⟨by rw [List.length_map];exact bp (by omega),fun J' sub=>⟨sub _ _ bl,fun x hx=>?_⟩⟩,fun r' hr'=>?_⟩
 ·obtain ⟨b,_,rfl⟩:=List.mem_map.mp hx
  obtain ⟨xs,h1,h2,h3⟩:=Ek J' b
  have hk:BC h f b.v=!eqQ (.tup (mU xs (some 1) none)) (.tup [.str h,.str f]):=by rw [h1];rfl
  simp_arith! [bI]
  refine ⟨Ao h1 ⟨h2,?_⟩,fun _=>trivial⟩
  simp_arith! [bI]
  rw [hk,h3]
  refine ⟨⟨by simp [lV,gZ],by simp [fZ,fP,dep,dQ]⟩,by simp [lV,gZ],rfl⟩
 ·have ne:p≠r':=by intro e;subst e;rw [bo] at hr';cases hr'
  have nr:r≠r':=by intro e;subst e;rw [bl] at hr';cases hr'
  simp_arith! [bI,au ne,au nr,bo,bl,Oc,Ew,List.length_map,Int.ofNat_lt]
  exact ⟨by decide,q r' hr'⟩
abbrev hZ:Stmt:=(L2.inClass (top 24) 1)
abbrev jZ:List Str:=["self","moment","hind","fore"]
theorem dY:L2.aw ["self","moment","hind","fore","bell","low","high","middle"] ["self","moment","hind","fore"] (L2.aj hZ):=ed
def AO (cB:Addr):cJ:=fun xs J Q _=>∃ p r rows m h f,xs=[.ref p,fr m,.str h,.str f]∧GR cB J p r rows∧jF rows∧rows.length≤800∧Sz 9000 m∧(∀ x∈rows,Sz 9000 x.m) ∧
 ∀ r',J r'=none→Q .non (put (put J r' (.lst ((kC ⟨m,h,f⟩ (dk h f rows)).map aG.v))) p (.ins cB [("rows",.ref r')]))
theorem JF (a b:Nat):((a:Int) + (b:Int)).fdiv 2=(((a + b) / 2:Nat):Int):=by rw [Int.fdiv_eq_ediv_of_nonneg _ (by decide)];omega
theorem Sh (a:Int):CQ a 2=True:=eq_true ⟨by decide,Bd.mono (Bd.small (by decide) (by decide)) (by decide)⟩
theorem Eh {rows:List aG} {i:Nat} {b:aG} (h:rows[i]?=some b):dJ (rows.map aG.v) (i:Int)=some b.v:=bq (by rw [List.getElem?_map,h];rfl)
theorem vT {cB f:Addr} {fd:FuncData} (F:cA K "put" "Bells.put" hZ f fd) (Z:bW mg) (bC:eD K mg "Bells" cB) (aT:aH K cB "rows") (jP:cY P w K mg base cB 1 "drop" ml (BZ cB))
  (tL:bt P w K mg base 2 "rings_ahead" ly w8):aL P w K mg base (dh P w) 3 f fd jZ (d4 K (AO cB)):=by
 simp_arith [dY,(ai (bh (bL (pl:=_) jP B hr (rv 0) (af (rv 2) (af (rv 3) ah))))
   (ai (aF (i:=4) dY.nd (cm (af (rv 1) (af (rv 2) (af (rv 3) ah)))))
   (ai (MC (i:=5) (j:=6) rfl dY.nd rfl rfl (by decide) rfl rfl (af ag (af (aM b7 rfl Z.len boot_len (af (aZ bC.cl aT (rv 0)) ah)) ah)) rfl)
   (ai (lD cx (aD fN (rv 5) (rv 6)) (ai (aF (i:=7) dY.nd (aJ n6 (aJ cS (rv 5) (rv 6)) ag))
   (ak (aU (bX (aS tL B hr (af (aq ar (aZ bC.cl aT (rv 0)) (rv 7)) (af (rv 4) ah)))) (ak (aF (i:=5) dY.nd (aJ cS (rv 7) ag))) (ak (aF (i:=6) dY.nd (rv 7)))))))
   (ak (bh (oz PySem.F.plainAttrs_list PySem.F.slot_list_insert PySem.F.type_list_insert lR (aZ bC.cl aT (rv 0)) (af (rv 5) (af (rv 4) ah)))))))))]
 ·obtain ⟨p,r,rows,m,h,f,rfl,_⟩:=h;rfl
 obtain ⟨p,r,rows,m,h,f,rfl,b,srt,hl,sm,sr,q⟩:=h
 have bo:=b.o
 refine hX ?_
 simp_arith! [bI,bo,QQ]
 refine ⟨p,r,rows,h,f,rfl,b,by omega,fun r' hr'=>?_⟩
 have Nc:r'≠p:=by intro e;subst e;rw [bo] at hr';cases hr'
 have b1:GR cB (put (put J r' (.lst ((dk h f rows).map aG.v))) p (.ins cB [("rows",.ref r')])) p r' (dk h f rows):=⟨av,by rw [au Nc];exact av⟩
 have kl:(dk h f rows).length≤800:=Nat.le_trans (ph _ _ _) hl
 have ks:jF (dk h f rows):=uB srt
 have kz:∀ x∈dk h f rows,Sz 9000 x.m:=fun x hx=>sr x (List.mem_filter.mp hx).1
 have q:=q r' hr'
 generalize hJ:put (put J r' (.lst ((dk h f rows).map aG.v))) p (.ins cB [("rows",.ref r')])=J1 at b1 ⊢
 have hq:put J1 r' (.lst ((kC ⟨m,h,f⟩ (dk h f rows)).map aG.v))=put (put J r' (.lst ((kC ⟨m,h,f⟩ (dk h f rows)).map aG.v))) p (.ins cB [("rows",.ref r')]):=by rw [← hJ,IG Nc]
 rw [← hq] at q
 clear hq hJ hr'
 have bo:=b1.o
 have bl:=b1.l
 generalize dk h f rows=ks' at *
 simp_arith! [bI,bo,bl,Oc,KJ,List.length_map]
 refine ⟨fun k τ J'=>∃ (lo hi:Nat) (u:Option PV),τ=[some (.ref p),some (fr m),some (.str h),some (.str f),some (aG.mk m h f).v,some (.int lo),some (.int hi),u]∧J'=J1∧k=hi - lo∧lo≤hi∧hi≤ks'.length ∧
  (∀ (j:Nat) x,j < lo→ks'[j]?=some x→x.lt ⟨m,h,f⟩=true)∧(∀ (j:Nat) x,hi≤j→ks'[j]?=some x→x.lt ⟨m,h,f⟩=false),⟨_,0,ks'.length,none,rfl,rfl,rfl,Nat.zero_le _,Nat.le_refl _,fun j x hj=>absurd hj (Nat.not_lt_zero _),fun j x hj e=>by rw [List.getElem?_eq_none hj] at e;cases e⟩,?_⟩
 rintro k τ J' ⟨lo,hi,u,rfl,rfl,rfl,h1,h2,hlo,hhi⟩
 simp_arith! [bI,bo,bl,Oc,Sh,JF,Int.ofNat_lt,w8]
 by_cases hlt:lo < hi
 ·rw [if_pos hlt]
  have hm:(lo + hi) / 2 < ks'.length:=by omega
  obtain ⟨x,hx⟩:∃ x,ks'[(lo + hi) / 2]?=some x:=⟨_,List.getElem?_eq_getElem hm⟩
  obtain ⟨N,hN⟩:∃ N:Sr→Hq→Prop,∀ τ' J'',N τ' J''↔∃ (lo' hi':Nat) (u:Option PV),τ'=[some (.ref p),some (fr m),some (.str h),some (.str f),some (aG.mk m h f).v,some (.int lo'),some (.int hi'),u]∧J''=J'∧lo'≤hi'∧hi'≤ks'.length∧hi' - lo' < hi - lo ∧
   (∀ (j:Nat) x,j < lo'→ks'[j]?=some x→x.lt ⟨m,h,f⟩=true)∧(∀ (j:Nat) x,hi'≤j→ks'[j]?=some x→x.lt ⟨m,h,f⟩=false):=⟨_,fun _ _=>Iff.rfl⟩
  refine ⟨N,fun τ' J'' hn=>by obtain ⟨lo',hi',u,e1,e2,e3,e4,e5,e6,e7⟩:=(hN _ _).mp hn;exact ⟨_,e5,lo',hi',u,e1,e2,rfl,e3,e4,e6,e7⟩,k7 (Eh hx) ⟨x,⟨m,h,f⟩,rfl,kz x (List.mem_of_getElem? hx),sm,?_⟩⟩
  simp_arith! [bI,Sh,JF,Int.ofNat_lt]
  cases hc:x.lt ⟨m,h,f⟩ with
  | true =>
   rw [if_pos rfl]
   exact (hN _ _).mpr ⟨(lo + hi) / 2 + 1,hi,_,rfl,rfl,by omega,h2,by omega,fun j y hj e=>Cc ks hx e (by omega) hc,hhi⟩
  | false =>
   rw [if_neg Bool.false_ne_true]
   exact (hN _ _).mpr ⟨lo,(lo + hi) / 2,_,rfl,rfl,by omega,by omega,by omega,hlo,fun j y hj e=>yY ks hx e hj hc⟩
 ·rw [if_neg hlt]
  have e:lo=hi:=by omega
  subst e
  refine ⟨_,lo,rfl,rfl,by rw [List.length_map];exact h2,by rw [List.length_map];exact bp (by omega),Nat.lt_of_le_of_lt h2 (Nat.lt_of_le_of_lt kl (by decide)),?_⟩
  rw [← Bw h2 hlo hhi,List.map_append,List.map_cons,List.map_take,List.map_drop] at q
  exact q
abbrev gi:Stmt:=(L2.inClass (top 24) 5)
abbrev iS:List Str:=["self"]
theorem ug:L2.aw ["self"] ["self"] (L2.aj gi):=ed
def w_ (cB:Addr):cJ:=fun xs J Q _=>∃ p r rows,xs=[.ref p]∧GR cB J p r rows∧(Q (.fl (rows.map aG.v)) J∨∀ l,J l=none→Q (.ref l) (put J l (.lst (rows.map aG.v))))
theorem tZ {cB f:Addr} {fd:FuncData} (F:cA K "told" "Bells.told" gi f fd) (Z:bW mg) (bC:eD K mg "Bells" cB) (aT:aH K cB "rows"):aL P w K mg base (dh P w) 1 f fd iS (d4 K (w_ cB)):=by
 simp_arith [ug,(ak (aA (lW xH rfl Z.list boot_list (af (aZ bC.cl aT (rv 0)) ah)))),F]
 ·obtain ⟨p,r,rows,rfl,_⟩:=h;rfl
 obtain ⟨p,r,rows,rfl,b,q⟩:=h
 have bo:=b.o
 have bl:=b.l
 refine hX ?_
 simp_arith! [bI,bo,bl,Oc]
 intro l hl
 rcases q with q | q
 ·exact Fg.rQ (kS hl) av hl q
 ·exact Fg.same (q l hl)
def B1:cJ:=fun xs J Q _=>∃ t b:Int,xs=[.int t,.int b]∧b≠0∧Bd 9000 b∧Q (fr (Rat.divInt t b)) J
theorem tU (C:tD P w K mg base 2 "fraction" dO gU):bt P w K mg base 2 "fraction" dO B1:=C.lift fun xs J vs H Q2 E2 Q E rs r ⟨t,b,ex,h0,h1,q⟩ kn=>by
 subst ex
 obtain ⟨v,u,rfl,r1,r2⟩:=kg rs
 cases r1;cases r2
 exact ⟨t,b,rfl,h0,h1,wC r kn q⟩
theorem x4 (l l':aY) (h:l.v≠l'.v):Rat.divInt ((l'.at 0 - l.at 0).num) (((l'.at 0 - l.at 0).den:Int) * (l.v - l'.v))=n4 l l':=by
 rw [Ms _ _ (by omega)];rfl
abbrev l5:Stmt:=(top 28)
abbrev sF:List Str:=["one","other"]
theorem m_:L2.aw ["one","other","gain","gap"] ["one","other"] (L2.aj l5):=ed
def B6:cJ:=fun xs J Q _=>∃ l l':aY,xs=[l.V,l'.V]∧qo 900 l∧qo 900 l'∧(l.v=l'.v→Q .non J)∧(l.v≠l'.v→Q (fr (n4 l l')) J)
theorem yd {f:Addr} {fd:FuncData} (F:cA K "meeting" "meeting" l5 f fd) (Z:bW mg) (N:rE K mg) (eA:bt P w K mg base 4 "place_on" hW ql) (nv:bt P w K mg base 3 "minus" lq (AN fun p q=>p - q)) (bY:bt P w K mg base 2 "fraction" dO B1) :
  aL P w K mg base (dh P w) 5 f fd sF (d4 K B6):=by
 obtain ⟨aN,gN,sN⟩:=N
 have rN:∀ (J:Hq) (H:Hp),cE K J H (fr 0) (.ref aN):=fun J H=>⟨aN,_,rfl,sN H,⟨_,_,rfl,rfl,_,_,rfl,rfl,rfl⟩⟩
 simp_arith [m_,(ai (aF (i:=2) m_.nd (aJ du (aq ar (rv 0) ag) (aq ar (rv 1) ag)))
   (ai (aU (aD (cn hr.aO) (rv 2) ag) (ak (aA m7)) aI)
   (ai (aF (i:=3) m_.nd (aS nv B hr (af (aS eA B hr (af (rv 1) (af (gh (v:=.ref aN) (fr 0) rfl gN rfl rN) ah))) (af (aS eA B hr (af (rv 0) (af (gh (v:=.ref aN) (fr 0) rfl gN rfl rN) ah))) ah))))
   (ak (aA (aS bY B hr (af (aq ar (rv 3) ag) (af (aJ bO (aq ar (rv 3) ag) (rv 2)) ah))))))))]
 ·obtain ⟨l,l',rfl,_⟩:=h;rfl
 obtain ⟨l,l',rfl,sl,sl',q0,q1⟩:=h
 refine hX ?_
 have z1:Sz 900 (0:Rat):=⟨⟨by decide⟩,⟨by decide⟩⟩
 have s3:=kL sl z1
 have s3':=kL sl' z1
 have s4:Sz 6001 (l'.at 0 - l.at 0):=s3'.sub s3
 have bg:Bd 65 (l.v - l'.v):=sl.v.sub sl'.v
 simp_all! [nS]
 split
 ·rename_i e;simp_all! [];exact q0 (by omega)
 rename_i e
 have hv:l.v≠l'.v:=by omega
 simp_all! []
 refine ⟨l',0,rfl,sl'.m,sl'.p,z1,sl'.v,l,0,rfl,sl.m,sl.p,z1,sl.v,l'.at 0,l.at 0,rfl,s3'.mono (by decide),s3.mono (by decide),?_⟩
 simp_all! []
 refine ⟨.of s4.den bg,_,_,rfl,Int.mul_ne_zero (eZ _) e,(Bd.mul s4.den bg (k:=6100)).mono (by decide),?_⟩
 rw [x4 l l' hv]
 exact q1 hv
theorem x5 {l l':aY} (sl:qo 900 l) (sl':qo 900 l') (h:l.v≠l'.v):Sz 8000 (n4 l l'):=by
 rw [← x4 l l' h]
 have z1:Sz 900 (0:Rat):=⟨⟨by decide⟩,⟨by decide⟩⟩
 have s4:Sz 6001 (l'.at 0 - l.at 0):=(kL sl' z1).sub (kL sl z1)
 have bg:Bd 65 (l.v - l'.v):=sl.v.sub sl'.v
 exact Sz.div (s4.num.mono (by decide)) ((Bd.mul s4.den bg (k:=6100)).mono (by decide)) (Int.mul_ne_zero (eZ _) (by omega))
theorem bj.P0 {L:Ln} (h:bj L) {c:Cf} (hc:c∈L.cs):qo 900 c.cur:=(h.ck c hc _ (Cf.jM (h.ne c hc)).2).Oh
abbrev gw:Stmt:=(L2.inClass (top 44) 13)
abbrev iW:List Str:=["self","name","other"]
theorem mH:L2.aw ["self","name","other","met"] ["self","name","other"] (L2.aj gw):=ed
def sV (cN cL eC:Addr):cJ:=fun xs J Q E=>∃ p L n n',xs=[.ref p,.str n,.str n']∧bc cN cL J p L∧bj L∧(∀ c∈L.cs,∀ c'∈L.cs,c.n=n→c'.n=n'→c.g=none→c'.g=none→Q (gv (HK L.t c.cur c'.cur)) J)∧(n ∉ L.row∨n' ∉ L.row→E eC J)
theorem ua {cN cL eC f:Addr} {fd:FuncData} (F:cA K "meets" "Lane.meets" gw f fd) (Z:bW mg) (ax:eD K mg "Lane" cN) (az:aH K cN "now") (bM:cY P w K mg base cN 4 "leg_of" fc (oS cN cL eC)) (Cu:bt P w K mg base 5 "meeting" sF B6) (eu:bt P w K mg base 1 "less" gd d3):aL P w K mg base (dh P w) 6 f fd iW (d4 K (sV cN cL eC)):=by
 simp_arith [mH,(ai (aF (i:=3) mH.nd (aS Cu B hr (af (bL (pl:=_) bM B hr (rv 0) (af (rv 1) ah)) (af (bL (pl:=_) bM B hr (rv 0) (af (rv 2) ah)) ah))))
   (ak (aA (Pg (dC (eJ (aD so (rv 3) m7) (dB (bX (aS eu B hr (af (aZ ax.cl az (rv 0)) (af (rv 3) ah))))))) (rv 3) m7))))]
 ·obtain ⟨p,L,n,n',rfl,_⟩:=h;rfl
 obtain ⟨p,L,n,n',rfl,b,ok,q,qe⟩:=h
 have bo:=b.ob
 refine hX ?_
 simp_all! [bo]
 refine ⟨f_ _ _ _ _,p,L,n,rfl,b,ok,fun c hc e hg=>?_,fun z=>qe (.inl z)⟩
 simp_all! [bo]
 refine ⟨f_ _ _ _ _,p,L,n',rfl,b,ok,fun c' hc' e' hg'=>?_,fun z=>qe (.inr z)⟩
 have q:=q c hc c' hc' e e' hg hg'
 have sl:=ok.P0 hc
 have sl':=ok.P0 hc'
 unfold HK at q
 refine ⟨c.cur,c'.cur,rfl,sl,sl',fun hv=>?_,fun hv=>?_⟩
 ·rw [if_neg (fun z=>z.1 hv)] at q
  simp_all! []
  exact q
 ·simp_all! [rZ,bo,tV,d3]
  refine ⟨ok.KI.mono (by decide),(x5 sl sl' hv).mono (by decide),?_⟩
  split
  ·rename_i c1
   rw [if_pos ⟨hv,c1⟩] at q
   simp_all! []
   exact q
  ·rename_i c1
   rw [if_neg (fun z=>c1 z.2)] at q
   exact q
theorem S9 (A:Nat):Sc iw A 0:=⟨0,by rw [Rat.zero_mul];rfl,Nat.zero_le _⟩
theorem bc.LU {cN cL:Addr} {J:Hq} {p T:Addr} {L:Ln} (h:bc cN cL J p L) (hT:J T=Option.some .tab):¬ L.own p T:=by
 rintro (rfl | rfl | rfl | ⟨c,hc,rfl | rfl⟩)
 ·rw [h.ob] at hT;cases hT
 ·rw [h.dc] at hT;cases hT
 ·rw [h.rw] at hT;cases hT
 ·rw [(h.lg c hc).o] at hT;cases hT
 ·rw [(h.lg c hc).l] at hT;cases hT
theorem NP {L:Ln} {n:Str} {l:aY} (h:(n,l)∈L.fs):∃ c∈L.cs,c.n=n∧c.g=none∧c.cur=l:=by
 obtain ⟨c,hc,e⟩:=List.mem_map.mp h
 have:=Ln.eg.mp hc
 cases e
 exact ⟨c,this.1,rfl,this.2,rfl⟩
def pY:cJ:=fun xs J Q _=>∃ a b:Int,xs=[.int a,.int b]∧Q (.int (Int.gcd a b:Nat)) J
theorem xY (C:tD P w K mg base 1 "shared" jt sY):bt P w K mg base 1 "shared" jt pY:=C.lift fun xs J vs H Q2 E2 Q E rs r ⟨a,b,ex,q⟩ kn=>by
 subst ex
 obtain ⟨v,u,rfl,r1,r2⟩:=kg rs
 cases r1;cases r2
 exact ⟨a,b,rfl,kn (.int _) J _ H rfl r .refl q⟩
abbrev dD:Stmt:=(top 20)
abbrev gQ:List Str:=["pair"]
theorem m8:L2.aw ["pair"] ["pair"] (L2.aj dD):=ed
def yP:cJ:=fun xs J Q _=>∃ a b:Int,xs=[.tup [.int a,.int b]]∧Q (.bl (decide (1≤b∧Int.gcd a b=1))) J
theorem mf {f:Addr} {fd:FuncData} (F:cA K "in_lowest_terms" "in_lowest_terms" dD f fd) (Z:bW mg) (i8:bt P w K mg base 1 "shared" jt pY):aL P w K mg base (dh P w) 2 f fd gQ (d4 K yP):=by
 simp_arith [m8,(ak (aA (AI (ff Fu (aq ar (rv 0) ag) ag) (wB (ff (cn hr.aO) (aS i8 B hr (af (aq ar (rv 0) ag) (af (aq ar (rv 0) ag) ah))) ag)))))]
 ·obtain ⟨a,b,rfl,_⟩:=h;rfl
 obtain ⟨a,b,rfl,q⟩:=h
 refine hX ?_
 simp_all! []
 by_cases c:1≤b
 ·simp only [c,decide_true,true_and,if_true] at q ⊢
  simp_all! [pY]
  have:decide (((Int.gcd a b:Nat):Int)=1)=decide (Int.gcd a b=1):=decide_eq_decide.mpr (by omega)
  rw [this];exact q
 ·simp only [c,decide_false,false_and] at q ⊢
  rw [if_neg (fun z=>z)]
  exact q
abbrev fI:Stmt:=(top 42)
abbrev lj:List Str:=["moment"]
theorem gS:L2.aw ["moment","top","bottom"] ["moment"] (L2.aj fI):=ed
def dM (a b:Int):Bool:=decide (b≤60∧1≤b∧Int.gcd a b=1∧0≤a∧a≤1000000 * b)
def B2:cJ:=fun xs J Q _=>∃ a b:Int,xs=[.tup [.int a,.int b]]∧Q (.bl (dM a b)) J
theorem qv {f:Addr} {fd:FuncData} (F:cA K "good_moment" "good_moment" fI f fd) (Z:bW mg) {oU oV:Tok} (kQ:mg "FINEST"=some (.int 60 oU)) (kR:mg "LATEST"=some (.int 1000000 oV)) (nu:bt P w K mg base 2 "in_lowest_terms" gQ yP):aL P w K mg base (dh P w) 3 f fd lj (d4 K B2):=by
 simp_arith [gS,(ai (wD (rv 0) (sJ (n:=2) rfl (dn (bP (i:=1) gS.nd) (dn (bP (i:=2) gS.nd) oE))))
   (ai (aU (dC (ku (aD ji (rv 2) (gh (v:=.int 60) (.int 60) rfl kQ ⟨_,rfl⟩ (fun _ _=>rfl))) (i4 (dw (bX (aS nu B hr (af (rv 0) ah))))))) (ak (aA fQ)) aI)
   (ak (aA (F1 Kd Kd ag (rv 1) (aJ bO (gh (v:=.int 1000000) (.int 1000000) rfl kR ⟨_,rfl⟩ (fun _ _=>rfl)) (rv 2)))))))]
 ·obtain ⟨a,b,rfl,_⟩:=h;rfl
 obtain ⟨a,b,rfl,q⟩:=h
 refine hX ?_
 unfold dM at q
 simp_all! []
 simp_all! []
 by_cases c1:60 < b
 ·rw [if_pos c1]
  rw [decide_eq_false (fun z=>by omega)] at q
  exact q
 rw [if_neg c1]
 simp_all! []
 refine ⟨a,b,rfl,?_⟩
 by_cases c2:1≤b∧Int.gcd a b=1
 ·rw [decide_eq_true c2]
  simp_all! [wy]
  by_cases c3:0≤a
  ·simp only [c3,decide_true,if_true]
   refine ⟨.of (.small (x:=1000000) (by decide) (by decide)) (.small (x:=b) (by omega) (by omega)),?_⟩
   have:decide (a≤1000000 * b)=decide (b≤60∧1≤b∧Int.gcd a b=1∧0≤a∧a≤1000000 * b):=decide_eq_decide.mpr ⟨fun z=>⟨by omega,c2.1,c2.2,c3,z⟩,fun z=>z.2.2.2.2⟩
   rw [this];exact q
  ·rw [decide_eq_false (fun z=>c3 z.2.2.2.1)] at q
   simp only [c3,decide_false]
   rw [if_neg (fun z=>z)]
   exact q
 ·rw [decide_eq_false c2]
  rw [decide_eq_false (fun z=>c2 ⟨z.2.1,z.2.2.1⟩)] at q
  simp_all! []
  exact q
theorem bc.less {cN cL:Addr} {J J':Hq} {p:Addr} {L:Ln} (h:bc cN cL J p L) (l:o9 J J'):bc cN cL J' p L:=h.keep fun a o _ e=>by
 rcases l a with z | z
 ·rw [← z];exact e
 ·rw [z] at e;cases e
theorem pA {J J':Hq} {p r:Addr} {x y:HQ} (l:o9 J J') (hp:J p=none) (hr:J' r=none):o9 J (put (put J' r x) p y):=fun a=>by
 by_cases e:a=p
 ·exact .inr (by rw [e];exact hp)
 by_cases e2:a=r
 ·rcases l a with z | z
  ·right;rw [z,e2];exact hr
  ·exact .inr z
 ·rw [au e,au e2];exact l a
theorem uJ {J:Hq} {p r:Addr} {x y z:HQ} (hp:J p=none) (hr:put J p x r=none):o9 J (put (put (put J p x) r y) p z):=pA (kS hp) hp hr
theorem xK (xs:List PV) (k:Nat) (h:k≤xs.length):mU xs (some (k:Int)) none=xs.drop k:=by
 unfold mU HT.eK
 simp only [Int.toNat_natCast]
 rw [if_neg (by omega),Nat.min_eq_left h]
 rw [List.take_of_length_le (by rw [List.length_drop];exact Nat.le_refl _)]
theorem b_.keys {L:Ln} (ok:b_ L):L.row.map PV.str=(cF (L.fs.map (key L.t))).map fun k=>PV.str k.n:=by rw [ok.row];unfold cf;rw [List.map_map];rfl
theorem vM {L:Ln} (ok:bj L) {a:Ky} (ha:a∈cF (L.fs.map (key L.t))) {c:Cf} (hc:c∈L.cs) (hg:c.g=none) (e:c.n=a.n):a=key L.t (c.n,c.cur):=by
 obtain ⟨x,hx,rfl⟩:=List.mem_map.mp ((bz _ _).mp ha)
 obtain ⟨c0,hc0,h1,h2,h3⟩:=NP (n:=x.1) (l:=x.2) hx
 have:c0=c:=ok.uniq hc0 hc (h1.trans e.symm)
 subst this
 show key L.t (x.1,x.2)=_
 rw [← h3,← h1]
theorem l3 {L:Ln} (ok:b_ L) {a:Ky} (ha:a∈cF (L.fs.map (key L.t))):a.n∈L.row:=by
 rw [ok.row];unfold cf;exact List.mem_map.mpr ⟨a,ha,rfl⟩
theorem nZ {L:Ln} (ok:b_ L) {a b:Ky} (ha:a∈cF (L.fs.map (key L.t))) (hb:b∈cF (L.fs.map (key L.t))) (h:b.v < a.v):Sz 9000 (e9 L.t a b):=by
 obtain ⟨c,hc,hcn,hcg⟩:=ok.found (l3 ok ha)
 obtain ⟨c',hc',hcn',hcg'⟩:=ok.found (l3 ok hb)
 have ea:=vM ok.tobj ha hc hcg hcn
 have eb:=vM ok.tobj hb hc' hcg' hcn'
 have hv:c.cur.v≠c'.cur.v:=by rw [ea,eb] at h;exact fun z=>by have:c'.cur.v < c.cur.v:=h;omega
 rw [ea,eb,← qE hv]
 exact (x5 (ok.P0 hc) (ok.P0 hc') hv).mono (by decide)
theorem b_.knd {L:Ln} (ok:b_ L):((L.fs.map (key L.t)).map Ky.n).Nodup:=by rw [dq];exact ok.Li
theorem b_.N0 {L:Ln} (ok:b_ L):(cF (L.fs.map (key L.t))).length≤12:=by
 have h1:=ok.rl
 have h2:=congrArg List.length ok.keys
 rw [List.length_map,List.length_map] at h2
 omega
theorem x6 {L:Ln} (ok:b_ L) {i j:Nat} {a b:Ky} (ha:(cF (L.fs.map (key L.t)))[i]?=some a) (hb:(cF (L.fs.map (key L.t)))[j]?=some b) (hij:i < j) {c c':Cf} (hc:c∈L.cs) (hc':c'∈L.cs) (hg:c.g=none) (hg':c'.g=none) (e:c.n=a.n) (e':c'.n=b.n) :
  HK L.t c.cur c'.cur=if b.v < a.v∧a.p < b.p then some (e9 L.t a b) else none:=by
 have ea:=vM ok.tobj (List.mem_of_getElem? ha) hc hg e
 have eb:=vM ok.tobj (List.mem_of_getElem? hb) hc' hg' e'
 have hlt:a.lt b=true:=by
  obtain ⟨hil,ei⟩:=List.getElem?_eq_some_iff.mp ha
  obtain ⟨hjl,ej⟩:=List.getElem?_eq_some_iff.mp hb
  have:=List.pairwise_iff_getElem.mp (cT ok.knd) i j hil hjl hij
  rw [ei,ej] at this;exact this
 rw [ea,eb] at hlt ⊢
 have key:=HL hlt
 unfold HK
 by_cases z:c.cur.v≠c'.cur.v∧L.t < n4 c.cur c'.cur
 ·rw [if_pos z,if_pos (show (Ov.key L.t (c'.n,c'.cur)).v < (Ov.key L.t (c.n,c.cur)).v∧(Ov.key L.t (c.n,c.cur)).p < (Ov.key L.t (c'.n,c'.cur)).p from key.mp z),qE z.1]
 ·rw [if_neg z,if_neg (show ¬ ((Ov.key L.t (c'.n,c'.cur)).v < (Ov.key L.t (c.n,c.cur)).v∧(Ov.key L.t (c.n,c.cur)).p < (Ov.key L.t (c'.n,c'.cur)).p) from fun y=>z (key.mpr y))]
theorem IT {L:Ln} (ok:b_ L) {i j:Nat} {a b:Ky} (ha:(cF (L.fs.map (key L.t)))[i]?=some a) (hb:(cF (L.fs.map (key L.t)))[j]?=some b) (hij:i < j) (h:b.v < a.v):a.p < b.p:=by
 obtain ⟨hil,ei⟩:=List.getElem?_eq_some_iff.mp ha
 obtain ⟨hjl,ej⟩:=List.getElem?_eq_some_iff.mp hb
 have:=List.pairwise_iff_getElem.mp (cT ok.knd) i j hil hjl hij
 rw [ei,ej,Ky.lt_iff] at this
 rcases this with z | ⟨_,z | ⟨z,_⟩⟩
 ·exact z
 ·omega
 ·omega
abbrev er:Stmt:=(L2.inClass (top 44) 6)
abbrev fB:List Str:=["self","moment"]
theorem cq:L2.aw ["self","moment","passings","at","hind","fore","met"] ["self","moment"] (L2.aj er):=ed
theorem C5 {J J':Hq} {l:Addr} {o:HQ} (h:o9 J J'):o9 (put J l o) (put J' l o):=fun a=>by
 by_cases e:a=l
 ·subst e;rw [av,av];exact .inl rfl
 ·rw [au e,au e];exact h a
def xb (cN cL eM eP:Addr):cJ:=fun xs J Q E=>∃ p L a b,xs=[.ref p,.tup [.int a,.int b]]∧bc cN cL J p L∧b_ L∧(dM a b=false→E eM J)∧(∀ m:Rat,m.num=a→(m.den:Int)=b→dM a b=true→(m < L.t→E eP J)∧(L.t≤m→Q (.fl ((qg L.t (L.fs.map (key L.t)) m).map aG.v)) J∨∀ l,J l=none→Q (.ref l) (put J l (.lst ((qg L.t (L.fs.map (key L.t)) m).map aG.v)))))
theorem pF {cN cL cB eM eP eC f:Addr} {fd:FuncData} (F:cA K "foretold" "Lane.foretold" er f fd) (Z:bW mg) (ax:eD K mg "Lane" cN) (az:aH K cN "now") (aB:aH K cN "row") (kJ:Own K mg "BadMoment" eM) (zE:Own K mg "Past" eP) (tJ:bt P w K mg base 3 "good_moment" lj B2) (eu:bt P w K mg base 1 "less" gd d3) (lJ:zC P w K mg base cB 1 "Bells" fb (w9 cB)) (dU:cY P w K mg base cN 6 "meets" iW (sV cN cL eC)) (eQ:cY P w K mg base cB 3 "put" jZ (AO cB)) (dS:cY P w K mg base cB 1 "told" iS (w_ cB)):aL P w K mg base (dh P w) 7 f fd fB (d4 K (xb cN cL eM eP)):=by
 simp_arith [cq,(ai (aU (dw (bX (aS tJ B hr (af (rv 1) ah)))) (ak (fh kJ rfl c_ B.kn rfl (af bJ ah))) aI)
   (ai (aU (bX (aS eu B hr (af (rv 1) (af (aZ ax.cl az (rv 0)) ah)))) (ak (fh zE rfl c_ B.kn rfl (af bJ ah))) aI)
   (ai (aF (i:=2) cq.nd (sH lJ B hr))
   (ai (fE cx rfl (IS rfl Z.enumerate (af (aZ ax.cl aB (rv 0)) ah)) (sJ (n:=2) rfl (dn (bP (i:=3) cq.nd) (dn (bP (i:=4) cq.nd) oE))) (ak (fE cx rfl (fG (ju Gm (aZ ax.cl aB (rv 0)) (lZ (aJ cS (rv 3) ag)) lY)) (bP (i:=5) cq.nd) (ai (aF (i:=6) cq.nd (bL (pl:=_) dU B hr (rv 0) (af (rv 4) (af (rv 5) ah))))
   (ak (aU (dC (eJ (aD so (rv 6) m7) (dB (dw (bX (aS eu B hr (af (rv 1) (af (rv 6) ah)))))))) (ak (bh (bL (pl:=_) eQ B hr (rv 2) (af (rv 6) (af (rv 4) (af (rv 5) ah)))))) aI))))))
   (ak (aA (d8 (pl:=_) dS B hr (rv 2)))))))),F]
 ·obtain ⟨p,L,a,b,rfl,_⟩:=h;rfl
 obtain ⟨p,L,a,bb,rfl,b,ok,qe,q⟩:=h
 have bo:=b.ob
 refine hX ?_
 simp_all! []
 refine ⟨a,bb,rfl,?_⟩
 cases hg:dM a bb with
 | false =>
  simp_all! [gR]
  exact qe hg
 | true =>
  have hgm:=of_decide_eq_true hg
  obtain ⟨m,hm1,hm2⟩:∃ m:Rat,m.num=a∧(m.den:Int)=bb:=⟨⟨a,bb.toNat,by omega,by
   have:=hgm.2.2.1
   unfold Int.gcd at this
   show Nat.gcd a.natAbs bb.toNat=1
   rw [show bb.toNat=bb.natAbs by omega];exact this⟩,rfl,by show ((bb.toNat:Nat):Int)=bb;omega⟩
  obtain ⟨q1,q2⟩:=q m hm1 hm2 hg
  have ef:PV.tup [.int a,.int bb]=fr m:=by rw [← hm1,← hm2];rfl
  have sm:Sz 900 m:=⟨(Bd.small (x:=m.num) (by omega) (by omega)).mono (by decide),(Bd.small (x:=(m.den:Int)) (by omega) (by omega)).mono (by decide)⟩
  simp_all! [bo,tV,ef]
  refine ⟨_,_,rfl,sm.mono (by decide),ok.KI.mono (by decide),?_⟩
  by_cases c1:m < L.t
  ·rw [decide_eq_true c1]
   simp_all! [gR]
   exact q1 c1
  rw [decide_eq_false c1]
  have q:=q2 (by grind)
  simp_all! []
  intro pb hpb
  refine ⟨pb,rfl,av,fun r0 hr0=>⟨rfl,?_⟩⟩
  have l0:=uJ (y:=.lst []) (z:=.ins cB [("rows",.ref r0)]) hpb hr0
  have nr0:r0≠pb:=by intro e;subst e;rw [av] at hr0;cases hr0
  have b0:GR cB (put (put (put J pb (.ins cB [])) r0 (.lst [])) pb (.ins cB [("rows",.ref r0)])) pb r0 []:=⟨av,by rw [au nr0];exact av⟩
  generalize put (put (put J pb (.ins cB [])) r0 (.lst [])) pb (.ins cB [("rows",.ref r0)])=J0 at l0 b0 ⊢
  simp_all! [(b.less l0).ob,(b.less l0).rw,tW]
  obtain ⟨ks,hks⟩:∃ ks,cF (L.fs.map (key L.t))=ks:=⟨_,rfl⟩
  have hrow:L.row.map PV.str=ks.map fun k=>PV.str k.n:=by rw [← hks];exact ok.keys
  have hkl:ks.length≤12:=by rw [← hks];exact ok.N0
  have hup:∀ {ps:List (Ky × Ky)},(∀ p∈ps,p.1∈ks∧p.2∈ks)→∀ x∈bS L.t (gG L.t m) ps,Sz 9000 x.m:=fun hp x hx=>by
   obtain ⟨p,hp',hc,rfl⟩:=je _ hx
   have:=of_decide_eq_true hc
   exact nZ ok (by rw [hks];exact (hp p hp').1) (by rw [hks];exact (hp p hp').2) this.1
  rw [hrow]
  obtain ⟨Inv,hInv⟩:∃ Inv:Nat→Sr→Hq→Prop,∀ i τ J',Inv i τ J'↔∃ (r:Addr) (u3 u4 u5 u6:Option PV),τ=[some (.ref p),some (fr m),some (.ref pb),u3,u4,u5,u6]∧o9 J J'∧GR cB J' pb r (bS L.t (gG L.t m) (y_ ks i))∧(bS L.t (gG L.t m) (y_ ks i)).length≤12 * i:=⟨_,fun _ _ _=>Iff.rfl⟩
  refine jO Inv ((hInv _ _ _).mpr ⟨r0,_,_,_,_,rfl,l0,b0,Nat.le_refl _⟩) (fun i τ J' h=>?_) ?_ ?_
  ·obtain ⟨r,_,_,_,_,_,l',_⟩:=(hInv _ _ _).mp h
   rw [(b.less l').rw,hrow]
  ·intro i x τ J' hx hv
   obtain ⟨r,u3,u4,u5,u6,rfl,l',bb,hle⟩:=(hInv _ _ _).mp hv
   clear hv
   have hi:i < ks.length:=by have:=(List.getElem?_eq_some_iff.mp hx).1;rw [lO,List.length_map] at this;exact this
   have ha:ks[i]?=some ks[i]:=List.getElem?_eq_getElem hi
   rw [uC _ i (.str (ks[i]).n) (by rw [List.getElem?_map,ha];rfl)] at hx
   cases hx
   generalize ks[i]=a at ha ⊢
   simp_all! [(b.less l').ob,(b.less l').rw,tW]
   rw [hrow,show (i:Int) + 1=((i + 1:Nat):Int) by omega,xK _ _ (by rw [List.length_map];omega),← List.map_drop]
   have eup:y_ ks (i + 1)=y_ ks i ++ (ks.drop (i + 1)).map fun b=>(a,b):=by show y_ ks i ++ _=_;rw [ha]
   have mup:∀ j,∀ p∈y_ ks i ++ ((ks.drop (i + 1)).take j).map (fun b=>(a,b)),p.1∈ks∧p.2∈ks:=fun j p hp=>by
    rcases List.mem_append.mp hp with hp | hp
    ·obtain ⟨_,_,_,_,h3,h4⟩:=oY.mp hp
     exact ⟨List.mem_of_getElem? h3,List.mem_of_getElem? h4⟩
    ·obtain ⟨y,hy,rfl⟩:=List.mem_map.mp hp
     exact ⟨List.mem_of_getElem? ha,List.mem_of_mem_drop (List.mem_of_mem_take hy)⟩
   obtain ⟨In2,hIn2⟩:∃ In2:Nat→Sr→Hq→Prop,∀ j τ J',In2 j τ J'↔∃ (r:Addr) (u5 u6:Option PV),τ=[some (.ref p),some (fr m),some (.ref pb),some (.int (i:Int)),some (.str a.n),u5,u6]∧o9 J J'∧GR cB J' pb r (bS L.t (gG L.t m) (y_ ks i ++ ((ks.drop (i + 1)).take j).map fun b=>(a,b)))∧(bS L.t (gG L.t m) (y_ ks i ++ ((ks.drop (i + 1)).take j).map fun b=>(a,b))).length≤12 * i + j:=⟨_,fun _ _ _=>Iff.rfl⟩
   refine jO In2 ((hIn2 _ _ _).mpr ⟨r,_,_,rfl,l',by simpa using bb,by simpa using hle⟩) (fun _ _ _ _=>trivial) ?_ ?_
   ·intro j x τ J2 hx hv
    obtain ⟨r2,u5,u6,rfl,l2,bb2,hle2⟩:=(hIn2 _ _ _).mp hv
    clear hv
    have hj:j < (ks.drop (i + 1)).length:=by have:=(List.getElem?_eq_some_iff.mp hx).1;rw [List.length_map] at this;exact this
    have hb:(ks.drop (i + 1))[j]?=some (ks.drop (i + 1))[j]:=List.getElem?_eq_getElem hj
    rw [List.getElem?_map,hb] at hx
    cases hx
    generalize (ks.drop (i + 1))[j]=y at hb ⊢
    have hb':ks[i + 1 + j]?=some y:=by rw [List.getElem?_drop] at hb;exact hb
    have hjl:j < 12:=by rw [List.length_drop] at hj;omega
    have ej:(ks.drop (i + 1)).take (j + 1)=(ks.drop (i + 1)).take j ++ [y]:=by rw [List.take_add_one,hb];rfl
    have ef2:bS L.t (gG L.t m) (y_ ks i ++ ((ks.drop (i + 1)).take (j + 1)).map fun b=>(a,b))=iY L.t (gG L.t m) (bS L.t (gG L.t m) (y_ ks i ++ ((ks.drop (i + 1)).take j).map fun b=>(a,b))) (a,y):=by
     rw [ej,List.map_append,← List.append_assoc];exact eG _ _ _ _
    have srt:=jc L.t (gG L.t m) (y_ ks i ++ ((ks.drop (i + 1)).take j).map fun b=>(a,b))
    have szs:=hup (mup j)
    generalize bS L.t (gG L.t m) (y_ ks i ++ ((ks.drop (i + 1)).take j).map fun b=>(a,b))=rows at bb2 hle2 ef2 srt szs
    have pZ:gG L.t m (a,y)=false→∀ {v5 v6},In2 (j + 1) [some (.ref p),some (fr m),some (.ref pb),some (.int (i:Int)),some (.str a.n),v5,v6] J2:=fun hc v5 v6=>by
     have e:iY L.t (gG L.t m) rows (a,y)=rows:=by unfold iY;rw [if_neg (by rw [hc];decide)]
     exact (hIn2 _ _ _).mpr ⟨r2,_,_,rfl,l2,by rw [ef2,e];exact bb2,by rw [ef2,e];omega⟩
    have b2:=b.less l2
    simp_all! [b2.ob]
    refine ⟨f_ _ _ _ _,p,L,a.n,y.n,rfl,b2,ok.tobj,fun c hc c' hc' e e' hg hg'=>?_,fun z=>?_⟩
    ·have hmet:=x6 ok (by rw [hks];exact ha) (by rw [hks];exact hb') (by omega) hc hc' hg hg' e e'
     rw [hmet]
     by_cases c2:y.v < a.v∧a.p < y.p
     ·rw [if_pos c2]
      have smk:=nZ ok (by rw [hks];exact List.mem_of_getElem? ha) (by rw [hks];exact List.mem_of_getElem? hb') c2.1
      simp_all! [gv,rZ,d3]
      refine ⟨sm.mono (by decide),smk,?_⟩
      by_cases c3:m < e9 L.t a y
      ·rw [if_pos c3]
       exact pZ (decide_eq_false (fun z=>by have:=z.2.2;grind))
      ·rw [if_neg c3]
       have hcp:gG L.t m (a,y)=true:=decide_eq_true ⟨c2.1,c2.2,by grind⟩
       have e:iY L.t (gG L.t m) rows (a,y)=kC ⟨e9 L.t a y,a.n,y.n⟩ (dk a.n y.n rows):=by unfold iY;rw [if_pos hcp];rfl
       simp_all! [bb2.o]
       refine ⟨Od _,pb,r2,rows,e9 L.t a y,a.n,y.n,rfl,bb2,srt,by omega,smk,szs,fun r' hr'=>?_⟩
       have nr:r'≠pb:=by intro z;subst z;rw [bb2.o] at hr';cases hr'
       refine (hIn2 _ _ _).mpr ⟨r',_,_,rfl,pA l2 hpb hr',⟨av,by rw [au nr,av,ef2,e]⟩,?_⟩
       rw [ef2,e,xQ]
       have:=ph a.n y.n rows
       omega
     ·rw [if_neg c2]
      simp_all! [gv]
      exact pZ (decide_eq_false (fun z=>c2 ⟨z.1,z.2.1⟩))
    ·rcases z with z | z
     ·exact absurd (l3 ok (by rw [hks];exact List.mem_of_getElem? ha)) z
     ·exact absurd (l3 ok (by rw [hks];exact List.mem_of_getElem? hb')) z
   ·intro τ J2 hv
    obtain ⟨r2,u5,u6,rfl,l2,bb2,hle2⟩:=(hIn2 _ _ _).mp hv
    rw [List.length_map,List.take_length,← eup] at bb2 hle2
    rw [List.length_drop] at hle2
    exact (hInv _ _ _).mpr ⟨r2,_,_,_,_,rfl,l2,bb2,by omega⟩
  ·intro τ J' hv
   obtain ⟨r,u3,u4,u5,u6,rfl,l',bb,hle⟩:=(hInv _ _ _).mp hv
   rw [lO,List.length_map,← hks,Jx ok.knd] at bb
   simp_all! [bb.o]
   exact ⟨Oe _,pb,r,_,rfl,bb,q.imp (fun q=>Fg.less l' q) fun q l hl=>Fg.less (C5 l') (q l ((l' l).elim (fun e=>e.trans hl) id))⟩
theorem xP {m:Rat} (h:dM m.num m.den=true):Sc iw MM m∧0≤m:=by
 have h:=of_decide_eq_true h
 have hd:m.den≤60:=by omega
 constructor
 ·have h1:Sc m.den m.num.natAbs m:=⟨m.num,by have:=cast_eq m;rw [this];rfl,Nat.le_refl _⟩
  obtain ⟨k,hk⟩:=Su m.den m.den_pos hd
  have h2:=h1.scale (E:=k)
  rw [show k * m.den=iw by rw [hk,Nat.mul_comm]] at h2
  refine h2.mono ?_
  have h3:m.num.natAbs≤1000000 * m.den:=by omega
  have h4:k * m.num.natAbs≤k * (1000000 * m.den):=Nat.mul_le_mul_left _ h3
  have h5:k * (1000000 * m.den)=1000000 * iw:=by rw [hk];rw [Nat.mul_left_comm,Nat.mul_comm k]
  unfold MM
  omega
 ·exact Rat.num_nonneg.mp h.2.2.2.1
theorem bj.NQ {L:Ln} (h:bj L) {m:Rat} (hm:L.t≤m) (hg:dM m.num m.den=true):bj { L with t:=m } :=
 ⟨h.nd,h.ne,fun c hc l hl=>Rat.le_trans (h.le c hc l hl) hm,h.ck,h.len,fun c hc q e=>⟨(h.gz c hc q e).1,Rat.le_trans (h.gz c hc q e).2 hm⟩,(xP hg).2,(xP hg).1,h.many,h.rm,h.rn,h.rl⟩
abbrev gr:Stmt:=(L2.inClass (top 44) 5)
abbrev iT:List Str:=["self","moment"]
theorem mG:L2.aw ["self","moment","passings"] ["self","moment"] (L2.aj gr):=ed
def Gi (cN cL eM eP:Addr):cJ:=fun xs J Q E=>∃ p L a b,xs=[.ref p,.tup [.int a,.int b]]∧bc cN cL J p L∧b_ L∧(dM a b=false→E eM J)∧(∀ m:Rat,m.num=a→(m.den:Int)=b→dM a b=true→(m < L.t→E eP J)∧(L.t≤m→∀ J' o',bc cN cL J' p { L with t:=m,o:=o',row:=cf m L.fs }→b_ { L with t:=m,o:=o',row:=cf m L.fs }→Mv J J' (L.own p) (Ln.own { L with t:=m,o:=o',row:=cf m L.fs } p)→Q (.fl ((qg L.t (L.fs.map (key L.t)) m).map aG.v)) J'))
theorem t9 {cN cL eM eP f:Addr} {fd:FuncData} (F:cA K "go_to" "Lane.go_to" gr f fd) (Z:bW mg) (ax:eD K mg "Lane" cN) (az:aH K cN "now") (cG:cY P w K mg base cN 7 "foretold" fB (xb cN cL eM eP)) (bA:cY P w K mg base cN 7 "settle" dN (jx cN cL)):aL P w K mg base (dh P w) 8 f fd iT (d4 K (Gi cN cL eM eP)):=by
 simp_arith [mG,(ai (aF (i:=2) mG.nd (bL (pl:=_) cG B hr (rv 0) (af (rv 1) ah)))
   (ai (iZ ax.cl az (rv 0) (rv 1))
   (ai (bh (d8 (pl:=_) bA B hr (rv 0)))
   (ak (aA (rv 2))))))]
 ·obtain ⟨p,L,a,b,rfl,_⟩:=h;rfl
 obtain ⟨p,L,a,bb,rfl,b,ok,qe,q⟩:=h
 have bo:=b.ob
 refine hX ?_
 simp_all! [bo]
 refine ⟨f_ _ _ _ _,p,L,a,bb,rfl,b,ok,qe,fun m h1 h2 hg=>⟨(q m h1 h2 hg).1,fun hm=>.inl ?_⟩⟩
 have q:=(q m h1 h2 hg).2 hm
 have ef:PV.tup [.int a,.int bb]=fr m:=by rw [← h1,← h2];rfl
 have hgm:dM m.num m.den=true:=by rw [h1,h2];exact hg
 have ok1:=ok.tobj.NQ hm hgm
 simp_all! [bo,ef]
 refine ⟨by show (3:Nat) < 1000;decide,?_⟩
 have b1:bc cN cL (put J p (.ins cN [("now",fr m),("logs",.ref L.d),("row",.ref L.o)])) p { L with t:=m } :=
  ⟨av,by show put J p _ L.d=_;rw [au b.HS];exact b.dc,by show put J p _ L.o=_;rw [au b.HV];exact b.rw,fun c hc=>⟨by rw [au (b.P2 hc)];exact (b.lg c hc).o,by rw [au (b.Nc hc)];exact (b.lg c hc).l⟩,b.ap,b.ao⟩
 have mv1:Mv J (put J p (.ins cN [("now",fr m),("logs",.ref L.d),("row",.ref L.o)])) (L.own p) (L.own p):=gK (.inl rfl) fun a h=>.inl h
 generalize put J p (.ins cN [("now",fr m),("logs",.ref L.d),("row",.ref L.o)])=J1 at b1 mv1 ⊢
 simp_all! [b1.ob]
 refine ⟨f_ _ _ _ _,p,{ L with t:=m },rfl,b1,ok1,fun J2 o' b2 mv2=>?_⟩
 simp_all! []
 exact q J2 o' b2 (b_.settled ok1 o') (mv1.trans mv2)
abbrev gm:Stmt:=(L2.inClass (top 44) 9)
abbrev mq:List Str:=["self"]
theorem d_:L2.aw ["self","ringing","hind","fore","met"] ["self"] (L2.aj gm):=ed
def yR (cN cL:Addr):cJ:=fun xs J Q E=>∃ p L,xs=[.ref p]∧bc cN cL J p L∧b_ L∧Q (.fl ((fV L.t (L.fs.map (key L.t))).map aG.v)) J
theorem t6 {cN cL cB eC f:Addr} {fd:FuncData} (F:cA K "bells" "Lane.bells" gm f fd) (Z:bW mg) (ax:eD K mg "Lane" cN) (aB:aH K cN "row") (lJ:zC P w K mg base cB 1 "Bells" fb (w9 cB)) (dU:cY P w K mg base cN 6 "meets" iW (sV cN cL eC)) (eQ:cY P w K mg base cB 3 "put" jZ (AO cB)) (dS:cY P w K mg base cB 1 "told" iS (w_ cB)):aL P w K mg base (dh P w) 7 f fd mq (d4 K (yR cN cL)):=by
 simp_arith [d_,(ai (aF (i:=1) d_.nd (sH lJ B hr))
   (ai (fE cx rfl (MA rfl Z.zip (af (aZ ax.cl aB (rv 0)) (af (ju Gm (aZ ax.cl aB (rv 0)) (lZ ag) lY) ah))) (sJ (n:=2) rfl (dn (bP (i:=2) d_.nd) (dn (bP (i:=3) d_.nd) oE))) (ai (aF (i:=4) d_.nd (bL (pl:=_) dU B hr (rv 0) (af (rv 2) (af (rv 3) ah))))
   (ak (aU (aD so (rv 4) m7) (ak (bh (bL (pl:=_) eQ B hr (rv 1) (af (rv 4) (af (rv 2) (af (rv 3) ah)))))) aI))))
   (ak (aA (d8 (pl:=_) dS B hr (rv 1)))))),F]
 ·obtain ⟨p,L,rfl,_⟩:=h;rfl
 obtain ⟨p,L,rfl,b,ok,q⟩:=h
 refine hX ?_
 simp_all! []
 intro pb hpb
 refine ⟨pb,rfl,av,fun r0 hr0=>⟨rfl,?_⟩⟩
 have l0:=uJ (y:=.lst []) (z:=.ins cB [("rows",.ref r0)]) hpb hr0
 have nr0:r0≠pb:=by intro e;subst e;rw [av] at hr0;cases hr0
 have b0:GR cB (put (put (put J pb (.ins cB [])) r0 (.lst [])) pb (.ins cB [("rows",.ref r0)])) pb r0 []:=⟨av,by rw [au nr0];exact av⟩
 generalize put (put (put J pb (.ins cB [])) r0 (.lst [])) pb (.ins cB [("rows",.ref r0)])=J0 at l0 b0 ⊢
 obtain ⟨ks,hks⟩:∃ ks,cF (L.fs.map (key L.t))=ks:=⟨_,rfl⟩
 have hrow:L.row.map PV.str=ks.map fun k=>PV.str k.n:=by rw [← hks];exact ok.keys
 have hkl:ks.length≤12:=by rw [← hks];exact ok.N0
 have hct:mU (ks.map fun k=>PV.str k.n) (some 1) none=ks.tail.map fun k=>PV.str k.n:=by
  cases ks with
  | nil=>rfl
  | cons x ks=>exact xK (((x :: ks).map fun k=>PV.str k.n)) 1 (by simp)
 have hup:∀ {ps:List (Ky × Ky)},(∀ p∈ps,p.1∈ks∧p.2∈ks)→∀ x∈bS L.t cM ps,Sz 9000 x.m:=fun hp x hx=>by
  obtain ⟨p,hp',hc,rfl⟩:=je _ hx
  exact nZ ok (by rw [hks];exact (hp p hp').1) (by rw [hks];exact (hp p hp').2) (of_decide_eq_true hc)
 simp_all! [Ss,(b.less l0).ob,(b.less l0).rw,tW,hrow,hct]
 have ez:((ks.map fun k=>PV.str k.n).zip (ks.tail.map fun k=>PV.str k.n)).map (fun p=>PV.tup [p.1,p.2])=(ks.zip ks.tail).map fun p=>PV.tup [.str p.1.n,.str p.2.n]:=by rw [List.zip_map,List.map_map];rfl
 rw [ez]
 generalize hps:ks.zip ks.tail=ps
 have hpl:ps.length≤12:=by rw [← hps,List.length_zip];omega
 have hpm:∀ x∈ps,x.1∈ks∧x.2∈ks:=fun x hx=>by
  rw [← hps] at hx
  obtain ⟨i,h3,h4⟩:=dg.mp (show (x.1,x.2)∈_ from hx)
  exact ⟨List.mem_of_getElem? h3,List.mem_of_getElem? h4⟩
 obtain ⟨Inv,hInv⟩:∃ Inv:Nat→Sr→Hq→Prop,∀ i τ J',Inv i τ J'↔∃ (r:Addr) (u2 u3 u4:Option PV),τ=[some (.ref p),some (.ref pb),u2,u3,u4]∧o9 J J'∧GR cB J' pb r (bS L.t cM (ps.take i)):=⟨_,fun _ _ _=>Iff.rfl⟩
 refine jO Inv ((hInv _ _ _).mpr ⟨r0,_,_,_,rfl,l0,b0⟩) (fun i τ J' h=>?_) ?_ ?_
 ·obtain ⟨r,_,_,_,_,l',_⟩:=(hInv _ _ _).mp h
  rw [(b.less l').rw,hrow]
 ·intro i x τ J' hx hv
  obtain ⟨r,u2,u3,u4,rfl,l',bb⟩:=(hInv _ _ _).mp hv
  clear hv
  have hi:i < ps.length:=by have:=(List.getElem?_eq_some_iff.mp hx).1;rw [List.length_map] at this;exact this
  have hpi:ps[i]?=some ps[i]:=List.getElem?_eq_getElem hi
  rw [List.getElem?_map,hpi] at hx
  cases hx
  have et:ps.take (i + 1)=ps.take i ++ [ps[i]]:=by rw [List.take_add_one,hpi];rfl
  have szs:=hup (ps:=ps.take i) (fun p hp=>hpm p (List.mem_of_mem_take hp))
  have srt:=jc L.t cM (ps.take i)
  have hle:=pq L.t cM (ps.take i)
  rw [List.length_take] at hle
  rcases hab:ps[i] with ⟨a,y⟩
  rw [hab] at hpi et
  have ef2:bS L.t cM (ps.take (i + 1))=iY L.t cM (bS L.t cM (ps.take i)) (a,y):=by rw [et];exact eG _ _ _ _
  generalize bS L.t cM (ps.take i)=rows at bb szs srt hle ef2
  rw [← hps] at hpi
  obtain ⟨ha,hb⟩:=List.getElem?_zip_eq_some.mp hpi
  rw [List.getElem?_tail] at hb
  simp only at ha hb
  have b2:=b.less l'
  simp_all! [b2.ob]
  refine ⟨f_ _ _ _ _,p,L,a.n,y.n,rfl,b2,ok.tobj,fun c hc c' hc' e e' hg hg'=>?_,fun z=>?_⟩
  ·have hmet:=x6 ok (by rw [hks];exact ha) (by rw [hks];exact hb) (by omega) hc hc' hg hg' e e'
   rw [hmet]
   by_cases c2:y.v < a.v
   ·have c3:=IT ok (by rw [hks];exact ha) (by rw [hks];exact hb) (by omega) c2
    rw [if_pos ⟨c2,c3⟩]
    have smk:=nZ ok (by rw [hks];exact List.mem_of_getElem? ha) (by rw [hks];exact List.mem_of_getElem? hb) c2
    have hcp:cM (a,y)=true:=decide_eq_true c2
    have e:iY L.t cM rows (a,y)=kC ⟨e9 L.t a y,a.n,y.n⟩ (dk a.n y.n rows):=by unfold iY;rw [if_pos hcp];rfl
    simp_all! [gv,rZ,bb.o]
    refine ⟨Od _,pb,r,rows,e9 L.t a y,a.n,y.n,rfl,bb,srt,by omega,smk,szs,fun r' hr'=>?_⟩
    have nr:r'≠pb:=by intro z;subst z;rw [bb.o] at hr';cases hr'
    exact (hInv _ _ _).mpr ⟨r',_,_,_,rfl,pA l' hpb hr',⟨av,by rw [au nr,av,ef2,e]⟩⟩
   ·rw [if_neg (fun z=>c2 z.1)]
    have e:iY L.t cM rows (a,y)=rows:=by
     have hcf:cM (a,y)=false:=decide_eq_false c2
     unfold iY;rw [if_neg (by rw [hcf];decide)]
    simp_all! [gv]
    exact (hInv _ _ _).mpr ⟨r,_,_,_,rfl,l',by rw [ef2,e];exact bb⟩
  ·rcases z with z | z
   ·exact absurd (l3 ok (by rw [hks];exact List.mem_of_getElem? ha)) z
   ·exact absurd (l3 ok (by rw [hks];exact List.mem_of_getElem? hb)) z
 ·intro τ J' hv
  obtain ⟨r,u2,u3,u4,rfl,l',bb⟩:=(hInv _ _ _).mp hv
  rw [List.length_map,List.take_length,← hps,← hks,tw ok.knd] at bb
  simp_all! [bb.o]
  exact ⟨Oe _,pb,r,_,rfl,bb,.inl (Fg.less l' q)⟩
def Cf.turn (c:Cf) (t:Rat) (v:Int):Cf:={ c with w:=turned c.w t v }
def dF (n:Str) (t:Rat) (v:Int) (c:Cf):Cf:=if c.n=n then c.turn t v else c
theorem oW (n:Str) (t:Rat) (v:Int) (c:Cf):(dF n t v c).n=c.n∧(dF n t v c).a=c.a∧(dF n t v c).r=c.r∧(dF n t v c).g=c.g:=by unfold dF;split <;> exact ⟨rfl,rfl,rfl,rfl⟩
theorem e8 {α β:Type} {f:α→β} {g:α→α} (h:∀ x,f (g x)=f x) (l:List α):(l.map g).map f=l.map f:=by rw [List.map_map];exact List.map_congr_left fun x _=>h x
theorem bj.map {L:Ln} (h:bj L) {f:Cf→Cf} (hn:∀ c,(f c).n=c.n∧(f c).a=c.a∧(f c).r=c.r∧(f c).g=c.g) (hw:∀ c∈L.cs,(f c).w≠[]∧(∀ l∈(f c).w,l.m≤L.t∧tG l)∧(f c).w.length≤200):bj { L with cs:=L.cs.map f }:=by
 have mem:∀ c∈L.cs.map f,∃ c0∈L.cs,f c0=c:=fun c hc=>by obtain ⟨c0,h0,e⟩:=List.mem_map.mp hc;exact ⟨c0,h0,e⟩
 have hfs:(Ln.fs { L with cs:=L.cs.map f }).map (·.1)=L.fs.map (·.1):=by
  rw [fL,fL]
  unfold Ln.DX
  show ((L.cs.map f).filter _).map Cf.n=_
  rw [List.filter_map,List.map_map]
  have e1:(fun c:Cf=>c.g.isNone) ∘ f=fun c=>c.g.isNone:=by funext c;show (f c).g.isNone=_;rw [(hn c).2.2.2]
  rw [e1]
  exact List.map_congr_left fun c _=>(hn c).1
 refine ⟨?_,?_,?_,?_,?_,?_,h.t0,h.ts,by show (L.cs.map f).length≤100;rw [List.length_map];exact h.many,fun n=>by rw [hfs];exact h.rm n,h.rn,h.rl⟩
 ·show ((L.cs.map f).map Cf.n).Nodup
  rw [e8 (fun c=>(hn c).1)];exact h.nd
 ·intro c hc;obtain ⟨c0,h0,rfl⟩:=mem c hc;exact (hw c0 h0).1
 ·intro c hc l hl;obtain ⟨c0,h0,rfl⟩:=mem c hc;exact ((hw c0 h0).2.1 l hl).1
 ·intro c hc l hl;obtain ⟨c0,h0,rfl⟩:=mem c hc;exact ((hw c0 h0).2.1 l hl).2
 ·intro c hc;obtain ⟨c0,h0,rfl⟩:=mem c hc;exact (hw c0 h0).2.2
 ·intro c hc q e;obtain ⟨c0,h0,rfl⟩:=mem c hc;exact h.gz c0 h0 q (by rw [← (hn c0).2.2.2];exact e)
theorem bj.JK {L:Ln} (h:bj L) {c:Cf} (hc:c∈L.cs):c.w≠[]∧(∀ l∈c.w,l.m≤L.t∧tG l)∧c.w.length≤200:=⟨h.ne c hc,fun l hl=>⟨h.le c hc l hl,h.ck c hc l hl⟩,h.len c hc⟩
theorem bj.KL {L:Ln} (h:bj L) {c:Cf} (hc:c∈L.cs) (hl:c.w.length < 200) {v:Int} (hv:v.natAbs≤1000):(c.turn L.t v).w≠[]∧(∀ l∈(c.turn L.t v).w,l.m≤L.t∧tG l)∧(c.turn L.t v).w.length≤200:=by
 refine ⟨uX (h.ne c hc),fun l hl'=>?_,?_⟩
 ·rcases AZ hl' with k | ⟨l0,k,rfl⟩
  ·exact ⟨h.le c hc l k,h.ck c hc l k⟩
  ·exact ⟨Rat.le_refl,(h.ck c hc l0 k).at (h.le c hc l0 k) h.ts hv⟩
 ·have:=nj c.w L.t v
  show (turned c.w L.t v).length≤200
  omega
theorem bc.turn {cN cL:Addr} {J:Hq} {p:Addr} {L:Ln} (h:bc cN cL J p L) (ok:bj L) {c:Cf} (hc:c∈L.cs) {t:Rat} {v:Int}:bc cN cL (put J c.r (.lst ((turned c.w t v).map aY.V))) p { L with cs:=L.cs.map (dF c.n t v) }:=by
 have hcs:=oW c.n t v
 refine ⟨by rw [au (Ne.symm (h.Nc hc))];exact h.ob,?_,?_,fun x hx=>?_,?_,fun x hx=>?_⟩
 ·show put J c.r _ L.d=_
  rw [au (Ne.symm (h.Sx hc)),h.dc]
  show _=Option.some (HQ.dct ((L.cs.map (dF c.n t v)).map fun c=>(c.n,PV.ref c.a)) L.e)
  rw [e8 (f:=fun c:Cf=>(c.n,PV.ref c.a)) (fun x=>by rw [(hcs x).1,(hcs x).2.1])]
 ·show put J c.r _ L.o=_
  rw [au (Ne.symm (h.ao c hc))];exact h.rw
 ·obtain ⟨x0,h0,rfl⟩:=List.mem_map.mp hx
  have hl:=h.lg x0 h0
  refine ⟨?_,?_⟩
  ·rw [(hcs x0).2.1,(hcs x0).2.2.1,(hcs x0).2.2.2,au (h.S3 h0 hc)];exact hl.o
  ·rw [(hcs x0).2.2.1]
   by_cases e:x0.n=c.n
   ·have:x0=c:=ok.uniq h0 hc e
    subst this
    rw [av]
    unfold dF;rw [if_pos rfl];rfl
   ·have hr:x0.r≠c.r:=fun z=>e (by
     obtain ⟨i,hi,rfl⟩:=List.getElem_of_mem h0
     obtain ⟨j,hj,rfl⟩:=List.getElem_of_mem hc
     have:=(List.getElem_inj (xs:=L.cs.map Cf.r) (i:=i) (j:=j) (h₀:=by simpa using hi) (h₁:=by simpa using hj) h.ap).mp (by rw [List.getElem_map,List.getElem_map];exact z)
     subst this;rfl)
    rw [au hr]
    unfold dF;rw [if_neg e];exact hl.l
 ·show ((L.cs.map (dF c.n t v)).map Cf.r).Nodup
  rw [e8 (fun x=>(hcs x).2.2.1)];exact h.ap
 ·obtain ⟨x0,h0,rfl⟩:=List.mem_map.mp hx
  rw [(hcs x0).2.2.1];exact h.ao x0 h0
theorem wb {L:Ln} {p:Addr} {f:Cf→Cf} (hn:∀ c,(f c).n=c.n∧(f c).a=c.a∧(f c).r=c.r∧(f c).g=c.g) (a:Addr):Ln.own { L with cs:=L.cs.map f } p a↔L.own p a:=by
 unfold Ln.own
 constructor
 ·rintro (h | h | h | ⟨c,hc,h⟩)
  ·exact .inl h
  ·exact .inr (.inl h)
  ·exact .inr (.inr (.inl h))
  ·obtain ⟨c0,h0,rfl⟩:=List.mem_map.mp hc
   rw [(hn c0).2.1,(hn c0).2.2.1] at h
   exact .inr (.inr (.inr ⟨c0,h0,h⟩))
 ·rintro (h | h | h | ⟨c,hc,h⟩)
  ·exact .inl h
  ·exact .inr (.inl h)
  ·exact .inr (.inr (.inl h))
  ·exact .inr (.inr (.inr ⟨f c,List.mem_map.mpr ⟨c,hc,rfl⟩,by rw [(hn c).2.1,(hn c).2.2.1];exact h⟩))
abbrev ia:Stmt:=(L2.inClass (top 44) 3)
abbrev oa:List Str:=["self","name","pace"]
theorem wQ:L2.aw ["self","name","pace"] ["self","name","pace"] (L2.aj ia):=ed
def B9 (cN cL eC eF:Addr):cJ:=fun xs J Q E=>∃ p L n v,xs=[.ref p,.str n,.int v]∧bc cN cL J p L∧b_ L∧(∀ c∈L.cs,c.w.length < 200)∧(n ∉ L.row→E eC J)∧(n∈L.row→¬ v.natAbs≤1000→E eF J)∧(n∈L.row→v.natAbs≤1000→∀ J' L',bc cN cL J' p L'→b_ L'→L'.cs=L.cs.map (dF n L.t v)→L'.t=L.t→Mv J J' (L.own p) (L'.own p)→Q .non J')
theorem vW {cN cL eC eF f:Addr} {fd:FuncData} (F:cA K "turn" "Lane.turn" ia f fd) (Z:bW mg) (ax:eD K mg "Lane" cN) (aQ:aH K cN "logs") (az:aH K cN "now") {gC:Tok} (eO:mg "FASTEST"=some (.int 1000 gC)) (i9:Own K mg "TooFar" eF) (aX:cY P w K mg base cN 1 "must_be_there" cy (qW cN cL eC)) (fw:cY P w K mg base cL 5 "turn" k9 (xa cL)) (bA:cY P w K mg base cN 7 "settle" dN (jx cN cL)):aL P w K mg base (dh P w) 8 f fd oa (d4 K (B9 cN cL eC eF)):=by
 simp_arith [wQ,(ai (bh (bL (pl:=_) aX B hr (rv 0) (af (rv 1) ah)))
   (ai (aU (aD ji (aM zN rfl Z.abs boot_abs (af (rv 2) ah)) (gh (v:=.int 1000) (.int 1000) rfl eO ⟨_,rfl⟩ (fun _ _=>rfl))) (ak (fh i9 rfl c_ B.kn rfl (af bJ ah))) aI)
   (ai (bh (bL (pl:=_) fw B hr (aq eI (aZ ax.cl aQ (rv 0)) (rv 1)) (af (aZ ax.cl az (rv 0)) (af (rv 2) ah))))
   (ak (bh (d8 (pl:=_) bA B hr (rv 0)))))))]
 ·obtain ⟨p,L,n,v,rfl,_⟩:=h;rfl
 obtain ⟨p,L,n,v,rfl,b,ok,hlen,qc,qf,q⟩:=h
 have bo:=b.ob
 have bd:=b.dc
 refine hX ?_
 simp_all! [bo]
 refine ⟨f_ _ _ _ _,p,L,n,rfl,b,fun hn=>?_,qc⟩
 simp_all! []
 have habs:(1000 < if v < 0 then -v else v)↔¬ v.natAbs≤1000:=by split <;> omega
 by_cases hv:v.natAbs≤1000
 ·rw [if_neg (fun z=>habs.mp z hv)]
  obtain ⟨c,hc,rfl,hg⟩:=ok.found hn
  have lo:=(b.lg c hc).o
  have ok1:bj { L with cs:=L.cs.map (dF c.n L.t v) }:=ok.tobj.map (oW c.n L.t v) fun x hx=>by
   unfold dF
   split
   ·exact ok.tobj.KL hx (hlen x hx) hv
   ·exact ok.tobj.JK hx
  have b1:=b.turn ok.tobj hc (t:=L.t) (v:=v)
  have mv1:Mv J (put J c.r (.lst ((turned c.w L.t v).map aY.V))) (L.own p) (Ln.own { L with cs:=L.cs.map (dF c.n L.t v) } p):=gK (.inr (.inr (.inr ⟨c,hc,.inr rfl⟩))) fun a h=>.inl ((wb (oW c.n L.t v) a).mp h)
  simp_all! [bo,tV,C8,bd,ok.va hc,lo]
  refine ⟨Of _ _,c.a,c.r,c.w,c.g,L.t,v,rfl,b.lg c hc,ok.ne c hc,Nat.le_trans (ok.len c hc) (by decide),ok.KI,fun l hl=>(ok.ck c hc l hl).Oh,?_⟩
  generalize put J c.r (.lst ((turned c.w L.t v).map aY.V))=J1 at b1 mv1 ⊢
  simp_all! [b1.ob]
  refine ⟨f_ _ _ _ _,p,_,rfl,b1,ok1,fun J2 o' b2 mv2=>?_⟩
  exact q hn hv J2 _ b2 (b_.settled ok1 o') rfl rfl (mv1.trans mv2)
 ·rw [if_pos (habs.mpr hv)]
  simp_all! [gR]
  exact qf hn hv
def eE (t:Rat) (c:Cf):Cf:=if c.g.isNone=true then c.turn t (-c.cur.v) else c
def cj (t:Rat) (row:List Str) (c:Cf):Cf:=if c.n∈row then c.turn t (-c.cur.v) else c
theorem nE (t:Rat) (row:List Str) (c:Cf):(cj t row c).n=c.n∧(cj t row c).a=c.a∧(cj t row c).r=c.r∧(cj t row c).g=c.g:=by unfold cj;split <;> exact ⟨rfl,rfl,rfl,rfl⟩
theorem lK {L:Ln} (ok:bj L):L.cs.map (cj L.t L.row)=L.cs.map (eE L.t):=by
 refine List.map_congr_left fun c hc=>?_
 have h:c.n∈L.row↔c.g.isNone=true:=by
  rw [ok.rm,fL,List.mem_map]
  constructor
  ·rintro ⟨c',hc',e⟩
   have h':=Ln.eg.mp hc'
   rw [ok.uniq h'.1 hc e] at h'
   rw [h'.2];rfl
  ·intro e
   exact ⟨c,Ln.eg.mpr ⟨hc,by cases hg:c.g with | none=>rfl | some q=>rw [hg] at e;cases e⟩,rfl⟩
 unfold cj eE
 by_cases e:c.n∈L.row
 ·rw [if_pos e,if_pos (h.mp e)]
 ·rw [if_neg e,if_neg (fun z=>e (h.mpr z))]
theorem bj.cj {L:Ln} (ok:bj L) (hlen:∀ c∈L.cs,c.w.length < 200) (row:List Str):bj { L with cs:=L.cs.map (cj L.t row) }:=ok.map (nE L.t row) fun x hx=>by
 unfold Ov.cj
 split
 ·exact ok.KL hx (hlen x hx) (by have:=(ok.ck x hx _ (Cf.jM (ok.ne x hx)).2).v;omega)
 ·exact ok.JK hx
abbrev gj:Stmt:=(L2.inClass (top 44) 4)
abbrev mn:List Str:=["self"]
theorem i6:L2.aw ["self","name","pace"] ["self"] (L2.aj gj):=ed
def yQ (cN cL:Addr):cJ:=fun xs J Q E=>∃ p L,xs=[.ref p]∧bc cN cL J p L∧b_ L∧(∀ c∈L.cs,c.w.length < 200)∧(∀ J' L',bc cN cL J' p L'→b_ L'→L'.cs=L.cs.map (eE L.t)→L'.t=L.t→Mv J J' (L.own p) (L'.own p)→Q .non J')
theorem t4 {cN cL eC f:Addr} {fd:FuncData} (F:cA K "about" "Lane.about" gj f fd) (Z:bW mg) (ax:eD K mg "Lane" cN) (aB:aH K cN "row") (aQ:aH K cN "logs") (az:aH K cN "now") (bM:cY P w K mg base cN 4 "leg_of" fc (oS cN cL eC)) (fw:cY P w K mg base cL 5 "turn" k9 (xa cL)) (bA:cY P w K mg base cN 7 "settle" dN (jx cN cL)):aL P w K mg base (dh P w) 8 f fd mn (d4 K (yQ cN cL)):=by
 simp_arith [i6,(ai (fE cx rfl (fG (aZ ax.cl aB (rv 0))) (bP (i:=1) i6.nd) (ai (aF (i:=2) i6.nd (aq ar (bL (pl:=_) bM B hr (rv 0) (af (rv 1) ah)) ag))
   (ak (bh (bL (pl:=_) fw B hr (aq eI (aZ ax.cl aQ (rv 0)) (rv 1)) (af (aZ ax.cl az (rv 0)) (af (uO p6 (rv 2)) ah)))))))
   (ak (bh (d8 (pl:=_) bA B hr (rv 0)))))]
 ·obtain ⟨p,L,rfl,_⟩:=h;rfl
 obtain ⟨p,L,rfl,b,ok,hlen,q⟩:=h
 refine hX ?_
 simp_all! [b.ob,b.rw,tW]
 have hid:L.cs.map (cj L.t (L.row.take 0))=L.cs:=by
  have:∀ c∈L.cs,cj L.t (L.row.take 0) c=c:=fun c _=>by unfold cj;rw [if_neg (by simp)]
  rw [List.map_congr_left this,List.map_id']
 obtain ⟨Inv,hInv⟩:∃ Inv:Nat→Sr→Hq→Prop,∀ i τ J',Inv i τ J'↔∃ (u1 u2:Option PV),τ=[some (.ref p),u1,u2]∧bc cN cL J' p { L with cs:=L.cs.map (cj L.t (L.row.take i)) }∧Mv J J' (L.own p) (L.own p):=⟨_,fun _ _ _=>Iff.rfl⟩
 refine jO Inv ((hInv _ _ _).mpr ⟨_,_,rfl,by rw [hid];exact b,Mv.refl _ _⟩) (fun i τ J' h=>?_) ?_ ?_
 ·obtain ⟨_,_,_,b',_⟩:=(hInv _ _ _).mp h
  have:=b'.rw
  simp only at this
  rw [this]
 ·intro i x τ J' hx hv
  obtain ⟨u1,u2,rfl,b',mv'⟩:=(hInv _ _ _).mp hv
  clear hv
  have hi:i < L.row.length:=by have:=(List.getElem?_eq_some_iff.mp hx).1;simpa using this
  have hget:L.row[i]?=some L.row[i]:=List.getElem?_eq_getElem hi
  rw [List.getElem?_map,hget] at hx
  cases hx
  have hn:L.row[i]∈L.row:=List.getElem_mem hi
  have et:L.row.take (i + 1)=L.row.take i ++ [L.row[i]]:=by rw [List.take_add_one,hget];rfl
  have hnd:(L.row.take (i + 1)).Nodup:=ok.rn.sublist (List.take_sublist _ _)
  rw [et] at hnd
  have hnew:=(jW hnd).2
  generalize L.row[i]=n at hn et hnew ⊢
  obtain ⟨c,hc,rfl,hg⟩:=ok.found hn
  have oki:=ok.tobj.cj hlen (L.row.take i)
  have ecc:cj L.t (L.row.take i) c=c:=by unfold cj;rw [if_neg hnew]
  have hci:c∈L.cs.map (cj L.t (L.row.take i)):=List.mem_map.mpr ⟨c,hc,ecc⟩
  simp_all! [b'.ob]
  refine ⟨f_ _ _ _ _,p,_,c.n,rfl,b',oki,fun c' hc' e' hg'=>?_,fun z=>absurd hn z⟩
  have ec':c'=c:=oki.uniq hc' hci e'
  subst ec'
  have hcv:=(ok.ck c' hc _ (Cf.jM (ok.ne c' hc)).2).v
  have lo:=(b'.lg c' hci).o
  have bo':=b'.ob
  have bd':=b'.dc
  simp only at bo' bd'
  simp_all! [nS,bo',tV,C8,bd',lo]
  have hva:=oki.va hci
  simp only at hva
  simp_all! [hva,lo,bo',tV]
  refine ⟨Of _ _,c'.a,c'.r,c'.w,c'.g,L.t,-c'.cur.v,rfl,b'.lg c' hci,ok.ne c' hc,Nat.le_trans (ok.len c' hc) (by decide),ok.KI,fun l hl=>(ok.ck c' hc l hl).Oh,?_⟩
  have b1:=b'.turn oki hci (t:=L.t) (v:=-c'.cur.v)
  have em:(L.cs.map (cj L.t (L.row.take i))).map (dF c'.n L.t (-c'.cur.v))=L.cs.map (cj L.t (L.row.take (i + 1))):=by
   rw [List.map_map]
   refine List.map_congr_left fun x hx=>?_
   show dF c'.n L.t (-c'.cur.v) (cj L.t (L.row.take i) x)=_
   by_cases e:x.n=c'.n
   ·have:x=c':=ok.uniq hx hc e
    subst this
    rw [ecc]
    unfold dF Ov.cj
    rw [if_pos rfl,if_pos (by rw [et];simp)]
   ·unfold dF
    rw [if_neg (by rw [(nE L.t (L.row.take i) x).1];exact e)]
    unfold Ov.cj
    rw [et]
    by_cases e2:x.n∈L.row.take i
    ·rw [if_pos e2,if_pos (List.mem_append.mpr (.inl e2))]
    ·rw [if_neg e2,if_neg (fun z=>by
      rcases List.mem_append.mp z with z | z
      ·exact e2 z
      ·exact e (by simpa using z))]
  simp only [em] at b1
  refine (hInv _ _ _).mpr ⟨_,_,rfl,b1,mv'.trans (gK (.inr (.inr (.inr ⟨c',hc,.inr rfl⟩))) fun a h=>.inl h)⟩
 ·intro τ J' hv
  obtain ⟨u1,u2,rfl,b',mv'⟩:=(hInv _ _ _).mp hv
  rw [List.length_map,List.take_length,lK ok.tobj] at b'
  have oki:bj { L with cs:=L.cs.map (eE L.t) }:=by rw [← lK ok.tobj];exact ok.tobj.cj hlen L.row
  simp_all! [b'.ob]
  refine ⟨f_ _ _ _ _,p,_,rfl,b',oki,fun J2 o' b2 mv2=>?_⟩
  refine q J2 _ b2 (b_.settled oki o') rfl rfl (mv'.trans ⟨fun a o e n=>mv2.keep a o e fun z=>n ?_,fun a h=>?_,mv2.mono⟩)
  ·rw [← lK ok.tobj] at z;exact (wb (nE L.t L.row) a).mp z
  ·rcases mv2.own a h with h' | h'
   ·rw [← lK ok.tobj] at h';exact .inl ((wb (nE L.t L.row) a).mp h')
   ·exact .inr h'
def bR (n:Str) (t:Rat) (c:Cf):Cf:=if c.n=n then { c with g:=some t } else c
theorem fM (n:Str) (t:Rat) (c:Cf):(bR n t c).n=c.n∧(bR n t c).a=c.a∧(bR n t c).r=c.r∧(bR n t c).w=c.w:=by unfold bR;split <;> exact ⟨rfl,rfl,rfl,rfl⟩
theorem xU {L L':Ln} {n:Str} {t:Rat} (e:L'.cs=L.cs.map (bR n t)):L'.fs=L.fs.filter fun x=>decide (x.1≠n):=by
 unfold Ln.fs Ln.DX
 rw [e,List.filter_map,List.map_map,List.filter_map,List.filter_filter]
 have e1:(fun c:Cf=>c.g.isNone) ∘ bR n t=fun c=>((fun x:Str × aY=>decide (x.1≠n)) ∘ fun c:Cf=>(c.n,c.cur)) c && c.g.isNone:=by
  funext c
  show (bR n t c).g.isNone=(decide (c.n≠n) && c.g.isNone)
  unfold bR
  by_cases z:c.n=n
  ·rw [if_pos z];simp [z]
  ·rw [if_neg z];simp [z]
 rw [e1]
 refine List.map_congr_left fun c hc=>?_
 show ((bR n t c).n,(bR n t c).cur)=_
 unfold Cf.cur
 rw [(fM n t c).1,(fM n t c).2.2.2]
theorem yj {ks:List Ky} (h:(ks.map Ky.n).Nodup) (f:Ky→Bool):cF (ks.filter f)=(cF ks).filter f:=by
 have hs:((ks.filter f).map Ky.n).Nodup:=h.sublist (List.Sublist.map _ List.filter_sublist)
 refine oT (lt:=Ky.lt) Ky.GO Ky.tr (cT hs) ((cT h).filter _) fun x=>?_
 rw [bz,List.mem_filter,List.mem_filter,bz]
theorem yn {t:Rat} {fs:List (Str × aY)} (h:(fs.map (·.1)).Nodup) (n:Str):cf t (fs.filter fun x=>decide (x.1≠n))=(cf t fs).filter fun x=>decide (x≠n):=by
 unfold cf
 have e:(fs.filter fun x=>decide (x.1≠n)).map (key t)=(fs.map (key t)).filter fun k=>decide (k.n≠n):=by rw [List.filter_map];rfl
 rw [e,yj (by rw [dq];exact h),List.filter_map]
 rfl
theorem erase_filter {l:List Str} (h:l.Nodup) {j:Nat} {n:Str} (hj:l[j]?=some n):l.eraseIdx j=l.filter fun x=>decide (x≠n):=by
 obtain ⟨hl,e⟩:=List.getElem?_eq_some_iff.mp hj
 rw [List.eraseIdx_eq_take_drop_succ]
 have hd:l=l.take j ++ n :: l.drop (j + 1):=by rw [← e,← List.drop_eq_getElem_cons hl,List.take_append_drop]
 have hn:=h
 rw [hd,List.nodup_append] at hn
 have k1:∀ x∈l.take j,x≠n:=fun x hx=>hn.2.2 x hx n (by simp)
 have k2:∀ x∈l.drop (j + 1),x≠n:=fun x hx z=>(List.nodup_cons.mp hn.2.1).1 (by rw [← z];exact hx)
 conv=>rhs;rw [hd]
 rw [List.filter_append,List.filter_cons,if_neg (by simp),List.filter_eq_self.mpr fun x hx=>decide_eq_true (k1 x hx),List.filter_eq_self.mpr fun x hx=>decide_eq_true (k2 x hx)]
theorem b_.leave {L:Ln} (ok:b_ L) (n:Str):b_ { L with cs:=L.cs.map (bR n L.t),row:=L.row.filter fun x=>decide (x≠n) }:=by
 have hfs:Ln.fs { L with cs:=L.cs.map (bR n L.t),row:=L.row.filter fun x=>decide (x≠n) }=L.fs.filter fun x=>decide (x.1≠n):=xU (L:=L) (t:=L.t) rfl
 have mem:∀ c∈L.cs.map (bR n L.t),∃ c0∈L.cs,bR n L.t c0=c:=fun c hc=>by obtain ⟨c0,h0,e⟩:=List.mem_map.mp hc;exact ⟨c0,h0,e⟩
 have hw:∀ c,(bR n L.t c).w=c.w:=fun c=>(fM n L.t c).2.2.2
 refine ⟨⟨?_,?_,?_,?_,?_,?_,ok.t0,ok.ts,?_,?_,?_,?_⟩,?_⟩
 ·show ((L.cs.map (bR n L.t)).map Cf.n).Nodup
  rw [e8 (fun c=>(fM n L.t c).1)];exact ok.nd
 ·intro c hc;obtain ⟨c0,h0,rfl⟩:=mem c hc;rw [hw];exact ok.ne c0 h0
 ·intro c hc l hl;obtain ⟨c0,h0,rfl⟩:=mem c hc;rw [hw] at hl;exact ok.le c0 h0 l hl
 ·intro c hc l hl;obtain ⟨c0,h0,rfl⟩:=mem c hc;rw [hw] at hl;exact ok.ck c0 h0 l hl
 ·intro c hc;obtain ⟨c0,h0,rfl⟩:=mem c hc;rw [hw];exact ok.len c0 h0
 ·intro c hc q e
  obtain ⟨c0,h0,rfl⟩:=mem c hc
  unfold bR at e
  split at e
  ·cases e;exact ⟨ok.ts,Rat.le_refl⟩
  ·exact ok.gz c0 h0 q e
 ·show (L.cs.map (bR n L.t)).length≤100
  rw [List.length_map];exact ok.many
 ·intro m
  rw [hfs]
  show m∈L.row.filter _↔_
  rw [List.mem_filter,ok.rm,List.mem_map,List.mem_map]
  constructor
  ·rintro ⟨⟨x,hx,rfl⟩,k⟩;exact ⟨x,List.mem_filter.mpr ⟨hx,k⟩,rfl⟩
  ·rintro ⟨x,hx,rfl⟩;exact ⟨⟨x,(List.mem_filter.mp hx).1,rfl⟩,(List.mem_filter.mp hx).2⟩
 ·exact ok.rn.sublist List.filter_sublist
 ·exact Nat.le_trans (List.length_filter_le _ _) ok.rl
 ·rw [hfs]
  show L.row.filter _=_
  rw [yn ok.Li,← ok.row]
theorem Bl {α:Type} [DecidableEq α]:∀ {l:List α} {x:α},x∈l→∃ j:Nat,l[j]?=some x∧∀ m:Nat,m < j→l[m]?≠some x
 | y :: l,x,h=>by
  by_cases e:y=x
  ·exact ⟨0,by rw [e];rfl,fun m hm=>by omega⟩
  ·rcases List.mem_cons.mp h with h | h
   ·exact absurd h.symm e
   ·obtain ⟨j,h1,h2⟩:=Bl h
    refine ⟨j + 1,h1,fun m hm=>?_⟩
    cases m with
    | zero=>intro z;exact e (Option.some.inj z)
    | succ m=>exact h2 m (by omega)
abbrev gu:Stmt:=(L2.inClass (top 44) 2)
abbrev mw:List Str:=["self","name"]
theorem ui:L2.aw ["self","name"] ["self","name"] (L2.aj gu):=ed
def yT (cN cL eC:Addr):cJ:=fun xs J Q E=>∃ p L n,xs=[.ref p,.str n]∧bc cN cL J p L∧b_ L∧(n ∉ L.row→E eC J)∧(n∈L.row→∀ J' L',bc cN cL J' p L'→b_ L'→L'.cs=L.cs.map (bR n L.t)→L'.t=L.t→Mv J J' (L.own p) (L'.own p)→Q .non J')
theorem t_ {cN cL eC f:Addr} {fd:FuncData} (F:cA K "leave" "Lane.leave" gu f fd) (Z:bW mg) (ax:eD K mg "Lane" cN) (aQ:aH K cN "logs") (az:aH K cN "now") (aB:aH K cN "row") (aX:cY P w K mg base cN 1 "must_be_there" cy (qW cN cL eC)) (kY:cY P w K mg base cL 1 "leave" og (yL cL)):aL P w K mg base (dh P w) 2 f fd mw (d4 K (yT cN cL eC)):=by
 simp_arith [ui,(ai (bh (bL (pl:=_) aX B hr (rv 0) (af (rv 1) ah)))
   (ai (bh (bL (pl:=_) kY B hr (aq eI (aZ ax.cl aQ (rv 0)) (rv 1)) (af (aZ ax.cl az (rv 0)) ah)))
   (ak (bh (oz PySem.F.plainAttrs_list PySem.F.slot_list_remove PySem.F.type_list_remove Dd (aZ ax.cl aB (rv 0)) (af (rv 1) ah))))))]
 ·obtain ⟨p,L,n,rfl,_⟩:=h;rfl
 obtain ⟨p,L,n,rfl,b,ok,qc,q⟩:=h
 have bo:=b.ob
 have bd:=b.dc
 refine hX ?_
 simp_all! [bo]
 refine ⟨f_ _ _ _ _,p,L,n,rfl,b,fun hn=>?_,qc⟩
 obtain ⟨c,hc,rfl,hg⟩:=ok.found hn
 have lo:=(b.lg c hc).o
 simp_all! [bo,tV,C8,bd,ok.va hc,lo]
 refine ⟨QR _ _,c.a,c.r,c.w,c.g,L.t,rfl,b.lg c hc,?_⟩
 simp_all! [au (Ne.symm (b.P2 hc)),bo,tW,au (Ne.symm (b.Q3 hc)),b.rw]
 obtain ⟨j,h1,h2⟩:=Bl hn
 refine ⟨L.row,rfl,j,h1,h2,?_⟩
 rw [erase_filter ok.rn h1]
 have hn':=fM c.n L.t
 have ok1:=ok.leave c.n
 refine q hn _ { L with cs:=L.cs.map (bR c.n L.t),row:=L.row.filter fun x=>decide (x≠c.n) } ⟨?_,?_,av,fun x hx=>?_,?_,fun x hx=>?_⟩ ok1 rfl rfl ?_
 ·rw [au (Ne.symm b.HV),au (Ne.symm (b.P2 hc))];exact bo
 ·show put (put J c.a _) L.o _ L.d=_
  rw [au b.Q4,au (Ne.symm (b.Sw hc)),bd]
  show _=some (HQ.dct ((L.cs.map (bR c.n L.t)).map fun c=>(c.n,PV.ref c.a)) L.e)
  rw [e8 (f:=fun c:Cf=>(c.n,PV.ref c.a)) (fun x=>by rw [(hn' x).1,(hn' x).2.1])]
 ·obtain ⟨x0,h0,rfl⟩:=List.mem_map.mp hx
  have hl:=b.lg x0 h0
  refine ⟨?_,?_⟩
  ·rw [(hn' x0).2.1,(hn' x0).2.2.1,au (b.Q3 h0)]
   by_cases e:x0.n=c.n
   ·have:x0=c:=ok.uniq h0 hc e
    subst this
    rw [av]
    unfold bR;rw [if_pos rfl];rfl
   ·have ha:x0.a≠c.a:=fun z=>by
     have hh:=hl.o
     have hh2:=(b.lg c hc).o
     rw [z,hh2] at hh
     have hrr:c.r=x0.r:=by
      have h3:=(HQ.ins.inj (Option.some.inj hh)).2
      have h4:=(List.cons.inj h3).1
      have h5:=(Prod.mk.inj h4).2
      exact PV.ref.inj h5
     obtain ⟨i,hi,rfl⟩:=List.getElem_of_mem h0
     obtain ⟨j',hj',rfl⟩:=List.getElem_of_mem hc
     have:=(List.getElem_inj (xs:=L.cs.map Cf.r) (i:=i) (j:=j') (h₀:=by simpa using hi) (h₁:=by simpa using hj') b.ap).mp (by rw [List.getElem_map,List.getElem_map];exact hrr.symm)
     subst this;exact e rfl
    rw [au ha]
    unfold bR;rw [if_neg e];exact hl.o
  ·rw [(hn' x0).2.2.1,(hn' x0).2.2.2,au (b.ao x0 h0),au (fun z=>by have h3:=hl.l;rw [z,lo] at h3;cases h3)];exact hl.l
 ·show ((L.cs.map (bR c.n L.t)).map Cf.r).Nodup
  rw [e8 (fun x=>(hn' x).2.2.1)];exact b.ap
 ·obtain ⟨x0,h0,rfl⟩:=List.mem_map.mp hx
  rw [(hn' x0).2.2.1];exact b.ao x0 h0
 ·have own':∀ a,Ln.own { L with cs:=L.cs.map (bR c.n L.t),row:=L.row.filter fun x=>decide (x≠c.n) } p a→L.own p a:=fun a h=>by
   rcases h with h | h | h | ⟨x,hx,h⟩
   ·exact .inl h
   ·exact .inr (.inl h)
   ·exact .inr (.inr (.inl h))
   ·obtain ⟨c0,h0,rfl⟩:=List.mem_map.mp hx
    rw [(hn' c0).2.1,(hn' c0).2.2.1] at h
    exact .inr (.inr (.inr ⟨c0,h0,h⟩))
  refine (gK (S':=L.own p) (.inr (.inr (.inr ⟨c,hc,.inl rfl⟩))) fun a h=>.inl h).trans (gK (.inr (.inr (.inl rfl))) fun a h=>.inl (own' a h))
abbrev l6:Stmt:=(top 54)
abbrev fF:List Str:=["_law_cell_here","_law_many"]
theorem fk:L2.aw ["_law_cell_here","_law_many","_law_signs","_law_row","_law_some","_law_body","_law_at_here","_law_out","_law_k"] ["_law_cell_here","_law_many"] (L2.aj l6):=ed
def B_:Sp:=fun vs H Q _=>∃ c m:Int,vs=[.int c,.int m]∧0≤m∧m≤36∧∀ (r:Addr) (H':Hp) (xs:List Str),H r=none→bF H H'→H' r=some (.lst (xs.map V.str))→(xs.length:Int)=m→xs.Nodup→(∀ x∈xs,good x=true)→Q (.ref r) H'
def menu:List Str:=["m","ab","a","zebra9","b0","0","abc","9zz","q7q7q7q7","aa","z","a1b2c3d4"]
def dj:Str:="abcdefghijklmnopqrstuvwxyz0123456789"
theorem HJ:menu.Nodup:=by decide +kernel
theorem Ee:dj.cps.toList.Nodup:=by decide +kernel
theorem lL:dj.cps.toList.length=36:=by decide +kernel
theorem K8 {α:Type} {xs:List α} {j:Int} (h0:0≤j) (h1:j < xs.length):dJ xs j=some (xs[j.toNat]'(by omega)):=by
 have h:=bq (xs:=xs) (j:=j.toNat) (List.getElem?_eq_getElem (by omega))
 rw [show ((j.toNat:Nat):Int)=j by omega] at h
 exact h
def JE {α:Type} (xs:List α) (z:α) (d:Int) (k:Nat):α:=xs.getD ((d + 5 * (k:Int)) % (xs.length:Int)).toNat z
section
variable {α:Type} {xs:List α} {z:α} (d:Int)
theorem rJ (h:0 < xs.length) (k:Nat):0≤(d + 5 * (k:Int)) % (xs.length:Int)∧(d + 5 * (k:Int)) % (xs.length:Int) < (xs.length:Int):=⟨Int.emod_nonneg _ (by omega),Int.emod_lt_of_pos _ (by omega)⟩
theorem nI (h:0 < xs.length) (k:Nat):xs[((d + 5 * (k:Int)) % (xs.length:Int)).toNat]?=some (JE xs z d k):=by
 have:=rJ d h k
 unfold JE
 rw [List.getD_eq_getElem?_getD,List.getElem?_eq_getElem (by omega)]
 rfl
theorem Ld (h:0 < xs.length) (k:Nat):dJ xs ((d + 5 * (k:Int)) % (xs.length:Int))=some (JE xs z d k):=by
 have:=bq (nI (z:=z) d h k)
 rwa [Int.toNat_of_nonneg (rJ d h k).1] at this
theorem Bg (h:0 < xs.length) (k:Nat):JE xs z d k∈xs:=List.mem_of_getElem? (nI d h k)
theorem Qu {M a b d u v:Int} (g:5 * u=1 + M * v) (a0:0≤a) (a1:a < M) (b0:0≤b) (b1:b < M) (e:(d + 5 * a) % M=(d + 5 * b) % M):a=b:=by
 have h:M ∣ 5 * (a - b):=by
  have:=Int.dvd_of_emod_eq_zero (Int.emod_eq_emod_iff_emod_sub_eq_zero.mp e)
  rwa [show d + 5 * a - (d + 5 * b)=5 * (a - b) by omega] at this
 obtain ⟨c,hc⟩:M ∣ a - b:=by
  obtain ⟨c,hc⟩:=h
  refine ⟨u * c - v * (a - b),?_⟩
  have h1:5 * u * (a - b)=u * (M * c):=by rw [← hc];grind
  rw [g] at h1
  grind
 rcases Int.lt_trichotomy c 0 with k | k | k
 ·have:M * c≤M * (-1):=Int.mul_le_mul_of_nonneg_left (by omega) (by omega)
  omega
 ·subst k;omega
 ·have:M * 1≤M * c:=Int.mul_le_mul_of_nonneg_left (by omega) (by omega)
  omega
theorem Bf (u v:Int) (hn:xs.Nodup) (g:5 * u=1 + (xs.length:Int) * v) {i j:Nat} (hi:i < xs.length) (hj:j < xs.length) (e:JE xs z d i=JE xs z d j):i=j:=by
 have h:0 < xs.length:=by omega
 have a:=nI (z:=z) d h i
 have b:=nI (z:=z) d h j
 rw [e] at a
 obtain ⟨a1,a2⟩:=List.getElem?_eq_some_iff.mp a
 obtain ⟨b1,b2⟩:=List.getElem?_eq_some_iff.mp b
 have e1:=(List.getElem_inj hn).mp (a2.trans b2.symm)
 have:=rJ d h i
 have:=rJ d h j
 exact Int.ofNat.inj (Qu g (Int.natCast_nonneg i) (Int.ofNat_lt.mpr hi) (Int.natCast_nonneg j) (Int.ofNat_lt.mpr hj) (show (d + 5 * (i:Int)) % _=(d + 5 * (j:Int)) % _ by omega))
end
theorem E_:menu.length=12:=by decide +kernel
abbrev pick:Int→Nat→Str:=JE menu ""
theorem Iv (d:Int) (k:Nat):dJ (menu.map V.str) ((d + 5 * (k:Int)) % 12)=some (.str (pick d k)):=by
 have h:=rJ (xs:=menu) d (by decide +kernel) k
 have g:=bq (xs:=menu.map V.str) (j:=((d + 5 * (k:Int)) % (menu.length:Int)).toNat) (by rw [List.getElem?_map,nI (xs:=menu) (z:="") d (by decide +kernel) k];rfl)
 rw [Int.toNat_of_nonneg h.1,E_] at g
 exact g
theorem FG (d:Int) {m:Nat} (hm:m≤12):((List.range m).map (pick d)).Nodup:=by
 refine List.Pairwise.map (R:=fun i j=>i < 12∧j < 12∧i≠j) _ (fun i j ⟨a,b,c⟩ e=>c (Bf d 5 2 HJ (by decide +kernel) a b e)) ?_
 refine List.Pairwise.imp_of_mem (R:=fun i j=>i≠j) (fun {i j} hi hj ne=>?_) (List.nodup_range)
 rw [List.mem_range] at hi hj
 exact ⟨by omega,by omega,ne⟩
theorem Dc:∀ x∈menu,good x=true:=by decide +kernel
theorem rG:∀ c∈dj.cps.toList,eL cK c=true:=by decide +kernel
theorem DA (d:Int) (k:Nat):good (pick d k)=true:=Dc _ (Bg d (by decide +kernel) k)
theorem Hx {cs:List Nat} (h0:0 < cs.length) (h1:cs.length≤8) (h:∀ c∈cs,eL cK c=true):good ⟨cs.toArray⟩=true:=by
 unfold good
 rw [Bool.and_eq_true,Bool.and_eq_true]
 refine ⟨⟨decide_eq_true ?_,decide_eq_true ?_⟩,List.all_eq_true.mpr fun c hc=>h c (by simpa using hc)⟩
 ·show 1≤cs.toArray.size;rw [List.size_toArray];omega
 ·show cs.toArray.size≤8;rw [List.size_toArray];omega
abbrev sign:Int→Nat→Nat:=JE dj.cps.toList 0
theorem Jj (d:Int) (k:Nat):dJ dj.cps.toList ((d + 5 * (k:Int)) % 36)=some (sign d k):=by
 have h:=Ld (xs:=dj.cps.toList) (z:=0) d (by decide +kernel) k
 rw [lL] at h
 exact h
theorem DI (d:Int) (k:Nat):eL cK (sign d k)=true:=rG _ (Bg d (by decide +kernel) k)
theorem F_ (d:Int) {i j:Nat} (hi:i < 36) (hj:j < 36) (e:sign d i=sign d j):i=j:=Bf d (-7) (-1) Ee (by decide +kernel) (by rw [lL];exact hi) (by rw [lL];exact hj) e
theorem GA {d:Int} {n:Nat} {xs:List Str} (hl:xs.length≤36) (h:∀ k x,xs[k]?=some x→x.cps.toList[n]?=some (sign d k)):xs.Nodup:=by
 refine List.pairwise_iff_getElem.mpr fun i j hi hj hij e=>?_
 have a:=h i _ (List.getElem?_eq_getElem hi)
 have b:=h j _ (List.getElem?_eq_getElem hj)
 rw [e] at a
 rw [a] at b
 have:=F_ d (by omega) (by omega) (Option.some.inj b)
 omega
theorem Em {xs:List V} {k:Int} (h:0≤k):pf xs none (some k)=xs.take k.toNat:=by
 obtain ⟨j,rfl⟩:∃ j:Nat,k=(j:Int):=⟨k.toNat,by omega⟩
 unfold pf
 rw [HT.yD,HT.wG,List.drop_zero,Int.toNat_natCast]
 rcases Nat.le_total j xs.length with e | e
 ·rw [Nat.min_eq_left e]
  rfl
 ·rw [Nat.min_eq_right e,Nat.sub_zero,List.take_of_length_le (Nat.le_refl _),List.take_of_length_le e]
theorem Fq (cs:List Nat):((cs.map one).map (·.length)).sum=cs.length:=by
 induction cs with
 | nil=>rfl
 | cons c cs ih =>
  rw [List.map_cons,List.map_cons,List.sum_cons,ih,List.length_cons]
  show 1 + cs.length=cs.length + 1
  omega
theorem Pk {ds:List Int} (hD:Dig ds [3,36,8,36,36,36,36,36,36,36,36,840]):∃ (d0 d1 d2 d11:Int) (es:List Int),dJ (ds.map V.int) 0=some (.int d0)∧dJ (ds.map V.int) 1=some (.int d1)∧dJ (ds.map V.int) 2=some (.int d2)∧dJ (ds.map V.int) 11=some (.int d11) ∧
  pf (ds.map V.int) (some 3) (some 11)=es.map V.int∧es.length=8∧(∀ e∈es,0≤e∧e < 36)∧0≤d2∧d2 < 8:=by
 obtain ⟨d0,ds,rfl,_,_,hD⟩:=hD.cons
 obtain ⟨d1,ds,rfl,_,_,hD⟩:=hD.cons
 obtain ⟨d2,ds,rfl,d20,d21,hD⟩:=hD.cons
 have key:∀ (n:Nat) {ds:List Int},Dig ds (List.replicate n 36 ++ [840])→∃ es d,ds=es ++ [d]∧es.length=n∧∀ e∈es,0≤e∧e < 36:=by
  intro n
  induction n with
  | zero=>intro ds h;obtain ⟨d,ds,rfl,_,_,h⟩:=h.cons;cases h.nil;exact ⟨[],d,rfl,rfl,fun e he=>by cases he⟩
  | succ n ih =>
   intro ds h
   obtain ⟨d,ds,rfl,h0,h1,h⟩:=h.cons
   obtain ⟨es,x,rfl,hl,he⟩:=ih h
   exact ⟨d :: es,x,rfl,congrArg Nat.succ hl,List.forall_mem_cons.mpr ⟨⟨h0,h1⟩,he⟩⟩
 obtain ⟨es,d11,rfl,hl,he⟩:=key 8 hD
 refine ⟨d0,d1,d2,d11,es,bq (j:=0) rfl,bq (j:=1) rfl,bq (j:=2) rfl,bq (j:=11) ?_,?_,hl,he,d20,d21⟩
 ·rw [List.getElem?_map,List.getElem?_cons_succ,List.getElem?_cons_succ,List.getElem?_cons_succ,List.getElem?_append_right (by omega),hl];rfl
 ·have h11:((d0 :: d1 :: d2 :: (es ++ [d11])).map V.int).length=12:=by simp [hl]
  unfold pf
  rw [show (some (3:Int))=some ((3:Nat):Int) from rfl,show (some (11:Int))=some ((11:Nat):Int) from rfl,HT.wG,HT.wG,h11]
  show List.take 8 ((es ++ [d11]).map V.int)=_
  rw [List.map_append,List.take_append_of_le_length (by simp [hl]),List.take_of_length_le (by simp [hl])]
theorem HC {p q a b:Prop} [Decidable p] [Decidable q]:(if p then if q then a else b else b)=if p∧q then a else b:=by by_cases hp:p <;> by_cases hq:q <;> simp [hp,hq]
theorem Fe {f:Addr} {fd:FuncData} (F:cA K "_law_names" "_law_names" l6 f fd) (Z:DT mg) (eS:tD P w K mg base 1 "_law_digits" cU (sU K)):aL P w K mg base ra 2 f fd fF B_:=by
 refine F.ok fk (fun vs H Q E h=>?_) (fun cdv A outer s H vs Q E hr h=>?_)
 ·obtain ⟨c,m,rfl,_⟩:=h
  rfl
 obtain ⟨c,m,rfl,m0,m1,q⟩:=h
 refine ⟨_,(QB.run (aW (cV (i:=2) fk.nd rfl (Or.inr rfl) pK)
   (aW (cV (i:=3) fk.nd rfl (Or.inr rfl) (yr eS hr (by decide) rfl (ay (pv 0) (ay (jY (Fx [.int 3,.int 36,.int 8,.int 36,.int 36,.int 36,.int 36,.int 36,.int 36,.int 36,.int 36,.int 840] rfl)) a_))))
   (aW (ou (Kh (wt (dW Fs (cu gI (pv 3) aP (fun _ _=>rfl)) aP (fz _)) (qL (dW Kb (pv 1) aP (fz _))))) (aW (cV (i:=4) fk.nd rfl (Or.inr rfl) (jY (Fx [.str "m",.str "ab",.str "a",.str "zebra9",.str "b0",.str "0",.str "abc",.str "9zz",.str "q7q7q7q7",.str "aa",.str "z",.str "a1b2c3d4"] rfl)))
   (bK (d6 (Im (aj l6) ["_law_cell_here","_law_many","_law_signs","_law_row","_law_some","_law_body","_law_at_here","_law_out","_law_k"] [("_law_row",3),("_law_some",4)] rfl rfl rfl (gB rfl Z.range (ay (pv 1) a_)) (fun _ _ _ _ _ _=>(cu gI (pv 2) (bB gM (bB jX (cu gI (pv 1) aP (fun _ _=>rfl)) (bB cO aP (pv 0))) aP) (fun _ _=>rfl))))))) gf)
   (aW (Iz (i:=5) (aj l6) ["_law_cell_here","_law_many","_law_signs","_law_row","_law_some","_law_body","_law_at_here","_law_out","_law_k"] [("_law_signs",2)] rfl rfl rfl fk.nd rfl (Or.inl rfl) (n9 (k8 wW (pv 3) (lT aP) (lT aP))) (fun _ _ _ _ _ _=>(cu EV (pv 1) (pv 0) (fun _ _=>rfl))))
   (yu (ou (dW Fs (cu gI (pv 3) aP (fun _ _=>rfl)) aP (fz _)) (bK (cV (i:=5) fk.nd rfl (Or.inl rfl) (k8 wW (pv 5) qJ (lT (bB jX (cu gI (pv 3) aP (fun _ _=>rfl)) aP))))) gf)
   (aW (cV (i:=6) fk.nd rfl (Or.inl rfl) (bB gM (cu gI (pv 3) aP (fun _ _=>rfl)) (bG jJ rfl Z.len boot_len (ay (pv 5) a_))))
   (aW (cV (i:=7) fk.nd rfl (Or.inl rfl) (jY a_))
   (aW (pL PassesOwn.never rfl (gB rfl Z.range (ay (pv 1) a_)) (lS (i:=8) fk.nd rfl (Or.inl rfl)) (aW (wj (cu EV (pv 2) (bB gM (bB jX (cu gI (pv 3) aP (fun _ _=>rfl)) (bB cO aP (pv 8))) aP) (fun _ _=>rfl)) (wc (pv 5) (pv 6) set_list))
   (bK (lU (sx PySem.F.plainAttrs_list PySem.F.slot_list_append PySem.F.type_list_append gA (pv 7) (ay (sx PySem.F.plainAttrs_str PySem.F.slot_str_join PySem.F.type_str_join HP pK (ay (pv 5) a_)) a_))))))
   (bK (d6 (pv 7)))))))))))),?_⟩
 refine ⟨_,rfl,(by show 12≤sizeLine;decide),fun p hp=>?_⟩
 have ss:=oQ (ss:=[3,36,8,36,36,36,36,36,36,36,36,840]) (by decide)
 refine ⟨c,p,[3,36,8,36,36,36,36,36,36,36,36,840],rfl,di.of aE,ss,by decide,fun r H1 ds _ g1 hr1 hD=>?_⟩
 obtain ⟨d0,d1,d2,d11,es,at0,at1,at2,at11,hcut,el,be,d20,d21⟩:=Pk hD
 clear hD
 generalize ds.map V.int=row at hr1 at0 at1 at2 at11 hcut
 have g1:=(bF.new hp _).trans g1
 dsimp! [rJoin,hr1,at0,at1]
 rw [HC]
 split
 ·refine ⟨(by show 12≤sizeLine;decide),fun p2 hp2=>?_⟩
  have g2:=bF.new hp2 (.lst (menu.map V.str))
  have h2:(upd H1 p2 (.lst (menu.map V.str))) p2=some (.lst (menu.map V.str)):=aE
  have hr2:=g2 _ _ hr1
  refine ⟨_,rfl,m,rfl,by omega,by omega,fun D hD=>?_⟩
  refine E4 (lo:=0) (n:=m.toNat) (fun i H'=>bF (upd H1 p2 (.lst (menu.map V.str))) H'∧H' D=some (.lst (((List.range i).map (pick d1)).map V.str))) ⟨bF.new hD _,aE⟩ ?_ ?_
  ·rintro i H' R hi ⟨g,hd⟩ k
   have hr3:=g _ _ hr2
   have h3:=g _ _ h2
   dsimp! [rJoin,hr3,h3,at1,Int.zero_add]
   refine ⟨.of (Bd.small (by decide) (by decide)) (Bd.small (x:=(i:Int)) (by omega) (by omega)),_,Iv d1 i,?_⟩
   refine k _ _ _ hd (by rw [List.length_map,List.length_map,List.length_range];exact bp (by omega)) ⟨g.Nh hD _,?_⟩
   rw [aE]
   simp [List.range_succ]
  ·rintro H' ⟨g,hd⟩
   exact q D H' _ (g1.free (g2.free hD)) (g1.trans (g2.trans g)) hd (by rw [List.length_map,List.length_range];omega) (FG d1 (by omega)) (fun x hx=>by obtain ⟨k,_,rfl⟩:=List.mem_map.mp hx;exact DA d1 k)
 refine ⟨_,rfl,3,rfl,11,rfl,r,_,rfl,di.of hr1,fun p2 hp2=>⟨p2,rfl,⟨_,di.of aE⟩,fun D hD=>?_⟩⟩
 rw [hcut] at hD ⊢
 have g2:=bF.new hp2 (.lst (es.map V.int))
 have hr2:=g2 _ _ hr1
 have h2:(upd H1 p2 (.lst (es.map V.int))) p2=some (.lst (es.map V.int)):=aE
 have al:=lL
 have al2:dj.length≤sizeLine:=by decide +kernel
 refine HE (K:=K) (a:=p2) (xs:=es.map V.int) (fun i H'=>bF (upd H1 p2 (.lst (es.map V.int))) H'∧∃ cs:List Nat,cs.length=i∧(∀ c∈cs,eL cK c=true)∧H' D=some (.lst ((cs.map one).map V.str)))
  ⟨bF.new hD _,[],rfl,(fun c hc=>by cases hc),aE⟩ (fun i H' _ ⟨g,_⟩=>di.of (g _ _ h2)) ?_ ?_
 ·rintro i y H' R hi ⟨g,cs,hcs,hca,hd⟩ k
  have hil:=(List.getElem?_eq_some_iff.mp hi).1
  obtain ⟨z,rfl,hz⟩:=rT hi
  obtain ⟨z0,z1⟩:=be z (List.mem_of_getElem? hz)
  have at1:=K8 (xs:=dj.cps.toList) z0 (by rw [al];exact z1)
  dsimp! [rJoin]
  refine ⟨al2,_,at1,?_⟩
  refine k _ _ _ hd (by rw [List.length_map,List.length_map,hcs];rw [List.length_map] at hil;exact bp (by omega)) ⟨g.Nh hD _,cs ++ [dj.cps.toList[z.toNat]'(by rw [al];omega)],by rw [List.length_append,hcs];rfl,?_,?_⟩
  ·intro c hc
   rcases List.mem_append.mp hc with hc | hc
   ·exact hca c hc
   ·rw [List.mem_singleton] at hc;subst hc;exact rG _ (List.getElem_mem _)
  rw [aE,List.map_append,List.map_append]
  rfl
 rintro H2 ⟨g,cs,hcs,hca,hd⟩
 have hr3:=g _ _ hr2
 have g:=g1.trans (g2.trans g)
 have hcs:cs.length=8:=hcs.trans ((List.length_map _).trans el)
 obtain ⟨M,hM⟩:∃ M:L2.St→Hp→Prop,∀ σ' H',M σ' H'↔∃ (D:Addr) (cs:List Nat),σ'=[some (.int c),some (.int m),some (.str dj),some (.ref r),none,some (.ref D),none,none,none]∧bF H H'∧H D=none∧H' r=some (.lst row)∧D≠r∧0 < cs.length∧cs.length≤8∧(∀ c∈cs,eL cK c=true)∧H' D=some (.lst ((cs.map one).map V.str)):=⟨_,fun _ _=>Iff.rfl⟩
 have fD:H D=none:=g1.free (g2.free hD)
 have nDr:D≠r:=(bE hr2 hD).symm
 refine ⟨M,?_,?_⟩
 ·dsimp! [rJoin,hr3,at0,at2]
  split
  ·refine ⟨_,di.of hd,fun p4 hp4=>(hM _ _).mpr ⟨p4,cs.take (d2 + 1).toNat,rfl,g.trans (bF.new hp4 _),g.free hp4,?_,?_,?_,?_,(fun c hc=>hca c (List.mem_of_mem_take hc)),?_⟩⟩
   ·exact (bF.new hp4 _) _ _ hr3
   ·exact (bE hr3 hp4).symm
   ·rw [List.length_take];omega
   ·rw [List.length_take];omega
   ·rw [aE,Em (by omega),List.map_take,List.map_take]
  ·exact (hM _ _).mpr ⟨D,cs,rfl,g,fD,hr3,nDr,by omega,by omega,hca,hd⟩
 clear hca hd hr3 g fD nDr hcs
 intro σ5 H5 hm
 obtain ⟨D,cs,rfl,g,fD,hr3,nDr,l0,l1,hca,hd⟩:=(hM _ _).mp hm
 clear hm hM M
 have e0s:(Str.ofString "").length=0:=by decide +kernel
 have hl:((cs.map one).map V.str).length=cs.length:=by rw [List.length_map,List.length_map]
 have hlp:(0:Int) < (((cs.map one).map V.str).length:Nat):=by rw [hl];omega
 have a0:=Int.emod_nonneg d11 (show (((cs.map one).map V.str).length:Int)≠0 by omega)
 have a1:=Int.emod_lt_of_pos d11 hlp
 refine ⟨_,rfl,r,_,11,_,rfl,rfl,hr3,at11,_,rfl,D,rfl,_,.inl (di.of hd),_,_,rfl,rfl,hlp,?_⟩
 generalize hat:d11 % (((cs.map one).map V.str).length:Int)=at' at a0 a1
 rw [hl] at a1
 refine ⟨Nat.zero_le _,fun O hO=>?_⟩
 have gO:=bF.new hO (.lst [])
 have nOD:O≠D:=(bE hd hO).symm
 have nOr:O≠r:=(bE hr3 hO).symm
 have fO:H O=none:=g.free hO
 refine ⟨_,rfl,m,rfl,by omega,by omega,uF (lo:=0) (n:=m.toNat) (fun i σ H'=>∃ (v:Option V) (cs':List Nat) (xs:List Str),σ=[some (.int c),some (.int m),some (.str dj),some (.ref r),none,some (.ref D),some (.int at'),some (.ref O),v] ∧
  bF H H'∧H' r=some (.lst row)∧cs'.length=cs.length∧(∀ c∈cs',eL cK c=true)∧H' D=some (.lst ((cs'.map one).map V.str))∧H' O=some (.lst (xs.map V.str))∧xs.length=i∧(∀ x∈xs,good x=true)∧∀ k x,xs[k]?=some x→x.cps.toList[at'.toNat]?=some (sign d1 k)) ?_ ?_ ?_⟩
 ·exact ⟨none,cs,[],by rw [← hat];rfl,g.trans gO,gO _ _ hr3,rfl,hca,gO _ _ hd,aE,rfl,(fun x hx=>by cases hx),fun k x e=>by cases e⟩
 ·rintro i σ H' hi ⟨v,cs',xs,rfl,g',hr',hl',hca',hd',ho',hx,hxl,hs⟩
  have al2:dj.length≤sizeLine:=by decide +kernel
  have sg:=Jj d1 i
  refine ⟨_,rfl,_,rfl,r,_,1,_,rfl,rfl,hr',at1,_,rfl,_,_,rfl,rfl,.of (Bd.small (by decide) (by decide)) (Bd.small (x:=0 + (i:Int)) (by omega) (by omega)),_,_,rfl,rfl,_,_,rfl,rfl,(show (0:Int) < 36 by decide),_,_,_,rfl,rfl,al2,(by rw [Int.zero_add];exact sg),?_⟩
  have ix:DV ((cs'.map one).map V.str).length at'=some at'.toNat:=by
   unfold DV
   rw [if_pos a0,if_pos (by rw [List.length_map,List.length_map,hl'];exact a1)]
  refine ⟨_,rfl,_,rfl,D,_,at',_,rfl,rfl,hd',ix,?_⟩
  have es:((cs'.map one).map V.str).set at'.toNat (.str ⟨#[sign d1 i]⟩)=((cs'.set at'.toNat (sign d1 i)).map one).map V.str:=by
   rw [List.map_set,List.map_set]
   rfl
  have gD:=bF.Nh fD g' (.lst (((cs'.map one).map V.str).set at'.toNat (.str ⟨#[sign d1 i]⟩)))
  have hD2:(upd H' D (.lst (((cs'.map one).map V.str).set at'.toNat (.str ⟨#[sign d1 i]⟩)))) D=some (.lst (((cs'.set at'.toNat (sign d1 i)).map one).map V.str)):=by rw [aE,es]
  have hr2:(upd H' D (.lst (((cs'.map one).map V.str).set at'.toNat (.str ⟨#[sign d1 i]⟩)))) r=_:=(aK nDr.symm).trans hr'
  have ho2:(upd H' D (.lst (((cs'.map one).map V.str).set at'.toNat (.str ⟨#[sign d1 i]⟩)))) O=_:=(aK nOD).trans ho'
  have lc:(cs'.set at'.toNat (sign d1 i)).length=cs.length:=by rw [List.length_set,hl']
  have hcn:∀ c∈cs'.set at'.toNat (sign d1 i),eL cK c=true:=fun c hc=>by
   rcases List.mem_or_eq_of_mem_set hc with h | h
   ·exact hca' c h
   ·rw [h];exact DI d1 i
  refine ⟨_,rfl,.inl ⟨rfl,_,di.of ho2⟩,rfl,_,rfl,_,D,(cs'.set at'.toNat (sign d1 i)).map one,rfl,rfl,di.of hD2,?_,O,_,_,rfl,rfl,ho2,?_,?_⟩
  ·rw [Fq,List.length_map,lc,e0s]
   omega
  ·rw [List.length_map,hx]
   exact bp (by omega)
  ·rw [join_ones]
   refine ⟨_,cs'.set at'.toNat (sign d1 i),xs ++ [⟨(cs'.set at'.toNat (sign d1 i)).toArray⟩],rfl,gD.Nh fO _,(aK nOr.symm).trans hr2,lc,hcn,(aK nOD.symm).trans hD2,?_,by rw [List.length_append,hx];rfl,?_,?_⟩
   ·rw [aE,List.map_append]
    rfl
   ·intro x hx2
    rcases List.mem_append.mp hx2 with h | h
    ·exact hxl x h
    ·simp only [List.mem_cons,List.not_mem_nil,or_false] at h
     subst h
     exact Hx (by rw [lc];exact l0) (by rw [lc];exact l1) hcn
   ·intro k x e
    rcases Nat.lt_or_ge k xs.length with hk | hk
    ·rw [List.getElem?_append_left hk] at e
     exact hs k x e
    ·rw [List.getElem?_append_right hk] at e
     have ek:k=i:=by
      cases hz:k - xs.length with
      | zero=>omega
      | succ z=>rw [hz] at e;cases e
     rw [show k - xs.length=0 by omega] at e
     have ex:=Option.some.inj e
     subst ex
     rw [ek]
     show (cs'.set at'.toNat (sign d1 i))[at'.toNat]?=some (sign d1 i)
     rw [List.getElem?_set_self (by omega)]
 ·rintro σ H' ⟨v,cs',xs,rfl,g',hr',hl',hca',hd',ho',hx,hxl,hs⟩
  exact ⟨_,rfl,q O H' xs fO g' ho' (by omega) (GA (by omega) hs) hxl⟩
def yV:cJ:=fun xs J Q _=>∃ c m:Int,xs=[.int c,.int m]∧0≤m∧m≤36∧∀ ns:List Str,(ns.length:Int)=m→ns.Nodup→(∀ x∈ns,good x=true)→Q (.fl (ns.map .str)) J
theorem uP {K:PySem.W.Frag} {J:Hq} {H:Hp}:∀ ns:List Str,aR K J H (ns.map PV.str) (ns.map V.str)
 | []=>rfl
 | n :: ns=>⟨_,_,rfl,rfl,uP ns⟩
theorem zZ (C:tD P w K mg base 2 "_law_names" fF B_):bt P w K mg base 2 "_law_names" fF yV:=C.lift fun xs J vs H Q2 E2 Q E rs r ⟨c,m,ex,h0,h1,q⟩ kn=>by
 subst ex
 obtain ⟨v,u,rfl,r1,r2⟩:=kg rs
 cases r1;cases r2
 exact ⟨c,m,rfl,h0,h1,fun p H' ns hp s e hl nd lx=>kn (.fl (ns.map .str)) J (.ref p) H' ⟨p,_,rfl,.inl ⟨r.free hp,.inl e⟩,uP ns⟩ (r.same s) (.same s) (q ns hl nd lx)⟩
abbrev qR:Stmt:=(top 48)
abbrev mE:List Str:=["_law_found"]
theorem F8:L2.aw ["_law_found"] ["_law_found"] (L2.aj qR):=ed
def tj:cJ:=fun xs J Q _=>∃ i:Int,xs=[.int i]∧Q (.bl true) J
theorem Dr {f:Addr} {fd:FuncData} (F:cA K "_law_whole" "_law_whole" qR f fd) (Z:bW mg):aL P w K mg base (dh P w) 1 f fd mE (d4 K tj):=by
 simp_arith [F8,(ak (aA (AI (aM jL rfl Z.isinstance boot_isinstance (af (rv 0) (af (oB rfl Z.int boot_int) ah))) (wB (Mx (aM jL rfl Z.isinstance boot_isinstance (af (rv 0) (af (oB rfl Z.bool boot_bool) ah))))))))]
 ·obtain ⟨i,rfl,_⟩:=h;rfl
 obtain ⟨i,rfl,q⟩:=h
 refine hX ?_
 simp_arith! [bI]
 exact q
abbrev wK:Stmt:=(top 50)
abbrev j1:List Str:=["_law_found","_law_due_here"]
theorem I_:L2.aw ["_law_found","_law_due_here"] ["_law_found","_law_due_here"] (L2.aj wK):=ed
def qX:cJ:=fun xs J Q _=>∃ a:Rat,xs=[fr a,fr a]∧Q (.bl true) J
theorem Fl {f:Addr} {fd:FuncData} (F:cA K "_law_part" "_law_part" wK f fd) (Z:bW mg) (A3:bt P w K mg base 1 "_law_whole" mE tj):aL P w K mg base (dh P w) 2 f fd j1 (d4 K qX):=by
 simp_arith [I_,(ai (aU (dC (ku (dw (bX (aM jL rfl Z.isinstance boot_isinstance (af (rv 0) (af (oB rfl Z.tuple boot_tuple) ah))))) (i4 (aD (km hr.aO) (aM b7 rfl Z.len boot_len (af (rv 0) ah)) ag)))) (ak (aA fQ)) aI)
   (ai (aU (dC (ku (dw (bX (aS A3 B hr (af (aq ar (rv 0) ag) ah)))) (i4 (dw (bX (aS A3 B hr (af (aq ar (rv 0) ag) ah))))))) (ak (aA fQ)) aI)
   (ak (aA (ff (cn hr.aO) (rv 0) (rv 1))))))]
 ·obtain ⟨a,rfl,_⟩:=h;rfl
 obtain ⟨a,rfl,q⟩:=h
 refine hX ?_
 simp_arith! [bI,tj]
 exact q
abbrev oJ:Stmt:=(top 55)
abbrev k_:List Str:=["_law_number","_law_mode"]
theorem DF:L2.aw ["_law_number","_law_mode"] ["_law_number","_law_mode"] (L2.aj oJ):=ed
def uT:cJ:=fun xs J Q _=>∃ n m:Int,xs=[.int n,.int m]∧0≤n∧∀ v:Int,v.natAbs≤1000000→Q (.int v) J
theorem Aj {f:Addr} {fd:FuncData} (F:cA K "_law_placed" "_law_placed" oJ f fd) (Z:bW mg):aL P w K mg base (dh P w) 1 f fd k_ (d4 K uT):=by
 simp_arith [DF,(ai (aU (aD fN (rv 1) ag) (ak (aA (aJ du (aJ fA (rv 0) ag) ag))) aI)
   (ai (aU (aD (cn hr.aO) (rv 1) ag) (ak (aA (aJ du (aJ fA (rv 0) ag) ag))) aI)
   (ak (aA (aJ du (aJ fA (rv 0) ag) ag)))))]
 ·obtain ⟨n,m,rfl,_⟩:=h;rfl
 obtain ⟨n,m,rfl,n0,q⟩:=h
 refine hX ?_
 simp_all! []
 split
 ·simp_all! [];exact ⟨by decide,q _ (by omega)⟩
 simp_all! []
 split
 ·simp_all! [];exact ⟨by decide,q _ (by omega)⟩
 ·simp_all! [];exact ⟨by decide,q _ (by omega)⟩
abbrev qP:Stmt:=(top 56)
abbrev mD:List Str:=["_law_number","_law_mode"]
theorem F4:L2.aw ["_law_number","_law_mode"] ["_law_number","_law_mode"] (L2.aj qP):=ed
def yW:cJ:=fun xs J Q _=>∃ n m:Int,xs=[.int n,.int m]∧0≤n∧n < 2001∧∀ v:Int,v.natAbs≤1000→Q (.int v) J
theorem Dq {f:Addr} {fd:FuncData} (F:cA K "_law_paced" "_law_paced" qP f fd) (Z:bW mg):aL P w K mg base (dh P w) 1 f fd mD (d4 K yW):=by
 simp_arith [F4,(ai (aU (aD fN (rv 1) ag) (ak (aA (aJ du (aJ fA (rv 0) ag) ag))) aI)
   (ai (aU (aD (cn hr.aO) (rv 1) ag) (ak (aA (aJ du (aJ fA (rv 0) ag) ag))) aI)
   (ak (aA (aJ du (aJ fA (rv 0) ag) ag)))))]
 ·obtain ⟨n,m,rfl,_⟩:=h;rfl
 obtain ⟨n,m,rfl,n0,n1,q⟩:=h
 refine hX ?_
 simp_all! []
 split
 ·simp_all! [];exact ⟨by decide,q _ (by omega)⟩
 simp_all! []
 split
 ·simp_all! [];exact ⟨by decide,q _ (by omega)⟩
 ·simp_all! [];exact ⟨by decide,q _ (by omega)⟩
abbrev IW:Stmt:=(top 59)
abbrev j0:List Str:=["_law_leg","_law_moment"]
theorem yG:L2.aw ["_law_leg","_law_moment","_law_begun","_law_place","_law_way","_law_under"] ["_law_leg","_law_moment"] (L2.aj IW):=ed
theorem LX {f:Addr} {fd:FuncData} (F:cA K "_law_at" "_law_at" IW f fd) (Z:bW mg) (kH:bt P w K mg base 1 "_law_low" cX j_):aL P w K mg base (dh P w) 2 f fd j0 (d4 K ql):=by
 simp_arith [yG,(ai (aF (i:=2) yG.nd (aq ar (rv 0) ag))
   (ai (aF (i:=3) yG.nd (aq ar (rv 0) ag))
   (ai (aF (i:=4) yG.nd (aJ bO (aq ar (rv 0) ag) (aJ du (aJ bO (aq ar (rv 1) ag) (aq ar (rv 2) ag)) (aJ bO (aq ar (rv 2) ag) (aq ar (rv 1) ag)))))
   (ai (aF (i:=5) yG.nd (aJ bO (aq ar (rv 1) ag) (aq ar (rv 2) ag)))
   (ak (aA (aS kH B hr (af (aJ cS (aJ bO (aq ar (rv 3) ag) (rv 5)) (aJ bO (rv 4) (aq ar (rv 3) ag))) (af (aJ bO (aq ar (rv 3) ag) (rv 5)) ah)))))))))]
 ·obtain ⟨l,t,rfl,_⟩:=h;rfl
 obtain ⟨l,m,rfl,sb,sp,sm,bv,q⟩:=h
 refine hX ?_
 simp_all! [BB,NY,nS]
 have bn:Bd 1801 (m.num * l.m.den - l.m.num * m.den):=.sub (.mul sm.num sb.den (Nat.le_refl _)) (.mul sb.num sm.den (Nat.le_refl _))
 have bu:Bd 1800 ((m.den:Int) * l.m.den):=.mul sm.den sb.den
 have bw:Bd 1900 (l.v * (m.num * l.m.den - l.m.num * m.den)):=.mul bv bn
 refine ⟨.of sm.num sb.den,.of sb.num sm.den,.of bv bn,?_⟩
 simp_all! []
 refine ⟨.of sm.den sb.den,?_⟩
 simp_all! [j_]
 refine ⟨.of sp.num bu,.of bw sp.den,.of sp.den bu,Int.mul_pos (eY _) (Int.mul_pos (eY _) (eY _)),.mul sp.den bu,?_⟩
 rw [NF]
 exact q
abbrev qN:Stmt:=(top 57)
abbrev mC:List Str:=["_law_clock","_law_number","_law_bottom","_law_mode"]
theorem oP:L2.aw ["_law_clock","_law_number","_law_bottom","_law_mode","_law_under","_law_steps"] ["_law_clock","_law_number","_law_bottom","_law_mode"] (L2.aj qN):=ed
def B5:cJ:=fun xs J Q _=>∃ (c:Rat) (n b m:Int),xs=[fr c,.int n,.int b,.int m]∧0≤n∧0≤b∧0≤m∧m < 4∧n < 2 ^ 60∧Sz 900 c∧∀ q,Later c q→Q (fr q) J
theorem Dm {f:Addr} {fd:FuncData} (F:cA K "_law_later" "_law_later" qN f fd) (Z:bW mg) (kH:bt P w K mg base 1 "_law_low" cX j_):aL P w K mg base (dh P w) 2 f fd mC (d4 K B5):=by
 simp_arith [oP,(ai (aU (aD (cn hr.aO) (aJ fA (rv 1) ag) ag) (ak (aA (rv 0))) aI)
   (ai (aF (i:=4) oP.nd (aJ cS ag (aJ fA (rv 2) (aq ar (oA (wA [.int 4,.int 6,.int 60,.int 60] rfl [.int 4,.int 6,.int 60,.int 60] rfl)) (rv 3)))))
   (ai (aF (i:=5) oP.nd (aJ cS ag (aJ fA (aJ n6 (rv 1) ag) (aJ bO ag (rv 4)))))
   (cP (aU (aD (cn hr.aO) (rv 3) ag) (ak (aF (i:=5) oP.nd (aJ cS ag (aJ fA (aJ n6 (rv 1) ag) (aJ bO ag (rv 4)))))) aI)
   (ak (aA (aS kH B hr (af (aJ cS (aJ n6 (aJ bO (aq ar (rv 0) ag) (rv 4)) (aq ar (rv 0) ag)) (rv 5)) (af (rv 4) ah)))))))))]
 ·obtain ⟨c,n,b,m,rfl,_⟩:=h;rfl
 obtain ⟨c,n,b,m,rfl,n0,b0,m0,m1,n2,sc,q⟩:=h
 refine hX ?_
 simp_all! []
 refine ⟨by decide,?_⟩
 split
 ·simp_all! []
  exact q c (.inl rfl)
 obtain ⟨x,hx,x0,x1⟩:∃ x:Int,dJ [PV.int 4,PV.int 6,PV.int 60,PV.int 60] m=some (.int x)∧1≤x∧x≤60:=by
  rcases (by omega:m=0∨m=1∨m=2∨m=3) with e | e | e | e <;> subst e
  ·exact ⟨4,d5 _ _,by decide,by decide⟩
  ·exact ⟨6,f7 _ _ _,by decide,by decide⟩
  ·exact ⟨60,mj _ _ _ _,by decide,by decide⟩
  ·exact ⟨60,Eg _ _ _ _ _,by decide,by decide⟩
 have u0:0≤b % x:=Int.emod_nonneg _ (by omega)
 have u1:b % x < x:=Int.emod_lt_of_pos _ (by omega)
 have bu:Bd 64 (1 + b % x):=.small (by omega) (by omega)
 have b8:Bd 9000 8:=(Bd.small (x:=8) (by decide) (by decide)).mono (by decide)
 simp_all! [hx]
 refine ⟨by omega,?_⟩
 simp_all! []
 refine ⟨⟨by decide,b8⟩,.of (.small (x:=2) (by decide) (by decide)) bu,by omega,?_⟩
 generalize hu:1 + b % x=u at *
 have k0:0≤n.fdiv 8:=by rw [Int.fdiv_eq_ediv_of_nonneg _ (by decide)];exact Int.ediv_nonneg n0 (by decide)
 obtain ⟨M,hM⟩:∃ M:Sr→Hq→Prop,∀ τ' J',M τ' J'↔∃ s:Int,τ'=[some (fr c),some (.int n),some (.int b),some (.int m),some (.int u),some (.int s)]∧J'=J∧1≤s∧s≤500 * u:=⟨_,fun _ _=>Iff.rfl⟩
 simp_all! []
 refine ⟨M,?_,?_⟩
 ·simp_arith! [bI]
  have h2:0≤n.fdiv 8 % (2 * u):=Int.emod_nonneg _ (by omega)
  have h3:n.fdiv 8 % (2 * u) < 2 * u:=Int.emod_lt_of_pos _ (by omega)
  have h4:0≤n.fdiv 8 % (500 * u):=Int.emod_nonneg _ (by omega)
  have h5:n.fdiv 8 % (500 * u) < 500 * u:=Int.emod_lt_of_pos _ (by omega)
  split
  ·refine ⟨⟨by decide,b8⟩,.of (.small (x:=500) (by decide) (by decide)) bu,by omega,(hM _ _).mpr ⟨_,rfl,rfl,by omega,by omega⟩⟩
  ·exact (hM _ _).mpr ⟨_,rfl,rfl,by omega,by omega⟩
 ·intro τ' J' hm
  obtain ⟨s,rfl,rfl,s0,s1⟩:=(hM _ _).mp hm
  clear hm hM M
  simp_arith! [bI,j_]
  refine ⟨.of sc.num bu,⟨eZ c,sc.den.mono (by decide)⟩,by omega,bu.mono (by decide),?_⟩
  obtain ⟨u',rfl⟩:=Int.eq_ofNat_of_zero_le (show 0≤u by omega)
  obtain ⟨s',rfl⟩:=Int.eq_ofNat_of_zero_le (show 0≤s by omega)
  exact q _ (.inr ⟨u',s',by omega,by omega,by omega,by omega,rfl⟩)
theorem uH {α:Type} {V:α→PV} {lt:α→α→Bool} {ys:List α} {b:α} {r:Addr} {sp:cJ} {E2:Addr→Hq→Prop} {D:En} {τ:Sr} {J:Hq} {iO iA iR:Nat}
  (hO:τ[iO]?=some (some (.ref r))) (hR:τ[iR]?=some (some (V b))) (hA:τ[iA]?=some (some (.int 0))) (nO:iA≠iO) (nR:iA≠iR) (hJ:J r=some (.lst (ys.map V)))
  (hb:∀ y∈ys,∀ R:PV→Hq→Prop,R (.bl (lt y b)) J→sp [V y,V b] J R E2)
  (high:∀ {i j:Nat} {x y:α},ys[i]?=some x→ys[j]?=some y→i≤j→lt x b=false→lt y b=false)
  (fin:∀ j:Nat,j≤ys.length→(∀ (k:Nat) y,k < j→ys[k]?=some y→lt y b=true)→(∀ (k:Nat) y,j≤k→ys[k]?=some y→lt y b=false)→D.nx (τ.set iA (some (.int j))) J) :
  FX (IH (rB (xp (FQ fun i j=>.bl (decide (i < j))) (j2 iA) (OW Mr (lA (j2 iO) uf)))) (rB (yy sp E2 (lA (xp Kk (j2 iO) (j2 iA)) (lA (j2 iR) uf))))) (ue (xp (FQ fun i j=>.int (i + j)) (j2 iA) (rC (.int 1))) (Hs iA)) D τ J:=by
 have hl:iA < τ.length:=(List.getElem?_eq_some_iff.mp hA).1
 have sO:∀ x,(τ.set iA x)[iO]?=some (some (.ref r)):=fun x=>by rw [List.getElem?_set_ne nO];exact hO
 have sR:∀ x,(τ.set iA x)[iR]?=some (some (V b)):=fun x=>by rw [List.getElem?_set_ne nR];exact hR
 have sA:∀ x,(τ.set iA x)[iA]?=some x:=fun x=>List.getElem?_set_self hl
 refine ⟨fun m τ' J'=>∃ j:Nat,j≤ys.length∧m=ys.length - j∧τ'=τ.set iA (some (.int j))∧J'=J∧∀ (k:Nat) y,k < j→ys[k]?=some y→lt y b=true,⟨ys.length,0,Nat.zero_le _,rfl,?_,rfl,fun k y hk=>by omega⟩,?_⟩
 ·have h2:=List.set_getElem_self hl
  rw [(List.getElem?_eq_some_iff.mp hA).2] at h2
  exact h2.symm
 rintro m τ' J' ⟨j,hj,rfl,rfl,rfl,hlow⟩
 simp_all! [sO,sA,hJ,List.length_map]
 by_cases c0:j < ys.length
 ·rw [if_pos (by omega)]
  obtain ⟨y,hy⟩:∃ y,ys[j]?=some y:=⟨_,List.getElem?_eq_getElem c0⟩
  have ha:dJ (ys.map V) (j:Int)=some (V y):=bq (by rw [List.getElem?_map,hy];rfl)
  simp_all! [sO,sA,sR,hJ,ha]
  refine hb y (List.mem_of_getElem? hy) _ ?_
  refine sk rfl ?_
  cases hc:lt y b with
  | true =>
   rw [if_pos rfl]
   obtain ⟨N,hN⟩:∃ N:Sr→Hq→Prop,∀ τ' J'',N τ' J''↔∃ i:Nat,i≤ys.length∧ys.length - (j + 1)=ys.length - i∧τ'=τ.set iA (some (.int i))∧J''=J'∧∀ (k:Nat) y,k < i→ys[k]?=some y→lt y b=true:=⟨_,fun _ _=>Iff.rfl⟩
   refine ⟨N,fun τ'' J'' h=>⟨ys.length - (j + 1),by omega,(hN _ _).mp h⟩,?_⟩
   simp_arith! [bI,sA]
   refine (hN _ _).mpr ⟨j + 1,by omega,rfl,by rw [List.set_set,Int.natCast_succ],rfl,fun k z hk e=>?_⟩
   rcases Nat.lt_or_eq_of_le (Nat.lt_succ_iff.mp hk) with h | h
   ·exact hlow k z h e
   ·subst h;rw [hy] at e;cases e;exact hc
  | false =>
   rw [if_neg (by decide)]
   exact fin j hj hlow fun k z hk e=>high hy e hk hc
 ·rw [if_neg (by omega)]
  exact fin j hj hlow fun k z hk e=>by rw [List.getElem?_eq_none (by omega)] at e;cases e
section
variable {X:Cx}
theorem nB.or {f:Value→Value→Sem Value} {q q':nC} (h:nB X f q) (h':nB X f q'):nB X f (fun x y J Q=>q x y J Q∨q' x y J Q):=by
 obtain ⟨r,a,lr⟩:=h
 obtain ⟨r',a',lr'⟩:=h'
 refine ⟨fun x y H Q=>r x y H Q∨r' x y H Q,fun pins s σ H x y v u Q I rx ry h=>?_,fun J H x y v w Q2 Q rx ry rr h k=>?_⟩
 ·rcases h with h | h
  ·exact a pins s σ H x y v u Q I rx ry h
  ·exact a' pins s σ H x y v u Q I rx ry h
 ·rcases h with h | h
  ·exact .inl (lr J H x y v w Q2 Q rx ry rr h k)
  ·exact .inr (lr' J H x y v w Q2 Q rx ry rr h k)
end
def Ky.V (k:Ky):PV:=.tup [fr k.p,.int k.v,.str k.n]
theorem NW (J:Hq) (k:Ky):fY J k.V (.int 0)=some (fr k.p):=d5 _ _
theorem NX (J:Hq) (k:Ky):fY J k.V (.int 1)=some (.int k.v):=f7 _ _ _
theorem JJ (J:Hq) (k:Ky):fY J k.V (.int 2)=some (.str k.n):=mj _ _ _ _
theorem PF (p:Rat) (v:Int) (n:Str):PV.tup [fr p,.int v,.str n]=(Ky.mk p v n).V:=rfl
theorem uA (p q:Rat):(p.num * (q.den:Int) < q.num * (p.den:Int))=(p < q):=propext (Rat.lt_iff p q).symm
abbrev oF:Stmt:=(top 62)
abbrev gP:List Str:=["_law_one","_law_two"]
theorem pT:L2.aw ["_law_one","_law_two","_law_here","_law_there"] ["_law_one","_law_two"] (L2.aj oF):=ed
def sT:cJ:=fun xs J Q _=>(∃ a b:Ky,xs=[a.V,b.V]∧Sz 9000 a.p∧Sz 9000 b.p∧Q (.bl (a.lt b)) J)∨(∃ a b:aG,xs=[a.v,b.v]∧Sz 9000 a.m∧Sz 9000 b.m∧Q (.bl (a.lt b)) J)
theorem Ai {f:Addr} {fd:FuncData} (F:cA K "_law_before" "_law_before" oF f fd) (Z:bW mg):aL P w K mg base (dh P w) 1 f fd gP (d4 K sT):=by
 simp_arith [pT,(ai (aF (i:=2) pT.nd (aJ bO (aq ar (aq ar (rv 0) ag) ag) (aq ar (aq ar (rv 1) ag) ag)))
   (ai (aF (i:=3) pT.nd (aJ bO (aq ar (aq ar (rv 1) ag) ag) (aq ar (aq ar (rv 0) ag) ag)))
   (ai (aU (aD (km hr.aO) (rv 2) (rv 3)) (ak (aA (ff fN (rv 2) (rv 3)))) aI)
   (ai (aU (aD (km hr.aO) (aq ar (rv 0) ag) (aq ar (rv 1) ag)) (ak (aA (ff (nB.or fN Aq) (aq ar (rv 0) ag) (aq ar (rv 1) ag)))) aI)
   (ak (aA (ff Aq (aq ar (rv 0) ag) (aq ar (rv 1) ag))))))))]
 ·rcases h with ⟨a,b,rfl,_⟩ | ⟨a,b,rfl,_⟩ <;> rfl
 refine hX ?_
 rcases h with ⟨a,b,rfl,sa,sb,q⟩ | ⟨a,b,rfl,sa,sb,q⟩
 ·simp_arith! [bI,NW,NX,JJ]
  refine ⟨.of sa.num sb.den,.of sb.num sa.den,?_⟩
  unfold Ky.lt at q
  by_cases e:a.p=b.p
  ·rw [if_pos e] at q
   rw [if_pos ((lN _ _).mpr e)]
   by_cases k:a.v=b.v
   ·rw [if_pos k] at q ⊢;exact q
   ·rw [if_neg k] at q ⊢;exact .inl q
  ·rw [if_neg e] at q
   rw [if_neg (fun z=>e ((lN _ _).mp z))]
   simp only [uA]
   exact q
 ·simp_arith! [bI,ES,ET,EU]
  refine ⟨.of sa.num sb.den,.of sb.num sa.den,?_⟩
  unfold aG.lt at q
  by_cases e:a.m=b.m
  ·rw [if_pos e] at q
   rw [if_pos ((lN _ _).mpr e)]
   by_cases k:a.h=b.h
   ·rw [if_pos k] at q ⊢;exact q
   ·rw [if_neg k] at q ⊢;exact .inr q
  ·rw [if_neg e] at q
   rw [if_neg (fun z=>e ((lN _ _).mp z))]
   simp only [uA]
   exact q
abbrev oI:Stmt:=(top 63)
abbrev iX:List Str:=["_law_legs","_law_moment"]
theorem jw:L2.aw ["_law_legs","_law_moment","_law_out","_law_name","_law_row","_law_at_here"] ["_law_legs","_law_moment"] (L2.aj oI):=ed
def sW:cJ:=fun xs J Q _=>∃ (D:Addr) (fs:List (Str × aY)) (ep:Nat) (t:Rat),xs=[.ref D,fr t]∧J D=some (.dct (cb fs) ep)∧(fs.map (·.1)).Nodup∧fs.length≤100∧Sz 900 t∧(∀ x∈fs,qo 900 x.2)∧Q (.fl ((cf t fs).map .str)) J
theorem Dp {f:Addr} {fd:FuncData} (F:cA K "_law_order" "_law_order" oI f fd) (Z:bW mg) (za:bt P w K mg base 2 "_law_at" j0 ql) (rb:bt P w K mg base 1 "_law_before" gP sT):aL P w K mg base (dh P w) 3 f fd iX (d4 K sW):=by
 simp_arith [jw,(ai (aF (i:=2) jw.nd (m6 ah))
   (ai (fE cx rfl (BU (rv 0)) (bP (i:=3) jw.nd) (ai (aF (i:=4) jw.nd (cm (af (aS za B hr (af (aq eI (rv 0) (rv 3)) (af (rv 1) ah))) (af (aq ar (aq eI (rv 0) (rv 3)) ag) (af (rv 3) ah)))))
   (ai (aF (i:=5) jw.nd ag)
   (ai (lD cx (dC (eJ (aD fN (rv 5) (aM b7 rfl Z.len boot_len (af (rv 2) ah))) (dB (bX (aS rb B hr (af (aq ar (rv 2) (rv 5)) (af (rv 4) ah))))))) (ak (aF (i:=5) jw.nd (aJ cS (rv 5) ag))))
   (ak (bh (oz PySem.F.plainAttrs_list PySem.F.slot_list_insert PySem.F.type_list_insert lR (rv 2) (af (rv 5) (af (rv 4) ah)))))))))
   (ak (aA (Kx (L2.aj oI) ["_law_legs","_law_moment","_law_out","_law_name","_law_row","_law_at_here"] [] rfl rfl rfl (fG (rv 2)) (fun _ _ _ _ _ _=>(aq ar (rv 0) ag))))))),F]
 ·obtain ⟨D,fs,ep,t,rfl,_⟩:=h;rfl
 obtain ⟨D,fs,ep,t,rfl,hD,hnd,hlen,st,sl,q⟩:=h
 refine hX ?_
 simp_all! []
 intro r hr'
 have nDr:D≠r:=by intro e;subst e;rw [hD] at hr';cases hr'
 simp_all! [au nDr,hD]
 have hkv:(cb fs).map (fun kv=>PV.str kv.1)=fs.map fun x=>PV.str x.1:=by unfold cb;rw [List.map_map];rfl
 rw [hkv]
 obtain ⟨Inv,hInv⟩:∃ Inv:Nat→Sr→Hq→Prop,∀ i τ J',Inv i τ J'↔∃ (u3 u4 u5:Option PV),τ=[some (.ref D),some (fr t),some (.ref r),u3,u4,u5]∧J'=put J r (.lst ((cF ((fs.take i).map (key t))).map Ky.V)):=⟨_,fun _ _ _=>Iff.rfl⟩
 refine jO Inv ((hInv _ _ _).mpr ⟨_,_,_,rfl,rfl⟩) (fun i τ J' h=>?_) ?_ ?_
 ·obtain ⟨_,_,_,_,rfl⟩:=(hInv _ _ _).mp h
  rw [au nDr];exact hD
 ·intro i x τ J' hx hv
  obtain ⟨u3,u4,u5,rfl,rfl⟩:=(hInv _ _ _).mp hv
  clear hv
  have hi:i < fs.length:=by have:=(List.getElem?_eq_some_iff.mp hx).1;simpa using this
  rw [List.getElem?_map,List.getElem?_eq_getElem hi] at hx
  cases hx
  rcases hfi:fs[i] with ⟨n,l⟩
  have hmem:(n,l)∈fs:=by rw [← hfi];exact List.getElem_mem hi
  have et:fs.take (i + 1)=fs.take i ++ [(n,l)]:=by rw [List.take_add_one,List.getElem?_eq_getElem hi,hfi];rfl
  have hndt:((fs.take i).map (·.1)).Nodup:=by rw [List.map_take];exact hnd.sublist (List.take_sublist _ _)
  obtain ⟨ys,hys⟩:∃ ys,cF ((fs.take i).map (key t))=ys:=⟨_,rfl⟩
  have srt:pe Ky.lt ys:=by rw [← hys];exact cT (by rw [dq];exact hndt)
  have hyl:ys.length=i:=by rw [← hys,jj,List.length_map,List.length_take];omega
  have hym:∀ y∈ys,Sz 9000 y.p:=fun y hy=>by
   rw [← hys,bz,List.mem_map] at hy
   obtain ⟨x',hx',rfl⟩:=hy
   exact (kL (sl x' (List.mem_of_mem_take hx')) st).mono (by decide)
  have en:cF ((fs.take (i + 1)).map (key t))=qr Ky.lt (key t (n,l)) ys:=by rw [et,List.map_append,List.map_cons,List.map_nil,jk,hys]
  rw [hys]
  have hvn:nk (cb fs) n=some l.V:=ki (f:=aY.V) hnd hmem
  have sll:=sl _ hmem
  simp_all! [au nDr,hD,hvn]
  refine ⟨l,t,rfl,sll.m,sll.p,st,sll.v,?_⟩
  simp_all! [au nDr,hD,hvn,nS,PF]
  have ek:(Ky.mk (l.at t) l.v n)=key t (n,l):=rfl
  rw [ek]
  have skn:Sz 9000 (key t (n,l)).p:=(kL sll st).mono (by decide)
  generalize key t (n,l)=kn at en skn ⊢
  refine uH (V:=Ky.V) (lt:=Ky.lt) (ys:=ys) (b:=kn) (iO:=2) (iA:=5) (iR:=4) rfl rfl rfl (by decide) (by decide) av (fun y hy R hR=>.inl ⟨y,kn,rfl,hym y hy,skn,hR⟩) (fun hx hy h k=>DJ (lt:=Ky.lt) Ky.tr srt hx hy h k) fun j hj hlow hhigh=>?_
  simp_all! [av]
  refine ⟨_,j,rfl,rfl,by rw [List.length_map];exact hj,bp (by rw [List.length_map];omega),by omega,?_⟩
  rw [fe]
  refine (hInv _ _ _).mpr ⟨_,_,_,rfl,?_⟩
  rw [en,← Bx hj hlow hhigh,List.map_append,List.map_cons,List.map_take,List.map_drop]
 ·intro τ J' hv
  obtain ⟨u3,u4,u5,rfl,rfl⟩:=(hInv _ _ _).mp hv
  rw [List.length_map,List.take_length]
  simp_all! [wz,av]
  refine ⟨fun _=>true,(fun x=>match x with | .tup [_,_,n]=>n | _=>.non),⟨bp (by rw [List.length_map,jj,List.length_map];omega),fun J2 hs=>⟨hs _ _ av,fun x hx=>⟨⟨rfl,rfl⟩,fun _=>?_⟩⟩⟩,?_⟩
  ·obtain ⟨y,hy,rfl⟩:=List.mem_map.mp hx
   simp_arith! [bI,JJ]
   rfl
  ·rw [List.filter_eq_self.mpr fun _ _=>rfl,List.map_map]
   have e:(cf t fs).map PV.str=(cF (fs.map (key t))).map ((fun x=>match x with | .tup [_,_,n]=>n | _=>.non) ∘ Ky.V):=by unfold cf;rw [List.map_map];rfl
   rw [e] at q
   exact Fg.less (kS hr') q
abbrev qS:Stmt:=(top 51)
abbrev mF:List Str:=["_law_found","_law_due_here"]
theorem yJ:L2.aw ["_law_found","_law_due_here","_law_one"] ["_law_found","_law_due_here"] (L2.aj qS):=ed
def Cb:cJ:=fun xs J Q _=>∃ ss:List Str,xs=[.fl (ss.map .str),.fl (ss.map .str)]∧ss.length≤900∧Q (.bl true) J
theorem FN (ss:List Str):gZ (ss.map PV.str)=true:=by
 induction ss with
 | nil=>rfl
 | cons x ss ih=>rw [List.map_cons,pO,wq,ih];rfl
theorem Ep (ss:List Str):dQ (fP (ss.map PV.str))≤1:=by
 induction ss with
 | nil=>simp [fP,dQ]
 | cons x ss ih=>simp only [List.map_cons,fP,fZ,dQ,dep];omega
theorem Bc (ss:List Str):GL (.fl (ss.map .str)):=⟨by unfold lV;exact FN ss,by
 have:=Ep ss
 simp only [fZ,dep];omega⟩
theorem Ds {f:Addr} {fd:FuncData} (F:cA K "_law_words" "_law_words" qS f fd) (Z:bW mg):aL P w K mg base (dh P w) 1 f fd mF (d4 K Cb):=by
 simp_arith [yJ,(ai (aU (dC (ku (dw (bX (aM jL rfl Z.isinstance boot_isinstance (af (rv 0) (af (oB rfl Z.list boot_list) ah))))) (i4 (aD (km hr.aO) (aM b7 rfl Z.len boot_len (af (rv 0) ah)) (aM b7 rfl Z.len boot_len (af (rv 1) ah)))))) (ak (aA fQ)) aI)
   (ai (fE cx rfl (fG (rv 0)) (bP (i:=2) yJ.nd) (ak (aU (dw (bX (aM jL rfl Z.isinstance boot_isinstance (af (rv 2) (af (oB rfl Z.str boot_str) ah))))) (ak (aA fQ)) aI)))
   (ak (aA (ff (cn hr.aO) (rv 0) (rv 1))))))]
 ·obtain ⟨ss,rfl,_⟩:=h;rfl
 obtain ⟨ss,rfl,hl,q⟩:=h
 refine hX ?_
 simp_all! [List.length_map]
 obtain ⟨Inv,hInv⟩:∃ Inv:Nat→Sr→Hq→Prop,∀ i τ J',Inv i τ J'↔∃ u:Option PV,τ=[some (.fl (ss.map .str)),some (.fl (ss.map .str)),u]∧J'=J:=⟨_,fun _ _ _=>Iff.rfl⟩
 refine jO Inv ((hInv _ _ _).mpr ⟨_,rfl,rfl⟩) (fun _ _ _ _=>trivial) ?_ ?_
 ·intro i x τ J' hx hv
  obtain ⟨u,rfl,rfl⟩:=(hInv _ _ _).mp hv
  obtain ⟨y,_,rfl⟩:=List.mem_map.mp (List.mem_of_getElem? hx)
  simp_all! []
  exact (hInv _ _ _).mpr ⟨_,rfl,rfl⟩
 ·intro τ J' hv
  obtain ⟨u,rfl,rfl⟩:=(hInv _ _ _).mp hv
  simp_all! []
  refine ⟨Bc ss,(Bc ss).1,?_⟩
  rw [eq_self];exact q
abbrev l7:Stmt:=(top 52)
abbrev kq:List Str:=["_law_found","_law_due_here"]
theorem AK:L2.aw ["_law_found","_law_due_here"] ["_law_found","_law_due_here"] (L2.aj l7):=ed
def pX:cJ:=fun xs J Q _=>∃ a:aG,xs=[a.v,a.v]∧Q (.bl true) J
theorem ye {f:Addr} {fd:FuncData} (F:cA K "_law_passrow" "_law_passrow" l7 f fd) (Z:bW mg) (zf:bt P w K mg base 2 "_law_part" j1 qX):aL P w K mg base (dh P w) 3 f fd kq (d4 K pX):=by
 simp_arith [AK,(ai (aU (dC (ku (dw (bX (aM jL rfl Z.isinstance boot_isinstance (af (rv 0) (af (oB rfl Z.tuple boot_tuple) ah))))) (i4 (aD (km hr.aO) (aM b7 rfl Z.len boot_len (af (rv 0) ah)) ag)))) (ak (aA fQ)) aI)
   (ai (aU (dC (ku (dw (bX (aM jL rfl Z.isinstance boot_isinstance (af (aq ar (rv 0) ag) (af (oB rfl Z.str boot_str) ah))))) (i4 (dw (bX (aM jL rfl Z.isinstance boot_isinstance (af (aq ar (rv 0) ag) (af (oB rfl Z.str boot_str) ah)))))))) (ak (aA fQ)) aI)
   (ak (aA (AI (aS zf B hr (af (aq ar (rv 0) ag) (af (aq ar (rv 1) ag) ah))) (wB (ff (cn hr.aO) (rv 0) (rv 1))))))))]
 ·obtain ⟨a,rfl,_⟩:=h;rfl
 obtain ⟨a,rfl,q⟩:=h
 refine hX ?_
 simp_arith! [bI,qX,ES,ET,EU,RJ,N2,Qq,Kg,Qs]
 exact q
abbrev j8:Stmt:=(top 53)
abbrev jq:List Str:=["_law_found","_law_due_here"]
theorem qk:L2.aw ["_law_found","_law_due_here","_law_k"] ["_law_found","_law_due_here"] (L2.aj j8):=ed
def sX:cJ:=fun xs J Q _=>∃ (rows:List aG) (x:PV),xs=[x,.fl (rows.map aG.v)]∧nt J x=some (rows.map aG.v)∧rows.length≤900∧Q (.bl true) J
theorem v8 {f:Addr} {fd:FuncData} (F:cA K "_law_passrows" "_law_passrows" j8 f fd) (Z:bW mg) (Cv:bt P w K mg base 3 "_law_passrow" kq pX):aL P w K mg base (dh P w) 4 f fd jq (d4 K sX):=by
 simp_arith [qk,(ai (aU (dC (ku (dw (bX (aM jL rfl Z.isinstance boot_isinstance (af (rv 0) (af (oB rfl Z.list boot_list) ah))))) (i4 (aD (km hr.aO) (aM b7 rfl Z.len boot_len (af (rv 0) ah)) (aM b7 rfl Z.len boot_len (af (rv 1) ah)))))) (ak (aA fQ)) aI)
   (ai (fE cx rfl (lX rfl Z.range (af (aM b7 rfl Z.len boot_len (af (rv 1) ah)) ah)) (bP (i:=2) qk.nd) (ak (aU (dw (bX (aS Cv B hr (af (aq ar (rv 0) (rv 2)) (af (aq ar (rv 1) (rv 2)) ah))))) (ak (aA fQ)) aI)))
   (ak (aA fQ))))]
 ·obtain ⟨rows,x,rfl,_⟩:=h;rfl
 obtain ⟨rows,x,rfl,hx,hl,q⟩:=h
 refine hX ?_
 simp_arith! [bI,List.length_map,Og hx,E7 hx]
 refine ⟨by omega,by omega,vF (fun i τ J'=>∃ u:Option PV,τ=[some x,some (.fl (rows.map aG.v)),u]∧J'=J) ⟨none,rfl,rfl⟩ ?_ ?_⟩
 ·rintro i τ J' hi ⟨u,rfl,rfl⟩
  have hi:i < rows.length:=by omega
  have ha:dJ (rows.map aG.v) (0 + (i:Int))=some (rows[i].v):=by rw [Int.zero_add];exact Eh (List.getElem?_eq_getElem hi)
  simp_arith! [bI,JT hx,ha,pX]
  exact ⟨_,rfl,rfl⟩
 ·rintro τ J' ⟨u,rfl,rfl⟩
  exact q
theorem Cq {t p q:Rat} {v:Int} (hv:0 < v):Rat.divInt (t.num * ((p.den:Int) * (q.den:Int) * v) + (q.num * (p.den:Int) - p.num * (q.den:Int)) * (t.den:Int)) ((t.den:Int) * ((p.den:Int) * (q.den:Int) * v))=t + (q - p) / (v:Rat):=by
 have a:=cast_eq t
 have b:=cast_eq p
 have c:=cast_eq q
 have d:=d7 t
 have e:=d7 p
 have f:=d7 q
 have k:(v:Rat)≠0:=p_ (by omega)
 rw [Rat.divInt_eq_div]
 simp only [Rat.intCast_mul,Rat.intCast_add,Rat.intCast_sub,a,b,c]
 generalize (((t.den:Int)):Rat)=x at d ⊢
 generalize (((p.den:Int)):Rat)=y at e ⊢
 generalize (((q.den:Int)):Rat)=z at f ⊢
 generalize (v:Rat)=w at k ⊢
 have h1:y * z≠0:=fun h=>by rcases Rat.mul_eq_zero.mp h with h | h <;> contradiction
 have h2:y * z * w≠0:=fun h=>by rcases Rat.mul_eq_zero.mp h with h | h <;> contradiction
 have h3:x * (y * z * w)≠0:=fun h=>by rcases Rat.mul_eq_zero.mp h with h | h <;> contradiction
 grind
theorem qo.A8 {l:aY} (h:qo 240 l) {t:Rat} (st:Sz 240 t):Sz 790 (l.at t):=by
 have s1:Sz 481 (t - l.m):=st.sub h.m
 have s2:Sz 545 ((t - l.m) * (l.v:Rat)):=s1.mul h.v
 exact h.p.add s2
theorem Cr {t p q:Rat} {v:Int} (st:Sz 240 t) (sp:Sz 790 p) (sq:Sz 790 q) (bv:Bd 70 v) (hv:0 < v):Bd 1650 ((p.den:Int) * (q.den:Int) * v)∧Bd 1590 (q.num * (p.den:Int) - p.num * (q.den:Int))∧Bd 1900 ((t.den:Int) * ((p.den:Int) * (q.den:Int) * v))∧Sz 9000 (t + (q - p) / (v:Rat)):=by
 have h1:Bd 1650 ((p.den:Int) * (q.den:Int) * v):=.mul (.mul (k:=1580) sp.den sq.den) bv
 have h2:Bd 1590 (q.num * (p.den:Int) - p.num * (q.den:Int)):=.sub (Bd.mul (k:=1580) sq.num sp.den) (Bd.mul (k:=1580) sp.num sq.den)
 have h3:Bd 1900 ((t.den:Int) * ((p.den:Int) * (q.den:Int) * v)):=.mul st.den h1
 refine ⟨h1,h2,h3,?_⟩
 rw [← Cq hv]
 have hd:0 < (t.den:Int) * ((p.den:Int) * (q.den:Int) * v):=Int.mul_pos (eY _) (Int.mul_pos (Int.mul_pos (eY _) (eY _)) hv)
 exact (Sz.div (n:=1901) (.add (Bd.mul (k:=1900) st.num h1) (Bd.mul (k:=1900) h2 st.den)) (h3.mono (by decide)) (by omega)).mono (by decide)
theorem b_.NO {L:Ln} (ok:b_ L):L.fs.length≤12:=by
 have:=ok.rl
 rw [ok.row,yo] at this;exact this
theorem zI (t:Rat) (ks:List Ky) (h:(ks.map Ky.n).Nodup):(fV t ks).length≤ks.length:=by
 rw [← tw h]
 have h1:=pq t cM ((cF ks).zip (cF ks).tail)
 rw [List.length_zip,jj] at h1
 omega
def JD (t:Rat) (fs gs:List (Str × aY)):Prop:=∀ x,x∈fs.map (key t)↔x∈gs.map (key t)
abbrev l8:Stmt:=(top 67)
abbrev kr:List Str:=["_law_legs","_law_clock"]
theorem bT:L2.aw ["_law_legs","_law_clock","_law_row","_law_out","_law_k","_law_here","_law_there","_law_pace","_law_top","_law_under","_law_when","_law_bell","_law_at_here"] ["_law_legs","_law_clock"] (L2.aj l8):=ed
def Gj:cJ:=fun xs J Q _=>∃ (D:Addr) (fs:List (Str × aY)) (ep:Nat) (t:Rat),xs=[.ref D,fr t]∧J D=some (.dct (cb fs) ep)∧(fs.map (·.1)).Nodup∧fs.length≤20∧Sz 240 t∧(∀ x∈fs,qo 240 x.2)∧Q (.fl ((fV t (fs.map (key t))).map aG.v)) J
theorem yf {f:Addr} {fd:FuncData} (F:cA K "_law_ringdue" "_law_ringdue" l8 f fd) (Z:bW mg) (vc:bt P w K mg base 3 "_law_order" iX sW) (za:bt P w K mg base 2 "_law_at" j0 ql) (kH:bt P w K mg base 1 "_law_low" cX j_) (rb:bt P w K mg base 1 "_law_before" gP sT):aL P w K mg base (dh P w) 4 f fd kr (d4 K Gj):=by
 simp_arith [bT,(ai (aF (i:=2) bT.nd (aS vc B hr (af (rv 0) (af (rv 1) ah))))
   (ai (aF (i:=3) bT.nd (m6 ah))
   (ai (fE cx rfl (lX rfl Z.range (af (aJ du (aM b7 rfl Z.len boot_len (af (rv 2) ah)) ag) ah)) (bP (i:=4) bT.nd) (ai (aF (i:=5) bT.nd (aS za B hr (af (aq eI (rv 0) (aq ar (rv 2) (rv 4))) (af (rv 1) ah))))
   (ai (aF (i:=6) bT.nd (aS za B hr (af (aq eI (rv 0) (aq ar (rv 2) (aJ cS (rv 4) ag))) (af (rv 1) ah))))
   (ai (aF (i:=7) bT.nd (aJ du (aq ar (aq eI (rv 0) (aq ar (rv 2) (rv 4))) ag) (aq ar (aq eI (rv 0) (aq ar (rv 2) (aJ cS (rv 4) ag))) ag)))
   (ak (aU (aD ji (rv 7) ag) (ai (aF (i:=8) bT.nd (aJ du (aJ bO (aq ar (rv 6) ag) (aq ar (rv 5) ag)) (aJ bO (aq ar (rv 5) ag) (aq ar (rv 6) ag))))
   (ai (aF (i:=9) bT.nd (aJ bO (aJ bO (aq ar (rv 5) ag) (aq ar (rv 6) ag)) (rv 7)))
   (ai (aF (i:=10) bT.nd (aS kH B hr (af (aJ cS (aJ bO (aq ar (rv 1) ag) (rv 9)) (aJ bO (rv 8) (aq ar (rv 1) ag))) (af (aJ bO (aq ar (rv 1) ag) (rv 9)) ah))))
   (ai (aF (i:=11) bT.nd (cm (af (rv 10) (af (aq ar (rv 2) (rv 4)) (af (aq ar (rv 2) (aJ cS (rv 4) ag)) ah)))))
   (ai (aF (i:=12) bT.nd ag)
   (ai (lD cx (dC (eJ (aD fN (rv 12) (aM b7 rfl Z.len boot_len (af (rv 3) ah))) (dB (bX (aS rb B hr (af (aq ar (rv 3) (rv 12)) (af (rv 11) ah))))))) (ak (aF (i:=12) bT.nd (aJ cS (rv 12) ag))))
   (ak (bh (oz PySem.F.plainAttrs_list PySem.F.slot_list_insert PySem.F.type_list_insert lR (rv 3) (af (rv 12) (af (rv 11) ah))))))))))) aI))))))
   (ak (aA (rv 3)))))),F]
 ·obtain ⟨D,fs,ep,t,rfl,_⟩:=h;rfl
 obtain ⟨D,fs,ep,t,rfl,hD,hnd,hlen,st,sl,q⟩:=h
 refine hX ?_
 simp_all! []
 refine ⟨D,fs,ep,t,rfl,hD,hnd,by omega,st.mono (by decide),fun x hx=>(sl x hx).mono (by decide),?_⟩
 simp_all! []
 intro r hr'
 have nDr:D≠r:=by intro e;subst e;rw [hD] at hr';cases hr'
 obtain ⟨ks,hks⟩:∃ ks,cF (fs.map (key t))=ks:=⟨_,rfl⟩
 have hrow:(cf t fs).map PV.str=ks.map fun k=>PV.str k.n:=by unfold cf;rw [hks,List.map_map];rfl
 have hkn0:((fs.map (key t)).map Ky.n).Nodup:=by rw [dq];exact hnd
 have hks':pe Ky.lt ks:=by rw [← hks];exact cT hkn0
 have hkn:(ks.map Ky.n).Nodup:=by rw [← hks];exact l_ (cT hkn0) (fun x hx y hy e=>jh hkn0 x ((bz _ _).mp hx) y ((bz _ _).mp hy) e)
 have hkd:ks.Nodup:=List.Pairwise.of_map Ky.n (fun a b h e=>h (by rw [e])) hkn
 have hkl:ks.length=fs.length:=by rw [← hks,jj,List.length_map]
 have hkf:∀ a∈ks,∃ l,(a.n,l)∈fs∧a=key t (a.n,l):=fun a ha=>by
  rw [← hks,bz] at ha
  obtain ⟨x,hx,rfl⟩:=List.mem_map.mp ha
  exact ⟨x.2,hx,rfl⟩
 have hmz:∀ a∈ks,∀ b∈ks,b.v < a.v→Sz 9000 (e9 t a b):=fun a ha b hb h=>by
  obtain ⟨l,hl,ea⟩:=hkf a ha
  obtain ⟨l',hl',eb⟩:=hkf b hb
  have hv:l'.v < l.v:=by rw [ea,eb] at h;exact h
  rw [ea,eb]
  exact (Cr (v:=l.v - l'.v) st ((sl _ hl).A8 st) ((sl _ hl').A8 st) (((sl _ hl).v.sub (k:=66) (sl _ hl').v).mono (by decide)) (by omega)).2.2.2
 rw [hrow]
 simp_all! [au nDr,hD,List.length_map]
 generalize hps:ks.zip ks.tail=ps
 have hpl:ps.length=ks.length - 1:=by rw [← hps,List.length_zip,List.length_tail];omega
 have hpm:∀ x∈ps,x.1∈ks∧x.2∈ks:=fun x hx=>by
  rw [← hps] at hx
  obtain ⟨i,h3,h4⟩:=dg.mp (show (x.1,x.2)∈_ from hx)
  exact ⟨List.mem_of_getElem? h3,List.mem_of_getElem? h4⟩
 have hup:∀ i,∀ x∈bS t cM (ps.take i),Sz 9000 x.m:=fun i x hx=>by
  obtain ⟨p,hp',hc,rfl⟩:=je _ hx
  have:=hpm p (List.mem_of_mem_take hp')
  exact hmz _ this.1 _ this.2 (of_decide_eq_true hc)
 refine ⟨by omega,by omega,?_⟩
 have hrn:((ks.length:Int) - 1).toNat=ps.length:=by omega
 rw [hrn]
 obtain ⟨Inv,hInv⟩:∃ Inv:Nat→Sr→Hq→Prop,∀ i τ J',Inv i τ J'↔∃ (u4 u5 u6 u7 u8 u9 u10 u11 u12:Option PV),τ=[some (.ref D),some (fr t),some (.fl (ks.map fun k=>PV.str k.n)),some (.ref r),u4,u5,u6,u7,u8,u9,u10,u11,u12]∧J'=put J r (.lst ((bS t cM (ps.take i)).map aG.v)):=⟨_,fun _ _ _=>Iff.rfl⟩
 refine vF Inv ((hInv _ _ _).mpr ⟨_,_,_,_,_,_,_,_,_,rfl,rfl⟩) ?_ ?_
 ·intro i τ J' hi hv
  obtain ⟨u4,u5,u6,u7,u8,u9,u10,u11,u12,rfl,rfl⟩:=(hInv _ _ _).mp hv
  clear hv
  have hpi:ps[i]?=some ps[i]:=List.getElem?_eq_getElem hi
  have et:ps.take (i + 1)=ps.take i ++ [ps[i]]:=by rw [List.take_add_one,hpi];rfl
  rcases hab:ps[i] with ⟨a,y⟩
  rw [hab] at hpi et
  have hpi0:=hpi
  rw [← hps] at hpi
  obtain ⟨ha,hb⟩:=List.getElem?_zip_eq_some.mp hpi
  rw [List.getElem?_tail] at hb
  simp only at ha hb
  have hak:=List.mem_of_getElem? ha
  have hbk:=List.mem_of_getElem? hb
  have srt:=jc t cM (ps.take i)
  have szs:=hup i
  have hle:=pq t cM (ps.take i)
  rw [List.length_take] at hle
  have ef2:bS t cM (ps.take (i + 1))=iY t cM (bS t cM (ps.take i)) (a,y):=by rw [et];exact eG _ _ _ _
  have hdr:dk a.n y.n (bS t cM (ps.take i))=bS t cM (ps.take i):=by
   refine CS (p:=(a,y)) (xx.of hkn fun p hp=>?_) fun hm=>?_
   ·rcases List.mem_append.mp hp with hp | hp
    ·exact hpm p (List.mem_of_mem_take hp)
    ·rw [List.mem_singleton] at hp;subst hp;exact ⟨hak,hbk⟩
   ·obtain ⟨j,hj⟩:=List.mem_iff_getElem?.mp hm
    rw [List.getElem?_take] at hj
    split at hj
    ·rename_i hji
     rw [← hps] at hj
     obtain ⟨h1,_⟩:=List.getElem?_zip_eq_some.mp hj
     simp only at h1
     obtain ⟨k1,e1⟩:=List.getElem?_eq_some_iff.mp h1
     obtain ⟨k2,e2⟩:=List.getElem?_eq_some_iff.mp ha
     have:=(List.getElem_inj hkd).mp (e1.trans e2.symm)
     omega
    ·cases hj
  generalize bS t cM (ps.take i)=rows at hle ef2 srt szs hdr ⊢
  obtain ⟨l,hmem,ea⟩:=hkf a hak
  obtain ⟨l',hmem',eb⟩:=hkf y hbk
  have hvn:nk (cb fs) a.n=some l.V:=ki (f:=aY.V) hnd hmem
  have hvn':nk (cb fs) y.n=some l'.V:=ki (f:=aY.V) hnd hmem'
  have sll:=sl _ hmem
  have sla:=sll.A8 st
  have sll':=sl _ hmem'
  have sla':=sll'.A8 st
  have h1:dJ (ks.map fun k=>PV.str k.n) (0 + (i:Int))=some (.str a.n):=by rw [Int.zero_add];exact bq (by rw [List.getElem?_map,ha];rfl)
  have h2:dJ (ks.map fun k=>PV.str k.n) (0 + (i:Int) + 1)=some (.str y.n):=by rw [Int.zero_add,show (i:Int) + 1=((i + 1:Nat):Int) by omega];exact bq (by rw [List.getElem?_map,hb];rfl)
  have eav:a.v=l.v:=by rw [ea];rfl
  have ebv:y.v=l'.v:=by rw [eb];rfl
  simp_all! [h1,au nDr,hD,hvn]
  refine ⟨l,t,rfl,sll.m.mono (by decide),sll.p.mono (by decide),st.mono (by decide),sll.v,?_⟩
  simp_all! [h2,au nDr,hD,hvn']
  refine ⟨l',t,rfl,sll'.m.mono (by decide),sll'.p.mono (by decide),st.mono (by decide),sll'.v,?_⟩
  simp_all! [h1,h2,au nDr,hD,hvn,hvn',nS]
  by_cases c1n:¬ 0 < l.v - l'.v
  ·rw [if_neg c1n]
   have hc:cM (a,y)=false:=decide_eq_false (fun z=>by have:y.v < a.v:=z;omega)
   have e:iY t cM rows (a,y)=rows:=by unfold iY;rw [if_neg (by rw [hc];decide)]
   exact (hInv _ _ _).mpr ⟨_,_,_,_,_,_,_,_,_,rfl,by rw [ef2,e]⟩
  have c1:=Decidable.not_not.mp c1n
  rw [if_pos c1]
  have bv:Bd 70 (l.v - l'.v):=(sll.v.sub (k:=66) sll'.v).mono (by decide)
  obtain ⟨z1,z2,z3,z4⟩:=Cr st sla sla' bv c1
  have ew:t + (l'.at t - l.at t) / ((l.v - l'.v:Int):Rat)=e9 t a y:=by rw [ea,eb];rfl
  have hd:0 < (t.den:Int) * (((l.at t).den:Int) * ((l'.at t).den:Int) * (l.v - l'.v)):=Int.mul_pos (eY _) (Int.mul_pos (Int.mul_pos (eY _) (eY _)) c1)
  simp_all! []
  refine ⟨.of sla'.num sla.den,.of sla.num sla'.den,?_⟩
  simp_all! []
  refine ⟨.of sla.den sla'.den,.of (Bd.mul (k:=1580) sla.den sla'.den) bv,?_⟩
  simp_all! [j_]
  refine ⟨.of st.num z1,.of z2 st.den,.of st.den z1,hd,z3.mono (by decide),?_⟩
  rw [Cq c1,ew]
  rw [ew] at z4
  have hcp:cM (a,y)=true:=decide_eq_true (by show y.v < a.v;omega)
  have eput:iY t cM rows (a,y)=kC ⟨e9 t a y,a.n,y.n⟩ rows:=by
   unfold iY
   rw [if_pos hcp]
   show kC _ (dk a.n y.n rows)=_;rw [hdr];rfl
  generalize e9 t a y=wh at z4 eput ⊢
  simp_all! [h1,h2,KJ]
  obtain ⟨row,hrow'⟩:∃ row:aG,aG.mk wh a.n y.n=row:=⟨_,rfl⟩
  have erm:row.m=wh:=by rw [← hrow']
  rw [hrow'] at eput ⊢
  refine uH (V:=aG.v) (lt:=aG.lt) (ys:=rows) (b:=row) (iO:=3) (iA:=12) (iR:=11) rfl rfl rfl (by decide) (by decide) av (fun x hx R hR=>.inr ⟨x,row,rfl,szs x hx,by rw [erm];exact z4,hR⟩) (fun hx hy h k=>yY srt hx hy h k) fun j hj hlow hhigh=>?_
  simp_all! [av]
  refine ⟨_,j,rfl,rfl,by rw [List.length_map];exact hj,bp (by rw [List.length_map];omega),by omega,?_⟩
  rw [fe]
  refine (hInv _ _ _).mpr ⟨_,_,_,_,_,_,_,_,_,rfl,?_⟩
  rw [ef2,eput,← Bw hj hlow hhigh,List.map_append,List.map_cons,List.map_take,List.map_drop]
 ·intro τ J' hv
  obtain ⟨u4,u5,u6,u7,u8,u9,u10,u11,u12,rfl,rfl⟩:=(hInv _ _ _).mp hv
  rw [List.take_length,← hps,← hks,tw hkn0]
  simp_all! []
  exact Fg.rQ (kS hr') av hr' q
abbrev oM:Stmt:=(top 68)
abbrev lh:List Str:=["_law_lane","_law_legs","_law_clock"]
theorem DG:L2.aw ["_law_lane","_law_legs","_law_clock"] ["_law_lane","_law_legs","_law_clock"] (L2.aj oM):=ed
def sZ (cN cL:Addr):cJ:=fun xs J Q _=>∃ p L D ep gs,xs=[.ref p,.ref D,fr L.t]∧bc cN cL J p L∧b_ L∧J D=some (.dct (cb gs) ep)∧(gs.map (·.1)).Nodup∧gs.length≤20∧(∀ x∈gs,qo 240 x.2)∧JD L.t L.fs gs∧Q (.bl true) J
theorem Ak {cN cL f:Addr} {fd:FuncData} (F:cA K "_law_stands" "_law_stands" oM f fd) (Z:bW mg) (zf:bt P w K mg base 2 "_law_part" j1 qX) (GW:bt P w K mg base 1 "_law_words" mF Cb) (vc:bt P w K mg base 3 "_law_order" iX sW) (zg:bt P w K mg base 4 "_law_passrows" jq sX) (Cw:bt P w K mg base 4 "_law_ringdue" kr Gj)
  (jS:cY P w K mg base cN 1 "clock" mr (yS cN cL)) (jU:cY P w K mg base cN 1 "order" mx (yU cN cL)) (jR:cY P w K mg base cN 7 "bells" mq (yR cN cL)):aL P w K mg base (dh P w) 8 f fd lh (d4 K (sZ cN cL)):=by
 simp_arith [DG,(ai (aU (dw (bX (aS zf B hr (af (d8 (pl:=_) jS B hr (rv 0)) (af (rv 2) ah))))) (ak (aA fQ)) aI)
   (ai (aU (dw (bX (aS GW B hr (af (d8 (pl:=_) jU B hr (rv 0)) (af (aS vc B hr (af (rv 1) (af (rv 2) ah))) ah))))) (ak (aA fQ)) aI)
   (ak (aA (aS zg B hr (af (d8 (pl:=_) jR B hr (rv 0)) (af (aS Cw B hr (af (rv 1) (af (rv 2) ah))) ah)))))))]
 ·obtain ⟨p,L,D,ep,gs,rfl,_⟩:=h;rfl
 obtain ⟨p,L,D,ep,gs,rfl,b,ok,hD,hnd,hgl,sg,same,q⟩:=h
 have bo:=b.ob
 have st:Sz 240 L.t:=(x8 ok.ts).mono (by decide)
 have e1:cf L.t gs=L.row:=by rw [ok.row];exact ym hnd ok.Li fun x=>(same x).symm
 have e2:fV L.t (gs.map (key L.t))=fV L.t (L.fs.map (key L.t)):=zH (by rw [dq];exact hnd) ok.knd fun x=>(same x).symm
 have hrl:=ok.rl
 have hbl:=zI L.t (L.fs.map (key L.t)) ok.knd
 rw [List.length_map] at hbl
 have hfl:=ok.NO
 refine hX ?_
 simp_all! [bo]
 refine ⟨f_ _ _ _ _,p,L,rfl,b,L.t,rfl,?_⟩
 simp_all! [bo]
 refine ⟨f_ _ _ _ _,p,L,rfl,b,.inl ?_⟩
 refine ⟨D,gs,ep,L.t,rfl,hD,hnd,by omega,st.mono (by decide),fun x hx=>(sg x hx).mono (by decide),?_⟩
 rw [e1]
 refine ⟨L.row,rfl,by omega,?_⟩
 simp_all! [bo]
 refine ⟨f_ _ _ _ _,p,L,rfl,b,ok,?_⟩
 refine ⟨D,gs,ep,L.t,rfl,hD,hnd,hgl,st,sg,?_⟩
 rw [e2]
 exact ⟨_,_,rfl,rfl,by omega,q⟩
def xq:List aY→Prop
 | a :: b :: r=>b.p=a.at b.m∧xq (b :: r)
 | _=>True
theorem lM:∀ (ls:List aY) (l:aY),xq (ls ++ [l])↔xq ls∧∀ k,ls.getLast?=some k→l.p=k.at l.m
 | [],l=>⟨fun _=>⟨trivial,fun k h=>nomatch h⟩,fun _=>trivial⟩
 | [a],l=>⟨fun h=>⟨trivial,fun k e=>by cases e;exact h.1⟩,fun h=>⟨h.2 a rfl,trivial⟩⟩
 | a :: b :: r,l=>by
  have ih:=lM (b :: r) l
  show (b.p=a.at b.m∧xq ((b :: r) ++ [l]))↔_
  rw [ih,List.getLast?_cons_cons]
  constructor
  ·rintro ⟨h1,h2,h3⟩;exact ⟨⟨h1,h2⟩,h3⟩
  ·rintro ⟨⟨h1,h2⟩,h3⟩;exact ⟨h1,h2,h3⟩
def i_ (l l':aY):Prop:=l.v=l'.v∧∀ t,l.at t=l'.at t
theorem i_.key {l l':aY} (h:i_ l l') (n:Str) (t:Rat):key t (n,l)=key t (n,l'):=by unfold Ov.key;simp only;rw [h.1,h.2 t]
theorem Ha (l:aY):l.at l.m=l.p:=by unfold aY.at;grind
theorem BX {l l':aY} {t:Rat} (hv:l.v=l'.v) (h:l.at t=l'.at t):i_ l l':=⟨hv,fun s=>by
 unfold aY.at at h ⊢
 rw [hv] at h ⊢
 generalize (l'.v:Rat)=x at h ⊢
 grind⟩
theorem lG {rows:List aY} {t:Rat} {v:Int} (h:xq rows) (ne:rows≠[]):xq (turned rows t v)∧∀ l,rows.getLast?=some l→∀ l',(turned rows t v).getLast?=some l'→i_ ⟨t,l.at t,v⟩ l':=by
 obtain ⟨ls,l,rfl⟩:∃ ls l,rows=ls ++ [l]:=⟨rows.dropLast,rows.getLast ne,(List.dropLast_concat_getLast ne).symm⟩
 obtain ⟨h1,h2⟩:=(lM ls l).mp h
 have new:∀ {q:List aY},(q ++ [aY.mk t (l.at t) v]).getLast?=some (aY.mk t (l.at t) v):=fun {q}=>List.getLast?_concat ..
 rw [il]
 simp only [List.getLast?_concat,Option.some.injEq]
 split
 ·rename_i e
  have el:l.at t=l.p:=by rw [← e];exact Ha l
  split
  ·rename_i ev
   refine ⟨h1,fun l0 h0 l' h'=>?_⟩
   subst h0
   rw [h'] at ev
   have hv:l'.v=v:=Option.some.inj ev
   have hp:=h2 l' h'
   rw [e] at hp
   refine BX (t:=t) hv.symm ?_
   show l.at t + (t - t) * (v:Rat)=_
   rw [← hp,el];grind
  ·refine ⟨(lM _ _).mpr ⟨h1,fun k hk=>?_⟩,fun l0 h0 l' h'=>?_⟩
   ·show l.at t=k.at t
    rw [el,h2 k hk,e]
   ·subst h0
    rw [new] at h';cases h';exact ⟨rfl,fun _=>rfl⟩
 ·split
  ·rename_i ev
   refine ⟨h,fun l0 h0 l' h'=>?_⟩
   subst h0
   rw [List.getLast?_concat] at h';cases h'
   refine BX (t:=t) ev.symm ?_
   show l.at t + (t - t) * (v:Rat)=_
   grind
  ·refine ⟨(lM _ _).mpr ⟨h,fun k hk=>?_⟩,fun l0 h0 l' h'=>?_⟩
   ·rw [List.getLast?_concat] at hk;cases hk;rfl
   ·subst h0
    rw [new] at h';cases h';exact ⟨rfl,fun _=>rfl⟩
structure Rl (L:Ln) (gs:List (Str × aY)):Prop where
 nm:gs.map (·.1)=L.fs.map (·.1)
 ln:∀ n l l',(n,l)∈gs→(n,l')∈L.fs→i_ l l'
 ck:∀ x∈gs,tG x.2
 le:∀ x∈gs,x.2.m≤L.t
 ct:∀ c∈L.cs,xq c.w
theorem Rl.same {L:Ln} {gs:List (Str × aY)} (h:Rl L gs) (t:Rat):JD t L.fs gs:=fun x=>by
 have other:∀ {as bs:List (Str × aY)},as.map (·.1)=bs.map (·.1)→∀ {n l},(n,l)∈as→∃ l',(n,l')∈bs:=fun {as bs} e {n l} hm=>by
  have:n∈bs.map (·.1):=by rw [← e];exact List.mem_map.mpr ⟨_,hm,rfl⟩
  obtain ⟨y,hy,e'⟩:=List.mem_map.mp this
  exact ⟨y.2,by rw [← e'];exact hy⟩
 rw [List.mem_map,List.mem_map]
 constructor
 ·rintro ⟨⟨n,l⟩,hm,rfl⟩
  obtain ⟨l',hl'⟩:=other h.nm.symm hm
  exact ⟨(n,l'),hl',(h.ln n l' l hl' hm).key n t⟩
 ·rintro ⟨⟨n,l⟩,hm,rfl⟩
  obtain ⟨l',hl'⟩:=other h.nm hm
  exact ⟨(n,l'),hl',((h.ln n l l' hm hl').key n t).symm⟩
theorem Rl.sz {L:Ln} {gs:List (Str × aY)} (h:Rl L gs):∀ x∈gs,qo 240 x.2:=fun x hx=>by
 have hk:=h.ck x hx
 exact ⟨hk.Sv.mono (by decide),hk.SA.mono (by decide),.small (by have:=hk.v;omega) (by have:=hk.v;omega)⟩
theorem Rl.nd {L:Ln} {gs:List (Str × aY)} (h:Rl L gs) (ok:bj L):(gs.map (·.1)).Nodup:=by rw [h.nm];exact ok.Li
theorem Rl.len {L:Ln} {gs:List (Str × aY)} (h:Rl L gs):gs.length=L.fs.length:=by have:=congrArg List.length h.nm;rw [List.length_map,List.length_map] at this;exact this
theorem FJ {fs:List (Str × aY)} {n:Str} {l:aY} (hm:n∈fs.map (·.1)):wo (cb fs) n l.V=cb (fs.map fun x=>if x.1=n then (x.1,l) else x):=by
 unfold wo cb
 rw [if_pos,List.map_map,List.map_map]
 ·refine List.map_congr_left fun x _=>?_
  show (if x.1=n then (x.1,l.V) else (x.1,x.2.V))=_
  show _=((if x.1=n then (x.1,l) else x).1,(if x.1=n then (x.1,l) else x).2.V)
  split <;> rfl
 ·obtain ⟨x,hx,e⟩:=List.mem_map.mp hm
  rw [List.any_eq_true]
  exact ⟨(x.1,x.2.V),List.mem_map.mpr ⟨x,hx,rfl⟩,decide_eq_true e⟩
def uW (n:Str) (t:Rat) (v:Int) (gs:List (Str × aY)):List (Str × aY):=gs.map fun x=>if x.1=n then (x.1,⟨t,x.2.at t,v⟩) else x
def kK (t:Rat) (gs:List (Str × aY)):List (Str × aY):=gs.map fun x=>(x.1,⟨t,x.2.at t,-x.2.v⟩)
theorem EA {L:Ln} {f:Cf→Cf} (hn:∀ c,(f c).n=c.n∧(f c).a=c.a∧(f c).r=c.r∧(f c).g=c.g) {L':Ln} (e:L'.cs=L.cs.map f):L'.fs=L.DX.map fun c=>(c.n,(f c).cur):=by
 unfold Ln.fs Ln.DX
 rw [e,List.filter_map,List.map_map]
 have e1:(fun c:Cf=>c.g.isNone) ∘ f=fun c=>c.g.isNone:=by funext c;show (f c).g.isNone=_;rw [(hn c).2.2.2]
 rw [e1]
 exact List.map_congr_left fun c _=>by show ((f c).n,(f c).cur)=_;rw [(hn c).1]
theorem xJ {c:Cf} {t:Rat} {v:Int} (h:xq c.w) (ne:c.w≠[]):i_ ⟨t,c.cur.at t,v⟩ (c.turn t v).cur:=by
 have h1:=(Cf.jM ne).1
 have h2:=(Cf.jM (c:=c.turn t v) (uX ne)).1
 exact (lG h ne).2 _ h1 _ h2
theorem i_.turn {l l':aY} (h:i_ l l') (t:Rat) (v:Int):i_ ⟨t,l.at t,v⟩ ⟨t,l'.at t,v⟩:=by rw [h.2 t];exact ⟨rfl,fun _=>rfl⟩
theorem i_.trans {l l' l'':aY} (h:i_ l l') (k:i_ l' l''):i_ l l'':=⟨h.1.trans k.1,fun t=>(h.2 t).trans (k.2 t)⟩
theorem Rl.turn {L L':Ln} {gs:List (Str × aY)} (h:Rl L gs) (ok:bj L) {n:Str} {v:Int} (hv:v.natAbs≤1000) (e:L'.cs=L.cs.map (dF n L.t v)) (et:L'.t=L.t):Rl L' (uW n L.t v gs):=by
 have hn:=oW n L.t v
 have hfs:=EA hn e
 have nm:(uW n L.t v gs).map (·.1)=gs.map (·.1):=by
  unfold uW;rw [List.map_map];exact List.map_congr_left fun x _=>by show (if x.1=n then (x.1,_) else x).1=x.1;split <;> rfl
 refine ⟨?_,?_,?_,?_,?_⟩
 ·rw [nm,h.nm,hfs];unfold Ln.fs;rw [List.map_map,List.map_map];rfl
 ·intro m l l' hl hl'
  obtain ⟨x,hx,ex⟩:=List.mem_map.mp hl
  rw [hfs] at hl'
  obtain ⟨c,hc,ec⟩:=List.mem_map.mp hl'
  have hcs:=(Ln.eg.mp hc).1
  have hold:(c.n,c.cur)∈L.fs:=List.mem_map.mpr ⟨c,hc,rfl⟩
  cases ec
  by_cases z:x.1=n
  ·rw [if_pos z] at ex
   have ex1:x.1=c.n:=(Prod.mk.inj ex).1
   have ex2:aY.mk L.t (x.2.at L.t) v=l:=(Prod.mk.inj ex).2
   subst ex2
   have hs:=h.ln x.1 x.2 c.cur hx (by rw [ex1];exact hold)
   have zc:c.n=n:=by rw [← z];exact ex1.symm
   unfold dF
   rw [if_pos zc]
   exact (hs.turn L.t v).trans (xJ (h.ct c hcs) (ok.ne c hcs))
  ·rw [if_neg z] at ex
   subst ex
   have zc:¬ c.n=n:=z
   unfold dF
   rw [if_neg zc]
   exact h.ln c.n l c.cur hx hold
 ·intro x hx
  obtain ⟨y,hy,rfl⟩:=List.mem_map.mp hx
  split
  ·exact (h.ck y hy).at (h.le y hy) ok.ts hv
  ·exact h.ck y hy
 ·intro x hx
  rw [et]
  obtain ⟨y,hy,rfl⟩:=List.mem_map.mp hx
  split
  ·exact Rat.le_refl
  ·exact h.le y hy
 ·intro c hc
  rw [e] at hc
  obtain ⟨c0,h0,rfl⟩:=List.mem_map.mp hc
  unfold dF
  split
  ·exact (lG (h.ct c0 h0) (ok.ne c0 h0)).1
  ·exact h.ct c0 h0
theorem xB (t:Rat) (c:Cf):(eE t c).n=c.n∧(eE t c).a=c.a∧(eE t c).r=c.r∧(eE t c).g=c.g:=by unfold eE;split <;> exact ⟨rfl,rfl,rfl,rfl⟩
theorem Rl.about {L L':Ln} {gs:List (Str × aY)} (h:Rl L gs) (ok:bj L) (e:L'.cs=L.cs.map (eE L.t)) (et:L'.t=L.t):Rl L' (kK L.t gs):=by
 have hn:=xB L.t
 have hfs:=EA hn e
 have nm:(kK L.t gs).map (·.1)=gs.map (·.1):=by
  unfold kK;rw [List.map_map];rfl
 refine ⟨?_,?_,?_,?_,?_⟩
 ·rw [nm,h.nm,hfs];unfold Ln.fs;rw [List.map_map,List.map_map];rfl
 ·intro m l l' hl hl'
  obtain ⟨x,hx,ex⟩:=List.mem_map.mp hl
  rw [hfs] at hl'
  obtain ⟨c,hc,ec⟩:=List.mem_map.mp hl'
  have hcs:=Ln.eg.mp hc
  have hold:(c.n,c.cur)∈L.fs:=List.mem_map.mpr ⟨c,hc,rfl⟩
  cases ec
  obtain ⟨xn,xl⟩:=x
  cases ex
  have hs:=h.ln c.n xl c.cur hx hold
  have ea:eE L.t c=c.turn L.t (-c.cur.v):=by unfold eE;rw [if_pos (by rw [hcs.2];rfl)]
  rw [ea,hs.1]
  exact (hs.turn L.t _).trans (xJ (h.ct c hcs.1) (ok.ne c hcs.1))
 ·intro x hx
  obtain ⟨y,hy,rfl⟩:=List.mem_map.mp hx
  exact (h.ck y hy).at (h.le y hy) ok.ts (by have:=(h.ck y hy).v;omega)
 ·intro x hx
  rw [et]
  obtain ⟨y,hy,rfl⟩:=List.mem_map.mp hx
  exact Rat.le_refl
 ·intro c hc
  rw [e] at hc
  obtain ⟨c0,h0,rfl⟩:=List.mem_map.mp hc
  unfold eE
  split
  ·exact (lG (h.ct c0 h0) (ok.ne c0 h0)).1
  ·exact h.ct c0 h0
theorem Rl.join {L L':Ln} {gs:List (Str × aY)} (h:Rl L gs) (ok':bj L') {n:Str} {x v:Int} (hv:v.natAbs≤1000) (hx:x.natAbs≤1000000) (j:L.joined n x v L') (t0:0≤L.t) (ts:Sc iw MM L.t) (hnew:n ∉ L.fs.map (·.1)):Rl L' (gs ++ [(n,⟨L.t,(x:Rat),v⟩)]):=by
 obtain ⟨a,r,ecs,et⟩:=j
 have efs:L'.fs=L.fs ++ [(n,⟨L.t,(x:Rat),v⟩)]:=Bo L ecs rfl
 refine ⟨?_,?_,?_,?_,?_⟩
 ·rw [efs,List.map_append,List.map_append,h.nm]
 ·intro m l l' hl hl'
  rw [efs] at hl'
  have h1:∀ {k},(n,k)∈gs→False:=fun hk=>hnew (by rw [← h.nm];exact List.mem_map.mpr ⟨_,hk,rfl⟩)
  have h2:∀ {k},(n,k)∈L.fs→False:=fun hk=>hnew (List.mem_map.mpr ⟨_,hk,rfl⟩)
  rcases List.mem_append.mp hl with hl | hl <;> rcases List.mem_append.mp hl' with hl' | hl'
  ·exact h.ln m l l' hl hl'
  ·rw [List.mem_singleton] at hl';cases hl';exact (h1 hl).elim
  ·rw [List.mem_singleton] at hl;cases hl;exact (h2 hl').elim
  ·rw [List.mem_singleton] at hl hl';cases hl;cases hl';exact ⟨rfl,fun _=>rfl⟩
 ·intro y hy
  rcases List.mem_append.mp hy with hy | hy
  ·exact h.ck y hy
  ·rw [List.mem_singleton] at hy;subst hy;exact tG.new t0 ts hx hv
 ·intro y hy
  rw [et]
  rcases List.mem_append.mp hy with hy | hy
  ·exact h.le y hy
  ·rw [List.mem_singleton] at hy;subst hy;exact Rat.le_refl
 ·intro c hc
  rw [ecs] at hc
  rcases List.mem_append.mp hc with hc | hc
  ·exact h.ct c hc
  ·rw [List.mem_singleton] at hc;subst hc;exact trivial
def pz (n:Str) (gs:List (Str × aY)):List (Str × aY):=gs.filter fun x=>decide (x.1≠n)
theorem Rl.leave {L L':Ln} {gs:List (Str × aY)} (h:Rl L gs) {n:Str} (e:L'.cs=L.cs.map (bR n L.t)) (et:L'.t=L.t):Rl L' (pz n gs):=by
 have hfs:L'.fs=L.fs.filter fun x=>decide (x.1≠n):=xU e
 have hf:∀ l:List (Str × aY),(l.filter fun x=>decide (x.1≠n)).map (·.1)=(l.map (·.1)).filter fun y=>decide (y≠n):=fun l=>by rw [List.filter_map];rfl
 refine ⟨?_,?_,?_,?_,?_⟩
 ·unfold pz;rw [hf,hfs,hf,h.nm]
 ·intro m l l' hl hl'
  rw [hfs] at hl'
  exact h.ln m l l' (List.mem_filter.mp hl).1 (List.mem_filter.mp hl').1
 ·intro x hx;exact h.ck x (List.mem_filter.mp hx).1
 ·intro x hx;rw [et];exact h.le x (List.mem_filter.mp hx).1
 ·intro c hc
  rw [e] at hc
  obtain ⟨c0,h0,rfl⟩:=List.mem_map.mp hc
  rw [(fM n L.t c0).2.2.2];exact h.ct c0 h0
abbrev qM:Stmt:=(top 60)
abbrev mz:List Str:=["_law_legs","_law_clock","_law_deed_here"]
theorem yF:L2.aw ["_law_legs","_law_clock","_law_deed_here","_law_name"] ["_law_legs","_law_clock","_law_deed_here"] (L2.aj qM):=ed
def gJ (n:Str) (x v:Int):PV:=.tup [.str "join",.str n,.int x,.int v]
def kA (n:Str) (v:Int):PV:=.tup [.str "turn",.str n,.int v]
def jG:PV:=.tup [.str "about"]
def iN (n:Str):PV:=.tup [.str "leave",.str n]
def JG (m:Rat):PV:=.tup [.str "go",fr m]
def wZ:cJ:=fun xs J Q _=>∃ (D:Addr) (gs:List (Str × aY)) (ep:Nat) (t:Rat) (dv:PV),xs=[.ref D,fr t,dv]∧J D=some (.dct (cb gs) ep)∧(gs.map (·.1)).Nodup∧gs.length≤100∧Sz 900 t∧(∀ x∈gs,qo 900 x.2) ∧
 ((∃ n x v,dv=gJ n x v∧n ∉ gs.map (·.1)∧∀ ep',Q (fr t) (put J D (.dct (cb (gs ++ [(n,⟨t,(x:Rat),v⟩)])) ep'))) ∨
  (∃ n v,dv=kA n v∧n∈gs.map (·.1)∧∀ ep',Q (fr t) (put J D (.dct (cb (uW n t v gs)) ep'))) ∨
  (dv=jG∧∀ ep',Q (fr t) (put J D (.dct (cb (kK t gs)) ep'))) ∨
  (∃ n,dv=iN n∧n∈gs.map (·.1)∧∀ ep',Q (fr t) (put J D (.dct (cb (pz n gs)) ep'))) ∨
  (∃ m,dv=JG m∧Q (fr m) J))
theorem KC:(("join":Str)="go")=False:=eq_false (by decide +kernel)
theorem KG:(("turn":Str)="go")=False:=eq_false (by decide +kernel)
theorem KA:(("about":Str)="go")=False:=eq_false (by decide +kernel)
theorem Lb {c:mS} {a u:i7} {D:En} {τ:Sr} {J:Hq} (hc:∀ R:Bool→Hq→Prop,R false J→c τ J R) (hu:u D τ J):FV (AH c a sG) u D τ J :=
 ⟨fun τ' J'=>τ'=τ∧J'=J,hc _ (by rw [if_neg (by decide)];exact ⟨rfl,rfl⟩),fun τ' J' h=>by obtain ⟨rfl,rfl⟩:=h;exact hu⟩
theorem f9 {c:mS} {a u:i7} {D:En} {τ:Sr} {J:Hq} (M:Sr→Hq→Prop) (hc:∀ R:Bool→Hq→Prop,R true J→c τ J R) (ha:a { D with nx:=M } τ J) (hu:∀ τ' J',M τ' J'→u D τ' J'):FV (AH c a sG) u D τ J :=
 ⟨M,hc _ (by rw [if_pos rfl];exact ha),hu⟩
theorem Cs {x y:Str} {i:Nat} {dv:PV} {τ:Sr} {J:Hq} (h:τ[i]?=some (some dv)) (h0:fY J dv (.int 0)=some (.str x)) (R:Bool→Hq→Prop) (hr:R (decide (x=y)) J):rB (xp (Kj id) (xp Kk (j2 i) (rC (.int 0))) (rC (.str y))) τ J R :=
 LY h (k7 h0 ⟨⟨rfl,by simp [fZ,dep]⟩,rfl,sk rfl (by rw [eq_str];exact hr)⟩)
theorem dH {x y:Str} {i:Nat} {dv:PV} {τ:Sr} {J:Hq} {a u:i7} {D:En} (h:τ[i]?=some (some dv)) (h0:fY J dv (.int 0)=some (.str x)) (n:decide (x=y)=false) (hu:u D τ J):FV (AH (rB (xp (Kj id) (xp Kk (j2 i) (rC (.int 0))) (rC (.str y)))) a sG) u D τ J:=Lb (fun R hr'=>Cs h h0 R (by rw [n];exact hr')) hu
theorem vJ {x:Str} {i:Nat} {dv:PV} {τ:Sr} {J:Hq} (h:τ[i]?=some (some dv)) (h0:fY J dv (.int 0)=some (.str x)) (R:Bool→Hq→Prop) (hr:R true J):rB (xp (Kj id) (xp Kk (j2 i) (rC (.int 0))) (rC (.str x))) τ J R:=Cs h h0 R (by rw [decide_eq_true rfl];exact hr)
def fu (t:Rat) (gs:List (Str × aY)) (i:Nat):List (Str × aY):=kK t (gs.take i) ++ gs.drop i
theorem uv (t:Rat) (gs:List (Str × aY)) (i:Nat):(fu t gs i).map (·.1)=gs.map (·.1):=by
 unfold fu kK
 rw [List.map_append,List.map_map]
 have:((gs.take i).map ((fun x:Str × aY=>x.1) ∘ fun x=>(x.1,(⟨t,x.2.at t,-x.2.v⟩:aY))))=(gs.take i).map (·.1):=List.map_congr_left fun _ _=>rfl
 rw [this,← List.map_append,List.take_append_drop]
theorem xC (t:Rat) (gs:List (Str × aY)) (hnd:(gs.map (·.1)).Nodup) (i:Nat) (h:i < gs.length):(fu t gs i).map (fun x=>if x.1=gs[i].1 then (x.1,(⟨t,gs[i].2.at t,-gs[i].2.v⟩:aY)) else x)=fu t gs (i + 1):=by
 have hd:gs.drop i=gs[i] :: gs.drop (i + 1):=List.drop_eq_getElem_cons h
 have ht:gs.take (i + 1)=gs.take i ++ [gs[i]]:=by rw [List.take_add_one,List.getElem?_eq_getElem h];rfl
 have hn2:(gs.map (·.1))=(gs.take i).map (·.1) ++ (gs[i].1 :: (gs.drop (i + 1)).map (·.1)):=by
  rw [← List.map_cons (f:=fun x:Str × aY=>x.1),← hd,← List.map_append,List.take_append_drop]
 rw [hn2,List.nodup_append] at hnd
 unfold fu kK
 rw [hd,ht,List.map_append,List.map_append,List.map_cons,if_pos rfl,List.append_assoc]
 congr 1
 ·rw [List.map_map]
  refine List.map_congr_left fun x hx=>?_
  show (if x.1=gs[i].1 then _ else _)=_
  rw [if_neg (hnd.2.2 x.1 (List.mem_map.mpr ⟨x,hx,rfl⟩) gs[i].1 (by simp))]
 ·show _ :: _=_ :: _
  congr 1
  have hno:=(List.nodup_cons.mp hnd.2.1).1
  have:∀ x∈gs.drop (i + 1),(if x.1=gs[i].1 then (x.1,(⟨t,gs[i].2.at t,-gs[i].2.v⟩:aY)) else x)=x:=fun x hx=>if_neg fun z=>hno (by rw [← z];exact List.mem_map.mpr ⟨x,hx,rfl⟩)
  rw [List.map_congr_left this,List.map_id']
  rfl
theorem KD:(("leave":Str)="go")=False:=eq_false (by decide +kernel)
theorem Dk {f:Addr} {fd:FuncData} (F:cA K "_law_acted" "_law_acted" qM f fd) (Z:bW mg) (za:bt P w K mg base 2 "_law_at" j0 ql):aL P w K mg base (dh P w) 3 f fd mz (d4 K wZ):=by
 simp_arith [yF,(cP (aU (aD (cn hr.aO) (aq ar (rv 2) ag) bJ) (ak (wF qY (rv 0) (aq ar (rv 2) ag) (cm (af (rv 1) (af (cm (af (aq ar (rv 2) ag) (af ag ah))) (af (aq ar (rv 2) ag) ah)))))) aI)
   (cP (aU (aD (cn hr.aO) (aq ar (rv 2) ag) bJ) (ak (bh (oz PySem.F.plainAttrs_dict PySem.F.slot_dict_pop PySem.F.type_dict_pop HN (rv 0) (af (aq ar (rv 2) ag) ah)))) aI)
   (cP (aU (aD (cn hr.aO) (aq ar (rv 2) ag) bJ) (ak (wF qY (rv 0) (aq ar (rv 2) ag) (cm (af (rv 1) (af (aS za B hr (af (aq eI (rv 0) (aq ar (rv 2) ag)) (af (rv 1) ah))) (af (aq ar (rv 2) ag) ah)))))) aI)
   (cP (aU (aD (cn hr.aO) (aq ar (rv 2) ag) bJ) (ak (fE cx rfl (fG (lW (xI rfl) rfl Z.list boot_list (af (rv 0) ah))) (bP (i:=3) yF.nd) (ak (wF qY (rv 0) (rv 3) (cm (af (rv 1) (af (aS za B hr (af (aq eI (rv 0) (rv 3)) (af (rv 1) ah))) (af (uO p6 (aq ar (aq eI (rv 0) (rv 3)) ag)) ah)))))))) aI)
   (ai (aU (aD (cn hr.aO) (aq ar (rv 2) ag) bJ) (ak (aA (aq ar (rv 2) ag))) aI)
   (ak (aA (rv 1))))))))]
 ·obtain ⟨D,gs,ep,t,dv,rfl,_⟩:=h;rfl
 obtain ⟨D,gs,ep,t,dv,rfl,hD,hnd,hlen,st,sl,h⟩:=h
 refine hX ?_
 rcases h with ⟨n,x,v,rfl,hn,q⟩ | ⟨n,v,rfl,hn,q⟩ | ⟨rfl,q⟩ | ⟨n,rfl,hn,q⟩ | ⟨m,rfl,q⟩
 ·have i0:∀ J,fY J (gJ n x v) (.int 0)=some (.str "join"):=fun J=>d5 _ _
  have i1:∀ J,fY J (gJ n x v) (.int 1)=some (.str n):=fun J=>f7 _ _ _
  have i2:∀ J,fY J (gJ n x v) (.int 2)=some (.int x):=fun J=>mj _ _ _ _
  have i3:∀ J,fY J (gJ n x v) (.int 3)=some (.int v):=fun J=>rfl
  refine f9 (fun τ' J'=>∃ ep',τ'=[some (.ref D),some (fr t),some (gJ n x v),none]∧J'=put J D (.dct (cb (gs ++ [(n,⟨t,(x:Rat),v⟩)])) ep')) (vJ rfl (i0 _)) ?_ ?_
  ·simp_all! [i1,i2,i3,hD,Lk,uU]
   refine ⟨bp (by unfold cb;rw [List.length_map];omega),fun ep'=>⟨ep',?_⟩⟩
   have epu:wo (cb gs) n (aY.mk t (x:Rat) v).V=cb (gs ++ [(n,⟨t,(x:Rat),v⟩)]):=AD (f:=aY.V) (l:=⟨t,(x:Rat),v⟩) hn
   rw [epu]
  rintro τ' J' ⟨ep',rfl,rfl⟩
  refine dH rfl (i0 _) (by decide +kernel) ?_
  refine dH rfl (i0 _) (by decide +kernel) ?_
  refine dH rfl (i0 _) (by decide +kernel) ?_
  simp_all! [i0,KC,if_false]
  exact q ep'
 ·have i0:∀ J,fY J (kA n v) (.int 0)=some (.str "turn"):=fun J=>d5 _ _
  have i1:∀ J,fY J (kA n v) (.int 1)=some (.str n):=fun J=>f7 _ _ _
  have i2:∀ J,fY J (kA n v) (.int 2)=some (.int v):=fun J=>mj _ _ _ _
  refine dH rfl (i0 _) (by decide +kernel) ?_
  refine dH rfl (i0 _) (by decide +kernel) ?_
  refine f9 (fun τ' J'=>∃ ep',τ'=[some (.ref D),some (fr t),some (kA n v),none]∧J'=put J D (.dct (cb (uW n t v gs)) ep')) (vJ rfl (i0 _)) ?_ ?_
  ·obtain ⟨l,hl,hvl⟩:=xm (f:=aY.V) hnd hn
   have hvl:nk (cb gs) n=some l.V:=hvl
   have sll:=sl _ hl
   simp_all! [i1,i2,hD,hvl]
   refine ⟨l,t,rfl,sll.m,sll.p,st,sll.v,?_⟩
   simp_all! [i1,i2,hD,uU]
   refine ⟨bp (by unfold cb;rw [List.length_map];omega),fun ep'=>⟨ep',?_⟩⟩
   rw [FJ hn]
   have:(gs.map fun x=>if x.1=n then (x.1,(⟨t,l.at t,v⟩:aY)) else x)=uW n t v gs:=List.map_congr_left fun x hx=>by
    by_cases z:x.1=n
    ·have hx':nk (cb gs) n=some x.2.V:=ki (f:=aY.V) hnd (by rw [← z];exact hx)
     rw [hvl] at hx'
     have ex:l=x.2:=by have:=Option.some.inj hx';rw [Nw] at this;exact this
     rw [if_pos z,if_pos z,ex]
    ·rw [if_neg z,if_neg z]
   rw [this]
  rintro τ' J' ⟨ep',rfl,rfl⟩
  refine dH rfl (i0 _) (by decide +kernel) ?_
  simp_all! [i0,KG,if_false]
  exact q ep'
 ·have i0:∀ J,fY J jG (.int 0)=some (.str "about"):=fun J=>d5 _ _
  refine dH rfl (i0 _) (by decide +kernel) ?_
  refine dH rfl (i0 _) (by decide +kernel) ?_
  refine dH rfl (i0 _) (by decide +kernel) ?_
  refine f9 (fun τ' J'=>∃ u ep',τ'=[some (.ref D),some (fr t),some jG,u]∧J'=put J D (.dct (cb (kK t gs)) ep')) (vJ rfl (i0 _)) ?_ ?_
  ·simp_all! [hD]
   have hkv:(cb gs).map (fun kv=>PV.str kv.1)=gs.map fun x=>PV.str x.1:=by unfold cb;rw [List.map_map];rfl
   rw [hkv]
   obtain ⟨Inv,hInv⟩:∃ Inv:Nat→Sr→Hq→Prop,∀ i τ J',Inv i τ J'↔∃ (u:Option PV) (ep':Nat),τ=[some (.ref D),some (fr t),some jG,u]∧J'=put J D (.dct (cb (fu t gs i)) ep'):=⟨_,fun _ _ _=>Iff.rfl⟩
   refine jO Inv ((hInv _ _ _).mpr ⟨_,ep,rfl,by show J=put J D (.dct (cb gs) ep);rw [AG hD]⟩) (fun _ _ _ _=>trivial) ?_ ?_
   ·intro i x τ J' hx hv
    obtain ⟨u,ep',rfl,rfl⟩:=(hInv _ _ _).mp hv
    clear hv
    have hi:i < gs.length:=by have:=(List.getElem?_eq_some_iff.mp hx).1;simpa using this
    rw [List.getElem?_map,List.getElem?_eq_getElem hi] at hx
    cases hx
    have hnd':((fu t gs i).map (·.1)).Nodup:=by rw [uv];exact hnd
    have hmem:gs[i]∈fu t gs i:=by unfold fu;rw [List.drop_eq_getElem_cons hi];exact List.mem_append.mpr (.inr List.mem_cons_self)
    have hva:nk (cb (fu t gs i)) gs[i].1=some gs[i].2.V:=ki (f:=aY.V) hnd' hmem
    have hstep:=xC t gs hnd i hi
    have hin:gs[i].1∈(fu t gs i).map (·.1):=List.mem_map.mpr ⟨_,hmem,rfl⟩
    have hlen':(fu t gs i).length=gs.length:=by have:=congrArg List.length (uv t gs i);rw [List.length_map,List.length_map] at this;exact this
    have sll:=sl _ (List.getElem_mem hi)
    generalize gs[i]=y at hva hstep hin sll ⊢
    simp_all! [av,hva]
    refine ⟨y.2,t,rfl,sll.m,sll.p,st,sll.v,?_⟩
    simp_all! [av,hva,nS,uU]
    refine ⟨bp (by unfold cb;rw [List.length_map];omega),fun ep2=>(hInv _ _ _).mpr ⟨_,ep2,rfl,?_⟩⟩
    rw [fe,FJ hin,hstep]
   ·intro τ J' hv
    obtain ⟨u,ep',rfl,rfl⟩:=(hInv _ _ _).mp hv
    refine ⟨u,rfl,ep',?_⟩
    rw [List.length_map]
    unfold fu
    rw [List.take_length,List.drop_length,List.append_nil]
  rintro τ' J' ⟨u,ep',rfl,rfl⟩
  simp_all! [i0,KA,if_false]
  exact q ep'
 ·have i0:∀ J,fY J (iN n) (.int 0)=some (.str "leave"):=fun J=>d5 _ _
  have i1:∀ J,fY J (iN n) (.int 1)=some (.str n):=fun J=>f7 _ _ _
  refine dH rfl (i0 _) (by decide +kernel) ?_
  refine f9 (fun τ' J'=>∃ ep',τ'=[some (.ref D),some (fr t),some (iN n),none]∧J'=put J D (.dct (cb (pz n gs)) ep')) (vJ rfl (i0 _)) ?_ ?_
  ·obtain ⟨l,hl,hvl⟩:=xm (f:=aY.V) hnd hn
   have hvl:nk (cb gs) n=some l.V:=hvl
   simp_all! [i1,hD,hvl]
   have edr:Es (cb gs) n=cb (pz n gs):=by unfold Es cb pz;rw [List.filter_map];rfl
   intro ep'
   exact ⟨ep',by rw [edr]⟩
  rintro τ' J' ⟨ep',rfl,rfl⟩
  refine dH rfl (i0 _) (by decide +kernel) ?_
  refine dH rfl (i0 _) (by decide +kernel) ?_
  simp_all! [i0,KD,if_false]
  exact q ep'
 ·have i0:∀ J,fY J (JG m) (.int 0)=some (.str "go"):=fun J=>d5 _ _
  have i1:∀ J,fY J (JG m) (.int 1)=some (fr m):=fun J=>f7 _ _ _
  refine dH rfl (i0 _) (by decide +kernel) ?_
  refine dH rfl (i0 _) (by decide +kernel) ?_
  refine dH rfl (i0 _) (by decide +kernel) ?_
  refine dH rfl (i0 _) (by decide +kernel) ?_
  simp_all! [i0,i1,if_true]
  exact q
abbrev wI:Stmt:=(top 61)
abbrev om:List Str:=["_law_lane","_law_deed_here"]
theorem IY:L2.aw ["_law_lane","_law_deed_here"] ["_law_lane","_law_deed_here"] (L2.aj wI):=ed
def AR (cN cL T:Addr):cJ:=fun xs J Q _=>∃ p L dv,xs=[.ref p,dv]∧bc cN cL J p L∧b_ L ∧
 ((∃ n x v,dv=gJ n x v∧J T=some .tab∧good n=true∧Na x v∧n ∉ L.cs.map Cf.n∧L.row.length < 12∧L.cs.length < 100∧n.length≤sizeLine∧∀ J' L',bc cN cL J' p L'→b_ L'→L.joined n x v L'→Mv J J' (L.own p) (L'.own p)→Q (.fl []) J') ∨
  (∃ n v,dv=kA n v∧n∈L.row∧v.natAbs≤1000∧(∀ c∈L.cs,c.w.length < 200)∧∀ J' L',bc cN cL J' p L'→b_ L'→L'.cs=L.cs.map (dF n L.t v)→L'.t=L.t→Mv J J' (L.own p) (L'.own p)→Q (.fl []) J') ∨
  (dv=jG∧(∀ c∈L.cs,c.w.length < 200)∧∀ J' L',bc cN cL J' p L'→b_ L'→L'.cs=L.cs.map (eE L.t)→L'.t=L.t→Mv J J' (L.own p) (L'.own p)→Q (.fl []) J') ∨
  (∃ n,dv=iN n∧n∈L.row∧∀ J' L',bc cN cL J' p L'→b_ L'→L'.cs=L.cs.map (bR n L.t)→L'.t=L.t→Mv J J' (L.own p) (L'.own p)→Q (.fl []) J') ∨
  (∃ m:Rat,dv=JG m∧dM m.num m.den=true∧L.t≤m∧∀ J' o',bc cN cL J' p { L with t:=m,o:=o',row:=cf m L.fs }→b_ { L with t:=m,o:=o',row:=cf m L.fs }→Mv J J' (L.own p) (Ln.own { L with t:=m,o:=o',row:=cf m L.fs } p)→Q (.fl ((qg L.t (L.fs.map (key L.t)) m).map aG.v)) J'))
theorem Fj {cN cL T eB eF eT eU eC eM eP f:Addr} {fd:FuncData} (F:cA K "_law_done" "_law_done" wI f fd) (Z:bW mg) (kW:cY P w K mg base cN 8 "join" n_ (B8 cN cL T eB eF eT eU)) (jT:cY P w K mg base cN 2 "leave" mw (yT cN cL eC)) (kX:cY P w K mg base cN 8 "turn" oa (B9 cN cL eC eF)) (jQ:cY P w K mg base cN 8 "about" mn (yQ cN cL)) (dT:cY P w K mg base cN 8 "go_to" iT (Gi cN cL eM eP)):aL P w K mg base (dh P w) 9 f fd om (d4 K (AR cN cL T)):=by
 simp_arith [IY,(cP (aU (aD (cn hr.aO) (aq ar (rv 1) ag) bJ) (ak (bh (bL (pl:=_) kW B hr (rv 0) (af (aq ar (rv 1) ag) (af (aq ar (rv 1) ag) (af (aq ar (rv 1) ag) ah)))))) aI)
   (cP (aU (aD (cn hr.aO) (aq ar (rv 1) ag) bJ) (ak (bh (bL (pl:=_) jT B hr (rv 0) (af (aq ar (rv 1) ag) ah)))) aI)
   (cP (aU (aD (cn hr.aO) (aq ar (rv 1) ag) bJ) (ak (bh (bL (pl:=_) kX B hr (rv 0) (af (aq ar (rv 1) ag) (af (aq ar (rv 1) ag) ah))))) aI)
   (cP (aU (aD (cn hr.aO) (aq ar (rv 1) ag) bJ) (ak (bh (d8 (pl:=_) jQ B hr (rv 0)))) aI)
   (ai (aU (aD (cn hr.aO) (aq ar (rv 1) ag) bJ) (ak (aA (bL (pl:=_) dT B hr (rv 0) (af (aq ar (rv 1) ag) ah)))) aI)
   (ak (aA (oA ah))))))))]
 ·obtain ⟨p,L,dv,rfl,_⟩:=h;rfl
 obtain ⟨p,L,dv,rfl,b,ok,h⟩:=h
 have bo:=b.ob
 refine hX ?_
 rcases h with ⟨n,x,v,rfl,hT,hg,hb,hn,hr12,hc,hl,q⟩ | ⟨n,v,rfl,hn,hv,hw,q⟩ | ⟨rfl,hw,q⟩ | ⟨n,rfl,hn,q⟩ | ⟨m,rfl,hg,hm,q⟩
 ·have i0:∀ J,fY J (gJ n x v) (.int 0)=some (.str "join"):=fun J=>d5 _ _
  have i1:∀ J,fY J (gJ n x v) (.int 1)=some (.str n):=fun J=>f7 _ _ _
  have i2:∀ J,fY J (gJ n x v) (.int 2)=some (.int x):=fun J=>mj _ _ _ _
  have i3:∀ J,fY J (gJ n x v) (.int 3)=some (.int v):=fun J=>rfl
  refine f9 (fun τ' J'=>τ'=[some (.ref p),some (gJ n x v)]∧Q (.fl []) J') (vJ rfl (i0 _)) ?_ ?_
  ·simp_all! [bo,i1,i2,i3]
   exact ⟨f_ _ _ _ _,p,L,n,x,v,rfl,b,ok,hT,hl,hc,(fun z=>by rw [hg] at z;cases z),(fun _ z=>absurd hb z),(fun _ _ z=>absurd z hn),(fun _ _ _ z=>by omega),fun _ _ _ _ J1 L1 b1 ok1 jn mv=>q J1 L1 b1 ok1 jn mv⟩
  rintro τ' J' ⟨rfl,hq⟩
  refine dH rfl (i0 _) (by decide +kernel) ?_
  refine dH rfl (i0 _) (by decide +kernel) ?_
  refine dH rfl (i0 _) (by decide +kernel) ?_
  simp_all! [i0,KC,if_false]
  exact hq
 ·have i0:∀ J,fY J (kA n v) (.int 0)=some (.str "turn"):=fun J=>d5 _ _
  have i1:∀ J,fY J (kA n v) (.int 1)=some (.str n):=fun J=>f7 _ _ _
  have i2:∀ J,fY J (kA n v) (.int 2)=some (.int v):=fun J=>mj _ _ _ _
  refine dH rfl (i0 _) (by decide +kernel) ?_
  refine dH rfl (i0 _) (by decide +kernel) ?_
  refine f9 (fun τ' J'=>τ'=[some (.ref p),some (kA n v)]∧Q (.fl []) J') (vJ rfl (i0 _)) ?_ ?_
  ·simp_all! [bo,i1,i2]
   exact ⟨f_ _ _ _ _,p,L,n,v,rfl,b,ok,hw,fun z=>absurd hn z,fun _ z=>absurd hv z,fun _ _ J1 L1 b1 ok1 e t1 mv=>q J1 L1 b1 ok1 e t1 mv⟩
  rintro τ' J' ⟨rfl,hq⟩
  refine dH rfl (i0 _) (by decide +kernel) ?_
  simp_all! [i0,KG,if_false]
  exact hq
 ·have i0:∀ J,fY J jG (.int 0)=some (.str "about"):=fun J=>d5 _ _
  refine dH rfl (i0 _) (by decide +kernel) ?_
  refine dH rfl (i0 _) (by decide +kernel) ?_
  refine dH rfl (i0 _) (by decide +kernel) ?_
  refine f9 (fun τ' J'=>τ'=[some (.ref p),some (jG)]∧Q (.fl []) J') (vJ rfl (i0 _)) ?_ ?_
  ·simp_all! [bo]
   exact ⟨f_ _ _ _ _,p,L,rfl,b,ok,hw,fun J1 L1 b1 ok1 e t1 mv=>q J1 L1 b1 ok1 e t1 mv⟩
  rintro τ' J' ⟨rfl,hq⟩
  simp_all! [i0,KA,if_false]
  exact hq
 ·have i0:∀ J,fY J (iN n) (.int 0)=some (.str "leave"):=fun J=>d5 _ _
  have i1:∀ J,fY J (iN n) (.int 1)=some (.str n):=fun J=>f7 _ _ _
  refine dH rfl (i0 _) (by decide +kernel) ?_
  refine f9 (fun τ' J'=>τ'=[some (.ref p),some (iN n)]∧Q (.fl []) J') (vJ rfl (i0 _)) ?_ ?_
  ·simp_all! [bo,i1]
   exact ⟨f_ _ _ _ _,p,L,n,rfl,b,ok,fun z=>absurd hn z,fun _ J1 L1 b1 ok1 e t1 mv=>q J1 L1 b1 ok1 e t1 mv⟩
  rintro τ' J' ⟨rfl,hq⟩
  refine dH rfl (i0 _) (by decide +kernel) ?_
  refine dH rfl (i0 _) (by decide +kernel) ?_
  simp_all! [i0,KD,if_false]
  exact hq
 ·have i0:∀ J,fY J (JG m) (.int 0)=some (.str "go"):=fun J=>d5 _ _
  have i1:∀ J,fY J (JG m) (.int 1)=some (fr m):=fun J=>f7 _ _ _
  refine dH rfl (i0 _) (by decide +kernel) ?_
  refine dH rfl (i0 _) (by decide +kernel) ?_
  refine dH rfl (i0 _) (by decide +kernel) ?_
  refine dH rfl (i0 _) (by decide +kernel) ?_
  simp_all! [i0,i1,if_true,bo]
  refine ⟨f_ _ _ _ _,p,L,m.num,m.den,rfl,b,ok,(fun z=>by rw [hg] at z;cases z),fun m' e1 e2 _=>?_⟩
  obtain rfl:m'=m:=Rat.ext e1 (by omega)
  exact ⟨fun z=>absurd z (Rat.not_lt.mpr hm),fun _ J1 o1 b1 ok1 mv1=>q J1 o1 b1 ok1 mv1⟩
abbrev sL:Stmt:=(top 58)
abbrev oj:List Str:=["_law_row","_law_mode","_law_names_here","_law_used","_law_legs","_law_clock"]
theorem qT:L2.aw ["_law_row","_law_mode","_law_names_here","_law_used","_law_legs","_law_clock","_law_there","_law_fresh","_law_name"] ["_law_row","_law_mode","_law_names_here","_law_used","_law_legs","_law_clock"] (L2.aj sL):=ed
def D4 (names used:List Str) (gs:List (Str × aY)) (t:Rat) (dv:PV):Prop :=
 (∃ n x v,dv=gJ n x v∧n∈names∧n ∉ used∧gs.length < 12∧x.natAbs≤1000000∧v.natAbs≤1000) ∨
 (∃ n v,dv=kA n v∧n∈gs.map (·.1)∧v.natAbs≤1000)∨dv=jG∨(∃ n,dv=iN n∧n∈gs.map (·.1))∨∃ m,dv=JG m∧Later t m
def Ga:cJ:=fun xs J Q _=>∃ (r0 r1 r2 r3 r4 r5 m:Int) (names used:List Str) (U D:Addr) (gs:List (Str × aY)) (ep:Nat) (t:Rat),xs=[.fl [.int r0,.int r1,.int r2,.int r3,.int r4,.int r5],.int m,.fl (names.map .str),.ref U,.ref D,fr t]∧J U=some (.lst (used.map .str))∧J D=some (.dct (cb gs) ep)∧names.length≤40∧gs.length≤100 ∧
 0≤r1∧0≤r2∧0≤r3∧r3 < 2001∧0≤r4∧r4 < 2 ^ 60∧0≤r5∧0≤m∧m < 4∧Sz 900 t∧∀ dv,D4 names used gs t dv→Q dv J
theorem vI {c:mS} {a u:i7} {D:En} {τ:Sr} {J:Hq} (b:Prop) [Decidable b] (hc:∀ R:Bool→Hq→Prop,R (decide b) J→c τ J R) (h1:b→∀ N,a { D with nx:=N } τ J) (h2:¬ b→u D τ J):bI (AH c a sG) u D τ J:=by
 refine hc _ ?_
 by_cases h:b
 ·rw [decide_eq_true h,if_pos rfl];exact h1 h _
 ·rw [decide_eq_false h,if_neg (by decide)];exact h2 h
theorem IM {R:Bool→Hq→Prop} {b c:Bool} {J:Hq} (h:R b J) (e:b=true↔c=true):R c J:=by rw [← Bool.eq_iff_iff.mpr e];exact h
theorem we {xs:List Str} {r:Int} (h0:0≤r) (hl:0 < xs.length):∃ n∈xs,dJ (xs.map PV.str) (r % (xs.length:Int))=some (.str n):=by
 obtain ⟨j,hj⟩:∃ j:Nat,r % (xs.length:Int)=j:=⟨(r % (xs.length:Int)).toNat,by have:=Int.emod_nonneg r (b:=(xs.length:Int)) (by omega);omega⟩
 have hjl:j < xs.length:=by have:=Int.emod_lt_of_pos r (b:=(xs.length:Int)) (by omega);omega
 exact ⟨xs[j],List.getElem_mem hjl,by rw [hj];exact bq (by rw [List.getElem?_map,List.getElem?_eq_getElem hjl];rfl)⟩
theorem Fi {f:Addr} {fd:FuncData} (F:cA K "_law_deed" "_law_deed" sL f fd) (Z:bW mg) (DY:bt P w K mg base 1 "_law_placed" k_ uT) (A2:bt P w K mg base 1 "_law_paced" mD yW) (GV:bt P w K mg base 2 "_law_later" mC B5):aL P w K mg base (dh P w) 3 f fd oj (d4 K Ga):=by
 simp_arith [qT,(ai (aF (i:=6) qT.nd (lW (xI rfl) rfl Z.list boot_list (af (rv 4) ah)))
   (ai (MB (i:=7) (L2.aj sL) ["_law_row","_law_mode","_law_names_here","_law_used","_law_legs","_law_clock","_law_there","_law_fresh","_law_name"] [("_law_used",3)] rfl rfl rfl qT.nd rfl (Or.inl rfl) (fG (rv 2)) (fun _ _ _ _ _ _=>(rv 0)) (fun _ _ _ _ _ _=>(aD BH (rv 0) (rv 1))))
   (ai (aU (dC (eJ (aD ji (aM b7 rfl Z.len boot_len (af (rv 7) ah)) ag) (eJ (aD fN (aM b7 rfl Z.len boot_len (af (rv 6) ah)) ag) (dB (dC (ku (aD fN (aq ar (rv 0) ag) ag) (i4 (dC (eJ (aD fN (aM b7 rfl Z.len boot_len (af (rv 6) ah)) ag) (dB (aD fN (aq ar (rv 0) ag) ag))))))))))) (ai (aF (i:=8) qT.nd (aq ar (rv 7) (aJ fA (aq ar (rv 0) ag) (aM b7 rfl Z.len boot_len (af (rv 7) ah)))))
   (ak (aA (cm (af bJ (af (rv 8) (af (aS DY B hr (af (aq ar (rv 0) ag) (af (rv 1) ah))) (af (aS A2 B hr (af (aq ar (rv 0) ag) (af (rv 1) ah))) ah)))))))) aI)
   (ai (aU (dC (eJ (aD Fv (aq ar (rv 0) ag) (cm (af ag (af ag ah)))) (dB (aD ji (aM b7 rfl Z.len boot_len (af (rv 6) ah)) ag)))) (ak (aA (cm (af bJ (af (aq ar (rv 6) (aJ fA (aq ar (rv 0) ag) (aM b7 rfl Z.len boot_len (af (rv 6) ah)))) (af (aS A2 B hr (af (aq ar (rv 0) ag) (af (rv 1) ah))) ah)))))) aI)
   (ai (aU (dC (eJ (aD (cn hr.aO) (aq ar (rv 0) ag) ag) (dB (aD ji (aM b7 rfl Z.len boot_len (af (rv 6) ah)) ag)))) (ak (aA (cm (af bJ (af (aq ar (rv 6) (aJ fA (aq ar (rv 0) ag) (aM b7 rfl Z.len boot_len (af (rv 6) ah)))) ah))))) aI)
   (ai (aU (aD (cn hr.aO) (aq ar (rv 0) ag) ag) (ak (aA (cm (af bJ ah)))) aI)
   (ak (aA (cm (af bJ (af (aS GV B hr (af (rv 5) (af (aq ar (rv 0) ag) (af (aq ar (rv 0) ag) (af (rv 1) ah))))) ah)))))))))))]
 ·obtain ⟨r0,r1,r2,r3,r4,r5,m,names,used,U,D,gs,ep,t,rfl,_⟩:=h;rfl
 obtain ⟨r0,r1,r2,r3,r4,r5,m,names,used,U,D,gs,ep,t,rfl,hU,hD,hnl,hgl,r10,r20,r30,r31,r40,r41,r50,m0,m1,st,q⟩:=h
 have hkv:(cb gs).map (fun kv=>PV.str kv.1)=(gs.map (·.1)).map PV.str:=by unfold cb;rw [List.map_map,List.map_map];rfl
 refine hX ?_
 simp_all! [hD,hkv,wz]
 obtain ⟨pn,hpn⟩:∃ pn:Str→Bool,∀ x,pn x=!decide (x∈used):=⟨_,fun _=>rfl⟩
 refine ⟨fun x=>match x with | .str s=>pn s | _=>false,id,⟨by rw [List.length_map];exact Nat.lt_of_le_of_lt hnl (by decide),fun J' sub=>⟨trivial,fun x hx=>?_⟩⟩,?_⟩
 ·obtain ⟨s,hs,rfl⟩:=List.mem_map.mp hx
  have hU':=sub _ _ hU
  simp_all! [qz]
  refine ⟨⟨s,used,rfl,by show (match J' U with | some (.lst xs)=>some xs | _=>none)=_;rw [hU'],sk rfl ⟨(hpn s).symm,rfl⟩⟩,fun _=>trivial⟩
 have ef:((names.map PV.str).filter fun x=>match x with | .str s=>pn s | _=>false).map id=(names.filter pn).map PV.str:=by rw [List.map_id,List.filter_map];rfl
 rw [ef]
 have hfr:∀ n∈names.filter pn,n∈names∧n ∉ used:=fun n hn=>by
  obtain ⟨h1,h2⟩:=List.mem_filter.mp hn
  rw [hpn] at h2
  exact ⟨h1,by simpa using h2⟩
 generalize names.filter pn=fresh at hfr ⊢
 have gl:(gs.map (·.1)).length=gs.length:=List.length_map _
 generalize hgn:gs.map (·.1)=gn at gl q ⊢
 refine hNq _ _ ?_
 clear hNq Nq
 refine vI (0 < fresh.length∧gs.length < 12∧(r0 < 3∨gs.length < 2∧r0 < 8)) (fun R hR=>?_) (fun hb N=>?_) (fun hb=>?_)
 ·simp_arith! [bI,List.length_map]
  (repeat' (first | split | simp_arith! [bI,List.length_map])) <;> exact IM hR (by simp only [decide_eq_true_eq,Bool.false_eq_true,eq_self,iff_true,iff_false];omega)
 ·obtain ⟨n,hn,ha⟩:=we r10 hb.1
  simp_all! [List.length_map,ha]
  refine ⟨by omega,?_⟩
  simp_all! []
  refine ⟨r2,m,rfl,r20,fun x hx=>⟨r3,m,rfl,r30,r31,fun v hv=>?_⟩⟩
  exact q _ (.inl ⟨n,x,v,rfl,(hfr n hn).1,(hfr n hn).2,hb.2.1,hx,hv⟩)
 refine vI ((r0=3∨r0=4)∧0 < gs.length) (fun R hR=>?_) (fun hb N=>?_) (fun hb=>?_)
 ·simp_all! [List.length_map]
  refine ⟨r0,[3,4],rfl,rfl,sk rfl ?_⟩
  (repeat' (first | split | simp_arith! [bI,List.length_map])) <;> exact IM hR (by simp only [decide_eq_true_eq,Bool.false_eq_true,id_eq,List.mem_cons,List.not_mem_nil,or_false,eq_self,iff_true,iff_false] at *;omega)
 ·obtain ⟨n,hn,ha⟩:=we (xs:=gn) r10 (by omega)
  simp_all! [List.length_map,ha]
  refine ⟨by omega,?_⟩
  simp_all! []
  refine ⟨r3,m,rfl,r30,r31,fun v hv=>?_⟩
  exact q _ (.inr (.inl ⟨n,v,rfl,by rw [hgn];exact hn,hv⟩))
 refine vI (r0=5∧2 < gs.length) (fun R hR=>?_) (fun hb N=>?_) (fun hb=>?_)
 ·simp_arith! [bI,List.length_map]
  (repeat' (first | split | simp_arith! [bI,List.length_map])) <;> exact IM hR (by simp only [decide_eq_true_eq,Bool.false_eq_true,eq_self,iff_true,iff_false];omega)
 ·obtain ⟨n,hn,ha⟩:=we (xs:=gn) r10 (by omega)
  simp_all! [List.length_map,ha]
  exact ⟨by omega,q _ (.inr (.inr (.inr (.inl ⟨n,rfl,by rw [hgn];exact hn⟩))))⟩
 refine vI (r0=6) (fun R hR=>?_) (fun hb N=>?_) (fun hb=>?_)
 ·simp_arith! [bI]
  exact IM hR (by simp only [decide_eq_true_eq,Bool.false_eq_true])
 ·simp_all! []
  exact q _ (.inr (.inr (.inl rfl)))
 simp_all! []
 exact ⟨t,r4,r5,m,rfl,r40,r50,m0,m1,r41,st,fun m' hm'=>q _ (.inr (.inr (.inr (.inr ⟨m',rfl,hm'⟩))))⟩
theorem EF {m:Rat} (h0:0≤m) (hd:m.den≤60) (h1:m.num≤1000000 * (m.den:Int)):dM m.num m.den=true:=by
 refine decide_eq_true ⟨by omega,by have:=m.den_pos;omega,?_,Rat.num_nonneg.mpr h0,h1⟩
 have:=m.reduced
 unfold Int.gcd
 exact this
theorem C1 {c q:Rat} (h:Later c q) (hc:c.den≤60):q.den≤60:=by
 rcases h with rfl | ⟨u,s,u0,u1,s0,s1,rfl⟩
 ·exact hc
 ·have:=vD (t:=(c.num * (u:Int)).fdiv (c.den:Int) + (s:Int)) (b:=(u:Int)) (by omega)
  omega
theorem Lz {q:Rat}:q.num≤1000000 * (q.den:Int)↔q≤1000000:=by
 rw [Rat.le_iff]
 have h3:(1000000:Rat).num=1000000:=rfl
 have h4:((1000000:Rat).den:Int)=1:=rfl
 rw [h3,h4]
 omega
abbrev wN:Stmt:=(top 66)
abbrev ot:List Str:=["_law_lane","_law_names_here","_law_cells","_law_mode"]
theorem ik:L2.aw ["_law_lane","_law_names_here","_law_cells","_law_mode","_law_legs","_law_used","_law_clock","_law_cell_here","_law_row","_law_deed_here"] ["_law_lane","_law_names_here","_law_cells","_law_mode"] (L2.aj wN):=ed
structure Wk (cN cL:Addr) (J0:Hq) (S0:Addr→Prop) (J:Hq) (p:Addr) (L:Ln) (D U:Addr) (gs:List (Str × aY)) (ep:Nat) (used:List Str) (k:Nat):Prop where
 b:bc cN cL J p L
 ok:b_ L
 rl:Rl L gs
 hD:J D=some (.dct (cb gs) ep)
 hU:J U=some (.lst (used.map .str))
 nD:¬ L.own p D
 nU:¬ L.own p U
 mv:Mv J0 J S0 (fun a=>L.own p a∨a=D∨a=U)
 td:L.t.den≤60
 tl:L.t≤((500 * k:Nat):Rat)
 wl:∀ c∈L.cs,c.w.length≤1 + k
theorem Rl.go {L:Ln} {gs:List (Str × aY)} (h:Rl L gs) {m:Rat} (hm:L.t≤m) {o:Addr} {row:List Str}:Rl { L with t:=m,o:=o,row:=row } gs:=⟨h.nm,h.ln,h.ck,fun x hx=>Rat.le_trans (h.le x hx) hm,h.ct⟩
theorem EY {c q:Rat} (h:Later c q) (c0:0≤c):q≤c + 500:=by
 rcases h with rfl | ⟨u,s,u0,u1,s0,s1,rfl⟩
 ·grind
 rw [Rat.divInt_eq_div]
 have hu:(0:Rat) < ((u:Int):Rat):=by exact_mod_cast (show (0:Int) < u by omega)
 have h1:((s:Int):Rat)≤500 * ((u:Int):Rat):=by exact_mod_cast (show (s:Int)≤500 * u by omega)
 have hd:(0:Rat) < ((c.den:Int):Rat):=by exact_mod_cast (show (0:Int) < c.den by have:=c.den_pos;omega)
 have h2:((((c.num * (u:Int)).fdiv (c.den:Int)):Int):Rat)≤c * ((u:Int):Rat):=by
  have e1:(c.num * (u:Int)).fdiv (c.den:Int) * (c.den:Int)≤c.num * u:=by
   rw [Int.fdiv_eq_ediv_of_nonneg _ (by omega)]
   exact Int.ediv_mul_le _ (by have:=c.den_pos;omega)
  have e2:((((c.num * (u:Int)).fdiv (c.den:Int)):Int):Rat) * ((c.den:Int):Rat)≤(c.num:Rat) * ((u:Int):Rat):=by
   rw [← Rat.intCast_mul,← Rat.intCast_mul];exact Rat.intCast_le_intCast.mpr e1
  have e3:(c.num:Rat)=c * ((c.den:Int):Rat):=cast_eq c
  rw [e3] at e2
  generalize ((((c.num * (u:Int)).fdiv (c.den:Int)):Int):Rat)=x at e2 ⊢
  generalize ((c.den:Int):Rat)=y at e2 hd
  generalize ((u:Int):Rat)=z at e2 ⊢
  by_cases k:c * z < x
  ·have:0 < (x - c * z) * y:=Rat.mul_pos (by grind) hd
   grind
  ·grind
 rw [Rat.intCast_add]
 generalize ((((c.num * (u:Int)).fdiv (c.den:Int)):Int):Rat)=a at h2 ⊢
 generalize ((s:Int):Rat)=x at h1 ⊢
 generalize ((u:Int):Rat)=y at h1 h2 hu ⊢
 have e:(a + x) / y * y=a + x:=by grind
 generalize (a + x) / y=z at e ⊢
 by_cases k:c + 500 < z
 ·have:0 < (z - (c + 500)) * y:=Rat.mul_pos (by grind) hu
  grind
 ·grind
section
variable {cN cL:Addr} {J0 J:Hq} {S0:Addr→Prop} {p:Addr} {L:Ln} {D U:Addr} {gs:List (Str × aY)} {ep:Nat} {used:List Str} {k:Nat}
theorem Wk.ne (h:Wk cN cL J0 S0 J p L D U gs ep used k):U≠D:=fun e=>by have:=h.hU;rw [e,h.hD] at this;cases this
theorem Wk.kept (h:Wk cN cL J0 S0 J p L D U gs ep used k) {T:Addr} {o:HQ} (hT:J0 T=some o) (nT:¬ S0 T):J T=some o:=h.mv.keep _ _ hT nT
theorem Wk.next (h:Wk cN cL J0 S0 J p L D U gs ep used k) {J1:Hq} {L1:Ln} {gs1:List (Str × aY)} {k1:Nat} (b1:bc cN cL J1 p L1) (ok1:b_ L1) (mv:Mv J J1 (L.own p) (L1.own p)) (rl1:Rl L1 gs1) (td:L1.t.den≤60) (tl:L1.t≤((500 * k1:Nat):Rat)) (wl:∀ c∈L1.cs,c.w.length≤1 + k1) (ep':Nat):Wk cN cL J0 S0 (put J1 D (.dct (cb gs1) ep')) p L1 D U gs1 ep' used k1:=by
 have new:∀ {x o},J x=some o→¬ L.own p x→¬ L1.own p x:=fun hx nx z=>by
  rcases mv.own _ z with q | q
  ·exact nx q
  ·rw [hx] at q;cases q
 have nD1:=new h.hD h.nD
 have hD1:=mv.keep _ _ h.hD h.nD
 have hU1:=mv.keep _ _ h.hU h.nU
 have mv1:Mv J J1 (fun a=>L.own p a∨a=D∨a=U) (fun a=>L1.own p a∨a=D∨a=U) :=
  ⟨fun a o e n=>mv.keep a o e fun z=>n (.inl z),fun a z=>z.elim (fun z=>(mv.own a z).imp .inl id) (fun z=>.inl (.inr z)),mv.mono⟩
 refine ⟨b1.keep fun a u ow e=>?_,ok1,rl1,av,?_,nD1,new h.hU h.nU,(h.mv.trans mv1).trans (gK (.inr (.inl rfl)) fun a z=>.inl z),td,tl,wl⟩
 ·rw [au (fun z=>by subst z;exact nD1 ow)];exact e
 ·rw [au h.ne];exact hU1
theorem Wk.push (h:Wk cN cL J0 S0 J p L D U gs ep used k) (n:Str):Wk cN cL J0 S0 (put J U (.lst ((used ++ [n]).map .str))) p L D U gs ep (used ++ [n]) k:=by
 refine ⟨h.b.keep fun a u ow e=>?_,h.ok,h.rl,?_,av,h.nD,h.nU,h.mv.trans (gK (.inr (.inr rfl)) fun a z=>.inl z),h.td,h.tl,h.wl⟩
 ·rw [au (fun z=>by subst z;exact h.nU ow)];exact e
 ·rw [au (fun e=>h.ne e.symm)];exact h.hD
theorem Wk.up (h:Wk cN cL J0 S0 J p L D U gs ep used k):Sz 900 L.t∧(gs.map (·.1)).Nodup∧gs.length≤12∧∀ x∈gs,qo 900 x.2 :=
 ⟨h.ok.KI,h.rl.nd h.ok.tobj,by rw [h.rl.len];exact h.ok.NO,fun x hx=>(h.rl.sz x hx).mono (by decide)⟩
end
theorem Ah {q:Rat} {k:Nat} (hk:k≤2000) (h:q≤((500 * k:Nat):Rat)):q≤1000000:=by
 refine Rat.le_trans h ?_
 have:((500 * k:Nat):Rat)≤((1000000:Nat):Rat):=by exact_mod_cast (show 500 * k≤1000000 by omega)
 exact this
theorem Cd {a b:Rat} {k:Nat} (h:b≤a + 500) (ha:a≤((500 * k:Nat):Rat)):b≤((500 * (k + 1):Nat):Rat):=by
 have e:((500 * (k + 1):Nat):Rat)=((500 * k:Nat):Rat) + 500:=by
  rw [show 500 * (k + 1)=500 * k + 500 by omega];exact Rat.natCast_add _ _
 rw [e];grind
theorem Jk {a:Rat} {k:Nat} (ha:a≤((500 * k:Nat):Rat)):a≤((500 * (k + 1):Nat):Rat):=Cd (a:=a) (by grind) ha
theorem Hy {n:Str} (hg:good n=true):n.length≤sizeLine:=by
 have h8:n.cps.size≤8:=by
  unfold good at hg
  rw [Bool.and_eq_true,Bool.and_eq_true] at hg
  exact of_decide_eq_true hg.1.2
 exact Nat.le_trans h8 (by decide)
theorem DS {cN cL T p D U:Addr} {J0 J:Hq} {S0:Addr→Prop} {L:Ln} {gs:List (Str × aY)} {ep:Nat} {used names:List Str} {i:Nat} {dv:PV} {E2:Addr→Hq→Prop} {Dn:En} {τ:Sr} {iL iU iD iC iV:Nat}
  (hL:τ[iL]?=some (some (.ref p))) (hU:τ[iU]?=some (some (.ref U))) (hDt:τ[iD]?=some (some (.ref D))) (hC:τ[iC]?=some (some (fr L.t))) (hV:τ[iV]?=some (some dv))
  (wk:Wk cN cL J0 S0 J p L D U gs ep used i) (hun:L.cs.map Cf.n=used) (hus:∀ n∈used,n∈names) (hul:used.length≤i) (hi:i < 90) (hng:∀ n∈names,good n=true) (hT:J0 T=some .tab) (nT:¬ S0 T) (hdv:D4 names used gs L.t dv)
  (fin:∀ J1 L1 gs1 ep1 used1 t1,L1.t=t1→Wk cN cL J0 S0 J1 p L1 D U gs1 ep1 used1 (i + 1)→L1.cs.map Cf.n=used1→(∀ n∈used1,n∈names)→used1.length≤i + 1→Dn.nx (τ.set iC (some (fr t1))) J1) :
  FV (AH (rB (xp (Kj id) (xp Kk (j2 iV) (rC (.int 0))) (rC (.str "join")))) (BQ (Rm "list" wx (j2 iU) (lA (xp Kk (j2 iV) (rC (.int 1))) uf))) sG)
   (bI (BQ (yy (AR cN cL T) E2 (lA (j2 iL) (lA (j2 iV) uf)))) (ue (yy wZ E2 (lA (j2 iD) (lA (j2 iC) (lA (j2 iV) uf)))) (Hs iC))) Dn τ J:=by
 obtain ⟨st,gnd,gl,gsz⟩:=wk.up
 have hT':∀ {J1:Hq} {L1 gs1 ep1 us k1},Wk cN cL J0 S0 J1 p L1 D U gs1 ep1 us k1→J1 T=some .tab:=fun wk'=>wk'.kept hT nT
 have hw200:∀ c∈L.cs,c.w.length < 200:=fun c hc=>by have:=wk.wl c hc;omega
 have tl1:L.t≤((500 * (i + 1):Nat):Rat):=Jk wk.tl
 have hfl:L.fs.length=gs.length:=wk.rl.len.symm
 have hrow:∀ n,n∈gs.map (·.1)→n∈L.row:=fun n hn=>(wk.ok.rm n).mpr (by rw [← wk.rl.nm];exact hn)
 rcases hdv with ⟨n,x,v,rfl,hn,hnu,hgl,hx,hv⟩ | ⟨n,v,rfl,hn,hv⟩ | rfl | ⟨n,rfl,hn⟩ | ⟨m',rfl,hm'⟩
 ·have i0:∀ J,fY J (gJ n x v) (.int 0)=some (.str "join"):=fun J=>d5 _ _
  have i1:∀ J,fY J (gJ n x v) (.int 1)=some (.str n):=fun J=>f7 _ _ _
  refine f9 (fun τ' J2=>τ'=τ∧J2=put J U (.lst ((used ++ [n]).map .str))) (vJ hV (i0 _)) ?_ ?_
  ·simp_all! [hU,hV,i1,wk.hU,List.length_map]
   exact ⟨Nat.lt_of_lt_of_le (show used.length < 100 by omega) (by decide),by rw [List.map_append];rfl⟩
  rintro τ' J2 ⟨rfl,rfl⟩
  have wk2:=wk.push n
  generalize put J U (.lst ((used ++ [n]).map .str))=J2 at wk2 ⊢
  have hnc:n ∉ L.cs.map Cf.n:=by rw [hun];exact hnu
  have hcl':L.cs.length < 100:=by have:=congrArg List.length hun;rw [List.length_map] at this;omega
  have hnf:n ∉ L.fs.map (·.1):=fun z=>hnc (by
   rw [fL,List.mem_map] at z
   obtain ⟨c',hc',e'⟩:=z
   exact List.mem_map.mpr ⟨c',(Ln.eg.mp hc').1,e'⟩)
  simp_all! [hL,hDt,hC,hV]
  refine ⟨p,L,_,rfl,wk2.b,wk2.ok,.inl ⟨n,x,v,rfl,hT' wk2,hng n hn,⟨hx,hv⟩,hnc,by rw [wk.ok.row,yo];omega,hcl',Hy (hng n hn),fun J3 L3 b3 ok3 jn mv3=>?_⟩⟩
  have rl3:=wk2.rl.join ok3.tobj hv hx jn wk.ok.t0 wk.ok.ts hnf
  obtain ⟨a,r,ecs,et⟩:=jn
  simp_all! [hL,hDt,hC,hV]
  refine ⟨D,gs,ep,L.t,_,rfl,mv3.keep _ _ wk2.hD wk2.nD,gnd,by omega,st,gsz,.inl ⟨n,x,v,rfl,by rw [wk.rl.nm];exact hnf,fun ep'=>?_⟩⟩
  refine fin _ L3 _ ep' (used ++ [n]) _ et (wk2.next b3 ok3 mv3 rl3 (by rw [et];exact wk.td) (by rw [et];exact tl1) (fun c hc=>?_) ep') ?_ (fun y hy=>?_) (by rw [List.length_append];show used.length + 1≤_;omega)
  ·rw [ecs] at hc
   rcases List.mem_append.mp hc with hc | hc
   ·have:=wk.wl c hc;omega
   ·rw [List.mem_singleton] at hc;subst hc;show 1≤_;omega
  ·rw [ecs,List.map_append,hun];rfl
  ·rcases List.mem_append.mp hy with hy | hy
   ·exact hus y hy
   ·rw [List.mem_singleton] at hy;subst hy;exact hn
 ·have i0:∀ J,fY J (kA n v) (.int 0)=some (.str "turn"):=fun J=>d5 _ _
  refine dH hV (i0 _) (by decide +kernel) ?_
  simp_all! [hL,hDt,hC,hV]
  refine ⟨p,L,_,rfl,wk.b,wk.ok,.inr (.inl ⟨n,v,rfl,hrow n hn,hv,hw200,fun J3 L3 b3 ok3 e t1 mv3=>?_⟩)⟩
  simp_all! [hL,hDt,hC,hV]
  refine ⟨D,gs,ep,L.t,_,rfl,mv3.keep _ _ wk.hD wk.nD,gnd,by omega,st,gsz,.inr (.inl ⟨n,v,rfl,hn,fun ep'=>?_⟩)⟩
  refine fin _ L3 _ ep' used _ t1 (wk.next b3 ok3 mv3 (wk.rl.turn wk.ok.tobj hv e t1) (by rw [t1];exact wk.td) (by rw [t1];exact tl1) (fun c hc=>?_) ep') (by rw [e,e8 (fun c=>(oW n L.t v c).1)];exact hun) hus (by omega)
  rw [e] at hc
  obtain ⟨c0,h0,rfl⟩:=List.mem_map.mp hc
  have h1:=wk.wl c0 h0
  unfold dF
  split
  ·have:=nj c0.w L.t v
   show (turned c0.w L.t v).length≤_
   omega
  ·omega
 ·have i0:∀ J,fY J jG (.int 0)=some (.str "about"):=fun J=>d5 _ _
  refine dH hV (i0 _) (by decide +kernel) ?_
  simp_all! [hL,hDt,hC,hV]
  refine ⟨p,L,_,rfl,wk.b,wk.ok,.inr (.inr (.inl ⟨rfl,hw200,fun J3 L3 b3 ok3 e t1 mv3=>?_⟩))⟩
  simp_all! [hL,hDt,hC,hV]
  refine ⟨D,gs,ep,L.t,_,rfl,mv3.keep _ _ wk.hD wk.nD,gnd,by omega,st,gsz,.inr (.inr (.inl ⟨rfl,fun ep'=>?_⟩))⟩
  refine fin _ L3 _ ep' used _ t1 (wk.next b3 ok3 mv3 (wk.rl.about wk.ok.tobj e t1) (by rw [t1];exact wk.td) (by rw [t1];exact tl1) (fun c hc=>?_) ep') (by rw [e,e8 (fun c=>(xB L.t c).1)];exact hun) hus (by omega)
  rw [e] at hc
  obtain ⟨c0,h0,rfl⟩:=List.mem_map.mp hc
  have h1:=wk.wl c0 h0
  unfold eE
  split
  ·have:=nj c0.w L.t (-c0.cur.v)
   show (turned c0.w L.t (-c0.cur.v)).length≤_
   omega
  ·omega
 ·have i0:∀ J,fY J (iN n) (.int 0)=some (.str "leave"):=fun J=>d5 _ _
  refine dH hV (i0 _) (by decide +kernel) ?_
  simp_all! [hL,hDt,hC,hV]
  refine ⟨p,L,_,rfl,wk.b,wk.ok,.inr (.inr (.inr (.inl ⟨n,rfl,hrow n hn,fun J3 L3 b3 ok3 e t1 mv3=>?_⟩)))⟩
  simp_all! [hL,hDt,hC,hV]
  refine ⟨D,gs,ep,L.t,_,rfl,mv3.keep _ _ wk.hD wk.nD,gnd,by omega,st,gsz,.inr (.inr (.inr (.inl ⟨n,rfl,hn,fun ep'=>?_⟩)))⟩
  refine fin _ L3 _ ep' used _ t1 (wk.next b3 ok3 mv3 (wk.rl.leave e t1) (by rw [t1];exact wk.td) (by rw [t1];exact tl1) (fun c hc=>?_) ep') (by rw [e,e8 (fun c=>(fM n L.t c).1)];exact hun) hus (by omega)
  rw [e] at hc
  obtain ⟨c0,h0,rfl⟩:=List.mem_map.mp hc
  have h1:=wk.wl c0 h0
  rw [(fM n L.t c0).2.2.2];omega
 ·have i0:∀ J,fY J (JG m') (.int 0)=some (.str "go"):=fun J=>d5 _ _
  refine dH hV (i0 _) (by decide +kernel) ?_
  have tl3:=Cd (EY hm' wk.ok.t0) wk.tl
  have td3:=C1 hm' wk.td
  have hg:dM m'.num m'.den=true:=EF (Rat.le_trans wk.ok.t0 (hm'.le)) td3 (Lz.mpr (Ah (by omega) tl3))
  simp_all! [hL,hDt,hC,hV]
  refine ⟨p,L,_,rfl,wk.b,wk.ok,.inr (.inr (.inr (.inr ⟨m',rfl,hg,hm'.le,fun J3 o3 b3 ok3 mv3=>?_⟩)))⟩
  simp_all! [hL,hDt,hC,hV]
  have hD3:=mv3.keep _ _ wk.hD wk.nD
  refine ⟨D,gs,ep,L.t,_,rfl,hD3,gnd,by omega,st,gsz,.inr (.inr (.inr (.inr ⟨m',rfl,?_⟩)))⟩
  have w3:=wk.next b3 ok3 mv3 (wk.rl.go hm'.le) td3 tl3 (fun c hc=>by have:=wk.wl c hc;omega) ep
  rw [AG hD3] at w3
  exact fin _ _ _ ep used _ rfl w3 hun hus (by omega)
def Gk (cN cL T:Addr):cJ:=fun xs J Q _=>∃ (p:Addr) (L0:Ln) (names:List Str) (cells:List Int) (m:Int),xs=[.ref p,.fl (names.map .str),.fl (cells.map .int),.int m]∧bc cN cL J p L0∧b_ L0∧L0.cs=[]∧L0.t=0∧J T=some .tab∧names.length≤40∧(∀ n∈names,good n=true)∧cells.length≤40∧0≤m∧m < 4 ∧
 ∀ J' L D U gs ep used,Wk cN cL J (L0.own p) J' p L D U gs ep used cells.length→L.cs.map Cf.n=used→(∀ n∈used,n∈names)→used.length≤cells.length→Q (.tup [.ref D,fr L.t,.ref U]) J'
theorem Fn {cN cL T f:Addr} {fd:FuncData} (F:cA K "_law_walk" "_law_walk" wN f fd) (Z:bW mg) (eS:bt P w K mg base 1 "_law_digits" cU AQ) (KN:bt P w K mg base 3 "_law_deed" oj Ga) (KO:bt P w K mg base 9 "_law_done" om (AR cN cL T)) (GS:bt P w K mg base 3 "_law_acted" mz wZ):aL P w K mg base (dh P w) 10 f fd ot (d4 K (Gk cN cL T)):=by
 simp_arith [ik,(ai (aF (i:=4) ik.nd BS)
   (ai (aF (i:=5) ik.nd (m6 ah))
   (ai (aF (i:=6) ik.nd (cm (af ag (af ag ah))))
   (ai (fE cx rfl (fG (rv 2)) (bP (i:=7) ik.nd) (ai (aF (i:=8) ik.nd (aS eS B hr (af (rv 7) (af (oA (wA [.int 10,.int 97,.int 2000001,.int 2001,.int 400000,.int 60] rfl [.int 10,.int 97,.int 2000001,.int 2001,.int 400000,.int 60] rfl)) ah))))
   (ai (aF (i:=9) ik.nd (aS KN B hr (af (rv 8) (af (rv 3) (af (rv 1) (af (rv 5) (af (rv 4) (af (rv 6) ah))))))))
   (cP (aU (aD (cn hr.aO) (aq ar (rv 9) ag) bJ) (ak (bh (oz PySem.F.plainAttrs_list PySem.F.slot_list_append PySem.F.type_list_append pE (rv 5) (af (aq ar (rv 9) ag) ah)))) aI)
   (ai (bh (aS KO B hr (af (rv 0) (af (rv 9) ah))))
   (ak (aF (i:=6) ik.nd (aS GS B hr (af (rv 4) (af (rv 6) (af (rv 9) ah)))))))))))
   (ak (aA (cm (af (rv 4) (af (rv 6) (af (rv 5) ah))))))))))]
 ·obtain ⟨p,L0,names,cells,m,rfl,_⟩:=h;rfl
 obtain ⟨p,L0,names,cells,m,rfl,b,ok,cs0,t0,hT,hnl,hng,hcl,m0,m1,q⟩:=h
 refine hX ?_
 simp_all! []
 intro D hD ep
 simp_all! []
 intro U hU
 have nDU:D≠U:=fun e=>by subst e;rw [av] at hU;cases hU
 have hU0:J U=none:=by rw [au (fun e=>nDU e.symm)] at hU;exact hU
 have w0:Wk cN cL J (L0.own p) (put (put J D (.dct [] ep)) U (.lst [])) p L0 D U [] ep [] 0:=by
  refine ⟨(b.fresh hD).fresh hU,ok,⟨by unfold Ln.fs Ln.DX;rw [cs0];rfl,(by simp),(by simp),(by simp),(by rw [cs0];simp)⟩,by rw [au nDU];exact av,av,fun z=>b.some z hD,fun z=>b.some z hU0,?_,by rw [t0];decide,by rw [t0];decide,by rw [cs0];simp⟩
  have hh:=(Mv.Df (S:=L0.own p) (o:=.dct [] ep) hD).trans (Mv.Df (o:=.lst []) hU)
  exact ⟨hh.keep,fun a z=>hh.own a (z.elim (fun z=>.inl (.inl z)) fun z=>z.elim (fun z=>.inl (.inr z)) .inr),hh.mono⟩
 generalize put (put J D (.dct [] ep)) U (.lst [])=J1 at w0 ⊢
 clear hU hU0
 simp_all! []
 obtain ⟨Inv,hInv⟩:∃ Inv:Nat→Sr→Hq→Prop,∀ i τ J',Inv i τ J'↔∃ (L:Ln) (gs:List (Str × aY)) (ep:Nat) (used:List Str) (u7 u8 u9:Option PV),τ=[some (.ref p),some (.fl (names.map .str)),some (.fl (cells.map .int)),some (.int m),some (.ref D),some (.ref U),some (fr L.t),u7,u8,u9]∧Wk cN cL J (L0.own p) J' p L D U gs ep used i∧L.cs.map Cf.n=used∧(∀ n∈used,n∈names)∧used.length≤i:=⟨_,fun _ _ _=>Iff.rfl⟩
 refine jO Inv ((hInv _ _ _).mpr ⟨L0,[],ep,[],_,_,_,by rw [t0];rfl,w0,by rw [cs0];rfl,(by simp),Nat.le_refl _⟩) (fun _ _ _ _=>trivial) ?_ ?_
 ·intro i x τ J' hx hv
  obtain ⟨L,gs,ep,used,u7,u8,u9,rfl,wk,hun,hus,hul⟩:=(hInv _ _ _).mp hv
  clear hv
  have hi:i < cells.length:=by have:=(List.getElem?_eq_some_iff.mp hx).1;simpa using this
  rw [List.getElem?_map,List.getElem?_eq_getElem hi] at hx
  cases hx
  generalize cells[i]=c
  simp_all! []
  refine ⟨c,[10,97,2000001,2001,400000,60],rfl,oQ (by decide),by decide,fun ds hG=>?_⟩
  obtain ⟨r0,ds,rfl,_,_,hG⟩:=hG.cons
  obtain ⟨r1,ds,rfl,r10,_,hG⟩:=hG.cons
  obtain ⟨r2,ds,rfl,r20,_,hG⟩:=hG.cons
  obtain ⟨r3,ds,rfl,r30,r31,hG⟩:=hG.cons
  obtain ⟨r4,ds,rfl,r40,r41,hG⟩:=hG.cons
  obtain ⟨r5,ds,rfl,r50,_,hG⟩:=hG.cons
  cases hG.nil
  obtain ⟨st,gnd,gl,gsz⟩:=wk.up
  simp_all! []
  refine ⟨r0,r1,r2,r3,r4,r5,m,names,used,U,D,gs,ep,L.t,rfl,wk.hU,wk.hD,hnl,by omega,r10,r20,r30,r31,r40,by omega,r50,m0,m1,st,fun dv hdv=>?_⟩
  refine hNq _ _ ?_
  clear hNq Nq
  refine DS (iL:=0) (iU:=5) (iD:=4) (iC:=6) (iV:=9) rfl rfl rfl rfl rfl wk hun hus hul (by omega) hng hT (b.LU hT) hdv fun J1 L1 gs1 ep1 used1 t1 e1 wk1 h1 h2 h3=>?_
  subst e1
  exact (hInv _ _ _).mpr ⟨L1,gs1,ep1,used1,_,_,_,rfl,wk1,h1,h2,h3⟩
 ·intro τ J' hv
  obtain ⟨L,gs,ep,used,u7,u8,u9,rfl,wk,hun,hus,hul⟩:=(hInv _ _ _).mp hv
  simp_all! []
  rw [List.length_map] at wk hul
  exact q J' L D U gs ep used wk hun hus hul
def xF (ns:List Int) (k:Int):Int:=if k < (ns.length:Int) then ns.getD k.toNat 0 else 5 + 17 * k
def B0:cJ:=fun xs J Q _=>∃ (ns:List Int) (k:Int),xs=[.fl (ns.map .int),.int k]∧0≤k∧k < 1000∧Q (.int (xF ns k)) J
theorem Fh {f:Addr} {fd:FuncData} (F:cA K "_law_cell" "_law_cell" wH f fd) (Z:bW mg):aL P w K mg base (dh P w) 1 f fd oi (d4 K B0):=by
 simp_arith [IX,(ai (aU (aD fN (rv 1) (aM b7 rfl Z.len boot_len (af (rv 0) ah))) (ak (aA (aq ar (rv 0) (rv 1)))) aI)
   (ak (aA (aJ cS ag (aJ bO ag (rv 1))))))]
 ·obtain ⟨ns,k,rfl,_⟩:=h;rfl
 obtain ⟨ns,k,rfl,h0,h1,q⟩:=h
 unfold xF at q
 refine hX ?_
 simp_arith! [bI,List.length_map]
 split
 ·rename_i c
  rw [if_pos c] at q
  obtain ⟨j,rfl⟩:=Int.eq_ofNat_of_zero_le h0
  have hj:j < ns.length:=by omega
  refine k7 (x:=.int ns[j]) (bq (by rw [List.getElem?_map,List.getElem?_eq_getElem hj];rfl)) ?_
  simpa [List.getD,hj] using q
 ·rename_i c
  rw [if_neg c] at q
  exact ⟨.of (.small (x:=17) (by decide) (by decide)) (.small (x:=k) (by omega) (by omega)),q⟩
def Qm:PV→Int
 | .int i=>i
 | _=>0
theorem El (ss:List Str):mU (ss.map .str) none (some (-1))=(ss.dropLast).map PV.str:=by
 unfold mU
 rw [HT.yD,List.drop_zero,Nat.sub_zero,List.map_dropLast,List.dropLast_eq_take]
 have e:HT.eK (ss.map PV.str).length (ss.map PV.str).length (some (-1))=(ss.map PV.str).length - 1:=by
  show (if (-1:Int) < 0 then (-1 + ((ss.map PV.str).length:Int)).toNat else min (-1:Int).toNat (ss.map PV.str).length)=_
  rw [if_pos (by decide)];omega
 rw [e]
def zS:List Str:=["BadName","Taken","Full","NoCraft","TooFar","BadMoment","Past","NotThere","NoWatch","NoTale"]
theorem Lh:∀ i,i < 10→g_ i≠"":=by decide +kernel
theorem Hm (i:Nat) (hi:i < 10):zS.map (fun x=>decide (x=g_ i))=(List.range 10).map fun j=>decide (i=j):=by
 have:∀ i,i < 10→zS.map (fun x=>decide (x=g_ i))=(List.range 10).map fun j=>decide (i=j):=by decide +kernel
 exact this i hi
def gW (i:Nat):Str:=if i < 10 then g_ i else ""
def iM (i:Nat):List PV:=if i < 10 then jN i else []
theorem kM (j:Nat):GL (.fl (iM j)):=by
 unfold iM
 split
 ·exact ⟨by simp [jN,FK,pO,AE,yv (fun k=>PV.bl (decide (j=k))) (fun k=>AE _)],by simp [jN,fZ,fP,dep,dQ,List.range,List.range.loop]⟩
 ·exact ⟨by simp [FK,yw],by simp [fZ,fP,dep,dQ]⟩
abbrev oH:Stmt:=(top 65)
abbrev mB:List Str:=["_law_due_here"]
theorem yI:L2.aw ["_law_due_here","_law_some"] ["_law_due_here"] (L2.aj oH):=ed
def Qn:PV→Str
 | .str x=>x
 | _=>""
def yK:cJ:=fun xs J Q _=>∃ i,xs=[.str (gW i)]∧Q (.fl (iM i)) J
theorem Dl {f:Addr} {fd:FuncData} (F:cA K "_law_flags" "_law_flags" oH f fd) (Z:bW mg):aL P w K mg base (dh P w) 1 f fd mB (d4 K yK):=by
 simp_arith [yI,(ai (aF (i:=1) yI.nd (oA (wA [.str "BadName",.str "Taken",.str "Full",.str "NoCraft",.str "TooFar",.str "BadMoment",.str "Past",.str "NotThere",.str "NoWatch",.str "NoTale"] rfl [.str "BadName",.str "Taken",.str "Full",.str "NoCraft",.str "TooFar",.str "BadMoment",.str "Past",.str "NotThere",.str "NoWatch",.str "NoTale"] rfl)))
   (ai (aU (aD (cn hr.aO) (rv 0) bJ) (ak (aA (oA ah))) aI)
   (ak (aA (aJ Ih (oA (af fQ ah)) (Kx (L2.aj oH) ["_law_due_here","_law_some"] [("_law_due_here",0)] rfl rfl rfl (fG (rv 1)) (fun _ _ _ _ _ _=>(ff (cn hr.aO) (rv 0) (rv 1)))))))))]
 ·obtain ⟨i,rfl,_⟩:=h;rfl
 obtain ⟨i,rfl,q⟩:=h
 refine hX ?_
 simp_all! []
 by_cases hi:i < 10
 ·unfold gW iM at *
  rw [if_pos hi] at q ⊢
  rw [if_neg (Lh i hi)]
  simp_all! [wz]
  refine ⟨fun _=>true,fun x=>.bl (decide (Qn x=g_ i)),⟨by decide +kernel,fun J' _=>⟨trivial,fun x hx=>⟨⟨rfl,rfl⟩,fun _=>?_⟩⟩⟩,?_⟩
  ·obtain ⟨y,hy,rfl⟩:∃ y∈zS,x=.str y:=by
    simp only [List.mem_cons,List.not_mem_nil,or_false] at hx
    rcases hx with h | h | h | h | h | h | h | h | h | h <;> subst h <;> exact ⟨_,by decide +kernel,rfl⟩
   simp_arith! [bI,Qn]
   exact rfl
  ·have e:(([.str "BadName",.str "Taken",.str "Full",.str "NoCraft",.str "TooFar",.str "BadMoment",.str "Past",.str "NotThere",.str "NoWatch",.str "NoTale"]:List PV).filter fun _=>true).map (fun x=>PV.bl (decide (Qn x=g_ i)))=(List.range 10).map fun j=>PV.bl (decide (i=j)):=by
    have:=congrArg (List.map PV.bl) (Hm i hi)
    rw [List.map_map,List.map_map] at this
    exact this
   simp_arith! [bI,e]
   refine ⟨by rw [List.length_map,List.length_range];exact dR (by decide),q⟩
 ·unfold gW iM at *
  rw [if_neg hi] at q ⊢
  rw [if_pos rfl]
  simp_all! []
  exact q
theorem Hl (q:Rat) (a b:Int):eqQ (fr q) (.tup [.int a,.int b])=decide (q.num=a∧(q.den:Int)=b):=by
 rw [Ez,rM,dm,dm,nK,eq_int,eq_int,Bool.and_true,← Bool.decide_and]
theorem Hc (a b:Int):GL (.tup [.int a,.int b])=True:=eq_true ⟨by simp [lV,gZ],by simp [fZ,fP,dep,dQ]⟩
theorem FL (a b:Int):lV (.tup [.int a,.int b])=true:=by simp [lV,gZ]
theorem se {a b:Int} (hb:1≤b):((Rat.divInt a b).num=a∧((Rat.divInt a b).den:Int)=b)↔Int.gcd a b=1:=by
 constructor
 ·rintro ⟨h1,h2⟩
  have:=(Rat.divInt a b).reduced
  rw [h1] at this
  have e:(Rat.divInt a b).den=b.natAbs:=by omega
  rw [e] at this
  exact this
 ·intro h
  have e:Rat.divInt a b=⟨a,b.toNat,by omega,by unfold Int.gcd at h;rw [Nat.Coprime,show b.toNat=b.natAbs by omega];exact h⟩:=by
   have:(⟨a,b.toNat,by omega,by unfold Int.gcd at h;rw [Nat.Coprime,show b.toNat=b.natAbs by omega];exact h⟩:Rat)=Rat.divInt a (b.toNat:Int):=(Rat.mk_eq_divInt ..)
   rw [this,show ((b.toNat:Nat):Int)=b by omega]
  rw [e]
  exact ⟨rfl,by show ((b.toNat:Nat):Int)=b;omega⟩
theorem Bt {a b:Int} (h:dM a b=true):(Rat.divInt a b).num=a∧((Rat.divInt a b).den:Int)=b:=by
 have h:=of_decide_eq_true h
 exact (se h.2.1).mpr h.2.2.1
theorem CK (p q:Rat):(p.num * (q.den:Int) < q.num * (p.den:Int))=(p < q):=propext (Rat.lt_iff p q).symm
def fW (a b:Int) (t:Rat):Nat:=if dM a b=true then (if Rat.divInt a b < t then 6 else 10) else 5
abbrev j5:Stmt:=(top 71)
abbrev jm:List Str:=["_law_moment","_law_clock"]
theorem yH:L2.aw ["_law_moment","_law_clock"] ["_law_moment","_law_clock"] (L2.aj j5):=ed
def Gb:cJ:=fun xs J Q _=>∃ (a b:Int) (t:Rat),xs=[.tup [.int a,.int b],fr t]∧Bd 2000 a∧Bd 2000 b∧Sz 900 t∧Q (.str (gW (fW a b t))) J
theorem v3 {f:Addr} {fd:FuncData} (F:cA K "_law_due_word" "_law_due_word" j5 f fd) (Z:bW mg) (kH:bt P w K mg base 1 "_law_low" cX j_):aL P w K mg base (dh P w) 2 f fd jm (d4 K Gb):=by
 simp_arith [yH,(ai (aU (dC (ku (aD fN (aq ar (rv 0) ag) ag) (ku (aD ji (aq ar (rv 0) ag) ag) (ku (aD fN (aq ar (rv 0) ag) ag) (i4 (aD ji (aq ar (rv 0) ag) (aJ bO ag (aq ar (rv 0) ag)))))))) (ak (aA bJ)) aI)
   (ai (aU (aD (km hr.aO) (aS kH B hr (af (aq ar (rv 0) ag) (af (aq ar (rv 0) ag) ah))) (rv 0)) (ak (aA bJ)) aI)
   (ai (aU (aD fN (aJ bO (aq ar (rv 0) ag) (aq ar (rv 1) ag)) (aJ bO (aq ar (rv 1) ag) (aq ar (rv 0) ag))) (ak (aA bJ)) aI)
   (ak (aA bJ)))))]
 ·obtain ⟨a,b,t,rfl,_⟩:=h;rfl
 obtain ⟨a,b,t,rfl,ba,bb,st,q⟩:=h
 refine hX ?_
 have w5:gW 5="BadMoment":=by decide +kernel
 have w6:gW 6="Past":=by decide +kernel
 have w10:gW 10="":=by decide +kernel
 unfold fW at q
 by_cases hb:1≤b∧b≤60∧0≤a∧a≤1000000 * b
 ·refine AL fun Nq hNq=>?_
  have h0:decide (b < 1)=false:=by simp;omega
  have h1:decide (60 < b)=false:=by simp;omega
  have h2:decide (a < 0)=false:=by simp;omega
  have h3:decide (1000000 * b < a)=false:=by simp;omega
  simp_all! [h0,h1,h2,h3]
  refine ⟨.of (.small (x:=1000000) (by decide) (by decide)) (.small (x:=b) (by omega) (by omega)),?_⟩
  simp_all! []
  refine ⟨a,b,rfl,by omega,bb.mono (by decide),?_⟩
  simp_all! [Hl,Hc,FL]
  by_cases g:Int.gcd a b=1
  ·have hg:dM a b=true:=decide_eq_true ⟨by omega,by omega,g,by omega,by omega⟩
   have e:=(se hb.1).mpr g
   rw [if_pos e]
   simp_all! []
   refine ⟨.of ba st.den,.of st.num bb,?_⟩
   have el:(a * (t.den:Int) < t.num * b)=(Rat.divInt a b < t):=by rw [← CK,e.1,e.2]
   rw [if_pos hg] at q
   simp only [el]
   by_cases c:Rat.divInt a b < t
   ·rw [if_pos c] at q ⊢
    simp_all! []
    rw [← w6];exact q
   ·rw [if_neg c] at q ⊢
    simp_all! []
    rw [← w10];exact q
  ·have hg:¬ dM a b=true:=fun z=>g (of_decide_eq_true z).2.2.1
   rw [if_neg hg] at q
   rw [if_neg (fun e=>g ((se hb.1).mp e))]
   simp_all! []
   rw [← w5];exact q
 ·have hg:¬ dM a b=true:=fun z=>by have:=of_decide_eq_true z;omega
  rw [if_neg hg,w5] at q
  refine AL fun Nq hNq=>?_
  by_cases c0:b < 1
  ·simp_all! [decide_eq_true c0]
   exact q
  by_cases c1:60 < b
  ·simp_all! [decide_eq_false c0,decide_eq_true c1]
   exact q
  by_cases c2:a < 0
  ·simp_all! [decide_eq_false c0,decide_eq_false c1,decide_eq_true c2]
   exact q
  have c3:1000000 * b < a:=by omega
  simp_all! [decide_eq_false c0,decide_eq_false c1,decide_eq_false c2,decide_eq_true c3]
  exact ⟨.of (.small (x:=1000000) (by decide) (by decide)) (.small (x:=b) (by omega) (by omega)),q⟩
abbrev BV:Stmt:=(top 69)
abbrev qh:List Str:=["_law_lane","_law_what","_law_moment"]
theorem MG:L2.aw ["_law_lane","_law_what","_law_moment"] ["_law_lane","_law_what","_law_moment"] (L2.aj BV):=ed
def F' (cN cL eM eP:Addr):cJ:=fun xs J Q E=>∃ p L a b w,xs=[.ref p,.int w,.tup [.int a,.int b]]∧bc cN cL J p L∧b_ L∧(dM a b=false→E eM J)∧(∀ m:Rat,m.num=a→(m.den:Int)=b→dM a b=true→(m < L.t→E eP J)∧(L.t≤m→(w=0→Q .non J)∧(w≠0→∀ J' o',bc cN cL J' p { L with t:=m,o:=o',row:=cf m L.fs }→b_ { L with t:=m,o:=o',row:=cf m L.fs }→Mv J J' (L.own p) (Ln.own { L with t:=m,o:=o',row:=cf m L.fs } p)→Q .non J')))
theorem H0 {cN cL eM eP f:Addr} {fd:FuncData} (F:cA K "_law_ask" "_law_ask" BV f fd) (Z:bW mg) (cG:cY P w K mg base cN 7 "foretold" fB (xb cN cL eM eP)) (dT:cY P w K mg base cN 8 "go_to" iT (Gi cN cL eM eP)):aL P w K mg base (dh P w) 9 f fd qh (d4 K (F' cN cL eM eP)):=by
 simp_arith [MG,(ak (aU (aD (cn hr.aO) (rv 1) ag) (ak (bh (bL (pl:=_) cG B hr (rv 0) (af (rv 2) ah)))) (ak (bh (bL (pl:=_) dT B hr (rv 0) (af (rv 2) ah))))))]
 ·obtain ⟨p,L,a,b,w',rfl,_⟩:=h;rfl
 obtain ⟨p,L,a,bb,w',rfl,b,ok,qe,q⟩:=h
 have bo:=b.ob
 refine hX ?_
 by_cases c:w'=0
 ·subst c
  simp_all! [bo]
  exact ⟨f_ _ _ _ _,p,L,a,bb,rfl,b,ok,qe,fun m h1 h2 hg=>⟨(q m h1 h2 hg).1,fun hm=>.inl (((q m h1 h2 hg).2 hm).1 rfl)⟩⟩
 ·simp_all! [bo,c]
  exact ⟨f_ _ _ _ _,p,L,a,bb,rfl,b,ok,qe,fun m h1 h2 hg=>⟨(q m h1 h2 hg).1,fun hm J' o' b' ok' mv'=>((q m h1 h2 hg).2 hm).2 c J' o' b' ok' mv'⟩⟩
abbrev wM:Stmt:=(top 70)
abbrev oq:List Str:=["_law_lane","_law_what","_law_moment"]
theorem qV:L2.aw ["_law_lane","_law_what","_law_moment","_law_said_here","e"] ["_law_lane","_law_what","_law_moment"] (L2.aj wM):=ed
def B' (cN cL:Addr):cJ:=fun xs J Q E=>∃ p L a b w,xs=[.ref p,.int w,.tup [.int a,.int b]]∧bc cN cL J p L∧b_ L∧(fW a b L.t < 10∨w=0→Q (.fl (iM (fW a b L.t))) J)∧(∀ m:Rat,m.num=a→(m.den:Int)=b→dM a b=true→L.t≤m→w≠0→∀ J' o',bc cN cL J' p { L with t:=m,o:=o',row:=cf m L.fs }→b_ { L with t:=m,o:=o',row:=cf m L.fs }→Mv J J' (L.own p) (Ln.own { L with t:=m,o:=o',row:=cf m L.fs } p)→Q (.fl []) J')
theorem Fm {cN cL f W:Addr} {c:Nat→Addr} {fd:FuncData} (F:cA K "_law_said" "_law_said" wM f fd) (Z:bW mg) (Er:Cz K mg W c) (Nl:bt P w K mg base 9 "_law_ask" qh (F' cN cL (c 5) (c 6))):aL P w K mg base (dh P w) 10 f fd oq (d4 K (B' cN cL)):=by
 simp_arith [qV]
 ·obtain ⟨p,L,a,b,w',rfl,_⟩:=h;rfl
 obtain ⟨p,L,a,bb,w',rfl,b,ok,q0,q1⟩:=h
 refine ⟨_,(ai (aF (i:=3) qV.nd (oA ah))
   (ai (MD (i:=4) (n:=3) Er rfl Er.mW qV.nd rfl (by decide) rfl (fun _ _ _ _ _ hx=>(ak (bh (aS Nl hx hr (af (rv 0) (af (rv 1) (af (rv 2) ah)))))))
   (fun _ _=>(bK (cV (i:=3) qV.nd rfl (Or.inl rfl) (jY (ay (bG (cR (K:=K) rfl) rfl Z.isinstance boot_isinstance (ay (pv 4) (ay (qG (v:=.ty "ValueError") rfl Er.nV PyProof.Rows.Boot.«ValueError» rfl) a_))) (ay (bG (cR (K:=K) rfl) rfl Z.isinstance boot_isinstance (ay (pv 4) (ay (dA (v:=.ref (c 0)) rfl (Er.own 0 (by decide)).mg rfl) a_))) (ay (bG (cR (K:=K) rfl) rfl Z.isinstance boot_isinstance (ay (pv 4) (ay (dA (v:=.ref (c 1)) rfl (Er.own 1 (by decide)).mg rfl) a_))) (ay (bG (cR (K:=K) rfl) rfl Z.isinstance boot_isinstance (ay (pv 4) (ay (dA (v:=.ref (c 2)) rfl (Er.own 2 (by decide)).mg rfl) a_))) (ay (bG (cR (K:=K) rfl) rfl Z.isinstance boot_isinstance (ay (pv 4) (ay (dA (v:=.ref (c 3)) rfl (Er.own 3 (by decide)).mg rfl) a_))) (ay (bG (cR (K:=K) rfl) rfl Z.isinstance boot_isinstance (ay (pv 4) (ay (dA (v:=.ref (c 4)) rfl (Er.own 4 (by decide)).mg rfl) a_))) (ay (bG (cR (K:=K) rfl) rfl Z.isinstance boot_isinstance (ay (pv 4) (ay (dA (v:=.ref (c 5)) rfl (Er.own 5 (by decide)).mg rfl) a_))) (ay (bG (cR (K:=K) rfl) rfl Z.isinstance boot_isinstance (ay (pv 4) (ay (dA (v:=.ref (c 6)) rfl (Er.own 6 (by decide)).mg rfl) a_))) (ay (bG (cR (K:=K) rfl) rfl Z.isinstance boot_isinstance (ay (pv 4) (ay (dA (v:=.ref (c 7)) rfl (Er.own 7 (by decide)).mg rfl) a_))) (ay (bG (cR (K:=K) rfl) rfl Z.isinstance boot_isinstance (ay (pv 4) (ay (dA (v:=.ref (c 8)) rfl (Er.own 8 (by decide)).mg rfl) a_))) (ay (bG (cR (K:=K) rfl) rfl Z.isinstance boot_isinstance (ay (pv 4) (ay (dA (v:=.ref (c 9)) rfl (Er.own 9 (by decide)).mg rfl) a_))) a_))))))))))))))) (fun j hj σ H ea D h1 h2 q=>Gr Er hj h1 h2 q))
   (ak (aA (rv 3))))),?_⟩
 simp_all! []
 have f5:iM 5=jN 5:=rfl
 have f6:iM 6=jN 6:=rfl
 have f10:iM 10=[]:=rfl
 refine ⟨p,L,a,bb,w',rfl,b,ok,fun hg=>⟨5,by decide,rfl,hNq _ _ ?_⟩,fun m h1 h2 hg=>?_⟩
 ·have e:fW a bb L.t=5:=if_neg (by rw [hg];decide)
  have q0:=q0 (.inl (by rw [e];decide))
  rw [e,f5] at q0
  exact q0
 have em:Rat.divInt a bb=m:=by rw [← h1,← h2];exact Rat.num_divInt_den m
 refine ⟨fun lt=>⟨6,by decide,rfl,hNq _ _ ?_⟩,fun hm=>⟨fun h0=>hNq _ _ ?_,fun h0 J' o' b' ok' mv'=>hNq _ _ ?_⟩⟩
 ·have e:fW a bb L.t=6:=by unfold fW;rw [if_pos hg,em,if_pos lt]
  have q0:=q0 (.inl (by rw [e];decide))
  rw [e,f6] at q0
  exact q0
 ·have e:fW a bb L.t=10:=by unfold fW;rw [if_pos hg,em,if_neg (Rat.not_lt.mpr hm)]
  have q0:=q0 (.inr h0)
  rw [e,f10] at q0
  simp_arith! [bI]
  exact q0
 ·simp_arith! [bI]
  exact q1 m h1 h2 hg hm h0 J' o' b' ok' mv'
theorem Mv.fresh {J J':Hq} {S S':Addr→Prop} (mv:Mv J J' S S') {x:Addr} {o:HQ} (hx:J x=some o) (nx:¬ S x):¬ S' x:=fun z=>by
 rcases mv.own _ z with q | q
 ·exact nx q
 ·rw [hx] at q;cases q
structure Sd (cN cL:Addr) (J:Hq) (p:Addr) (L:Ln) (D T:Addr) (gs:List (Str × aY)) (ep:Nat):Prop where
 b:bc cN cL J p L
 ok:b_ L
 rl:Rl L gs
 hD:J D=some (.dct (cb gs) ep)
 nD:¬ L.own p D
 hT:J T=some .tab
 nT:¬ L.own p T
theorem Sd.go {cN cL:Addr} {J J':Hq} {p:Addr} {L:Ln} {D T:Addr} {gs:List (Str × aY)} {ep:Nat} (s:Sd cN cL J p L D T gs ep) {m:Rat} (hm:L.t≤m) {o':Addr} (b':bc cN cL J' p { L with t:=m,o:=o',row:=cf m L.fs }) (ok':b_ { L with t:=m,o:=o',row:=cf m L.fs }) (mv:Mv J J' (L.own p) (Ln.own { L with t:=m,o:=o',row:=cf m L.fs } p)):Sd cN cL J' p { L with t:=m,o:=o',row:=cf m L.fs } D T gs ep :=
 ⟨b',ok',s.rl.go hm,mv.keep _ _ s.hD s.nD,mv.fresh s.hD s.nD,mv.keep _ _ s.hT s.nT,mv.fresh s.hT s.nT⟩
theorem Bd.fdiv {n:Nat} {x y:Int} (h:Bd n x) (hy:0 < y):Bd n (x.fdiv y):=h.le (by
 rw [Int.fdiv_eq_ediv_of_nonneg _ (by omega)]
 exact Int.natAbs_ediv_le_natAbs x y)
theorem Hw {a b:Int} (h:dM a b=true):∃ m:Rat,m.num=a∧(m.den:Int)=b∧Rat.divInt a b=m:=⟨_,(Bt h).1,(Bt h).2,rfl⟩
theorem uZ {a b:Int} {t:Rat}:(gW (fW a b t)="")=(fW a b t=10):=by
 have e5:¬ gW 5="":=by decide +kernel
 have e6:¬ gW 6="":=by decide +kernel
 have e10:gW 10="":=by decide +kernel
 apply propext
 unfold fW
 split
 ·split
  ·exact ⟨fun z=>absurd z e6,fun z=>by omega⟩
  ·exact ⟨fun _=>rfl,fun _=>e10⟩
 ·exact ⟨fun z=>absurd z e5,fun z=>by omega⟩
theorem Hj {a b:Int} {t:Rat} (h:fW a b t=10):dM a b=true∧t≤Rat.divInt a b:=by
 unfold fW at h
 split at h
 ·rename_i g
  split at h
  ·omega
  ·rename_i c;exact ⟨g,Rat.not_lt.mp c⟩
 ·omega
theorem Hk (a b:Int) (t:Rat):fW a b t≤10:=by unfold fW;split <;> (try split) <;> omega
abbrev yE:Stmt:=(top 72)
abbrev Mm:List Str:=["_law_script"]
theorem df:L2.aw ["_law_script","_law_head","_law_names_here","_law_lane","_law_cells","_law_legs","_law_clock","_law_used","_law_k","_law_row","_law_under","_law_moment","_law_due_here","_law_what"] ["_law_script"] (L2.aj yE):=ed
theorem H_ {cN cL T f:Addr} {fd:FuncData} (F:cA K "law" "law" yE f fd) (Z:bW mg) (u_:bt P w K mg base 1 "_law_cell" oi B0) (eS:bt P w K mg base 1 "_law_digits" cU AQ) (vb:bt P w K mg base 2 "_law_names" fF yV) (KQ:bt P w K mg base 10 "_law_walk" ot (Gk cN cL T)) (zB:zC P w K mg base cN 1 "Lane" jl (B7 cN cL)) (kH:bt P w K mg base 1 "_law_low" cX j_) (zd:bt P w K mg base 2 "_law_due_word" jm Gb) (KP:bt P w K mg base 10 "_law_said" oq (B' cN cL)) (GU:bt P w K mg base 1 "_law_flags" mB yK) (DZ:bt P w K mg base 8 "_law_stands" lh (sZ cN cL)) :
  aL P w K mg base (dh P w) 11 f fd Mm (d4 K (AS [T])):=by
 simp_arith [df,(ai (aF (i:=1) df.nd (aS eS B hr (af (aS u_ B hr (af (rv 0) (af ag ah))) (af (oA (af ag (af ag (af ag ah)))) ah))))
   (ai (aF (i:=2) df.nd (aS vb B hr (af (aS u_ B hr (af (rv 0) (af ag ah))) (af (aJ cS ag (aq ar (rv 1) ag)) ah))))
   (ai (aF (i:=3) df.nd (sH zB B hr))
   (ai (Pl (i:=4) (L2.aj yE) ["_law_script","_law_head","_law_names_here","_law_lane","_law_cells","_law_legs","_law_clock","_law_used","_law_k","_law_row","_law_under","_law_moment","_law_due_here","_law_what"] [("_law_script",0)] rfl rfl rfl df.nd rfl (Or.inl rfl) (lX rfl Z.range (af (aq ar (rv 1) ag) ah)) (fun _ _ _ _ _ _=>(aS u_ NK hr (af (rv 1) (af (aJ cS ag (rv 0)) ah)))))
   (ai (wD (aS KQ B hr (af (rv 3) (af (ju Gm (rv 2) lY (lZ (uO p6 ag))) (af (rv 4) (af (aq ar (rv 1) ag) ah))))) (sJ (n:=3) rfl (dn (bP (i:=5) df.nd) (dn (bP (i:=6) df.nd) (dn (bP (i:=7) df.nd) oE)))))
   (ai (fE cx rfl (lX rfl Z.range (af ag ah)) (bP (i:=8) df.nd) (ai (aF (i:=9) df.nd (aS eS B hr (af (aS u_ B hr (af (rv 0) (af (aJ cS ag (rv 8)) ah))) (af (oA (wA [.int 8,.int 4001,.int 67,.int 7] rfl [.int 8,.int 4001,.int 67,.int 7] rfl)) ah))))
   (ai (aF (i:=10) df.nd (aJ du (aq ar (rv 9) ag) ag))
   (ai (aF (i:=11) df.nd (cm (af (aJ du (aq ar (rv 9) ag) ag) (af (rv 10) ah))))
   (cP (aU (dC (eJ (aD Fv (aq ar (rv 9) ag) (cm (af ag (af ag ah)))) (dB (aD ji (rv 10) ag)))) (ak (aF (i:=11) df.nd (aS kH B hr (af (aJ du (aJ cS (aJ n6 (aJ bO (aq ar (rv 6) ag) (rv 10)) (aq ar (rv 6) ag)) (aq ar (rv 9) ag)) ag) (af (rv 10) ah))))) aI)
   (cP (aU (aD (cn hr.aO) (aq ar (rv 9) ag) ag) (ak (aF (i:=11) df.nd (cm (af (aJ bO (aq ar (rv 6) ag) ag) (af (aJ bO (aq ar (rv 6) ag) ag) ah))))) aI)
   (cP (aU (dC (eJ (aD (cn hr.aO) (aq ar (rv 9) ag) ag) (dB (aD ji (rv 8) ag)))) (ak (aF (i:=11) df.nd (cm (af (aJ du (aJ cS (aJ bO ag (rv 10)) (aq ar (rv 9) ag)) ag) (af (rv 10) ah))))) aI)
   (cP (aU (aD (cn hr.aO) (aq ar (rv 9) ag) ag) (ak (aF (i:=11) df.nd (rv 6))) aI)
   (ai (aF (i:=12) df.nd (aS zd B hr (af (rv 11) (af (rv 6) ah))))
   (ak (fE cx rfl (Mz (cm (af ag (af ag ah)))) (bP (i:=13) df.nd) (ai (aU (aD (km hr.aO) (aS KP B hr (af (rv 3) (af (rv 13) (af (rv 11) ah)))) (aS GU B hr (af (rv 12) ah))) (ak (aA fQ)) aI)
   (cP (aU (dC (eJ (aD (cn hr.aO) (rv 13) ag) (dB (aD (cn hr.aO) (rv 12) bJ)))) (ak (aF (i:=6) df.nd (rv 11))) aI)
   (ak (aU (dw (bX (aS DZ B hr (af (rv 3) (af (rv 5) (af (rv 6) ah)))))) (ak (aA fQ)) aI)))))))))))))))
   (ak (aA fQ))))))))]
 ·obtain ⟨ns,rfl,_⟩:=h;rfl
 obtain ⟨ns,rfl,hl,hT,hJ,q⟩:=h
 have hT:J T=some .tab:=hT T (by simp)
 refine hX ?_
 simp_all! []
 refine ⟨ns,0,rfl,by decide,by decide,_,[21,7,4],rfl,oQ (by decide),by decide,fun ds hD=>?_⟩
 obtain ⟨d0,ds,rfl,d00,d01,hD⟩:=hD.cons
 obtain ⟨d1,ds,rfl,d10,d11,hD⟩:=hD.cons
 obtain ⟨d2,ds,rfl,d20,d21,hD⟩:=hD.cons
 cases hD.nil
 simp_all! []
 refine ⟨ns,1,rfl,by decide,by decide,_,3 + d1,rfl,by omega,by omega,fun names nl nd ng=>?_⟩
 simp_all! []
 intro p hp
 refine ⟨p,rfl,av,fun J1 d e o b mv=>?_⟩
 have mvJ:Mv J J1 (fun _=>False) (Ln.own ⟨0,d,e,o,[],[]⟩ p):=by
  refine (Mv.Df (S:=fun _=>False) hp).trans ⟨fun a u h n=>mv.keep a u h fun z=>n (.inr z),fun a z=>(mv.own a z).imp .inr id,mv.mono⟩
 have ok0:b_ ⟨0,d,e,o,[],[]⟩:=⟨⟨List.nodup_nil,(by simp),(by simp),(by simp),(by simp),(by simp),Rat.le_refl,S9 _,(by show 0≤100;decide),(by intro n;simp [Ln.fs,Ln.DX]),List.nodup_nil,(by show 0≤12;decide)⟩,rfl⟩
 have hT1:J1 T=some .tab:=mvJ.keep _ _ hT fun z=>z
 simp_all! [wz]
 refine ⟨by omega,by omega,fun _=>true,fun x=>.int (xF ns (8 + Qm x)),⟨by rw [jg];exact bp (by omega),fun J' _=>⟨trivial,fun x hx=>⟨⟨rfl,rfl⟩,fun _=>?_⟩⟩⟩,?_⟩
 ·obtain ⟨i,hi⟩:=List.mem_iff_getElem?.mp hx
  obtain ⟨i1,rfl⟩:=(rX _ _ _ _).mp hi
  simp_all! []
  exact ⟨ns,_,rfl,by omega,by omega,rfl,rfl⟩
 obtain ⟨cs,hcs,hcl⟩:∃ cs:List Int,((rW 0 d0.toNat).filter fun _=>true).map (fun x=>PV.int (xF ns (8 + Qm x)))=cs.map .int∧cs.length≤21:=⟨((rW 0 d0.toNat).filter fun _=>true).map (fun x=>xF ns (8 + Qm x)),by rw [List.map_map];rfl,by
  rw [List.length_map]
  exact Nat.le_trans (List.length_filter_le _ _) (by rw [jg];omega)⟩
 rw [hcs]
 simp_all! [El]
 have hnl:names.dropLast.length≤40:=by rw [List.length_dropLast];omega
 refine ⟨p,_,names.dropLast,cs,d2,rfl,b,ok0,rfl,rfl,hT1,hnl,(fun n hn=>ng n (List.dropLast_subset _ hn)),by omega,d20,d21,fun J2 L D U gs ep used wk hun hus hul=>?_⟩
 have hT2:J2 T=some .tab:=wk.kept hT1 (b.LU hT1)
 obtain ⟨st,gnd,gl,gsz⟩:=wk.up
 clear mvJ mv hcs
 simp_all! []
 refine ⟨by decide,by decide,?_⟩
 have nT2:¬ L.own p T:=fun z=>by
  rcases wk.mv.own T (.inl z) with h | h
  ·exact b.LU hT1 h
  ·rw [hT1] at h;cases h
 have sd0:Sd cN cL J2 p L D T gs ep:=⟨wk.b,wk.ok,wk.rl,wk.hD,wk.nD,hT2,nT2⟩
 clear wk hT2 nT2 st gsz gnd
 obtain ⟨Inv,hInv⟩:∃ Inv:Nat→Sr→Hq→Prop,∀ i τ J',Inv i τ J'↔∃ (L:Ln) (u8 u9 u10 u11 u12 u13:Option PV),τ=[some (.fl (ns.map .int)),some (.fl [.int d0,.int d1,.int d2]),some (.fl (names.map .str)),some (.ref p),some (.fl (cs.map .int)),some (.ref D),some (fr L.t),some (.ref U),u8,u9,u10,u11,u12,u13]∧Sd cN cL J' p L D T gs ep:=⟨_,fun _ _ _=>Iff.rfl⟩
 refine vF Inv ((hInv _ _ _).mpr ⟨L,_,_,_,_,_,_,rfl,sd0⟩) ?_ ?_
 ·clear sd0
  intro i τ J' hi hv
  obtain ⟨L,u8,u9,u10,u11,u12,u13,rfl,sd⟩:=(hInv _ _ _).mp hv
  clear hv
  have st2:Sz 240 L.t:=(x8 sd.ok.ts).mono (by decide)
  simp_all! []
  refine ⟨ns,2 + (0 + (i:Int)),rfl,by omega,by omega,_,[8,4001,67,7],rfl,oQ (by decide),by decide,fun ds hQ=>?_⟩
  obtain ⟨e0,ds,rfl,e00,e01,hQ⟩:=hQ.cons
  obtain ⟨e1,ds,rfl,e10,e11,hQ⟩:=hQ.cons
  obtain ⟨e2,ds,rfl,e20,e21,hQ⟩:=hQ.cons
  obtain ⟨e3,ds,rfl,e30,e31,hQ⟩:=hQ.cons
  cases hQ.nil
  have bu:Bd 64 (e2 - 2):=.small (by omega) (by omega)
  have b2:Bd 64 2:=.small (by decide) (by decide)
  obtain ⟨M,hM⟩:∃ M:Sr→Hq→Prop,∀ τ' Ja,M τ' Ja↔∃ (a b:Int),τ'=[some (.fl (ns.map .int)),some (.fl [.int d0,.int d1,.int d2]),some (.fl (names.map .str)),some (.ref p),some (.fl (cs.map .int)),some (.ref D),some (fr L.t),some (.ref U),some (.int (0 + (i:Int))),some (.fl [.int e0,.int e1,.int e2,.int e3]),some (.int (e2 - 2)),some (.tup [.int a,.int b]),u12,u13]∧Ja=J'∧Bd 1000 a∧Bd 1000 b:=⟨_,fun _ _=>Iff.rfl⟩
  simp_all! []
  refine ⟨M,?_,?_⟩
  ·simp_all! []
   refine ⟨e0,[1,2],rfl,rfl,sk rfl ?_⟩
   have old:M [some (.fl (ns.map .int)),some (.fl [.int d0,.int d1,.int d2]),some (.fl (names.map .str)),some (.ref p),some (.fl (cs.map .int)),some (.ref D),some (fr L.t),some (.ref U),some (.int (0 + (i:Int))),some (.fl [.int e0,.int e1,.int e2,.int e3]),some (.int (e2 - 2)),some (.tup [.int (e1 - 40),.int (e2 - 2)]),u12,u13] J':=(hM _ _).mpr ⟨_,_,rfl,rfl,(Bd.small (x:=e1 - 40) (by omega) (by omega)).mono (by decide),bu.mono (by decide)⟩
   by_cases c1:e0∈[1,2]
   ·by_cases c2:0 < e2 - 2
    ·simp_arith! [bI,c1,c2]
     refine ⟨.of st2.num bu,⟨eZ _,st2.den.mono (by decide)⟩,_,_,rfl,by omega,bu.mono (by decide),?_⟩
     have bx:Bd 900 ((L.t.num * (e2 - 2)).fdiv (L.t.den:Int) + e3 - 3):=((Bd.fdiv (Bd.mul st2.num bu (k:=400)) (eY _)).add (Bd.small (x:=e3) (by omega) (by omega)) (k:=450)).sub (Bd.small (x:=3) (by decide) (by decide)) (k:=900)
     have sq:=Sz.div bx (bu.mono (by decide)) (show e2 - 2≠0 by omega)
     exact (hM _ _).mpr ⟨_,_,rfl,rfl,sq.num.mono (by decide),sq.den.mono (by decide)⟩
    ·simp_arith! [bI,c1,c2]
     exact old
   ·simp_arith! [bI,c1]
    exact old
  intro τ' Ja hm
  obtain ⟨a,b,rfl,rfl,ba,bb⟩:=(hM _ _).mp hm
  clear hm
  refine ⟨M,?_,?_⟩
  ·simp_all! []
   split
   ·simp_all! []
    refine ⟨.of st2.num b2,.of st2.den b2,?_⟩
    exact (hM _ _).mpr ⟨_,_,rfl,rfl,Bd.mul st2.num b2 (k:=1000),Bd.mul st2.den b2 (k:=1000)⟩
   ·exact (hM _ _).mpr ⟨a,b,rfl,rfl,ba,bb⟩
  intro τ' Jb hm
  clear ba bb
  obtain ⟨a,b,rfl,rfl,ba,bb⟩:=(hM _ _).mp hm
  clear hm
  refine ⟨M,?_,?_⟩
  ·simp_all! []
   by_cases c1:e0=4
   ·by_cases c2:(3:Int) < 0 + (i:Int)
    ·have bm:Bd 64 1000000:=.small (by decide) (by decide)
     simp_arith! [bI,eq_true c1,c2]
     refine ⟨.of bm bu,?_⟩
     exact (hM _ _).mpr ⟨_,_,rfl,rfl,((Bd.mul bm bu (k:=128)).add (Bd.small (x:=e3) (by omega) (by omega)) (k:=200)).sub (Bd.small (x:=3) (by decide) (by decide)) (k:=1000),bu.mono (by decide)⟩
    ·simp_arith! [bI,eq_true c1,c2]
     exact (hM _ _).mpr ⟨a,b,rfl,rfl,ba,bb⟩
   ·simp_arith! [bI,c1]
    exact (hM _ _).mpr ⟨a,b,rfl,rfl,ba,bb⟩
  intro τ' Jc hm
  clear ba bb
  obtain ⟨a,b,rfl,rfl,ba,bb⟩:=(hM _ _).mp hm
  clear hm
  refine ⟨M,?_,?_⟩
  ·simp_all! []
   split
   ·simp_all! []
    exact (hM _ _).mpr ⟨_,_,rfl,rfl,st2.num.mono (by decide),st2.den.mono (by decide)⟩
   ·exact (hM _ _).mpr ⟨a,b,rfl,rfl,ba,bb⟩
  intro τ' Jd hm
  clear ba bb
  obtain ⟨a,b,rfl,rfl,ba,bb⟩:=(hM _ _).mp hm
  clear hm hM M
  simp_all! []
  refine ⟨a,b,L.t,rfl,ba.mono (by decide),bb.mono (by decide),sd.ok.KI,?_⟩
  simp_all! []
  have stn:∀ {J' L'},Sd cN cL J' p L' D T gs ep→∀ {Q:PV→Hq→Prop} {E},Q (.bl true) J'→sZ cN cL [.ref p,.ref D,fr L'.t] J' Q E:=fun {J' L'} s {Q E} hq =>
   ⟨p,L',D,ep,gs,rfl,s.b,s.ok,s.hD,s.rl.nd s.ok.tobj,by omega,s.rl.sz,s.rl.same _,hq⟩
  have fin:∀ {J' L'} {u9 u10 u11 u12 u13},Sd cN cL J' p L' D T gs ep→Inv (i + 1) [some (.fl (ns.map .int)),some (.fl [.int d0,.int d1,.int d2]),some (.fl (names.map .str)),some (.ref p),some (.fl (cs.map .int)),some (.ref D),some (fr L'.t),some (.ref U),some (.int (0 + (i:Int))),u9,u10,u11,u12,u13] J':=fun s=>(hInv _ _ _).mpr ⟨_,_,_,_,_,_,_,rfl,s⟩
  obtain ⟨Pm,hPm⟩:∃ Pm:Sr→Hq→Prop,∀ τ' Ja,Pm τ' Ja↔τ'=[some (.fl (ns.map .int)),some (.fl [.int d0,.int d1,.int d2]),some (.fl (names.map .str)),some (.ref p),some (.fl (cs.map .int)),some (.ref D),some (fr L.t),some (.ref U),some (.int (0 + (i:Int))),some (.fl [.int e0,.int e1,.int e2,.int e3]),some (.int (e2 - 2)),some (.tup [.int a,.int b]),some (.str (gW (fW a b L.t))),some (.int 0)]∧Ja=Jd:=⟨_,fun _ _=>Iff.rfl⟩
  refine Ho (fun _=>trivial) Pm ?_ ?_
  ·simp_all! []
   refine ⟨p,L,a,b,0,rfl,sd.b,sd.ok,fun _=>?_,fun _ _ _ _ _ z=>absurd rfl z⟩
   simp_all! []
   refine ⟨fW a b L.t,rfl,?_⟩
   simp_all! []
   refine ⟨kM _,(kM _).1,?_⟩
   rw [eq_self]
   simp_all! []
   refine ⟨fun τ' Ja=>τ'=[some (.fl (ns.map .int)),some (.fl [.int d0,.int d1,.int d2]),some (.fl (names.map .str)),some (.ref p),some (.fl (cs.map .int)),some (.ref D),some (fr L.t),some (.ref U),some (.int (0 + (i:Int))),some (.fl [.int e0,.int e1,.int e2,.int e3]),some (.int (e2 - 2)),some (.tup [.int a,.int b]),some (.str (gW (fW a b L.t))),some (.int 0)]∧Ja=Jd,?_,?_⟩
   ·simp_arith! [bI,show ((0:Int)=1)=False from by simp]
   rintro τ' Ja ⟨rfl,rfl⟩
   simp_all! []
   refine stn sd ?_
   simp_all! []
   exact (hPm _ _).mpr ⟨rfl,rfl⟩
  ·intro τ' Ja hp
   obtain ⟨rfl,rfl⟩:=(hPm _ _).mp hp
   clear hp hPm Pm
   by_cases c:fW a b L.t=10
   ·obtain ⟨hg,hm⟩:=Hj c
    obtain ⟨m,hn,hd,em⟩:=Hw hg
    rw [em] at hm
    simp_all! []
    refine ⟨p,L,a,b,1,rfl,sd.b,sd.ok,fun z=>by omega,fun m' h1 h2 _ hm' _ J3 o3 b3 ok3 mv3=>?_⟩
    obtain rfl:m'=m:=Rat.ext (h1.trans hn.symm) (by omega)
    have sd3:=sd.go hm' b3 ok3 mv3
    simp_all! []
    refine ⟨10,by rw [c],?_⟩
    have f10:iM 10=[]:=rfl
    simp_all! []
    have hcm:=kM 10
    rw [f10] at hcm ⊢
    refine ⟨hcm,hcm.1,?_⟩
    rw [eq_self]
    simp_all! []
    refine ⟨fun τ' Jb=>τ'=[some (.fl (ns.map .int)),some (.fl [.int d0,.int d1,.int d2]),some (.fl (names.map .str)),some (.ref p),some (.fl (cs.map .int)),some (.ref D),some (fr m'),some (.ref U),some (.int (0 + (i:Int))),some (.fl [.int e0,.int e1,.int e2,.int e3]),some (.int (e2 - 2)),some (.tup [.int a,.int b]),some (.str (gW (fW a b L.t))),some (.int 1)]∧Jb=J3,?_,?_⟩
    ·simp_arith! [bI,uZ,eq_true c]
     rw [← h1,← h2];rfl
    rintro τ' Jb ⟨rfl,rfl⟩
    simp_all! []
    refine stn sd3 ?_
    simp_all! []
    exact fin sd3
   ·have hlt:fW a b L.t < 10:=by have:=Hk a b L.t;omega
    simp_all! []
    refine ⟨p,L,a,b,1,rfl,sd.b,sd.ok,fun _=>?_,fun m h1 h2 hg hm _=>absurd (by unfold fW;rw [if_pos hg,show Rat.divInt a b=m from by rw [← h1,← h2];exact Rat.num_divInt_den m,if_neg (Rat.not_lt.mpr hm)]) c⟩
    simp_all! []
    refine ⟨fW a b L.t,rfl,?_⟩
    simp_all! []
    refine ⟨kM _,(kM _).1,?_⟩
    rw [eq_self]
    simp_all! []
    refine ⟨fun τ' Jb=>τ'=[some (.fl (ns.map .int)),some (.fl [.int d0,.int d1,.int d2]),some (.fl (names.map .str)),some (.ref p),some (.fl (cs.map .int)),some (.ref D),some (fr L.t),some (.ref U),some (.int (0 + (i:Int))),some (.fl [.int e0,.int e1,.int e2,.int e3]),some (.int (e2 - 2)),some (.tup [.int a,.int b]),some (.str (gW (fW a b L.t))),some (.int 1)]∧Jb=Ja,?_,?_⟩
    ·simp_arith! [bI,uZ,eq_false c]
    rintro τ' Jb ⟨rfl,rfl⟩
    simp_all! []
    refine stn sd ?_
    simp_all! []
    exact fin sd
 ·intro τ J' hv
  obtain ⟨L,u8,u9,u10,u11,u12,u13,rfl,sd⟩:=(hInv _ _ _).mp hv
  simp_all! []
  exact q J' (by simpa using sd.hT)
end
theorem K5 {P:Program} {w:World} {K:PySem.W.Frag} {mg:Str→Option Value} (Z:bW mg) {W:Addr} {c:Nat→Addr} (Er:Cz K mg W c) (N:rE K mg) {kb:Tok} (gH:mg "FARTHEST"=some (.int 1000000 kb)) {gC:Tok} (eO:mg "FASTEST"=some (.int 1000 gC)) {oU:Tok} (kQ:mg "FINEST"=some (.int 60 oU)) {oV:Tok} (kR:mg "LATEST"=some (.int 1000000 oV)) {ma:Tok} (jf:mg "LONGEST"=some (.int 8 ma)) {xj:Tok} (rR:mg "MOST"=some (.int 12 xj)) {q9:Tok} (nM:mg "SIGNS"=some (.str "abcdefghijklmnopqrstuvwxyz0123456789" q9)) {jb:Addr} (bH:eD K mg "Log" jb) {cZ:Addr} (ax:eD K mg "Lane" cZ) {jI:Addr} (bC:eD K mg "Bells" jI) (aV:aH K jb "rows") (bQ:aH K jb "gone") (az:aH K cZ "now") (aQ:aH K cZ "logs") (aB:aH K cZ "row") (aT:aH K jI "rows") (zi:Def K mg "_law_cell" wH) (rh:Def K mg "_law_digits" oG) (rp:Def K mg "shared" oK) (mJ:Def K mg "fraction" j6) (D3:Def K mg "_law_low" BW) (zl:Def K mg "less" wJ) (zo:Def K mg "plus" wL) (vh:Def K mg "minus" qO) (vn:Def K mg "times" qQ) {g8:Addr} (g6:zr K mg "good_name" ig g8) (vi:Def K mg "_law_names" l6) (mM:Def K mg "place_on" j9) (o4:Def K mg "last_by" l4) (iq:Def K mg "lies_behind" fJ) (mK:Def K mg "in_order" j7) (iu:Def K mg "rings_ahead" fK) (o5:Def K mg "meeting" l5) (eV:Def K mg "in_lowest_terms" dD) (ip:Def K mg "good_moment" fI) (vo:Def K mg "_law_whole" qR) (zm:Def K mg "_law_part" wK) (vp:Def K mg "_law_words" qS) (o6:Def K mg "_law_passrow" l7) (mL:Def K mg "_law_passrows" j8) (rj:Def K mg "_law_placed" oJ) (vm:Def K mg "_law_paced" qP) (KS:Def K mg "_law_at" IW) (vg:Def K mg "_law_later" qN) (rg:Def K mg "_law_before" oF) (vj:Def K mg "_law_order" oI) (o7:Def K mg "_law_ringdue" l8) (rq:Def K mg "_law_stands" oM) (mI:Def K mg "_law_due_word" j5) (vf:Def K mg "_law_flags" oH) (D1:Def K mg "_law_ask" BV) (zp:Def K mg "_law_said" wM) (ve:Def K mg "_law_acted" qM) (zk:Def K mg "_law_done" wI) (zj:Def K mg "_law_deed" sL) (zq:Def K mg "_law_walk" wN) (fU:bZ K jb "__init__" "Log.__init__" fj) (kI:bZ K jb "turn" "Log.turn" j4) (jC:bZ K jb "leave" "Log.leave" ib) (jE:bZ K jb "there" "Log.there" ie) (iK:bZ K jb "leg_at" "Log.leg_at" gy) (fq:bZ K cZ "__init__" "Lane.__init__" eh) (dt:bZ K cZ "must_be_there" "Lane.must_be_there" cI) (gE:bZ K cZ "leg_of" "Lane.leg_of" fH) (gF:bZ K cZ "settle" "Lane.settle" d9) (jA:bZ K cZ "join" "Lane.join" h_) (iF:bZ K cZ "clock" "Lane.clock" gq) (iJ:bZ K cZ "order" "Lane.order" gx) (eW:bZ K jI "__init__" "Bells.__init__" dX) (iy:bZ K jI "drop" "Bells.drop" fi) (jz:bZ K jI "put" "Bells.put" hZ) (iz:bZ K jI "told" "Bells.told" gi) (iI:bZ K cZ "meets" "Lane.meets" gw) (ft:bZ K cZ "foretold" "Lane.foretold" er) (iG:bZ K cZ "go_to" "Lane.go_to" gr) (iE:bZ K cZ "bells" "Lane.bells" gm) (jB:bZ K cZ "turn" "Lane.turn" ia) (iB:bZ K cZ "about" "Lane.about" gj) (iH:bZ K cZ "leave" "Lane.leave" gu) {f:Addr} {fd:FuncData} (F:cA K "law" "law" yE f fd) (base:Heap) (Bm:BMain mg base) :
  aL P w K mg base (dh P w) 11 f fd ["_law_script"] (d4 K (AS [g8])):=by
 have kJ:=Er.own 5 (by decide)
 have o_:=Er.own 0 (by decide)
 have zD:=Er.own 2 (by decide)
 have pd:=Er.own 3 (by decide)
 have mP:=Er.own 7 (by decide)
 have zE:=Er.own 6 (by decide)
 have vq:=Er.own 1 (by decide)
 have i9:=Er.own 4 (by decide)
 have KW:=zi.eR (P:=P) (w:=w) (base:=base) (fun _ _ F=>Fh F Z) fun _ _ _ _ _ _=>kF fun _ _=>rfl
 have eS:=rh.Ej (P:=P) (w:=w) (base:=base) (fun _ _ F=>Di F Z.toDT) fun _ _ _ _ _ _=>kF fun _ _=>rfl
 have xt:=xX eS
 have i8:=rp.Ej (P:=P) (w:=w) (base:=base) (fun _ _ F=>Dj F Z.toDT) fun _ _ _ _ _ _=>kF fun _ _=>rfl
 have D9:=xY i8
 have bY:=mJ.Ej (fun _ _ F=>yb F Z.toDT i8) fun _ _ _ _ _ _=>kF fun _ _=>rfl
 have zx:=tU bY
 have kH:=D3.Ej (P:=P) (w:=w) (base:=base) (fun _ _ F=>LW F Z.toDT) fun _ _ _ _ _ _=>kF fun _ _=>rfl
 have xw:=E6 kH
 have eu:=zl.Ej (P:=P) (w:=w) (base:=base) (fun _ _ F=>HY F Z.toDT) fun _ _ _ _ _ _=>kF fun _ _=>rfl
 have o8:=C6 eu
 have zh:=zo.Ej (fun _ _ F=>HZ F Z.toDT bY) fun _ _ _ _ _ _=>kF fun _ _=>rfl
 have nv:=vh.Ej (fun _ _ F=>Fd F Z.toDT bY) fun _ _ _ _ _ _=>kF fun _ _=>rfl
 have vd:=vn.Ej (fun _ _ F=>Ff F Z.toDT bY) fun _ _ _ _ _ _=>kF fun _ _=>rfl
 have K0:=C7 zh
 have A4:=zY nv
 have G6:=z_ vd
 have kG:=g6.Ej (P:=P) (w:=w) (base:=base) (fun _ _ _ F=>vZ F Z.toDT Bm jf nM) fun _ _ _ _ _ _=>A7 fun _=>rfl
 have xu:=r_ kG
 have vb:=vi.Ej (fun _ _ F=>Fe F Z.toDT eS) fun _ _ _ _ _ _=>kF fun _ _=>rfl
 have G4:=zZ vb
 have mO:=mM.eR (fun _ _ F=>v9 F Z K0 A4 G6) fun _ _ _ _ _ _=>kF fun _ _=>rfl
 have CA:=o4.eR (fun _ _ F=>yc F Z o8) fun _ _ _ _ _ _=>kF fun _ _=>rfl
 have tN:=iq.eR (fun _ _ F=>qw F Z mO o8) fun _ _ _ _ _ _=>Sg fun _ _ _ _ _=>rfl
 have zy:=mK.eR (fun _ _ F=>v7 F Z tN) fun _ _ _ _ _ _=>kF fun _ _=>rfl
 have D':=fU.Q1 (P:=P) (w:=w) (base:=base) bH (fun _ _ F=>x_ F bH aV bQ) fun _ _ _ _ _ _=>M9 fun _ _ _ _=>rfl
 have fw:=kI.uL (mg:=mg) bH.cl (fun _ _ F=>ya F Z bH aV mO) fun _ _ _ _ _ _=>G_ fun _ _ _=>rfl
 have kY:=jC.uL (P:=P) (w:=w) (base:=base) (mg:=mg) bH.cl (fun _ _ F=>vX F Z bH bQ) fun _ _ _ _ _ _=>kF fun _ _=>rfl
 have kZ:=jE.uL (mg:=mg) bH.cl (fun _ _ F=>vY F Z bH aV bQ o8) fun _ _ _ _ _ _=>kF fun _ _=>rfl
 have jV:=iK.uL (mg:=mg) bH.cl (fun _ _ F=>uc F Z bH aV mP kZ CA) fun _ _ _ _ _ _=>kF fun _ _=>rfl
 have zB:=fq.Q1 (P:=P) (w:=w) (base:=base) ax (fun _ _ F=>vU F (cL:=jb) N ax az aQ aB) fun _ _ _ _ _ _=>A7 fun _=>rfl
 have aX:=dt.uL (P:=P) (w:=w) (base:=base) (mg:=mg) ax.cl (fun _ _ F=>kD F Z (cL:=jb) ax aB pd) fun _ _ _ _ _ _=>kF fun _ _=>rfl
 have bM:=gE.uL (mg:=mg) ax.cl (fun _ _ F=>si F Z ax aQ az aX jV) fun _ _ _ _ _ _=>kF fun _ _=>rfl
 have bA:=gF.uL (mg:=mg) ax.cl (fun _ _ F=>sj F Z ax aB az bM zy) fun _ _ _ _ _ _=>A7 fun _=>rfl
 have kW:=jA.uL (mg:=mg) ax.cl (fun _ _ F=>vV F Z ax aB az aQ gH eO rR o_ i9 vq zD xu D' bA) fun _ _ _ _ _ _=>M9 fun _ _ _ _=>rfl
 have jS:=iF.uL (P:=P) (w:=w) (base:=base) (mg:=mg) ax.cl (fun _ _ F=>t8 F Z (cL:=jb) ax az) fun _ _ _ _ _ _=>A7 fun _=>rfl
 have jU:=iJ.uL (P:=P) (w:=w) (base:=base) (mg:=mg) ax.cl (fun _ _ F=>ub F Z (cL:=jb) ax aB) fun _ _ _ _ _ _=>A7 fun _=>rfl
 have tO:=iu.eR (fun _ _ F=>qx F Z o8) fun _ _ _ _ _ _=>kF fun _ _=>rfl
 have lJ:=eW.Q1 (P:=P) (w:=w) (base:=base) bC (fun _ _ F=>tY F bC aT) fun _ _ _ _ _ _=>A7 fun _=>rfl
 have jP:=iy.uL (P:=P) (w:=w) (base:=base) (mg:=mg) bC.cl (fun _ _ F=>tX F Z bC aT) fun _ _ _ _ _ _=>G_ fun _ _ _=>rfl
 have eQ:=jz.uL (mg:=mg) bC.cl (fun _ _ F=>vT F Z bC aT jP tO) fun _ _ _ _ _ _=>M9 fun _ _ _ _=>rfl
 have dS:=iz.uL (P:=P) (w:=w) (base:=base) (mg:=mg) bC.cl (fun _ _ F=>tZ F Z bC aT) fun _ _ _ _ _ _=>A7 fun _=>rfl
 have CB:=o5.eR (fun _ _ F=>yd F Z N mO A4 zx) fun _ _ _ _ _ _=>kF fun _ _=>rfl
 have dU:=iI.uL (mg:=mg) ax.cl (fun _ _ F=>ua F Z ax az bM CB o8) fun _ _ _ _ _ _=>G_ fun _ _ _=>rfl
 have nA:=eV.eR (fun _ _ F=>mf F Z D9) fun _ _ _ _ _ _=>A7 fun _=>rfl
 have tM:=ip.eR (fun _ _ F=>qv F Z kQ kR nA) fun _ _ _ _ _ _=>A7 fun _=>rfl
 have cG:=ft.uL (mg:=mg) ax.cl (fun _ _ F=>pF F Z ax az aB kJ zE tM o8 lJ dU eQ dS) fun _ _ _ _ _ _=>kF fun _ _=>rfl
 have dT:=iG.uL (mg:=mg) ax.cl (fun _ _ F=>t9 F Z ax az cG bA) fun _ _ _ _ _ _=>kF fun _ _=>rfl
 have jR:=iE.uL (mg:=mg) ax.cl (fun _ _ F=>t6 F Z ax aB lJ dU eQ dS) fun _ _ _ _ _ _=>A7 fun _=>rfl
 have kX:=jB.uL (mg:=mg) ax.cl (fun _ _ F=>vW F Z ax aQ az eO i9 aX fw bA) fun _ _ _ _ _ _=>G_ fun _ _ _=>rfl
 have jQ:=iB.uL (mg:=mg) ax.cl (fun _ _ F=>t4 F Z ax aB aQ az bM fw bA) fun _ _ _ _ _ _=>A7 fun _=>rfl
 have jT:=iH.uL (mg:=mg) ax.cl (fun _ _ F=>t_ F Z ax aQ az aB aX kY) fun _ _ _ _ _ _=>kF fun _ _=>rfl
 have G7:=vo.eR (P:=P) (w:=w) (base:=base) (fun _ _ F=>Dr F Z) fun _ _ _ _ _ _=>A7 fun _=>rfl
 have D7:=zm.eR (fun _ _ F=>Fl F Z G7) fun _ _ _ _ _ _=>kF fun _ _=>rfl
 have G8:=vp.eR (P:=P) (w:=w) (base:=base) (fun _ _ F=>Ds F Z) fun _ _ _ _ _ _=>kF fun _ _=>rfl
 have CC:=o6.eR (fun _ _ F=>ye F Z D7) fun _ _ _ _ _ _=>kF fun _ _=>rfl
 have zA:=mL.eR (fun _ _ F=>v8 F Z CC) fun _ _ _ _ _ _=>kF fun _ _=>rfl
 have D8:=rj.eR (P:=P) (w:=w) (base:=base) (fun _ _ F=>Aj F Z) fun _ _ _ _ _ _=>kF fun _ _=>rfl
 have G5:=vm.eR (P:=P) (w:=w) (base:=base) (fun _ _ F=>Dq F Z) fun _ _ _ _ _ _=>kF fun _ _=>rfl
 have KU:=KS.eR (fun _ _ F=>LX F Z xw) fun _ _ _ _ _ _=>kF fun _ _=>rfl
 have G3:=vg.eR (fun _ _ F=>Dm F Z xw) fun _ _ _ _ _ _=>M9 fun _ _ _ _=>rfl
 have xr:=rg.eR (P:=P) (w:=w) (base:=base) (fun _ _ F=>Ai F Z) fun _ _ _ _ _ _=>kF fun _ _=>rfl
 have A5:=vj.eR (fun _ _ F=>Dp F Z KU xr) fun _ _ _ _ _ _=>kF fun _ _=>rfl
 have CD:=o7.eR (fun _ _ F=>yf F Z A5 KU xw xr) fun _ _ _ _ _ _=>kF fun _ _=>rfl
 have D_:=rq.eR (fun _ _ F=>Ak F Z D7 G8 A5 zA CD jS jU jR) fun _ _ _ _ _ _=>G_ fun _ _ _=>rfl
 have zw:=mI.eR (fun _ _ F=>v3 F Z xw) fun _ _ _ _ _ _=>kF fun _ _=>rfl
 have G1:=vf.eR (P:=P) (w:=w) (base:=base) (fun _ _ F=>Dl F Z) fun _ _ _ _ _ _=>A7 fun _=>rfl
 have Np:=D1.eR (fun _ _ F=>H0 F Z cG dT) fun _ _ _ _ _ _=>G_ fun _ _ _=>rfl
 have K1:=zp.eR (fun _ _ F=>Fm F Z Er Np) fun _ _ _ _ _ _=>G_ fun _ _ _=>rfl
 have G0:=ve.eR (fun _ _ F=>Dk F Z KU) fun _ _ _ _ _ _=>G_ fun _ _ _=>rfl
 have KZ:=zk.eR (fun _ _ F=>Fj F Z kW jT kX jQ dT) fun _ _ _ _ _ _=>kF fun _ _=>rfl
 have KY:=zj.eR (fun _ _ F=>Fi F Z D8 G5 G3) fun _ _ _ _ _ _=>SU fun _ _ _ _ _ _=>rfl
 have K2:=zq.eR (fun _ _ F=>Fn F Z xt KY KZ G0) fun _ _ _ _ _ _=>M9 fun _ _ _ _=>rfl
 exact H_ F Z KW xt G4 K2 zB xw zw K1 G1 D_
end Ov
inductive PySem.W.Fast|tw5459023613769753067|tw12187106830572797183|tw10719246663556995770|tw17413307735561734064|tw1040967003544301971|tw3085212529627019673|tw12130035404260383179|tw13628343141771423829|tw1282238247886753754|tw4392185901920918114|tw15134945211667114131|tw16410043299048543767|tw12635035469529069812|tw599593429181163299|tw17927680299484134666|tw2454072603209720164|tw17701704320364039288|tw5018445752719586674|tw10791474606916008308|tw12487560897537032399|tw17542411989086989404|tw11446418133221975983|tw11228371104158240669|tw14268744772021131638|tw17601017323111173455|tw18213727486564857417|tw5139049992660897722|tw1905464290164285827|tw16327967371627240965|tw18060619940420298415|tw16616470305620762098|tw12669770804048926789|tw15649377573415575134|tw9282375083353040928|tw4598542549564873809|tw17507797528623411758|tw8906152484313464613|tw11488483312080765920|tw2763588837245241601|tw1788393610413798852|tw14848164437025140054|tw17806583389351605534|tw9725160566412528497|tw9714810924748424899|tw10363870841436542567|tw3065946938807926665|tw13449012645750136471|tw923879441275565361|tw9726066908526882901|tw17841968978477565999|tw6407205770225303772|tw6154668068676962204|tw10213740865959295511|tw13064989904738370804|tw1264863504505855640|tw3120289219969327415|tw7044984322725813523|tw2558891627948661663|tw11479071577611478098|tw10738319933166061778|tw2344982577022271603|tw11336216472039492936|tw3331046981272473508|tw2382514447265289017|tw1036508695747471638|tw5539695413680617398|tw4397665146850021962|tw7823737148542271281|tw9709925013056150694|tw4860563875930767277|tw2036808625632236003|tw8578659501343473800|tw1888356242381835849|tw10923684528771210285|tw17528999112033329079|tw5321797320939913619|tw9504281898325394670|tw9477810587241321349|tw13767132966410620937|tw3313336550612869867|tw1534544618848236955|tw8686933894013204003|tw1618587434288854201|tw12925475533062539687|tw7622242669319570412|tw14951904514542525073|tw10207251908964476249|tw638960527074430398|tw16536062015056573138|tw7539911010480995622|tw2079554501606803395|tw3283569465450503243|tw4851452619936875960|tw101359870298630469|tw15496896775626963167|tw7325772174670739397|tw6570549396331524166|tw8485110442289525153|tw12071392962514473333|tw2701914930463692891|tw12742563754599644341|tw15000916107512589260|tw13366385340754080744|tw13732543089320386615|tw2156571344538992743|tw16152358640097245161|tw2871514141223477412|tw7873692359578202211|tw587600629837845029|tw16888030121391629829|tw1840790504862120039|tw826172908803067009|tw8731460844270843203|tw17052392905737465707|tw3079844163425839385|tw10613953366459372848|tw4337387781886173633|tw12991878515220901790|tw2499300892476736150|tw12689421057367813717|tw14203050837006545819|tw237802916465234699|tw13015503909707714245|tw10352373878140983219|tw17635345408606727732|tw12600236865290300484|tw16533864988793517414|tw14289312526142030070|tw16569549915089417834|tw9691401028465448422|tw4777614724858145700|tw2303236009099567218|tw1309934845323084220|tw14818084198780354381|tw1523036726447081093|tw4330417554160010103|tw14913115776688606459|tw15079608139962009738|tw3725330517343138373|tw18443923248069678881|tw608416643892619136|tw15711252437961702764|tw9087099931168345319|tw9923594467070282996|tw6639424810942890292|tw1739218856365731345|tw16464167479332881314|tw3342279289169804084|tw12798595338176256197|tw1481443895206832987|tw12337996250442391951|tw2260861862654452527|tw10890057016868864183|tw14738362302719516573|tw5437354291471923293|tw1423434222748999125|tw18364867150975701266|tw15746331084044461881|tw3880989027629953146|tw2447877639013864757|tw2229227678713524230|tw4531701200124462180|tw12798782456148712469|tw13932412918736531012|tw15813355341972753731|tw3251405608658341310|tw3132166935784365525|tw5296626063535058140|tw14075422582662996575|tw8377096855467686455|tw15782135371146618063|tw8624021592210164094|tw664441774899426115|tw974343267988378515|tw13584215895431221447|tw17666620195318385142|tw17361920526152686652|tw10510832539939494469|tw6987369057943332714|tw6372493541326257951|tw1845028500675715426|tw13820704823751372224|tw13068518778229171098|tw6984480389157270643|tw1073936123233225776|tw15335693685521779620|tw11208072847386796474|tw9258914765231658044|tw4734187966778723479|tw15459483508696227955|tw10540830224287318373|tw12904128081062650070|tw14991540714119465125|tw18102134819814694916|tw11365094771783966539|tw6870975582537343308|tw15716506973279748752|tw17389691388971973176|tw13667836108722541935|tw3075195500689085002|tw10004468847134615495|tw4802103477613400739|tw14868038923961197690|tw1764677941482057396|tw9106119196254940554|tw3952305424887049518|tw16773233779490172353|tw4086985447707374179|tw3975649482738529576|tw10081346650999538219|tw13895896475500804355|tw8227975928335191209|tw11540702004747100294|tw9893015942695479001|tw515577337339334754|tw2930875383696370609|tw16295738324851637220|tw9646683269121718126|tw1902037569278406991|tw12798776342445470166|tw13334951956264575634|tw10776723455869535900|tw9663647819584304959|tw10018337348914818633|tw8480508851045331097|tw15361134663601096845|tw16132291102101738117|tw1304793237378992117|tw2885783850552782979|tw10462075876723897429|tw17935477015346578838|tw9934584839743567395|tw465487155392887113|tw837394099442428069|tw11581723785326948624|tw10492782952883822693|tw2733232791070726419|tw17430602135179490700|tw13361186093571951852|tw6681141147916187575|tw12712131572352484576|tw11012765732066008469|tw12518063672660931766|tw3235548009247659527|tw16785555731117649423|tw9413297827585326794|tw16353019854171907882|tw9885469216024772119|tw9672356602072050292|tw6216176382973049968|tw1712419072175594460|tw12902428732007799688|tw8321404488123938020|tw3400290103187800943|tw13623726321672828421|tw2740963317085032358|tw1313086431500623246|tw271045225564984331|tw9989623570930485291|tw7313178783035066713|tw6409581395928826285|tw4105036228369086813|tw3226705116037334985|tw2399664187391008547|tw17349294734109399865|tw17020442243293298347|tw1648858990764102488|tw15951410950936267115|tw4695257441585481430|tw2694926027393188161|tw5751844945806141768|tw1173691955142035870|tw5581431555477614331|tw2120492665850515842|tw11969884057844207628|tw15282523051343367966|tw9524695423594621788|tw3235994417742282966|tw3710173936231579160|tw10132432482182477851|tw12368896196648082526|tw1657203363909909253|tw7365243634714859020|tw6618049246544269122|tw724717997383921826|tw6515201975697847695|tw18400833121306550676|tw14205182706368132222|tw7119390624296923300|tw6738658410345717397|tw3715364752645111999|tw12446124849521652004|tw12548298100620824295|tw9749218062915050867|tw2486230322263761435|tw4404285495904885764|tw1463850665382721629|tw14608221675110082883|tw4702510063400029136|tw5167255351795886671|tw784404808512938743
open PySem PySem.W PyProof.Rows
set_option hygiene false
local macro_rules | `(tactic| simp_arith)=>`(tactic| (dsimp only [L2.cW];refine' Ov.Le KX G ?a ?l ?c ?k;(case a=>k_is);(case l=>k_is);(case c=>k_is);(case k=>k_is)))
set_option maxRecDepth 100000 in
set_option maxHeartbeats 0 in
theorem PySem.Challenge.cw_overhaul_k19_goings_refused_holds : PySem.Challenge.rw_overhaul_k19_goings_refused.Holds := by
 w_on;o_law;k_head;(case hw=>w_witness2)
 k_fill
 refine Ov.GG (l:=PySem.Challenge.rw_overhaul_k19_goings_refused) (n:=63) (k:=11) (x:="_law_script") (sp:=Ov.Gf) ["good_name"] rfl (by decide) rfl ⟨rfl,by decide,by decide⟩ (fun w h Y=>PySem.W.kIn_of Y) ?Nm ?F (fun tabs K H a ns hl hT hS hA hK=>⟨a,ns,rfl,hS,hl,hT,hA,hK,fun _ e=>⟨rfl,e⟩⟩)
 case Nm=>decide +kernel
 case F =>
  intro w mg fa h KX G hmg
  have zi:Ov.Def (L2.cW KX) mg "_law_cell" Ov.wH:=by simp_arith
  have rh:Ov.Def (L2.cW KX) mg "_law_digits" Ov.oG:=by simp_arith
  have rp:Ov.Def (L2.cW KX) mg "shared" Ov.oK:=by simp_arith
  have mJ:Ov.Def (L2.cW KX) mg "fraction" Ov.j6:=by simp_arith
  have D3:Ov.Def (L2.cW KX) mg "_law_low" Ov.BW:=by simp_arith
  have zl:Ov.Def (L2.cW KX) mg "less" Ov.wJ:=by simp_arith
  have zo:Ov.Def (L2.cW KX) mg "plus" Ov.wL:=by simp_arith
  have vh:Ov.Def (L2.cW KX) mg "minus" Ov.qO:=by simp_arith
  have vn:Ov.Def (L2.cW KX) mg "times" Ov.qQ:=by simp_arith
  obtain ⟨g8,g6⟩:∃ T,Ov.zr (L2.cW KX) mg "good_name" Ov.ig T:=by
   dsimp only [L2.cW]
   refine' ⟨_,Ov.Hf KX G ?ga ?gl ?gc ?gk ?gt ?gp ?gb ?ge ?go⟩
   (case ga=>k_is);(case gl=>k_is);(case gc=>k_is);(case gk=>k_is);(case gt=>k_is);(case gp=>rfl);(case gb=>kernel_rfl);(case ge=>decide);(case go=>kernel_rfl)
  have vi:Ov.Def (L2.cW KX) mg "_law_names" Ov.l6:=by simp_arith
  have mM:Ov.Def (L2.cW KX) mg "place_on" Ov.j9:=by simp_arith
  have o4:Ov.Def (L2.cW KX) mg "last_by" Ov.l4:=by simp_arith
  have iq:Ov.Def (L2.cW KX) mg "lies_behind" Ov.fJ:=by simp_arith
  have mK:Ov.Def (L2.cW KX) mg "in_order" Ov.j7:=by simp_arith
  have iu:Ov.Def (L2.cW KX) mg "rings_ahead" Ov.fK:=by simp_arith
  have o5:Ov.Def (L2.cW KX) mg "meeting" Ov.l5:=by simp_arith
  have eV:Ov.Def (L2.cW KX) mg "in_lowest_terms" Ov.dD:=by simp_arith
  have ip:Ov.Def (L2.cW KX) mg "good_moment" Ov.fI:=by simp_arith
  have vo:Ov.Def (L2.cW KX) mg "_law_whole" Ov.qR:=by simp_arith
  have zm:Ov.Def (L2.cW KX) mg "_law_part" Ov.wK:=by simp_arith
  have vp:Ov.Def (L2.cW KX) mg "_law_words" Ov.qS:=by simp_arith
  have o6:Ov.Def (L2.cW KX) mg "_law_passrow" Ov.l7:=by simp_arith
  have mL:Ov.Def (L2.cW KX) mg "_law_passrows" Ov.j8:=by simp_arith
  have rj:Ov.Def (L2.cW KX) mg "_law_placed" Ov.oJ:=by simp_arith
  have vm:Ov.Def (L2.cW KX) mg "_law_paced" Ov.qP:=by simp_arith
  have KS:Ov.Def (L2.cW KX) mg "_law_at" Ov.IW:=by simp_arith
  have vg:Ov.Def (L2.cW KX) mg "_law_later" Ov.qN:=by simp_arith
  have rg:Ov.Def (L2.cW KX) mg "_law_before" Ov.oF:=by simp_arith
  have vj:Ov.Def (L2.cW KX) mg "_law_order" Ov.oI:=by simp_arith
  have o7:Ov.Def (L2.cW KX) mg "_law_ringdue" Ov.l8:=by simp_arith
  have rq:Ov.Def (L2.cW KX) mg "_law_stands" Ov.oM:=by simp_arith
  have mI:Ov.Def (L2.cW KX) mg "_law_due_word" Ov.j5:=by simp_arith
  have vf:Ov.Def (L2.cW KX) mg "_law_flags" Ov.oH:=by simp_arith
  have D1:Ov.Def (L2.cW KX) mg "_law_ask" Ov.BV:=by simp_arith
  have zp:Ov.Def (L2.cW KX) mg "_law_said" Ov.wM:=by simp_arith
  have ve:Ov.Def (L2.cW KX) mg "_law_acted" Ov.qM:=by simp_arith
  have zk:Ov.Def (L2.cW KX) mg "_law_done" Ov.wI:=by simp_arith
  have zj:Ov.Def (L2.cW KX) mg "_law_deed" Ov.sL:=by simp_arith
  have zq:Ov.Def (L2.cW KX) mg "_law_walk" Ov.wN:=by simp_arith
  have Nn:Ov.Def (L2.cW KX) mg "law" Ov.yE:=by simp_arith
  obtain ⟨jb,bH,aV,bQ,fU,kI,jC,jE,iK⟩:∃ C,Ov.eD (L2.cW KX) mg "Log" C∧L2.aH (L2.cW KX) C "rows"∧L2.aH (L2.cW KX) C "gone"∧Ov.bZ (L2.cW KX) C "__init__" "Log.__init__" Ov.fj∧Ov.bZ (L2.cW KX) C "turn" "Log.turn" Ov.j4∧Ov.bZ (L2.cW KX) C "leave" "Log.leave" Ov.ib∧Ov.bZ (L2.cW KX) C "there" "Log.there" Ov.ie∧Ov.bZ (L2.cW KX) C "leg_at" "Log.leg_at" Ov.gy:=by
   dsimp only [L2.cW]
   refine' ⟨_,Ov.vL KX G ?a ?pg ?hd ?po ?sa ?mk ?kc,?n0,?n1,Ov.bN ?m0a ?m0i ?m0l ?m0c ?m0k,Ov.bN ?m1a ?m1i ?m1l ?m1c ?m1k,Ov.bN ?m2a ?m2i ?m2l ?m2c ?m2k,Ov.bN ?m3a ?m3i ?m3l ?m3c ?m3k,Ov.bN ?m4a ?m4i ?m4l ?m4c ?m4k⟩
   (case a=>k_is);(case pg=>k_is);(case hd=>k_is);(case po=>k_is);(case sa=>k_is);(case mk=>k_is);(case kc=>k_is)
   (case n0=>(show PySem.W.findIn _ _ _=_;k_is))
   (case n1=>(show PySem.W.findIn _ _ _=_;k_is))
   (case m0a=>k_is);(case m0i=>k_is);(case m0l=>k_is);(case m0c=>k_is);(case m0k=>k_is)
   (case m1a=>k_is);(case m1i=>k_is);(case m1l=>k_is);(case m1c=>k_is);(case m1k=>k_is)
   (case m2a=>k_is);(case m2i=>k_is);(case m2l=>k_is);(case m2c=>k_is);(case m2k=>k_is)
   (case m3a=>k_is);(case m3i=>k_is);(case m3l=>k_is);(case m3c=>k_is);(case m3k=>k_is)
   (case m4a=>k_is);(case m4i=>k_is);(case m4l=>k_is);(case m4c=>k_is);(case m4k=>k_is)
  obtain ⟨cZ,ax,az,aQ,aB,fq,dt,gE,gF,jA,iF,iJ,iI,ft,iG,iE,jB,iB,iH⟩:∃ C,Ov.eD (L2.cW KX) mg "Lane" C∧L2.aH (L2.cW KX) C "now"∧L2.aH (L2.cW KX) C "logs"∧L2.aH (L2.cW KX) C "row"∧Ov.bZ (L2.cW KX) C "__init__" "Lane.__init__" Ov.eh∧Ov.bZ (L2.cW KX) C "must_be_there" "Lane.must_be_there" Ov.cI∧Ov.bZ (L2.cW KX) C "leg_of" "Lane.leg_of" Ov.fH∧Ov.bZ (L2.cW KX) C "settle" "Lane.settle" Ov.d9∧Ov.bZ (L2.cW KX) C "join" "Lane.join" Ov.h_∧Ov.bZ (L2.cW KX) C "clock" "Lane.clock" Ov.gq∧Ov.bZ (L2.cW KX) C "order" "Lane.order" Ov.gx∧Ov.bZ (L2.cW KX) C "meets" "Lane.meets" Ov.gw∧Ov.bZ (L2.cW KX) C "foretold" "Lane.foretold" Ov.er∧Ov.bZ (L2.cW KX) C "go_to" "Lane.go_to" Ov.gr∧Ov.bZ (L2.cW KX) C "bells" "Lane.bells" Ov.gm∧Ov.bZ (L2.cW KX) C "turn" "Lane.turn" Ov.ia∧Ov.bZ (L2.cW KX) C "about" "Lane.about" Ov.gj∧Ov.bZ (L2.cW KX) C "leave" "Lane.leave" Ov.gu:=by
   dsimp only [L2.cW]
   refine' ⟨_,Ov.vL KX G ?a ?pg ?hd ?po ?sa ?mk ?kc,?n0,?n1,?n2,Ov.bN ?m0a ?m0i ?m0l ?m0c ?m0k,Ov.bN ?m1a ?m1i ?m1l ?m1c ?m1k,Ov.bN ?m2a ?m2i ?m2l ?m2c ?m2k,Ov.bN ?m3a ?m3i ?m3l ?m3c ?m3k,Ov.bN ?m4a ?m4i ?m4l ?m4c ?m4k,Ov.bN ?m5a ?m5i ?m5l ?m5c ?m5k,Ov.bN ?m6a ?m6i ?m6l ?m6c ?m6k,Ov.bN ?m7a ?m7i ?m7l ?m7c ?m7k,Ov.bN ?m8a ?m8i ?m8l ?m8c ?m8k,Ov.bN ?m9a ?m9i ?m9l ?m9c ?m9k,Ov.bN ?m10a ?m10i ?m10l ?m10c ?m10k,Ov.bN ?m11a ?m11i ?m11l ?m11c ?m11k,Ov.bN ?m12a ?m12i ?m12l ?m12c ?m12k,Ov.bN ?m13a ?m13i ?m13l ?m13c ?m13k⟩
   (case a=>k_is);(case pg=>k_is);(case hd=>k_is);(case po=>k_is);(case sa=>k_is);(case mk=>k_is);(case kc=>k_is)
   (case n0=>(show PySem.W.findIn _ _ _=_;k_is))
   (case n1=>(show PySem.W.findIn _ _ _=_;k_is))
   (case n2=>(show PySem.W.findIn _ _ _=_;k_is))
   (case m0a=>k_is);(case m0i=>k_is);(case m0l=>k_is);(case m0c=>k_is);(case m0k=>k_is)
   (case m1a=>k_is);(case m1i=>k_is);(case m1l=>k_is);(case m1c=>k_is);(case m1k=>k_is)
   (case m2a=>k_is);(case m2i=>k_is);(case m2l=>k_is);(case m2c=>k_is);(case m2k=>k_is)
   (case m3a=>k_is);(case m3i=>k_is);(case m3l=>k_is);(case m3c=>k_is);(case m3k=>k_is)
   (case m4a=>k_is);(case m4i=>k_is);(case m4l=>k_is);(case m4c=>k_is);(case m4k=>k_is)
   (case m5a=>k_is);(case m5i=>k_is);(case m5l=>k_is);(case m5c=>k_is);(case m5k=>k_is)
   (case m6a=>k_is);(case m6i=>k_is);(case m6l=>k_is);(case m6c=>k_is);(case m6k=>k_is)
   (case m7a=>k_is);(case m7i=>k_is);(case m7l=>k_is);(case m7c=>k_is);(case m7k=>k_is)
   (case m8a=>k_is);(case m8i=>k_is);(case m8l=>k_is);(case m8c=>k_is);(case m8k=>k_is)
   (case m9a=>k_is);(case m9i=>k_is);(case m9l=>k_is);(case m9c=>k_is);(case m9k=>k_is)
   (case m10a=>k_is);(case m10i=>k_is);(case m10l=>k_is);(case m10c=>k_is);(case m10k=>k_is)
   (case m11a=>k_is);(case m11i=>k_is);(case m11l=>k_is);(case m11c=>k_is);(case m11k=>k_is)
   (case m12a=>k_is);(case m12i=>k_is);(case m12l=>k_is);(case m12c=>k_is);(case m12k=>k_is)
   (case m13a=>k_is);(case m13i=>k_is);(case m13l=>k_is);(case m13c=>k_is);(case m13k=>k_is)
  obtain ⟨jI,bC,aT,eW,iy,jz,iz⟩:∃ C,Ov.eD (L2.cW KX) mg "Bells" C∧L2.aH (L2.cW KX) C "rows"∧Ov.bZ (L2.cW KX) C "__init__" "Bells.__init__" Ov.dX∧Ov.bZ (L2.cW KX) C "drop" "Bells.drop" Ov.fi∧Ov.bZ (L2.cW KX) C "put" "Bells.put" Ov.hZ∧Ov.bZ (L2.cW KX) C "told" "Bells.told" Ov.gi:=by
   dsimp only [L2.cW]
   refine' ⟨_,Ov.vL KX G ?a ?pg ?hd ?po ?sa ?mk ?kc,?n0,Ov.bN ?m0a ?m0i ?m0l ?m0c ?m0k,Ov.bN ?m1a ?m1i ?m1l ?m1c ?m1k,Ov.bN ?m2a ?m2i ?m2l ?m2c ?m2k,Ov.bN ?m3a ?m3i ?m3l ?m3c ?m3k⟩
   (case a=>k_is);(case pg=>k_is);(case hd=>k_is);(case po=>k_is);(case sa=>k_is);(case mk=>k_is);(case kc=>k_is)
   (case n0=>(show PySem.W.findIn _ _ _=_;k_is))
   (case m0a=>k_is);(case m0i=>k_is);(case m0l=>k_is);(case m0c=>k_is);(case m0k=>k_is)
   (case m1a=>k_is);(case m1i=>k_is);(case m1l=>k_is);(case m1c=>k_is);(case m1k=>k_is)
   (case m2a=>k_is);(case m2i=>k_is);(case m2l=>k_is);(case m2c=>k_is);(case m2k=>k_is)
   (case m3a=>k_is);(case m3i=>k_is);(case m3l=>k_is);(case m3c=>k_is);(case m3k=>k_is)
  have Z:Ov.bW mg:=by
   refine' ⟨Ov.DT.mk (PySem.W.mg_none_of KX G ?z0) (PySem.W.mg_none_of KX G ?z1) (PySem.W.mg_none_of KX G ?z2) (PySem.W.mg_none_of KX G ?z3) (PySem.W.mg_none_of KX G ?z4) (PySem.W.mg_none_of KX G ?z5) (PySem.W.mg_none_of KX G ?z6) (PySem.W.mg_none_of KX G ?z7) (PySem.W.mg_none_of KX G ?z8) (PySem.W.mg_none_of KX G ?z9),PySem.W.mg_none_of KX G ?w0,PySem.W.mg_none_of KX G ?w1,PySem.W.mg_none_of KX G ?w2,PySem.W.mg_none_of KX G ?w3,PySem.W.mg_none_of KX G ?w4⟩
   (case z0=>k_is);(case z1=>k_is);(case z2=>k_is);(case z3=>k_is);(case z4=>k_is);(case z5=>k_is);(case z6=>k_is);(case z7=>k_is);(case z8=>k_is);(case z9=>k_is);(case w0=>k_is);(case w1=>k_is);(case w2=>k_is);(case w3=>k_is);(case w4=>k_is)
  obtain ⟨W,c,Er⟩:∃ W c,Ov.Cz (L2.cW KX) mg W c:=by
   dsimp only [L2.cW]
   refine' Ov.Hn KX G ?v ?w ?a0 ?a1 ?a2 ?a3 ?a4 ?a5 ?a6 ?a7 ?a8 ?a9 ?b
   (case v=>k_is);(case w=>k_is);(case a0=>k_is);(case a1=>k_is);(case a2=>k_is);(case a3=>k_is);(case a4=>k_is);(case a5=>k_is);(case a6=>k_is);(case a7=>k_is);(case a8=>k_is);(case a9=>k_is)
   (case b=>kernel_rfl)
  have N:Ov.rE (L2.cW KX) mg:=by
   dsimp only [L2.cW]
   refine' Ov.Dg KX G ?a ?l
   (case a=>k_is);(case l=>k_is)
  obtain ⟨kb,gH⟩:∃ t,mg "FARTHEST"=some (.int 1000000 t):=by
   refine' Ov.const_int KX G ?cz ?cw
   (case cz=>k_is);(case cw=>kernel_rfl)
  obtain ⟨gC,eO⟩:∃ t,mg "FASTEST"=some (.int 1000 t):=by
   refine' Ov.const_int KX G ?cz ?cw
   (case cz=>k_is);(case cw=>kernel_rfl)
  obtain ⟨oU,kQ⟩:∃ t,mg "FINEST"=some (.int 60 t):=by
   refine' Ov.const_int KX G ?cz ?cw
   (case cz=>k_is);(case cw=>kernel_rfl)
  obtain ⟨oV,kR⟩:∃ t,mg "LATEST"=some (.int 1000000 t):=by
   refine' Ov.const_int KX G ?cz ?cw
   (case cz=>k_is);(case cw=>kernel_rfl)
  obtain ⟨ma,jf⟩:∃ t,mg "LONGEST"=some (.int 8 t):=by
   refine' Ov.const_int KX G ?cz ?cw
   (case cz=>k_is);(case cw=>kernel_rfl)
  obtain ⟨xj,rR⟩:∃ t,mg "MOST"=some (.int 12 t):=by
   refine' Ov.const_int KX G ?cz ?cw
   (case cz=>k_is);(case cw=>kernel_rfl)
  obtain ⟨q9,nM⟩:∃ t,mg "SIGNS"=some (.str "abcdefghijklmnopqrstuvwxyz0123456789" t):=by
   refine' Ov.CJ KX G ?cz ?cw
   (case cz=>k_is);(case cw=>kernel_rfl)
  obtain ⟨fd,F,hb⟩:=Ov.Ly Nn hmg (fun _ _ _ _ _ _ _=>rfl)
  exact ⟨fd,[g8],hb,(fun T hT=>by simp only [List.mem_cons,List.not_mem_nil,or_false] at hT;rcases hT with rfl <;> first | exact ⟨_,by simp,_,g6⟩),fun base _ _ Bm=>Ov.C3 (Ov.K5 Z Er N gH eO kQ kR jf rR nM bH ax bC aV bQ az aQ aB aT zi rh rp mJ D3 zl zo vh vn g6 vi mM o4 iq mK iu o5 eV ip vo zm vp o6 mL rj vm KS vg rg vj o7 rq mI vf D1 zp ve zk zj zq fU kI jC jE iK fq dt gE gF jA iF iJ eW iy jz iz iI ft iG iE jB iB iH F base Bm)⟩
