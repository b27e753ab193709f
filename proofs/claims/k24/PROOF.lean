import PyProof.Rows.All
import Wide.All
import OpenK.AllK
import Wide.FinOn
import Lean
import PyProof.EqAt
import PyProof.EqKinds
import PyProof.TupleCall
import PyProof.NeKinds
import PyProof.CompFree
import PyProof.ListRange
import PyProof.Rows.SortWalk
import PyProof.ExcArgsOwn
import PyProof.ExcAttrAll.ValueError
import KE.KTryMore
import PyProof.GenCompD
import PyProof.StrWalks
import PyProof.ConsumeS
import PyProof.StrOps2
import PyProof.CompMap
import KE.KRevIter
import PyProof.ZipIter
import PyProof.DictWalks
import PyProof.DictCompW
import PyProof.DictRoads
import PyProof.MeetsDictList
import KE.KDictList
import PyProof.EnumFor
import PyProof.EnumMake
import PyProof.WalksEnum
import PySem.Challenge.RW_overhaul_k24_the_closest_two
noncomputable section
set_option Elab.async false
set_option linter.all false
set_option maxRecDepth 100000
namespace L2
open PySem PySem.Spec PyProof.Rows
abbrev Key:=Sum Int Str
def CB:Key→Value→Bool
 | .inl k,v=>Value.isInt k v
 | .inr x,v=>Value.isStrOf x v
def Iz (w:World):Key→Int
 | .inl k=>hashInt k
 | .inr x=>hashStr w x
theorem bN:∀ {k:Key} {v:Value},CB k v=true→(∃ i t,k=Sum.inl i∧v=Value.int i t)∨(∃ x t,k=Sum.inr x∧v=Value.str x t)
 | .inl i,v,h=>by
  obtain ⟨t,e⟩:=Value.isInt_shape (k:=i) (v:=v) h
  exact .inl ⟨i,t,rfl,e⟩
 | .inr x,v,h=>by
  obtain ⟨t,e⟩:=Value.isStrOf_shape (x:=x) (v:=v) h
  exact .inr ⟨x,t,rfl,e⟩
theorem DV (a b:Int):decide ((Sum.inl a:Key)=Sum.inl b)=(a == b):=by
 by_cases e:a=b
 ·subst e;simp
 ·have h:¬ (Sum.inl a:Key)=Sum.inl b:=fun q=>e (Sum.inl.inj q)
  rw [decide_eq_false h]
  exact (beq_eq_false_iff_ne.mpr e).symm
theorem Er (a b:Str):decide ((Sum.inr a:Key)=Sum.inr b)=decide (a=b):=by
 by_cases e:a=b
 ·subst e;simp
 ·have h:¬ (Sum.inr a:Key)=Sum.inr b:=fun q=>e (Sum.inr.inj q)
  rw [decide_eq_false h,decide_eq_false e]
theorem Ds (a:Int) (b:Str):decide ((Sum.inl a:Key)=Sum.inr b)=false:=decide_eq_false (fun q=>nomatch q)
theorem DB (a:Str) (b:Int):decide ((Sum.inr a:Key)=Sum.inl b)=false:=decide_eq_false (fun q=>nomatch q)
def AF (prog:Program) (w:World):PySem.KeyKind prog w Key where
 is:=CB
 hash:=Iz w
 inj:=fun v a b ha hb=>by
  rcases bN ha with ⟨i,t,rfl,rfl⟩ | ⟨x,t,rfl,rfl⟩
  ·rcases bN hb with ⟨j,u,rfl,e⟩ | ⟨y,u,rfl,e⟩
   ·injection e with e1 _;rw [e1]
   ·exact nomatch e
  ·rcases bN hb with ⟨j,u,rfl,e⟩ | ⟨y,u,rfl,e⟩
   ·exact nomatch e
   ·injection e with e1 _;rw [e1]
 byValue:=fun k v h=>by
  rcases bN h with ⟨i,t,rfl,rfl⟩ | ⟨x,t,rfl,rfl⟩ <;> rfl
 pyHash:=fun hv h=>by
  rcases bN hv with ⟨i,t,rfl,rfl⟩ | ⟨x,t,rfl,rfl⟩
  ·exact wpAny_pyHash_int h
  ·exact wpAny_pyHash_str h
 eqBool:=fun hu hv h=>by
  rcases bN hu with ⟨i,t,rfl,rfl⟩ | ⟨x,t,rfl,rfl⟩
  ·rcases bN hv with ⟨j,u,rfl,rfl⟩ | ⟨y,u,rfl,rfl⟩
   ·rw [DV] at h;exact wpAny_eqBool_int h
   ·rw [Ds] at h;exact SeqAt.EqAt.int_str i t y u _ _ _ _ h
  ·rcases bN hv with ⟨j,u,rfl,rfl⟩ | ⟨y,u,rfl,rfl⟩
   ·rw [DB] at h;exact SeqAt.EqAt.str_int x t j u _ _ _ _ h
   ·rw [Er] at h;exact wpAny_eqBool_str h
 «strs»:=fun k x t v h=>by
  rcases bN h with ⟨i,u,rfl,e⟩ | ⟨y,u,rfl,e⟩
  ·exact nomatch e
  ·injection e with e1 _
   subst e1
   cases v <;> rfl
end L2
namespace L2
open PySem PySem.Spec PyProof.Rows
inductive V where
 | non | bl (b:Bool) | int (i:Int) | str (x:Str) | byt (b:Array UInt8) | flt (b:UInt64) | ref (a:Addr) | ty (n:String)
 deriving DecidableEq
def RelV:V→Value→Prop
 | .non,u=>u=Value.none
 | .bl b,u=>u=Value.bool b
 | .int i,u=>∃ t,u=Value.int i t
 | .str x,u=>∃ t,u=Value.str x t
 | .byt b,u=>∃ t,u=Value.bytes b t
 | .flt b,u=>∃ t,u=Value.float b t
 | .ref a,u=>u=Value.ref a
 | .ty n,u=>u=Value.type n
abbrev Vals:List V→List Value→Prop:=Paired RelV
theorem Vals.length {xs:List V} {us:List Value} (r:Vals xs us):xs.length=us.length:=Paired.length r
theorem Vals.get:∀ {xs:List V} {us:List Value} {i:Nat} {x:V},Vals xs us→xs[i]?=some x→∃ u,us[i]?=some u∧RelV x u
 | _,_,_,_,.nil,e=>by simp at e
 | _,_,0,_,.cons r _,e=>by simp at e;subst e;exact ⟨_,rfl,r⟩
 | _,_,i + 1,x,.cons _ t,e=>by
  obtain ⟨u,h1,h2⟩:=Vals.get (i:=i) (x:=x) t (by simpa using e)
  exact ⟨u,by simpa using h1,h2⟩
theorem Vals.set {x:V} {u:Value} (r:RelV x u):∀ {xs:List V} {us:List Value} (i:Nat),Vals xs us→Vals (xs.set i x) (us.set i u)
 | _,_,_,.nil=>.nil
 | _,_,0,.cons _ t=>.cons r t
 | _,_,i + 1,.cons q t=>.cons q (Vals.set r i t)
theorem Vals.append:∀ {xs ys:List V} {us ws:List Value},Vals xs us→Vals ys ws→Vals (xs ++ ys) (us ++ ws)
 | _,_,_,_,.nil,s=>s
 | _,_,_,_,.cons r t,s=>.cons r (Vals.append t s)
theorem Vals.take:∀ {xs:List V} {us:List Value} (n:Nat),Vals xs us→Vals (xs.take n) (us.take n)
 | _,_,0,_=>.nil
 | _,_,_ + 1,.nil=>.nil
 | _,_,n + 1,.cons r t=>.cons r (Vals.take n t)
theorem Vals.drop:∀ {xs:List V} {us:List Value} (n:Nat),Vals xs us→Vals (xs.drop n) (us.drop n)
 | _,_,0,r=>r
 | _,_,_ + 1,.nil=>.nil
 | _,_,n + 1,.cons _ t=>Vals.drop n t
theorem Vals.none_of:∀ {xs:List V} {us:List Value} {i:Nat},Vals xs us→xs[i]?=none→us[i]?=none:=fun {xs us i} r e=>by
 have h1:=r.length
 have h2:xs.length≤i:=List.getElem?_eq_none_iff.mp e
 exact List.getElem?_eq_none_iff.mpr (by omega)
def m5:Option V→Option Value→Prop
 | some v,some u=>RelV v u
 | none,none=>True
 | _,_=>False
def KV {κ:Type}:List (κ × V)→List (κ × Value)→Prop:=Paired fun (p:κ × V) (q:κ × Value)=>p.1=q.1∧RelV p.2 q.2
def kV:Key→V
 | .inl i=>.int i
 | .inr x=>.str x
inductive HO where
 | lst (xs:List V)
 | tup (xs:List V)
 | dK (kvs:List (Key × V)) | dE (kvs:List (Str × V)) (ep:Nat)
 | set (S:Int→Bool) (n:Nat)
 | ins (C dx:Addr) (fs:List (Str × V))
 | own (x:Addr)
 | xd (fs:List (Str × V))
 | met (f x:Addr)
 | DK (lo hi:Int)
 | m3 (o:Obj) (u:HO)
 | tbl (ps:Array Value)
 | ext (φ:Heap→Prop)
abbrev Hp:=Addr→Option HO
def upd (H:Hp) (a:Addr) (o:HO):Hp:=fun b=>if b=a then some o else H b
theorem ay {H:Hp} {a:Addr} {o:HO}:upd H a o a=some o:=by unfold upd;rw [if_pos rfl]
theorem aH {H:Hp} {a b:Addr} {o:HO} (h:b≠a):upd H a o b=H b:=by unfold upd;rw [if_neg h]
theorem bH {H:Hp} {a b:Addr} {o:HO} (h:H a=some o) (h':H b=none):a≠b:=by
 intro e;subst e;rw [h] at h';cases h'
section
variable (P:Program) (w:World)
def cn (H:Hp) (h:Heap) (a:Addr):HO→Prop
 | .lst xs=>xs.length≤sizeLine∧∃ (its:List Value) (n:Nat),Vals xs its∧h.get? a=some { cls:=.type "list",data:=.seq its.toArray n }
 | .tup xs=>xs.length≤sizeLine∧∃ its:List Value,Vals xs its∧IsTup h a its.toArray
 | .dK kvs=>kvs.length≤sizeLine∧(a == sysModules)=false∧∃ vs,KV kvs vs∧h.DictOf (AF P w) a vs
 | .dE kvs ep=>kvs.length≤sizeLine∧(a == sysModules)=false∧∃ vs,KV kvs vs∧h.DictAt (strKind P w) a vs ep
 | .set S n=>h.SetOf (intKind P w) a S n
 | .ins C dx fs=>H dx=some (.own a)∧fs.length≤1000∧dx≠a∧h.get? a=some (PySem.W.instObj C dx) ∧
   ∃ mA,h.Ns1 dx mA∧(∀ f,m5 (fs.lookup f) (mA f))∧PySem.Within mA (fs.map (·.1))
 | .own _=>∃ o,h.get? a=some o
 | .xd fs=>∃ mA,h.Ns1 a mA∧∀ f,m5 (fs.lookup f) (mA f)
 | .DK lo hi=>∃ t u v,h.get? a=some { cls:=.type "range",data:=.fields #[.int lo t,.int hi u,.int 1 v] }
 | .m3 o u=>h.get? a=some o∧cn H h a u
 | .tbl ps=>h.get? a=some { cls:=.none,data:=.fields ps }
 | .met f x=>h.get? a=some (PySem.W.methodObj (.ref f) (.ref x))
 | .ext φ=>φ h∧(∃ o,h.get? a=some o)∧∀ h1 h2:Heap,φ h1→(∀ o,h1.get? a=some o→h2.get? a=some o)→φ h2
def iU (H:Hp) (h:Heap):Prop:=∀ a o,H a=some o→cn P w H h a o
end
section
variable {P:Program} {w:World} {H H':Hp} {h h':Heap} {a:Addr} {o:HO}
theorem cn.lt (x:cn P w H h a o):a < h.objs.size:=by
 cases o with
 | lst xs=>obtain ⟨_,_,_,_,e⟩:=x;exact Heap.lt_size e
 | tup xs=>obtain ⟨_,_,_,p⟩:=x;exact p.lt
 | dK kvs=>obtain ⟨_,_,_,_,o,_,_,e,_⟩:=x;exact Heap.lt_size e
 | dE kvs ep=>obtain ⟨_,_,_,_,o,_,e,_⟩:=x;exact Heap.lt_size e
 | set S n=>obtain ⟨o,_,_,_,e,_⟩:=x;exact Heap.lt_size e
 | ins C dx fs=>obtain ⟨_,_,_,e,_⟩:=x;exact Heap.lt_size e
 | own y=>obtain ⟨_,e⟩:=x;exact Heap.lt_size e
 | xd fs=>obtain ⟨_,⟨_,_,_,e,_⟩,_⟩:=x;exact Heap.lt_size e
 | DK lo hi=>obtain ⟨_,_,_,e⟩:=x;exact Heap.lt_size e
 | m3 ob u=>obtain ⟨e,_⟩:=x;exact Heap.lt_size e
 | tbl ps=>exact Heap.lt_size (show h.get? a=some _ from x)
 | met f y=>exact Heap.lt_size (show h.get? a=some _ from x)
 | ext φ=>obtain ⟨_,⟨_,e⟩,_⟩:=x;exact Heap.lt_size e
theorem cn.lW (x:cn P w H h a o) (k:∀ b u,(b=a∨H b=some (.own a))→h.get? b=some u→h'.get? b=some u)
  (ho:∀ b,H b=some (.own a)→H' b=some (.own a)) (ht:∀ b xs,H b=some (.tup xs)→H' b=some (.tup xs)):cn P w H' h' a o:=by
 induction o with
 | lst xs=>obtain ⟨z,its,n,r,e⟩:=x;exact ⟨z,its,n,r,k _ _ (.inl rfl) e⟩
 | tup xs=>obtain ⟨z,its,r,ob,e,c⟩:=x;exact ⟨z,its,r,ob,k _ _ (.inl rfl) e,c⟩
 | dK kvs=>obtain ⟨z,y,vs,r,ob,es,ep,e,c⟩:=x;exact ⟨z,y,vs,r,ob,es,ep,k _ _ (.inl rfl) e,c⟩
 | dE kvs ep=>obtain ⟨z,y,vs,r,ob,es,e,c⟩:=x;exact ⟨z,y,vs,r,ob,es,k _ _ (.inl rfl) e,c⟩
 | set S n=>obtain ⟨ob,es,ep,t,e,c⟩:=x;exact ⟨ob,es,ep,t,k _ _ (.inl rfl) e,c⟩
 | ins C dx fs =>
  obtain ⟨d,z,ne,e,mA,⟨od,es,ep,e2,c⟩,r⟩:=x
  exact ⟨ho _ d,z,ne,k _ _ (.inl rfl) e,mA,⟨od,es,ep,k _ _ (.inr d) e2,c⟩,r⟩
 | own y=>obtain ⟨ob,e⟩:=x;exact ⟨ob,k _ _ (.inl rfl) e⟩
 | xd fs=>obtain ⟨mA,⟨od,es,ep,e,c⟩,r⟩:=x;exact ⟨mA,⟨od,es,ep,k _ _ (.inl rfl) e,c⟩,r⟩
 | DK lo hi=>obtain ⟨t,u,v,e⟩:=x;exact ⟨t,u,v,k _ _ (.inl rfl) e⟩
 | m3 ob u ih=>obtain ⟨e,q⟩:=x;exact ⟨k _ _ (.inl rfl) e,ih q⟩
 | tbl ps =>
  have e:h.get? a=some { cls:=.none,data:=.fields ps }:=x
  show h'.get? a=some { cls:=.none,data:=.fields ps }
  exact k a _ (.inl rfl) e
 | met f y =>
  have e:h.get? a=some (PySem.W.methodObj (.ref f) (.ref y)):=x
  show h'.get? a=some (PySem.W.methodObj (.ref f) (.ref y))
  exact k a _ (.inl rfl) e
 | ext φ=>obtain ⟨p,⟨o,e⟩,st⟩:=x;exact ⟨st _ _ p fun o q=>k _ _ (.inl rfl) q,⟨o,k _ _ (.inl rfl) e⟩,st⟩
theorem iU.lt (x:iU P w H h) (e:H a=some o):a < h.objs.size:=(x a o e).lt
theorem iU.fresh (x:iU P w H h) (e:h.objs.size≤a):H a=none:=by
 cases q:H a with
 | none=>rfl
 | some u=>exact absurd (Nat.lt_of_lt_of_le (x.lt q) e) (Nat.lt_irrefl _)
theorem iU.kept (x:iU P w H h) (k:∀ b u,h.get? b=some u→h'.get? b=some u):iU P w H h':=fun a o e =>
 (x a o e).lW (fun b u _ q=>k b u q) (fun _ q=>q) fun _ _ q=>q
theorem iU.laid (x:iU P w H h) (k:∀ b u,h.get? b=some u→h'.get? b=some u) (hp:h.objs.size≤a) (new:cn P w (upd H a o) h' a o):iU P w (upd H a o) h':=fun b u e=>by
 have hn:=x.fresh hp
 by_cases hb:b=a
 ·subst hb;rw [ay] at e;cases e;exact new
 ·rw [aH hb] at e
  exact (x b u e).lW (fun c v _ q=>k c v q) (fun c q=>by rw [aH (bH q hn)];exact q) fun c xs q=>by rw [aH (bH q hn)];exact q
end
def Rd (H:Hp) (a:Addr) (u:HO):Prop:=H a=some u∨∃ o,H a=some (.m3 o u)
theorem Rd.of {H:Hp} {a:Addr} {u:HO} (h:H a=some u):Rd H a u:=.inl h
theorem Rd.ok {P:Program} {w:World} {H:Hp} {h:Heap} {a:Addr} {u:HO} (r:Rd H a u) (x:iU P w H h):cn P w H h a u:=by
 rcases r with r | ⟨o,r⟩
 ·exact x a u r
 ·obtain ⟨_,q⟩:=x a _ r
  exact q
def G5:Option HO→Prop
 | some (.lst _)=>True
 | some (.dK _)=>True
 | some (.dE _ _)=>True
 | some (.set _ _)=>True
 | some (.ins _ _ _)=>True
 | some (.ext _)=>True
 | _=>False
section
variable {P:Program} {w:World} {H:Hp} {h h':Heap} {x e:Addr} {o':HO}
theorem iU.write (ok:iU P w H h) (mu:G5 (H x)) (he:e=x∨H e=some (.own x)) (k:∀ b u,b≠e→h.get? b=some u→h'.get? b=some u) (heo:∃ u,h'.get? e=some u)
  (new:cn P w (upd H x o') h' x o'):iU P w (upd H x o') h':=fun b u q=>by
 have nown:∀ c y,H c=some (.own y)→c≠x:=fun c y r z=>by subst z;rw [r] at mu;exact mu
 have ntup:∀ c xs,H c=some (.tup xs)→c≠x:=fun c xs r z=>by subst z;rw [r] at mu;exact mu
 by_cases hb:b=x
 ·subst hb;rw [ay] at q;cases q;exact new
 ·rw [aH hb] at q
  by_cases hbe:b=e
  ·have q':H b=some (.own x):=by
    rcases he with z | z
    ·exact absurd (hbe.trans z) hb
    ·rw [hbe];exact z
   rw [q] at q';cases q'
   obtain ⟨v,hv⟩:=heo
   exact ⟨v,by rw [hbe];exact hv⟩
  ·refine (ok b u q).lW (fun c v hc r=>k c v ?_ r) (fun c r=>by rw [aH (nown c b r)];exact r) fun c xs r=>by rw [aH (ntup c xs r)];exact r
   rcases hc with rfl | hc
   ·exact hbe
   ·rintro rfl
    rcases he with z | z
    ·exact nown c b hc z
    ·rw [hc] at z;cases z;exact hb rfl
end
structure Un (fs ex:List Addr) (H H':Hp) (h h':Heap):Prop where
 keep:∀ b o,h.get? b=some o→H b=none→b ∉ fs→b ∉ ex→h'.get? b=some o
 slot:∀ b o,h.get? b=some o→H b=none→b∈fs→b ∉ ex→∃ sl,h'.get? b=some { o with slots:=sl }
 free:∀ b o,h.get? b=some o→H b=none→b ∉ ex→H' b=none
 there:∀ b o,h.get? b=some o→b ∉ ex→∃ o',h'.get? b=some o'
 tups:∀ b xs,H b=some (.tup xs)→H' b=some (.tup xs)
 frzs:∀ b o u,H b=some (.m3 o u)→H' b=some (.m3 o u)
 tbls:∀ b ps,H b=some (.tbl ps)→∃ more,H' b=some (.tbl (ps ++ more))
section
variable {fs fs' ex ex':List Addr} {H H1 H2:Hp} {h h1 h2 h':Heap} {a x e:Addr} {o:HO}
theorem Un.any (u:Un fs ex H H1 h h1) {b:Addr} {ob:Obj} (q:h.get? b=some ob) (n:H b=none) (hx:b ∉ ex):∃ sl,h1.get? b=some { ob with slots:=sl }:=by
 by_cases hb:b∈fs
 ·exact u.slot b ob q n hb hx
 ·exact ⟨ob.slots,u.keep b ob q n hb hx⟩
theorem Un.trans (a:Un fs ex H H1 h h1) (b:Un fs ex H1 H2 h1 h2):Un fs ex H H2 h h2 where
 keep:=fun c ob q n hc hx=>b.keep c ob (a.keep c ob q n hc hx) (a.free c ob q n hx) hc hx
 slot:=fun c ob q n hc hx=>by
  obtain ⟨sl,e1⟩:=a.slot c ob q n hc hx
  obtain ⟨sl',e2⟩:=b.slot c _ e1 (a.free c ob q n hx) hc hx
  exact ⟨sl',e2⟩
 free:=fun c ob q n hx=>by
  obtain ⟨o',e1⟩:=a.there c ob q hx
  exact b.free c o' e1 (a.free c ob q n hx) hx
 there:=fun c ob q hx=>by
  obtain ⟨o',e1⟩:=a.there c ob q hx
  exact b.there c o' e1 hx
 tups:=fun c xs q=>b.tups c xs (a.tups c xs q)
 frzs:=fun c ob xs q=>b.frzs c ob xs (a.frzs c ob xs q)
 tbls:=fun c ps q=>by
  obtain ⟨m1,e1⟩:=a.tbls c ps q
  obtain ⟨m2,e2⟩:=b.tbls c _ e1
  exact ⟨m1 ++ m2,by rw [e2,Array.append_assoc]⟩
theorem Un.kept (k:∀ b u,h.get? b=some u→h'.get? b=some u):Un fs ex H H h h' :=
 ⟨fun b ob q _ _ _=>k b ob q,fun b ob q _ _ _=>⟨ob.slots,k b ob q⟩,fun _ _ _ n _=>n,fun b ob q _=>⟨ob,k b ob q⟩,fun _ _ q=>q,fun _ _ _ q=>q,fun _ ps q=>⟨#[],by rw [q];simp⟩⟩
theorem Un.refl:Un fs ex H H h h:=Un.kept fun _ _ q=>q
theorem Un.laid (k:∀ b u,h.get? b=some u→h'.get? b=some u) (hp:h.objs.size≤a) (hn:H a=none):Un fs ex H (upd H a o) h h' where
 keep:=fun b u q _ _ _=>k b u q
 slot:=fun b u q _ _ _=>⟨u.slots,k b u q⟩
 free:=fun b u q n _=>by rw [aH (Nat.ne_of_lt (Nat.lt_of_lt_of_le (Heap.lt_size q) hp))];exact n
 there:=fun b u q _=>⟨u,k b u q⟩
 tups:=fun b xs q=>by rw [aH (bH q hn)];exact q
 frzs:=fun b u xs q=>by rw [aH (bH q hn)];exact q
 tbls:=fun b ps q=>⟨#[],by rw [aH (bH q hn),q];simp⟩
theorem Un.write (mu:G5 (H x)) (he:e=x∨H e=some (.own x)) (k:∀ b u,b≠e→h.get? b=some u→h'.get? b=some u) (heo:∃ u,h'.get? e=some u):Un fs ex H (upd H x o) h h':=by
 have hx:∀ b,H b=none→b≠x:=fun b n z=>by subst z;rw [n] at mu;exact mu
 have hb:∀ b,H b=none→b≠e:=fun b n z=>by
  subst z
  rcases he with r | r
  ·exact hx b n r
  ·rw [n] at r;cases r
 have hm:∀ b u,H b=some u→¬ G5 (some u)→b≠x:=fun b u q nm z=>by subst z;rw [q] at mu;exact nm mu
 refine ⟨fun b u q n _ _=>k b u (hb b n) q,fun b u q n _ _=>⟨u.slots,k b u (hb b n) q⟩,fun b u q n _=>by rw [aH (hx b n)];exact n,fun b u q _=>?_,
  fun b xs q=>by rw [aH (hm b _ q fun z=>z)];exact q,fun b u xs q=>by rw [aH (hm b _ q fun z=>z)];exact q,fun b ps q=>⟨#[],by rw [aH (hm b _ q fun z=>z),q];simp⟩⟩
 by_cases hbe:b=e
 ·subst hbe;exact heo
 ·exact ⟨u,k b u hbe q⟩
theorem Un.mono (u:Un fs ex H H1 h h1) (hs:∀ b∈fs,b∈fs') (hx:∀ b∈ex,b∈ex'):Un fs' ex' H H1 h h1 :=
 ⟨fun b ob q n hb he=>u.keep b ob q n (fun z=>hb (hs b z)) fun z=>he (hx b z),fun _ _ q n _ he=>u.any q n fun z=>he (hx _ z),fun b ob q n he=>u.free b ob q n fun z=>he (hx b z),fun b ob q he=>u.there b ob q fun z=>he (hx b z),u.tups,u.frzs,u.tbls⟩
end
def Hh (h:Heap) (H:Hp):List Addr:=(List.range h.objs.size).filter fun a=>(H a).isSome
def mG (h:Heap) (H:Hp):Heap:=PySem.W.hideAll h (Hh h H)
theorem w9 (h:Heap) (H:Hp):(mG h H).objs.size=h.objs.size:=PySem.W.hideAll_size _ _
theorem y_ {h:Heap} {H:Hp} {b:Addr} {o:Obj} (e:h.get? b=some o) (n:H b=none):(mG h H).get? b=some o :=
 PySem.W.hideAll_get _ e fun hm=>by
  have q:(H b).isSome=true:=(List.mem_filter.mp hm).2
  rw [n] at q;simp at q
theorem By {h:Heap} {H:Hp} {b:Addr} {o:Obj} (e:(mG h H).get? b=some o):h.get? b=some o∧H b=none:=by
 have e':h.get? b=some o:=PySem.W.of_hideAll (Hh h H) e
 refine ⟨e',?_⟩
 cases q:H b with
 | none=>rfl
 | some x =>
  have hm:b∈Hh h H:=List.mem_filter.mpr ⟨List.mem_range.mpr (Heap.lt_size e'),by simp [q]⟩
  have z:(mG h H).get? b=none:=PySem.W.hideAll_none (Hh h H) hm
  rw [z] at e;cases e
def BQ (g h:Heap) (L:Addr):List (Addr × Obj):=(List.range h.objs.size).filterMap fun a=>if a=L∨(g.get? a).isSome=true then none else (h.get? a).map fun o=>(a,o)
def rest (g h:Heap) (L d:Addr):List (Addr × Obj):=(BQ g h L).filter fun p=>decide (p.1≠d)
end L2
namespace L2
open PySem PySem.Spec PyProof.Rows
structure Mod (K:PySem.W.Frag) (mg:Str→Option Value) (base:Heap):Prop where
 kin:K.In base
 glob:base.Ns mainGlobals mg
 blt:∃ mb,base.Ns builtinsNs mb∧∀ x:Str,x≠"__name__"→mb x=bootBuiltins x
 nolimit:base.NoLimit
structure Cx where
 prog:Program
 w:World
 K:PySem.W.Frag
 mg:Str→Option Value
 base:Heap
 A:Around
 N:List Str
 s₀:Shared
 H₀:Hp
 env:Env
 outer:List Env
 stack:List Env
 ex:List Addr
 fn:Str→Bool
 calm:Bool
 pn:List (Addr × Obj)
 xe:Value→Shared→Prop
def gB (l:List Env):List Addr:=l.filterMap (·.frame)
abbrev Cx.fs (X:Cx):List Addr:=gB X.outer
def p7 (sc:Scope) (x:Str):Prop:=sc.names.lookup x=some .local∨sc.names.lookup x=some .cell∨sc.names.lookup x=some .free
def Loc (sc:Scope) (x:Str):Prop:=sc.names.lookup x=some .local∨sc.names.lookup x=some .cell
def Look (env:Env) (h:Heap) (m:Str→Option Value) (x:Str) (u:Value):Prop :=
 (env.kindOf x=some .local∧m x=some u)∨((env.kindOf x=some .cell∨env.kindOf x=some .free)∧∃ c,env.cells.lookup x=some c∧h.IsCell c (some u))
structure Cx.Ok (X:Cx):Prop where
 mod:Mod X.K X.mg X.base
 kind:X.env.scope.kind=.function
 glob:X.env.globals=mainGlobals
 blt:X.env.builtins=builtinsNs
 above:X.s₀.heap.objs.size≤X.env.locals
 inj:∀ x y c,X.env.cells.lookup x=some c→X.env.cells.lookup y=some c→x=y
 has:∀ x,(X.env.kindOf x=some .cell∨X.env.kindOf x=some .free)→∃ c,X.env.cells.lookup x=some c
 cab:∀ x c,X.fn x=true→X.env.cells.lookup x=some c→X.s₀.heap.objs.size≤c
 hd:X.calm=true→X.A.handled=none
 frames:X.A.frames=some X.stack
 stk:X.stack=X.outer∨(X.stack=X.env :: X.outer∧X.env.frame=some X.env.locals)
 exf:∀ b∈X.ex,b≠X.env.locals∧∀ x c,X.env.cells.lookup x=some c→c≠b
 bs:∀ b o,X.base.get? b=some o→X.s₀.heap.get? b=some o∧X.H₀ b=none
 bsz:X.base.objs.size≤X.s₀.heap.objs.size
 noex:∀ b o,X.base.get? b=some o→b ∉ X.ex
 exfs:∀ b∈X.ex,b ∉ X.fs
 jB:X.s₀.heap.FunFrames X.base X.outer
 frf:∀ b∈X.fs,X.H₀ b=none
structure Inv (X:Cx) (pins:List (Addr × Obj)) (σ:List (Option V)) (H:Hp) (s:Shared):Prop where
 ok:X.Ok
 os:s.os=X.s₀.os
 bare:AllBare s.gens
 base:Un X.fs X.ex X.H₀ H X.s₀.heap s.heap
 loc:∃ m,s.heap.Ns X.env.locals m∧∀ (i:Nat) (x:Str) (v:V),X.N[i]?=some x→σ[i]?=some (some v)→p7 X.env.scope x→∃ u,RelV v u∧Look X.env s.heap m x u
 cell:∀ x c,X.env.cells.lookup x=some c→∃ v,s.heap.IsCell c v
 free:H X.env.locals=none
 freeC:∀ x c,X.env.cells.lookup x=some c→H c=none
 pin:∀ p∈X.pn ++ pins,s.heap.get? p.1=some p.2∧H p.1=none∧p.1≠X.env.locals∧p.1 ∉ X.fs∧∀ v,p.2.data≠.cell v
 hok:iU X.prog X.w H s.heap
 len:σ.length=X.N.length
section
variable {X:Cx} {pins:List (Addr × Obj)} {σ:List (Option V)} {H H':Hp} {s:Shared} {h':Heap}
theorem Cx.Ok.HN (ok:X.Ok) {b:Addr} {o:Obj} (e:X.base.get? b=some o):b ∉ X.fs:=fun hb=>by
 have:=(ok.jB.mem hb).1
 rw [e] at this;cases this
theorem Inv.bs (I:Inv X pins σ H s):∀ b o,X.base.get? b=some o→s.heap.get? b=some o∧H b=none:=fun b o e =>
 ⟨I.base.keep b o (I.ok.bs b o e).1 (I.ok.bs b o e).2 (I.ok.HN e) (I.ok.noex b o e),I.base.free b o (I.ok.bs b o e).1 (I.ok.bs b o e).2 (I.ok.noex b o e)⟩
theorem Inv.bk (I:Inv X pins σ H s):∀ b o,X.base.get? b=some o→s.heap.get? b=some o:=fun b o e=>(I.bs b o e).1
theorem Inv.mod (I:Inv X pins σ H s):Mod X.K X.mg X.base:=I.ok.mod
theorem Inv.jl (I:Inv X pins σ H s):X.K.In s.heap:=I.ok.mod.kin.keeps I.bk
theorem Inv.nolimit (I:Inv X pins σ H s):s.heap.NoLimit:=I.ok.mod.nolimit.keeps I.bk
theorem Inv.lt (I:Inv X pins σ H s):X.env.locals < s.heap.objs.size:=let ⟨_,hn,_⟩:=I.loc;hn.lt
theorem Inv.sz (I:Inv X pins σ H s):X.s₀.heap.objs.size≤s.heap.objs.size:=Nat.le_trans I.ok.above (Nat.le_of_lt I.lt)
theorem Inv.HU (I:Inv X pins σ H s) {a:Addr} (h:s.heap.objs.size≤a):a ∉ X.fs:=fun hb=>by
 obtain ⟨_,o,ho,_⟩:=I.ok.jB.mem hb
 exact absurd (Nat.lt_of_lt_of_le (Heap.lt_size ho) (Nat.le_trans I.sz h)) (Nat.lt_irrefl _)
theorem Inv.DZ (I:Inv X pins σ H s):∀ x c,X.env.cells.lookup x=some c→c≠X.env.locals:=fun x c e z=>by
 obtain ⟨v,o,ho,hd⟩:=I.cell x c e
 obtain ⟨m,⟨o',es,ep,ho',hd',_⟩,_⟩:=I.loc
 rw [z,ho'] at ho;cases ho;rw [hd'] at hd;cases hd
theorem Inv.jB (I:Inv X pins σ H s):s.heap.FunFrames X.base X.outer:=by
 have all:∀ (l:List Env),(∀ b∈gB l,b∈X.fs)→X.s₀.heap.FunFrames X.base l→s.heap.FunFrames X.base l:=by
  intro l
  induction l with
  | nil=>intro _ _;trivial
  | cons env r ih =>
   intro hs hl
   obtain ⟨hk,⟨L,o,hf,hn,ho,hd⟩,hr⟩:=hl
   have hL:L∈X.fs:=hs L (by unfold gB;rw [List.filterMap_cons,hf];exact List.mem_cons_self)
   obtain ⟨sl,e⟩:=I.base.slot L o ho (I.ok.frf L hL) hL fun z=>I.ok.exfs L z hL
   exact ⟨hk,⟨L,_,hf,hn,e,hd⟩,ih (fun b hb=>hs b (by unfold gB;rw [List.filterMap_cons,hf];exact List.mem_cons_of_mem _ hb)) hr⟩
 exact all X.outer (fun _ hb=>hb) I.ok.jB
theorem Inv.stack (I:Inv X pins σ H s):s.heap.FunFrames X.base X.stack:=by
 rcases I.ok.stk with e | ⟨e,hf⟩
 ·rw [e];exact I.jB
 ·rw [e]
  obtain ⟨m,hn,_⟩:=I.loc
  refine .cons (by rw [I.ok.kind];decide) hf hn ?_ I.jB
  exact Heap.get?_none_of_le (Nat.le_trans I.ok.bsz I.ok.above)
theorem Inv.iC (I:Inv X pins σ H s):∀ b∈gB X.stack,b∈X.env.locals :: X.fs:=fun b hb=>by
 rcases I.ok.stk with e | ⟨e,hf⟩
 ·rw [e] at hb;exact List.mem_cons_of_mem _ hb
 ·rw [e] at hb
  unfold gB at hb
  rw [List.filterMap_cons,hf] at hb
  exact hb
theorem Inv.om (I:Inv X pins σ H s):∀ b∈gB X.stack,H b=none:=fun b hb=>by
 rcases List.mem_cons.mp (I.iC b hb) with e | hb
 ·rw [e];exact I.free
 ·obtain ⟨_,o,ho,_⟩:=I.ok.jB.mem hb
  exact I.base.free b o ho (I.ok.frf b hb) fun z=>I.ok.exfs b z hb
theorem Inv.step {g':Array GenState} {t':Nat} {d':Drawn} {ch:List Addr} (I:Inv X pins σ H s)
  (hch:∀ b∈ch,(b∈X.ex∨X.s₀.heap.objs.size≤b)∧b≠X.env.locals∧(∀ x c,X.env.cells.lookup x=some c→c≠b)∧∀ p∈X.pn ++ pins,p.1≠b)
  (keep:∀ b o,b≠X.env.locals→b ∉ X.fs→b ∉ ch→s.heap.get? b=some o→H b=none→h'.get? b=some o)
  (slot:∀ b o,b≠X.env.locals→b∈X.fs→b ∉ ch→s.heap.get? b=some o→H b=none→∃ sl,h'.get? b=some { o with slots:=sl }) (free:∀ b o,b ∉ ch→s.heap.get? b=some o→H b=none→H' b=none)
  (there:∀ b o,b ∉ ch→s.heap.get? b=some o→∃ o',h'.get? b=some o')
  (tups:∀ b xs,H b=some (.tup xs)→H' b=some (.tup xs)) (frzs:∀ b o u,H b=some (.m3 o u)→H' b=some (.m3 o u)) (tbls:∀ b ps,H b=some (.tbl ps)→∃ more,H' b=some (.tbl (ps ++ more)))
  (ns:∀ m,s.heap.Ns X.env.locals m→h'.Ns X.env.locals m) (hok:iU X.prog X.w H' h') (hg:AllBare g') :
  Inv X pins σ H' { s with heap:=h',gens:=g',drawn:=d',toks:=t' }:=by
 have neL:∀ b o,X.s₀.heap.get? b=some o→b≠X.env.locals:=fun b o e=>Nat.ne_of_lt (Nat.lt_of_lt_of_le (Heap.lt_size e) I.ok.above)
 have neC:∀ b o,X.s₀.heap.get? b=some o→b ∉ X.ex→b ∉ ch:=fun b o e hx hb=>by
  rcases (hch b hb).1 with z | z
  ·exact hx z
  ·exact absurd (Nat.lt_of_lt_of_le (Heap.lt_size e) z) (Nat.lt_irrefl _)
 have cellK:∀ x c,X.env.cells.lookup x=some c→∀ v,s.heap.IsCell c v→h'.IsCell c v:=fun x c e v ⟨o,ho,hd⟩=>by
  have nch:c ∉ ch:=fun z=>(hch c z).2.2.1 x c e rfl
  by_cases hc:c∈X.fs
  ·obtain ⟨sl,q⟩:=slot c o (I.DZ x c e) hc nch ho (I.freeC x c e)
   exact ⟨_,q,hd⟩
  ·exact ⟨o,keep c o (I.DZ x c e) hc nch ho (I.freeC x c e),hd⟩
 refine ⟨I.ok,I.os,hg,⟨fun b o e n hb hx=>?_,fun b o e n hb hx=>?_,fun b o e n hx=>?_,fun b o e hx=>?_,fun b xs e=>tups b xs (I.base.tups b xs e),fun b o xs e=>frzs b o xs (I.base.frzs b o xs e),fun b ps e=>?_⟩,?_,fun x c e=>?_,?_,fun x c e=>?_,fun p hp=>?_,hok,I.len⟩
 ·exact keep b o (neL b o e) hb (neC b o e hx) (I.base.keep b o e n hb hx) (I.base.free b o e n hx)
 ·obtain ⟨sl,e1⟩:=I.base.slot b o e n hb hx
  obtain ⟨sl',e2⟩:=slot b _ (neL b o e) hb (neC b o e hx) e1 (I.base.free b o e n hx)
  exact ⟨sl',e2⟩
 ·obtain ⟨o',e1⟩:=I.base.there b o e hx
  exact free b o' (neC b o e hx) e1 (I.base.free b o e n hx)
 ·obtain ⟨o',e1⟩:=I.base.there b o e hx
  exact there b o' (neC b o e hx) e1
 ·obtain ⟨m1,e1⟩:=I.base.tbls b ps e
  obtain ⟨m2,e2⟩:=tbls b _ e1
  exact ⟨m1 ++ m2,by rw [e2,Array.append_assoc]⟩
 ·obtain ⟨m,hn,hl⟩:=I.loc
  refine ⟨m,ns m hn,fun i x v e1 e2 e3=>?_⟩
  obtain ⟨u,r,l⟩:=hl i x v e1 e2 e3
  refine ⟨u,r,?_⟩
  rcases l with l | ⟨k,c,e,z⟩
  ·exact .inl l
  ·exact .inr ⟨k,c,e,cellK x c e _ z⟩
 ·obtain ⟨v,z⟩:=I.cell x c e
  exact ⟨v,cellK x c e v z⟩
 ·obtain ⟨m,⟨o,_,_,ho,_⟩,_⟩:=I.loc
  exact free _ o (fun z=>(hch _ z).2.1 rfl) ho I.free
 ·obtain ⟨v,o,ho,hd⟩:=I.cell x c e
  exact free c o (fun z=>(hch c z).2.2.1 x c e rfl) ho (I.freeC x c e)
 ·obtain ⟨e,n,ne,nf,d⟩:=I.pin p hp
  have nch:p.1 ∉ ch:=fun z=>(hch p.1 z).2.2.2 p hp rfl
  exact ⟨keep p.1 p.2 ne nf nch e n,free p.1 p.2 nch e n,ne,nf,d⟩
theorem Inv.un {t':Nat} (I:Inv X pins σ H s) (u:Un X.fs [] H H' s.heap h') (hok:iU X.prog X.w H' h'):Inv X pins σ H' { s with heap:=h',toks:=t' }:=by
 obtain ⟨m,⟨o,es,ep,ho,r⟩,_⟩:=id I.loc
 obtain ⟨sl,hL⟩:=u.any ho I.free (by simp)
 exact I.step (g':=s.gens) (d':=s.drawn) (ch:=[]) (fun _ z=>nomatch z) (fun b o _ hb _ e n=>u.keep b o e n hb (by simp)) (fun b o _ hb _ e n=>u.slot b o e n hb (by simp)) (fun b o _ e n=>u.free b o e n (by simp)) (fun b o _ e=>u.there b o e (by simp)) u.tups u.frzs u.tbls (fun m' hm=>by
  obtain ⟨o',es',ep',ho',r'⟩:=hm
  rw [ho] at ho';cases ho'
  exact ⟨_,es',ep',hL,r'⟩) hok I.bare
theorem Inv.call {g':Array GenState} {t':Nat} {d':Drawn} {ch:List Addr} (I:Inv X pins σ H s) (u:Un (gB X.stack) ch H H' s.heap h') (hok:iU X.prog X.w H' h') (hg:AllBare g')
  (hch:∀ b∈ch,(b∈X.ex∨X.s₀.heap.objs.size≤b)∧b≠X.env.locals∧(∀ x c,X.env.cells.lookup x=some c→c≠b)∧∀ p∈X.pn ++ pins,p.1≠b) :
  Inv X pins σ H' { s with heap:=h',gens:=g',drawn:=d',toks:=t' }:=by
 obtain ⟨m,⟨o,es,ep,ho,r⟩,_⟩:=id I.loc
 obtain ⟨sl,hL⟩:=u.any ho I.free fun z=>(hch _ z).2.1 rfl
 exact I.step (ch:=ch) hch (fun b o hL hb hc e n=>u.keep b o e n (fun z=>(List.mem_cons.mp (I.iC b z)).elim hL hb) hc) (fun b o _ _ hc e n=>u.any e n hc) (fun b o hc e n=>u.free b o e n hc) (fun b o hc e=>u.there b o e hc) u.tups u.frzs u.tbls (fun m' hm=>by
  obtain ⟨o',es',ep',ho',r'⟩:=hm
  rw [ho] at ho';cases ho'
  exact ⟨_,es',ep',hL,r'⟩) hok hg
theorem Inv.turned {t':Nat} {it:Addr} (I:Inv X pins σ H s) (k:∀ b o,b≠it→s.heap.get? b=some o→h'.get? b=some o) (hn:H it=none) (hL:it≠X.env.locals)
  (h1:it∈X.ex∨X.s₀.heap.objs.size≤it) (h2:∀ x c,X.env.cells.lookup x=some c→c≠it) (h3:∀ p∈X.pn ++ pins,p.1≠it):Inv X pins σ H { s with heap:=h',toks:=t' }:=by
 have nit:∀ b u,H b=some u→b≠it:=fun b u e z=>by rw [z,hn] at e;cases e
 refine I.step (g':=s.gens) (d':=s.drawn) (ch:=[it]) (fun b hb=>?_) (fun b o _ _ hc e _=>k b o (fun z=>hc (by simp [z])) e) (fun b o _ _ hc e _=>⟨o.slots,k b o (fun z=>hc (by simp [z])) e⟩) (fun _ _ _ _ n=>n)
  (fun b o hc e=>⟨o,k b o (fun z=>hc (by simp [z])) e⟩) (fun _ _ e=>e) (fun _ _ _ e=>e) (fun b ps e=>⟨#[],by rw [e];simp⟩) (fun m hm=>?_) (fun b u e=>?_) I.bare
 ·have e:b=it:=by simpa using hb
  subst e
  exact ⟨h1,hL,h2,h3⟩
 ·obtain ⟨o,es,ep,ho,r⟩:=hm
  exact ⟨o,es,ep,k _ o (Ne.symm hL) ho,r⟩
 ·refine (I.hok b u e).lW (fun c v hc q=>k c v ?_ q) (fun _ q=>q) fun _ _ q=>q
  rcases hc with z | z
  ·rw [z];exact nit b u e
  ·exact nit c _ z
theorem Inv.tok (I:Inv X pins σ H s) (t:Nat):Inv X pins σ H { s with toks:=t }:=I.un (h':=s.heap) (t':=t) Un.refl I.hok
theorem Inv.kept {t':Nat} (I:Inv X pins σ H s) (k:∀ b u,s.heap.get? b=some u→h'.get? b=some u):Inv X pins σ H { s with heap:=h',toks:=t' }:=I.un (Un.kept k) (I.hok.kept k)
theorem Inv.laid {a:Addr} {o:HO} {t':Nat} (I:Inv X pins σ H s) (k:∀ b u,s.heap.get? b=some u→h'.get? b=some u) (hp:s.heap.objs.size≤a) (new:cn X.prog X.w (upd H a o) h' a o) :
  Inv X pins σ (upd H a o) { s with heap:=h',toks:=t' }:=I.un (Un.laid k hp (I.hok.fresh hp)) (I.hok.laid k hp new)
theorem Inv.write {x e:Addr} {o:HO} {t':Nat} (I:Inv X pins σ H s) (mu:G5 (H x)) (he:e=x∨H e=some (.own x)) (k:∀ b u,b≠e→s.heap.get? b=some u→h'.get? b=some u) (heo:∃ u,h'.get? e=some u)
  (new:cn X.prog X.w (upd H x o) h' x o):Inv X pins σ (upd H x o) { s with heap:=h',toks:=t' }:=I.un (Un.write mu he k heo) (I.hok.write mu he k heo new)
theorem Inv.vA {pins':List (Addr × Obj)} (I:Inv X pins σ H s) (h:∀ p∈pins',s.heap.get? p.1=some p.2∧H p.1=none∧p.1≠X.env.locals∧p.1 ∉ X.fs∧∀ v,p.2.data≠.cell v):Inv X pins' σ H s :=
 ⟨I.ok,I.os,I.bare,I.base,I.loc,I.cell,I.free,I.freeC,fun p hp=>(List.mem_append.mp hp).elim (fun z=>I.pin p (List.mem_append_left _ z)) (h p),I.hok,I.len⟩
theorem qg {N:List Str} (hN:N.Nodup) {i j:Nat} {x:Str} (a:N[i]?=some x) (b:N[j]?=some x):i=j:=by
 obtain ⟨h1,e1⟩:=List.getElem?_eq_some_iff.mp a
 obtain ⟨h2,e2⟩:=List.getElem?_eq_some_iff.mp b
 exact (List.getElem_inj hN).mp (e1.trans e2.symm)
theorem jN {M:Model} {A:Around} {E:Value→Shared→Prop} {i:Nat} {x:Str} {v:V} {u:Value} {Q:Unit→Shared→Prop} (I:Inv X pins σ H s) (hN:X.N.Nodup) (hi:X.N[i]?=some x) (hx:Loc X.env.scope x) (r:RelV v u)
  (h:∀ s',Inv X pins (σ.set i (some v)) H s'→(∃ a,Heap.SameBut a s.heap s'.heap∧(a=X.env.locals∨X.env.cells.lookup x=some a))→Q () s') (hf:X.fn x=true∨X.env.scope.names.lookup x=some .local:=by first | exact .inl rfl | exact .inr rfl | assumption):wpAny M A (storeName X.env x u) Q E s:=by
 obtain ⟨m,hn,hl⟩:=id I.loc
 have hcls:(X.env.scope.kind == .class || (X.env.scope.kind == .module && X.env.locals != X.env.globals))=false:=by rw [I.ok.kind];rfl
 have hiσ:i < σ.length:=by rw [I.len];exact (List.getElem?_eq_some_iff.mp hi).1
 have DZ:=I.DZ
 have tracked:∀ {a:Addr} {h':Heap},(∃ o,s.heap.get? a=some o∧H a=none)→Heap.SameBut a s.heap h'→iU X.prog X.w H h':=fun {a h'} ha hs b ob e=>by
  obtain ⟨_,_,hfree⟩:=ha
  refine (I.hok b ob e).lW (fun c w' hc q=>(hs.2 c ?_).trans q) (fun _ q=>q) fun _ _ q=>q
  rintro rfl
  rcases hc with rfl | hc
  ·rw [hfree] at e;cases e
  ·rw [hfree] at hc;cases hc
 rcases hx with hk | hk
 ·refine wpAny_storeName_local hk hn (fun h' hn' hs=>?_) hcls
  obtain ⟨oL,_,_,hoL,_⟩:=id hn
  refine h _ ⟨I.ok,I.os,I.bare,⟨fun b o e n hb hx=>?_,fun b o e n hb hx=>?_,I.base.free,fun b o e hx=>?_,I.base.tups,I.base.frzs,I.base.tbls⟩,⟨_,hn',fun j y v' e1 e2 e3=>?_⟩,fun y c e=>?_,I.free,I.freeC,fun p hp=>?_,tracked ⟨oL,hoL,I.free⟩ hs,by simpa using I.len⟩ ⟨_,hs,.inl rfl⟩
  ·exact (hs.2 b (Nat.ne_of_lt (Nat.lt_of_lt_of_le (Heap.lt_size e) I.ok.above))).trans (I.base.keep b o e n hb hx)
  ·obtain ⟨sl,e1⟩:=I.base.slot b o e n hb hx
   exact ⟨sl,(hs.2 b (Nat.ne_of_lt (Nat.lt_of_lt_of_le (Heap.lt_size e) I.ok.above))).trans e1⟩
  ·obtain ⟨o',e1⟩:=I.base.there b o e hx
   exact ⟨o',(hs.2 b (Nat.ne_of_lt (Nat.lt_of_lt_of_le (Heap.lt_size e) I.ok.above))).trans e1⟩
  ·by_cases hj:j=i
   ·subst hj
    rw [hi] at e1;cases e1
    rw [List.getElem?_set_self hiσ] at e2
    cases e2
    exact ⟨u,r,.inl ⟨hk,by simp⟩⟩
   ·rw [List.getElem?_set_ne (Ne.symm hj)] at e2
    obtain ⟨u',r',q⟩:=hl j y v' e1 e2 e3
    refine ⟨u',r',?_⟩
    rcases q with ⟨k,e⟩ | ⟨k,c,e,z⟩
    ·refine .inl ⟨k,?_⟩
     have:y≠x:=fun e=>hj (qg hN e1 (e ▸ hi))
     simp [this,e]
    ·exact .inr ⟨k,c,e,z.sameBut hs (DZ y c e)⟩
  ·obtain ⟨w',z⟩:=I.cell y c e
   exact ⟨w',z.sameBut hs (DZ y c e)⟩
  ·obtain ⟨e,n,ne,nf,d⟩:=I.pin p hp
   exact ⟨(hs.2 p.1 ne).trans e,n,ne,nf,d⟩
 ·have hfn:X.fn x=true:=by
   rcases hf with z | z
   ·exact z
   ·rw [z] at hk;cases hk
  obtain ⟨c,hc⟩:=I.ok.has x (.inl hk)
  obtain ⟨w',z⟩:=I.cell x c hc
  refine wpAny_storeName_cell I.ok.kind hk hc z (fun h' hc' hs=>?_)
  obtain ⟨oc,hoc,hocd⟩:=id z
  refine h { s with heap:=h' } ⟨I.ok,I.os,I.bare,⟨fun b o e n hb hx=>?_,fun b o e n hb hx=>?_,I.base.free,fun b o e hx=>?_,I.base.tups,I.base.frzs,I.base.tbls⟩,⟨m,hn.sameBut hs (Ne.symm (DZ x c hc)),fun j y v' e1 e2 e3=>?_⟩,fun y c' e=>?_,I.free,I.freeC,fun p hp=>?_,tracked ⟨oc,hoc,I.freeC x c hc⟩ hs,by simpa using I.len⟩ ⟨c,hs,.inr hc⟩
  ·exact (hs.2 b (Nat.ne_of_lt (Nat.lt_of_lt_of_le (Heap.lt_size e) (I.ok.cab x c hfn hc)))).trans (I.base.keep b o e n hb hx)
  ·obtain ⟨sl,e1⟩:=I.base.slot b o e n hb hx
   exact ⟨sl,(hs.2 b (Nat.ne_of_lt (Nat.lt_of_lt_of_le (Heap.lt_size e) (I.ok.cab x c hfn hc)))).trans e1⟩
  ·obtain ⟨o',e1⟩:=I.base.there b o e hx
   exact ⟨o',(hs.2 b (Nat.ne_of_lt (Nat.lt_of_lt_of_le (Heap.lt_size e) (I.ok.cab x c hfn hc)))).trans e1⟩
  ·by_cases hj:j=i
   ·subst hj
    rw [hi] at e1;cases e1
    rw [List.getElem?_set_self hiσ] at e2
    cases e2
    exact ⟨u,r,.inr ⟨.inl hk,c,hc,hc'⟩⟩
   ·rw [List.getElem?_set_ne (Ne.symm hj)] at e2
    obtain ⟨u',r',q⟩:=hl j y v' e1 e2 e3
    refine ⟨u',r',?_⟩
    rcases q with q | ⟨k,c',e,z'⟩
    ·exact .inl q
    ·refine .inr ⟨k,c',e,z'.sameBut hs ?_⟩
     rintro rfl
     exact hj (qg hN e1 (I.ok.inj _ _ _ e hc ▸ hi))
  ·by_cases hcc:c'=c
   ·subst hcc;exact ⟨_,hc'⟩
   ·obtain ⟨w2,z2⟩:=I.cell y c' e
    exact ⟨w2,z2.sameBut hs hcc⟩
  ·obtain ⟨e,n,ne,nf,d⟩:=I.pin p hp
   refine ⟨(hs.2 p.1 ?_).trans e,n,ne,nf,d⟩
   intro q
   rw [q,hoc] at e
   have q':oc=p.2:=Option.some.inj e
   exact d w' (by rw [← q'];exact hocd)
theorem dR {M:Model} {A:Around} {E:Value→Shared→Prop} {i:Nat} {x:Str} {v:V} {u:Value} {Q:Unit→Shared→Prop} (I:Inv X pins σ H s) (hN:X.N.Nodup) (hi:X.N[i]?=some x) (hx:Loc X.env.scope x) (r:RelV v u)
  (h:∀ s',Inv X pins (σ.set i (some v)) H s'→Q () s') (hf:X.fn x=true∨X.env.scope.names.lookup x=some .local:=by first | exact .inl rfl | exact .inr rfl | assumption):wpAny M A (storeName X.env x u) Q E s :=
 jN I hN hi hx r (fun s' I' _=>h s' I') hf
theorem Inv.GJ {s':Shared} {ch:List Addr} (I:Inv X pins σ H s) (ho:s'.os=s.os) (u:Un (gB X.stack) ch H H' s.heap s'.heap) (hok:iU X.prog X.w H' s'.heap) (hg:AllBare s'.gens)
  (hch:∀ b∈ch,(b∈X.ex∨X.s₀.heap.objs.size≤b)∧b≠X.env.locals∧(∀ x c,X.env.cells.lookup x=some c→c≠b)∧∀ p∈X.pn ++ pins,p.1≠b):Inv X pins σ H' s':=by
 obtain ⟨h',g',d',t',o'⟩:=s'
 have e:o'=s.os:=ho
 subst e
 exact I.call (g':=g') (t':=t') (d':=d') u hok hg hch
end
abbrev XK:=Value→Option Addr→Hp→Prop
abbrev St:=List (Option V)
abbrev VK:=V→Hp→Prop
abbrev TE:=St→Hp→VK→Prop
abbrev TT:=St→Hp→(Bool→Hp→Prop)→Prop
abbrev TA:=St→Hp→(List V→Hp→Prop)→Prop
structure Ends where
 nx:St→Hp→Prop
 rt:VK
 bk:St→Hp→Prop:=fun _ _=>False
 ct:St→Hp→Prop:=fun _ _=>False
abbrev TS:=Ends→St→Hp→Prop
def EP (X:Cx) (pins:List (Addr × Obj)) (σ:St) (Q:VK) (u:Value) (s':Shared):Prop:=∃ v H',Inv X pins σ H' s'∧RelV v u∧Q v H'
def TP (X:Cx) (pins:List (Addr × Obj)) (σ:St) (Q:Bool→Hp→Prop) (b:Bool) (s':Shared):Prop:=∃ H',Inv X pins σ H' s'∧Q b H'
def AP (X:Cx) (pins:List (Addr × Obj)) (σ:St) (Q:List V→Hp→Prop) (us:List Value) (s':Shared):Prop:=∃ vs H',Inv X pins σ H' s'∧Vals vs us∧Q vs H'
def SP (X:Cx) (pins:List (Addr × Obj)) (D:Ends) (f:Flow) (s':Shared):Prop :=
 match f with
 | .next=>∃ σ' H',Inv X pins σ' H' s'∧D.nx σ' H'
 | .brk=>∃ σ' H',Inv X pins σ' H' s'∧D.bk σ' H'
 | .cont=>∃ σ' H',Inv X pins σ' H' s'∧D.ct σ' H'
 | .ret u=>∃ v σ' H',Inv X pins σ' H' s'∧RelV v u∧D.rt v H'
def PE (X:Cx) (e:Expr) (t:TE):Prop :=
 ∀ (pins:List (Addr × Obj)) (s:Shared) (σ:St) (H:Hp) (Q:VK),Inv X pins σ H s→t σ H Q→wpAny (model X.prog X.w) X.A (eval e X.env) (EP X pins σ Q) X.xe s
def PT (X:Cx) (e:Expr) (t:TT):Prop :=
 ∀ (pins:List (Addr × Obj)) (s:Shared) (σ:St) (H:Hp) (Q:Bool→Hp→Prop),Inv X pins σ H s→t σ H Q→wpAny (model X.prog X.w) X.A (isTrue e X.env (eval e X.env)) (TP X pins σ Q) X.xe s
def PW (X:Cx) (e:Expr) (t:TT):Prop :=
 ∀ (whole:Sem Value) (pins:List (Addr × Obj)) (s:Shared) (σ:St) (H:Hp) (Q:Bool→Hp→Prop),Inv X pins σ H s→t σ H Q→wpAny (model X.prog X.w) X.A (isTrue e X.env whole) (TP X pins σ Q) X.xe s
theorem PW.pt {X:Cx} {e:Expr} {t:TT} (h:PW X e t):PT X e t:=h _
def PA (X:Cx) (es:List Expr) (t:TA):Prop :=
 ∀ (pos:Pos) (pins:List (Addr × Obj)) (s:Shared) (σ:St) (H:Hp) (Q:List V→Hp→Prop),Inv X pins σ H s→t σ H Q→wpAny (model X.prog X.w) X.A (spliced (backTo pos (starEach es X.env))) (AP X pins σ Q) X.xe s
def PS (X:Cx) (st:Stmt) (t:TS):Prop :=
 ∀ (pins:List (Addr × Obj)) (s:Shared) (σ:St) (H:Hp) (D:Ends),Inv X pins σ H s→t D σ H→wpAny (model X.prog X.w) X.A (exec st X.env) (SP X pins D) X.xe s
def n8 (X:Cx) (st:List Stmt) (t:TS):Prop :=
 ∀ (pins:List (Addr × Obj)) (s:Shared) (σ:St) (H:Hp) (D:Ends),Inv X pins σ H s→t D σ H→wpAny (model X.prog X.w) X.A (execs st X.env) (SP X pins D) X.xe s
theorem bB {α:Type} {t:Sem α} {Q Q':α→Shared→Prop} {M:Model} {A:Around} {E:Value→Shared→Prop} {s:Shared} (h:wpAny M A t Q E s) (hQ:∀ a s,Q a s→Q' a s):wpAny M A t Q' E s:=wpAny_mono h hQ fun _ _ x=>x
end L2
namespace L2
open PySem PySem.Spec PyProof.Rows
section
variable {X:Cx}
def wR (i:Nat):TE:=fun σ H Q=>∃ v,σ[i]?=some (some v)∧Q v H
def tC (v:V):TE:=fun _ H Q=>Q v H
theorem tE {i:Nat} {x:Str} {pos:Pos} (hN:X.N[i]?=some x) (hv:p7 X.env.scope x) (hd:(x == ("__debug__":Str))=false:=by decide) (hcd:(x == ("__classdict__":Str))=false:=by decide):PE X (.Name x pos) (wR i):=by
 intro pins s σ H Q I h
 obtain ⟨v,e,h⟩:=h
 obtain ⟨m,hn,hl⟩:=I.loc
 obtain ⟨u,r,l⟩:=hl i x v hN e hv
 have fin:EP X pins σ Q u s:=⟨v,H,I,r,h⟩
 rcases l with ⟨hk,hm⟩ | ⟨hk,c,hc,hcell⟩
 ·exact wpAny_Name (wpAny_loadName_local I.ok.kind hk hn hm fin) hd
 ·rcases hk with hk | hk
  ·exact wpAny_Name (wpAny_loadName_cell I.ok.kind hk hc hcell fin) hd
  ·exact wpAny_Name (wpAny_loadName_free I.ok.kind hk hc hcell fin hcd) hd
theorem aF {i j pos}:PE X (.Constant (.int i) j pos) (tC (.int i)):=fun _ _ _ H _ I h=>wpAny_Constant_int ⟨.int i,H,I.tok _,⟨_,rfl⟩,h⟩
theorem qV {b j pos}:PE X (.Constant (.bool b) j pos) (tC (.bl b)):=fun _ _ _ H _ I h=>Constant_bool ⟨.bl b,H,I,rfl,h⟩
theorem sP {j pos}:PE X (.Constant .none j pos) (tC .non):=fun _ _ _ H _ I h=>Constant_none ⟨.non,H,I,rfl,h⟩
theorem jS {x j pos}:PE X (.Constant (.str x) j pos) (tC (.str x)):=fun _ _ _ H _ I h=>Calls.Constant_str ⟨.str x,H,I.tok _,⟨_,rfl⟩,h⟩
def Gl (X:Cx) (x:Str):Prop:=X.env.kindOf x=some .globalImplicit
theorem iZ {E:Value→Shared→Prop} {pins:List (Addr × Obj)} {s:Shared} {σ:St} {H:Hp} {x:Str} {u:Value} {pos:Pos} {Q:Value→Shared→Prop} (I:Inv X pins σ H s) (hg:Gl X x) (hm:X.mg x=some u) (h:Q u s)
  (hd:(x == ("__debug__":Str))=false:=by decide):wpAny (model X.prog X.w) X.A (eval (.Name x pos) X.env) Q E s :=
 Calls.Name_function_global I.ok.kind hg (Calls.loadGlobal_global (by rw [I.ok.glob];exact I.mod.glob.keeps I.bk) hm h) hd
theorem gL {E:Value→Shared→Prop} {pins:List (Addr × Obj)} {s:Shared} {σ:St} {H:Hp} {x:Str} {u:Value} {pos:Pos} {Q:Value→Shared→Prop} (I:Inv X pins σ H s) (hg:Gl X x) (hm:X.mg x=none) (hv:bootBuiltins x=some u) (h:Q u s)
  (hn:x≠"__name__":=by decide) (hd:(x == ("__debug__":Str))=false:=by decide):wpAny (model X.prog X.w) X.A (eval (.Name x pos) X.env) Q E s:=by
 obtain ⟨mb,h1,h2⟩:=I.mod.blt
 exact Calls.Name_function_global I.ok.kind hg (Calls.loadGlobal_builtin (by rw [I.ok.glob];exact I.mod.glob.keeps I.bk) hm (by rw [I.ok.blt];exact h1.keeps I.bk) ((h2 x hn).trans hv) h) hd
theorem lz {x:Str} {v:V} {u:Value} {pos:Pos} (hg:Gl X x) (hm:X.mg x=some u) (r:RelV v u) (hd:(x == ("__debug__":Str))=false:=by decide):PE X (.Name x pos) (tC v) :=
 fun _ _ _ H _ I h=>iZ I hg hm ⟨v,H,I,r,h⟩ hd
theorem pD {x:Str} {v:V} {u:Value} {pos:Pos} (hg:Gl X x) (hm:X.mg x=none) (hv:bootBuiltins x=some u) (r:RelV v u) (hn:x≠"__name__":=by decide) (hd:(x == ("__debug__":Str))=false:=by decide):PE X (.Name x pos) (tC v) :=
 fun _ _ _ H _ I h=>gL I hg hm hv ⟨v,H,I,r,h⟩ hn hd
variable {a b:Expr} {ta tb:TE} {pos:Pos}
def tB (t:TE):TT:=fun σ H Q=>t σ H fun x H1=>∃ c,x=.bl c∧Q c H1
theorem tw {e:Expr} {t:TE} (h:PE X e t) (he:∀ whole,isTrue e X.env whole=(do let v ← whole;standAt e.pos;holding [v] (truthy v)):=by intro _;rfl):PT X e (tB t):=by
 intro pins s σ H Q I hw
 refine isTrue_plain (bB (h pins s σ H _ I hw) fun v s1 ⟨x,H1,I1,r1,q1⟩=>?_) (he _)
 obtain ⟨d,rfl,q⟩:=q1
 cases r1
 exact wpAny_truthy_bool ⟨H1,I1,q⟩
variable {tA tB':TT} {rest:List Expr}
def yz (t u:TT):TT:=fun σ H Q=>t σ H fun c H1=>if c=true then u σ H1 Q else Q false H1
def GI (t u:TT):TT:=fun σ H Q=>t σ H fun c H1=>if c=true then Q true H1 else u σ H1 Q
def AK (t:TT):TT:=fun σ H Q=>t σ H fun c H1=>Q (!c) H1
theorem ly (ha:PT X a tA):PW X (.BoolOp .And [a] pos) tA:=by
 intro wh pins s σ H Q I h
 refine isTrue_and (bB (ha pins s σ H Q I h) fun c s1 e=>?_)
 cases c with
 | true=>exact isTrue_and_nil e
 | false=>exact e
theorem oX (ha:PT X a tA):PW X (.BoolOp .Or [a] pos) tA:=by
 intro wh pins s σ H Q I h
 refine isTrue_or (bB (ha pins s σ H Q I h) fun c s1 e=>?_)
 cases c with
 | false=>exact isTrue_or_nil e
 | true=>exact e
theorem oH (ha:PT X a tA) (hb:PW X (.BoolOp .And (b :: rest) pos) tB'):PW X (.BoolOp .And (a :: b :: rest) pos) (yz tA tB'):=by
 intro wh pins s σ H Q I h
 refine isTrue_and (bB (ha pins s σ H _ I h) fun c s1 ⟨H1,I1,q1⟩=>?_)
 cases c with
 | true=>exact hb wh pins s1 σ H1 Q I1 q1
 | false=>exact ⟨H1,I1,q1⟩
theorem tU (ha:PT X a tA) (hb:PW X (.BoolOp .Or (b :: rest) pos) tB'):PW X (.BoolOp .Or (a :: b :: rest) pos) (GI tA tB'):=by
 intro wh pins s σ H Q I h
 refine isTrue_or (bB (ha pins s σ H _ I h) fun c s1 ⟨H1,I1,q1⟩=>?_)
 cases c with
 | true=>exact ⟨H1,I1,q1⟩
 | false=>exact hb wh pins s1 σ H1 Q I1 q1
theorem se (ha:PT X a tA):PT X (.UnaryOp .Not a pos) (AK tA):=by
 intro pins s σ H Q I h
 exact isTrue_not (ha pins s σ H (fun c H1=>Q (!c) H1) I h)
def ui (ta tb:TE):TE:=fun σ H Q=>ta σ H fun x H1=>∃ c,x=.bl c∧if c=true then tb σ H1 Q else Q (.bl false) H1
def Bt (ta tb:TE):TE:=fun σ H Q=>ta σ H fun x H1=>∃ c,x=.bl c∧if c=true then Q (.bl true) H1 else tb σ H1 Q
def tR (ta:TE):TE:=fun σ H Q=>ta σ H fun x H1=>∃ c,x=.bl c∧Q (.bl (!c)) H1
theorem sf {op} {t:TE} (h:PE X a t):PE X (.BoolOp op [a] pos) t:=fun pins s σ H Q I hw=>BoolOp_one (h pins s σ H Q I hw)
theorem sG (ha:PE X a ta) (hb:PE X (.BoolOp .And (b :: rest) pos) tb):PE X (.BoolOp .And (a :: b :: rest) pos) (ui ta tb):=by
 intro pins s σ H Q I h
 refine BoolOp_and (bB (ha pins s σ H _ I h) fun v s1 ⟨x,H1,I1,r1,q1⟩=>?_)
 obtain ⟨c,rfl,q1⟩:=q1
 cases r1
 refine wpAny_truthy_bool ?_
 cases c with
 | true=>exact hb pins s1 σ H1 Q I1 q1
 | false=>exact ⟨.bl false,H1,I1,rfl,q1⟩
theorem yv (ha:PE X a ta) (hb:PE X (.BoolOp .Or (b :: rest) pos) tb):PE X (.BoolOp .Or (a :: b :: rest) pos) (Bt ta tb):=by
 intro pins s σ H Q I h
 refine BoolOp_or (bB (ha pins s σ H _ I h) fun v s1 ⟨x,H1,I1,r1,q1⟩=>?_)
 obtain ⟨c,rfl,q1⟩:=q1
 cases r1
 refine wpAny_truthy_bool ?_
 cases c with
 | false=>exact hb pins s1 σ H1 Q I1 q1
 | true=>exact ⟨.bl true,H1,I1,rfl,q1⟩
theorem sL (ha:PE X a ta):PE X (.UnaryOp .Not a pos) (tR ta):=by
 intro pins s σ H Q I h
 refine UnaryOp_ (bB (ha pins s σ H _ I h) fun v s1 ⟨x,H1,I1,r1,q1⟩=>?_)
 obtain ⟨c,rfl,q1⟩:=q1
 cases r1
 exact not_of (wpAny_truthy_bool ⟨.bl (!c),H1,I1,rfl,q1⟩)
def Hb (t:TT) (ta tb:TE):TE:=fun σ H Q=>t σ H fun c H1=>if c=true then ta σ H1 Q else tb σ H1 Q
theorem lG {c:Expr} (hc:PT X c tA) (ha:PE X a ta) (hb:PE X b tb):PE X (.IfExp c a b pos) (Hb tA ta tb):=by
 intro pins s σ H Q I h
 refine wpAny_IfExp (bB (hc pins s σ H _ I h) fun d s1 ⟨H1,I1,q1⟩=>?_)
 cases d with
 | true=>exact ha pins s1 σ H1 Q I1 q1
 | false=>exact hb pins s1 σ H1 Q I1 q1
end
end L2
namespace L2
open PySem PySem.Spec PyProof.Rows
def cg (K:PySem.W.Frag) (H:Hp) (a:Addr) (xs:List V):Prop :=
 Rd H a (.lst xs) ∨
  ∃ (o:Obj) (its:Array Value) (n:Nat),K.lookup a=some o∧o.cls=.type "list"∧o.dict=none∧o.data=.seq its n∧its.size≤sizeLine∧Vals xs its.toList
def fA (K:PySem.W.Frag) (H:Hp) (a:Addr) (xs:List V):Prop :=
 Rd H a (.tup xs) ∨
  ∃ (o:Obj) (its:Array Value) (n:Nat),K.lookup a=some o∧o.cls=.type "tuple"∧o.data=.seq its n∧its.size≤sizeLine∧Vals xs its.toList
def Il:Value→Option V
 | .none=>some .non
 | .bool b=>some (.bl b)
 | .int i _=>some (.int i)
 | .str x _=>some (.str x)
 | .bytes b _=>some (.byt b)
 | .float b _=>some (.flt b)
 | .ref a=>some (.ref a)
 | .type n=>some (.ty n)
 | _=>none
theorem RelV.abs {x:V} {u:Value} (r:RelV x u):Il u=some x:=by
 cases x with
 | non=>cases r;rfl
 | bl _=>cases r;rfl
 | int _=>obtain ⟨t,rfl⟩:=r;rfl
 | str _=>obtain ⟨t,rfl⟩:=r;rfl
 | byt _=>obtain ⟨t,rfl⟩:=r;rfl
 | flt _=>obtain ⟨t,rfl⟩:=r;rfl
 | ref _=>cases r;rfl
 | ty _=>cases r;rfl
theorem RelV.inj {x y:V} {u:Value} (r:RelV x u) (q:RelV y u):x=y:=Option.some.inj (r.abs.symm.trans q.abs)
theorem Vals.inj:∀ {xs ys:List V} {us:List Value},Vals xs us→Vals ys us→xs=ys
 | _,_,_,.nil,.nil=>rfl
 | _,_,_,.cons r t,.cons r' t'=>by rw [r.inj r',Vals.inj t t']
section
variable {X:Cx} {pins:List (Addr × Obj)} {σ:St} {H:Hp} {s:Shared} {a:Addr} {xs ys:List V}
theorem cg.of {K:PySem.W.Frag} (h:H a=some (.lst xs)):cg K H a xs:=.inl (.inl h)
theorem fA.of {K:PySem.W.Frag} (h:H a=some (.tup xs)):fA K H a xs:=.inl (.inl h)
theorem Inv.list (I:Inv X pins σ H s) (h:cg X.K H a xs):∃ its:List Value,Vals xs its∧PlainL s.heap a its.toArray∧xs.length≤sizeLine:=by
 rcases h with h | ⟨o,its,n,hk,hc,hd,hs,hz,r⟩
 ·obtain ⟨z,its,n,r,e⟩:=h.ok I.hok
  exact ⟨its,r,⟨_,n,e,rfl,rfl,rfl⟩,z⟩
 ·refine ⟨its.toList,r,⟨o,n,I.jl a o hk,hc,hd,by simpa using hs⟩,?_⟩
  have e:=r.length
  simp only [Array.length_toList] at e
  omega
theorem Inv.tuple (I:Inv X pins σ H s) (h:fA X.K H a xs):∃ its:List Value,Vals xs its∧IsTup s.heap a its.toArray∧xs.length≤sizeLine:=by
 rcases h with h | ⟨o,its,n,hk,hc,hs,hz,r⟩
 ·obtain ⟨z,its,r,p⟩:=h.ok I.hok
  exact ⟨its,r,p,z⟩
 ·refine ⟨its.toList,r,⟨o,I.jl a o hk,hc,n,by simpa using hs⟩,?_⟩
  have e:=r.length
  simp only [Array.length_toList] at e
  omega
theorem Inv.gI (I:Inv X pins σ H s) (h:cg X.K H a xs) (h':cg X.K H a ys):xs=ys:=by
 obtain ⟨its,r,⟨o,n,e,_,_,d⟩,_⟩:=I.list h
 obtain ⟨its',r',⟨o',n',e',_,_,d'⟩,_⟩:=I.list h'
 rw [e] at e';cases e'
 rw [d] at d'
 injection d' with d1 _
 have:its=its':=by simpa using congrArg Array.toList d1
 subst this
 exact r.inj r'
theorem Inv.vZ (I:Inv X pins σ H s) (h:fA X.K H a xs) (h':fA X.K H a ys):xs=ys:=by
 obtain ⟨its,r,⟨o,e,_,n,d⟩,_⟩:=I.tuple h
 obtain ⟨its',r',⟨o',e',_,n',d'⟩,_⟩:=I.tuple h'
 rw [e] at e';cases e'
 rw [d] at d'
 injection d' with d1 _
 have:its=its':=by simpa using congrArg Array.toList d1
 subst this
 exact r.inj r'
end
abbrev Cx.jL (X:Cx) (E:Value→Shared→Prop):Cx:={ X with xe:=E }
abbrev Cx.zT (X:Cx):Cx:=X.jL fun _ _=>False
theorem Cx.Ok.jL {X:Cx} (ok:X.Ok) (E:Value→Shared→Prop):(X.jL E).Ok :=
 ⟨ok.mod,ok.kind,ok.glob,ok.blt,ok.above,ok.inj,ok.has,ok.cab,ok.hd,ok.frames,ok.stk,ok.exf,ok.bs,ok.bsz,ok.noex,ok.exfs,ok.jB,ok.frf⟩
theorem Cx.Ok.fu {X:Cx} {E:Value→Shared→Prop} (ok:(X.jL E).Ok):X.Ok :=
 ⟨ok.mod,ok.kind,ok.glob,ok.blt,ok.above,ok.inj,ok.has,ok.cab,ok.hd,ok.frames,ok.stk,ok.exf,ok.bs,ok.bsz,ok.noex,ok.exfs,ok.jB,ok.frf⟩
section
variable {X:Cx} {pins:List (Addr × Obj)} {σ:St} {H:Hp} {s:Shared} {E:Value→Shared→Prop}
theorem Inv.jL (I:Inv X pins σ H s) (E:Value→Shared→Prop):Inv (X.jL E) pins σ H s:=⟨I.ok.jL E,I.os,I.bare,I.base,I.loc,I.cell,I.free,I.freeC,I.pin,I.hok,I.len⟩
theorem Inv.fu (I:Inv (X.jL E) pins σ H s):Inv X pins σ H s:=⟨I.ok.fu,I.os,I.bare,I.base,I.loc,I.cell,I.free,I.freeC,I.pin,I.hok,I.len⟩
theorem SP.fu {D:Ends} {f:Flow} {s':Shared} (h:SP (X.jL E) pins D f s'):SP X pins D f s':=by
 cases f with
 | next=>obtain ⟨σ',H',I,q⟩:=h;exact ⟨σ',H',I.fu,q⟩
 | brk=>obtain ⟨σ',H',I,q⟩:=h;exact ⟨σ',H',I.fu,q⟩
 | cont=>obtain ⟨σ',H',I,q⟩:=h;exact ⟨σ',H',I.fu,q⟩
 | ret u=>obtain ⟨v,σ',H',I,r,q⟩:=h;exact ⟨v,σ',H',I.fu,r,q⟩
theorem PE.zT {e:Expr} {t:TE} (h:PE X.zT e t):PE X e t:=fun pins s σ H Q I hw =>
 wpAny_mono (h pins s σ H Q (I.jL _) hw) (fun _ _ ⟨v,H',I',r,q⟩=>⟨v,H',I'.fu,r,q⟩) fun _ _ z=>False.elim z
theorem PT.zT {e:Expr} {t:TT} (h:PT X.zT e t):PT X e t:=fun pins s σ H Q I hw =>
 wpAny_mono (h pins s σ H Q (I.jL _) hw) (fun _ _ ⟨H',I',q⟩=>⟨H',I'.fu,q⟩) fun _ _ z=>False.elim z
theorem n8.zT {st:List Stmt} {t:TS} (h:n8 X.zT st t):n8 X st t:=fun pins s σ H D I hw =>
 wpAny_mono (h pins s σ H D (I.jL _) hw) (fun _ _ q=>q.fu) fun _ _ z=>False.elim z
end
section
variable {X:Cx} {st:Stmt} {rest:List Stmt} {t u:TS} {e:Expr} {te:TE} {pos:Pos}
def tZ:TS:=fun D σ H=>D.nx σ H
def AU (t u:TS):TS:=fun D σ H=>t { D with nx:=u D } σ H
theorem d_:n8 X [] tZ:=fun _ _ σ H _ I h=>wpAny_execs_nil ⟨σ,H,I,h⟩
theorem aM (h1:PS X st t) (h2:n8 X rest u):n8 X (st :: rest) (AU t u):=by
 intro pins s σ H D I h
 refine wpAny_execs_cons (bB (h1 pins s σ H { D with nx:=u D } I h) fun f s1 q=>?_)
 cases f with
 | next =>
  obtain ⟨σ',H',I',q⟩:=q
  exact h2 pins s1 σ' H' D I' q
 | ret v=>exact q
 | brk=>exact q
 | cont=>exact q
theorem bh (h1:PS X st t):n8 X [st] t:=by
 intro pins s σ H D I h
 refine wpAny_execs_cons (bB (h1 pins s σ H D I h) fun f s1 q=>?_)
 cases f with
 | next=>exact wpAny_execs_nil q
 | ret v=>exact q
 | brk=>exact q
 | cont=>exact q
def CY:TS:=fun D σ H=>D.bk σ H
def F6:TS:=fun D σ H=>D.ct σ H
theorem Inv.quiet {pins:List (Addr × Obj)} {σ:St} {H:Hp} {s:Shared} (I:Inv X pins σ H s):interactive X.env=false:=by simp [interactive,I.ok.kind]
def vi (te:TE):TS:=fun D σ H=>te σ H fun _ H1=>D.nx σ H1
theorem g7 (he:PE X e te) (hs:swapsWith e none pos.line X.env=pure false:=by rfl):PS X (.Expr e pos) (vi te):=by
 intro pins s σ H D I h
 exact wpAny_Expr_any (bB (he pins s σ H _ I h) fun v s1 ⟨x,H1,I1,r1,q1⟩=>⟨σ,H1,I1,q1⟩) I.quiet hs
def Ab (te:TE):TS:=fun D σ H=>te σ H D.rt
theorem cT (he:PE X e te):PS X (.Return (some e) pos) (Ab te):=by
 intro pins s σ H D I h
 exact wpAny_Return_some (bB (he pins s σ H _ I h) fun v s1 ⟨x,H1,I1,r1,q1⟩=>⟨x,σ,H1,I1,r1,q1⟩)
def vn:TS:=fun D _ H=>D.rt .non H
theorem pE:PS X (.Return none pos) vn:=fun _ _ σ H _ I h=>wpAny_Return_none ⟨.non,σ,H,I,rfl,h⟩
def Ad (c:TT) (t u:TS):TS:=fun D σ H=>c σ H fun b H1=>if b=true then t D σ H1 else u D σ H1
theorem jg {c:Expr} {a b:List Stmt} {tc:TT} (hc:PT X c tc) (ha:n8 X a t) (hb:n8 X b u):PS X (.If c a b pos) (Ad tc t u):=by
 intro pins s σ H D I h
 refine wpAny_If (bB (hc pins s σ H _ I h) fun d s1 ⟨H1,I1,q1⟩=>?_)
 cases d with
 | true=>exact ha pins s1 σ H1 D I1 q1
 | false=>exact hb pins s1 σ H1 D I1 q1
def sU:TS:=fun _ _ _=>False
theorem j0 {sts:List Stmt}:n8 X sts sU:=fun _ _ _ _ _ _ h=>h.elim
end
abbrev TG:=V→St→Hp→(St→Hp→Prop)→Prop
abbrev mr:=List V→St→Hp→(St→Hp→Prop)→Prop
def PG (X:Cx) (target:Expr) (t:TG):Prop :=
 ∀ (pins:List (Addr × Obj)) (s:Shared) (σ:St) (H:Hp) (v:V) (u:Value) (Q:St→Hp→Prop),Inv X pins σ H s→RelV v u→t v σ H Q →
  wpAny (model X.prog X.w) X.A (assign target X.env u) (fun _ s'=>∃ σ' H',Inv X pins σ' H' s'∧Q σ' H') X.xe s
def CS (X:Cx) (ts:List Expr) (t:mr):Prop :=
 ∀ (pins:List (Addr × Obj)) (s:Shared) (σ:St) (H:Hp) (vs:List V) (us:List Value) (Q:St→Hp→Prop),Inv X pins σ H s→Vals vs us→t vs σ H Q →
  wpAny (model X.prog X.w) X.A (assignInOrder ((assignEach ts X.env).map (·.2)) us) (fun _ s'=>∃ σ' H',Inv X pins σ' H' s'∧Q σ' H') X.xe s
abbrev ik:=V→V→V→Hp→(Hp→Prop)→Prop
def ip (X:Cx) (t:ik):Prop :=
 ∀ (pins:List (Addr × Obj)) (s:Shared) (σ:St) (H:Hp) (o i v:V) (ov iv u:Value) (Q:Hp→Prop),Inv X pins σ H s→RelV o ov→RelV i iv→RelV v u→t o i v H Q →
  wpAny (model X.prog X.w) X.A (setItem ov iv u) (fun _ s'=>∃ H',Inv X pins σ H' s'∧Q H') X.xe s
abbrev Hf:=V→V→Hp→VK→Prop
def Hz (X:Cx) (op:Operator) (t:Hf):Prop :=
 ∀ (pins:List (Addr × Obj)) (s:Shared) (σ:St) (H:Hp) (x y:V) (v u:Value) (Q:VK),Inv X pins σ H s→RelV x v→RelV y u→t x y H Q →
  wpAny (model X.prog X.w) X.A (inplaceOp op v u) (EP X pins σ Q) X.xe s
section
variable {X:Cx} {pos:Pos}
def mi (i:Nat):TG:=fun v σ H Q=>Q (σ.set i (some v)) H
theorem g6 {i:Nat} {x:Str} (hN:X.N.Nodup) (hi:X.N[i]?=some x) (hx:Loc X.env.scope x) (hf:X.fn x=true∨X.env.scope.names.lookup x=some .local:=by first | exact .inl rfl | exact .inr rfl | assumption):PG X (.Name x pos) (mi i):=by
 intro pins s σ H v u Q I r h
 exact wpAny_assign_Name (dR I hN hi hx r (fun s' I'=>⟨_,H,I',h⟩) hf)
def As:mr:=fun vs σ H Q=>vs=[]∧Q σ H
def uQ (t:TG) (u:mr):mr:=fun vs σ H Q=>∃ v r,vs=v :: r∧t v σ H fun σ' H'=>u r σ' H' Q
theorem o4:CS X [] As:=by
 intro pins s σ H vs us Q I r h
 obtain ⟨e,h⟩:=h
 subst e
 cases r
 exact assignInOrder_nil ⟨σ,H,I,h⟩
theorem lH {e:Expr} {es:List Expr} {t:TG} {u:mr} (h1:PG X e t) (h2:CS X es u)
  (hs:(assignEach (e :: es) X.env).map (·.2)=assign e X.env :: (assignEach es X.env).map (·.2):=by rfl):CS X (e :: es) (uQ t u):=by
 intro pins s σ H vs us Q I r h
 obtain ⟨v,vr,e1,h⟩:=h
 subst e1
 cases r with
 | cons r rr =>
  rw [hs]
  refine assignInOrder_cons (bB (h1 pins s σ H _ _ _ I r h) fun _ s1 ⟨σ1,H1,I1,q1⟩=>?_)
  exact h2 pins s1 σ1 H1 _ _ Q I1 rr q1
def Bl (K:PySem.W.Frag) (n:Nat) (t:mr):TG:=fun v σ H Q=>∃ a xs,v=.ref a∧fA K H a xs∧xs.length=n∧t xs σ H Q
theorem tG {es:List Expr} {k:Nat} {t:mr} {n:Nat} (hc:X.calm=true) (h:CS X es t)
  (hn:(assignEach es X.env).length=n:=by rfl) (hst:(assignEach es X.env).findIdx? (·.1)=none:=by rfl):PG X (.Tuple es k pos) (Bl X.K n t):=by
 intro pins s σ H v u Q I r hw
 obtain ⟨a,xs,e1,hq,hl,hw⟩:=hw
 subst e1
 cases r
 obtain ⟨its,rv,ht,hz⟩:=I.tuple hq
 refine assign_Tuple_tuple (I.ok.hd hc) ht (by simp [hn,← hl,rv.length]) hst fun h' hx=>?_
 have I1:Inv X pins σ H { s with heap:=h' }:=I.kept (t':=s.toks) fun b o e=>hx b o (Nat.ne_of_lt (Heap.lt_size e)) e
 exact h pins _ σ H xs _ Q I1 (by simpa using rv) hw
def Bk (to ti:TE) (t:ik):TG:=fun v σ H Q=>to σ H fun o H1=>ti σ H1 fun i H2=>t o i v H2 fun H3=>Q σ H3
theorem oj {o i:Expr} {to ti:TE} {t:ik} (ho:PE X o to) (hi:PE X i ti) (hs:ip X t)
  (ha:∀ v,assign (.Subscript o i pos) X.env v=(do
   let ov ← holding [v] (eval o X.env)
   let iv ← holding [v,ov] (eval i X.env)
   standAt pos
   holding [v,ov,iv] (setItem ov iv v)
   release [v,ov,iv] []):=by intro _;rfl):PG X (.Subscript o i pos) (Bk to ti t):=by
 intro pins s σ H v u Q I r h
 rw [ha]
 refine wpAny_bind (wpAny_holding (bB (ho pins s σ H _ I h) fun ov s1 ⟨x,H1,I1,r1,q1⟩=>?_))
 refine wpAny_bind (wpAny_holding (bB (hi pins s1 σ H1 _ I1 q1) fun iv s2 ⟨y,H2,I2,r2,q2⟩=>?_))
 refine wpAny_bind (wpAny_standAt (wpAny_bind (wpAny_holding (bB (hs pins s2 σ H2 x y v ov iv u _ I2 r1 r2 r q2) fun _ s3 ⟨H3,I3,q3⟩=>?_))))
 exact wpAny_release ⟨σ,H3,I3,q3⟩
def tJ (te:TE) (g:TG):TS:=fun D σ H=>te σ H fun x H1=>g x σ H1 D.nx
theorem ou {tg e:Expr} {te:TE} {g:TG} (he:PE X e te) (hg:PG X tg g) (hs:swapsWithSole [tg] e pos.line X.env=pure false:=by rfl) (hw:swappedStores [tg] e X.env=pure none:=by rfl)
  (h1:(assignEach [tg] X.env).map (·.2)=[assign tg X.env]:=by rfl):PS X (.Assign [tg] e pos) (tJ te g):=by
 intro pins s σ H D I h
 refine wpAny_Assign_stores (bB (he pins s σ H _ I h) fun v s1 ⟨x,H1,I1,r1,q1⟩=>?_) hs hw
 rw [h1]
 exact bB (hg pins s1 σ H1 x v _ I1 r1 q1) fun _ s2 q=>q
theorem b7 {i:Nat} {x:Str} {e:Expr} {te:TE} {pos':Pos} (hN:X.N.Nodup) (hi:X.N[i]?=some x) (hx:Loc X.env.scope x) (he:PE X e te) (hs:swapsWith e (some (.Name x pos')) pos.line X.env=pure false:=by rfl) (hf:X.fn x=true∨X.env.scope.names.lookup x=some .local:=by first | exact .inl rfl | exact .inr rfl | assumption) :
  PS X (.Assign [.Name x pos'] e pos) (tJ te (mi i)):=by
 intro pins s σ H D I h
 refine wpAny_Assign_Name (bB (he pins s σ H _ I h) fun v s1 ⟨y,H1,I1,r1,q1⟩=>?_) hs
 exact dR I1 hN hi hx r1 (fun s2 I2=>⟨_,H1,I2,q1⟩) hf
def A7 (i j:Nat) (ta:TA):TS:=fun D σ H=>ta σ H fun vs H1=>∃ v w,vs=[v,w]∧D.nx ((σ.set i (some v)).set j (some w)) H1
theorem j1 {i j:Nat} {x y:Str} {a b:Expr} {ta:TA} {px py pt:Pos} {kt k2 pt2} (hc:X.calm=true) (hN:X.N.Nodup) (hi:X.N[i]?=some x) (hj:X.N[j]?=some y) (hij:i≠j)
  (hx:X.env.scope.names.lookup x=some .local) (hy:X.env.scope.names.lookup y=some .local) (ha:PA X [a,b] ta)
  (hw:swappedStores [.Tuple [.Name x px,.Name y py] kt pt] (.Tuple [a,b] k2 pt2) X.env=pure (some [x,y]))
  (hs:swapsWithSole [.Tuple [.Name x px,.Name y py] kt pt] (.Tuple [a,b] k2 pt2) pos.line X.env=pure false:=by rfl) :
  PS X (.Assign [.Tuple [.Name x px,.Name y py] kt pt] (.Tuple [a,b] k2 pt2) pos) (A7 i j ta):=by
 intro pins s σ H D I h
 rw [exec_Assign_arm]
 refine wpAny_bind (wpAny_standAt ?_)
 rw [hs]
 refine wpAny_bind (wpAny_pure ?_)
 rw [if_neg (by decide)]
 refine wpAny_bind (Tuple_ (bB (ha _ pins s σ H _ I h) fun us s1 ⟨vs,H1,I1,r1,q1⟩=>?_))
 obtain ⟨v,w,e1,q1⟩:=q1
 subst e1
 obtain ⟨u1,u2,rfl,rv,rw'⟩:∃ u1 u2,us=[u1,u2]∧RelV v u1∧RelV w u2:=by
  cases r1 with
  | cons p q =>
   cases q with
   | cons p' q' =>
    cases q'
    exact ⟨_,_,rfl,p,p'⟩
 refine wpAny_newObj_type ?_ (by show 2≤sizeLine;decide)
 have I2:Inv X pins σ H1 { s1 with heap:=s1.heap.push { cls:=.type "tuple",data:=.seq [u1,u2].toArray } }:=I1.kept (t':=s1.toks) fun b o e=>Heap.get?_push_of_some _ e
 rw [hw]
 refine wpAny_bind (wpAny_pure ?_)
 show wpAny (model X.prog X.w) X.A (do rule "assign.swapped-stores";let items ← unpackItems (.ref s1.heap.objs.size) 2 none;assignInOrder [fun v=>bindName X.env y v,fun v=>bindName X.env x v] items.reverse;pure Flow.next) _ _ _
 refine wpAny_bind (wpAny_rule (wpAny_bind (unpackItems_tuple (items:=#[u1,u2]) (I.ok.hd hc) (IsTup.new s1.heap _) fun h' hx'=>?_)))
 have I3:=I2.kept (h':=h') (t':=s1.toks) fun b o e=>hx' b o (Nat.ne_of_lt (Heap.lt_size e)) e
 show wpAny _ _ (assignInOrder [fun v=>bindName X.env y v,fun v=>bindName X.env x v] [u2,u1] >>= fun _=>pure Flow.next) _ _ _
 refine wpAny_bind (assignInOrder_cons (wpAny_bindName (dR I3 hN hj (.inl hy) rw' (fun s2 I4=>?_) (.inr hy))))
 refine assignInOrder_cons (wpAny_bindName (dR I4 hN hi (.inl hx) rv (fun s3 I5=>assignInOrder_nil (wpAny_pure ?_)) (.inr hx)))
 rw [List.set_comm _ _ (Ne.symm hij)] at I5
 exact ⟨_,H1,I5,q1⟩
def IF (i:Nat) (te:TE) (ti:Hf):TS:=fun D σ H=>∃ x,σ[i]?=some (some x)∧te σ H fun y H1=>ti x y H1 fun z H2=>D.nx (σ.set i (some z)) H2
theorem DU {i:Nat} {x:Str} {e:Expr} {te:TE} {op:Operator} {ti:Hf} {pos':Pos} (hN:X.N.Nodup) (hi:X.N[i]?=some x) (hx:Loc X.env.scope x) (he:PE X e te) (ho:Hz X op ti) (hf:X.fn x=true∨X.env.scope.names.lookup x=some .local:=by first | exact .inl rfl | exact .inr rfl | assumption) :
  PS X (.AugAssign (.Name x pos') op e pos) (IF i te ti):=by
 intro pins s σ H D I h
 obtain ⟨v,e1,h⟩:=h
 obtain ⟨m,hn,hl⟩:=I.loc
 have vis:p7 X.env.scope x:=by rcases hx with k | k;exact .inl k;exact .inr (.inl k)
 obtain ⟨u,r,l⟩:=hl i x v hi e1 vis
 refine wpAny_AugAssign_Name ?_
 have go:wpAny (model X.prog X.w) X.A (eval e X.env) (fun w s₂=>wpAny (model X.prog X.w) X.A (inplaceOp op u w) (fun r s₃=>wpAny (model X.prog X.w) X.A (storeName X.env x r) (fun _=>SP X pins D .next) X.xe s₃) X.xe s₂) X.xe s:=by
  refine bB (he pins s σ H _ I h) fun w s1 ⟨y,H1,I1,r1,q1⟩=>?_
  refine bB (ho pins s1 σ H1 v y u w _ I1 r r1 q1) fun z s2 ⟨zv,H2,I2,r2,q2⟩=>?_
  exact dR I2 hN hi hx r2 (fun s3 I3=>⟨_,H2,I3,q2⟩) hf
 rcases l with ⟨hk,hm⟩ | ⟨hk,c,hc,hcell⟩
 ·exact wpAny_loadName_local I.ok.kind hk hn hm go
 ·rcases hk with hk | hk
  ·exact wpAny_loadName_cell I.ok.kind hk hc hcell go
  ·rcases hx with k | k
   ·have:X.env.scope.names.lookup x=some .free:=hk
    rw [k] at this;cases this
   ·have:X.env.scope.names.lookup x=some .free:=hk
    rw [k] at this;cases this
def JQ (f:Int→Int→Int):Hf:=fun x y H Q=>∃ i j,x=.int i∧y=.int j∧Q (.int (f i j)) H
theorem Es:Hz X .Sub (JQ fun i j=>i - j):=by
 intro pins s σ H x y v u Q I r1 r2 h
 obtain ⟨i,j,e1,e2,q⟩:=h
 subst e1;subst e2
 obtain ⟨t,rfl⟩:=r1
 obtain ⟨t',rfl⟩:=r2
 exact isub_int ⟨.int _,H,I.tok _,⟨_,rfl⟩,q⟩
end
section
variable {X:Cx} {pos:Pos}
def pH (c:TT) (tb:TS):TS:=fun D σ H=>∃ W:Nat→St→Hp→Prop,(∃ m,W m σ H)∧∀ m σ H,W m σ H →
 c σ H fun b H1=>if b=true then ∃ N:St→Hp→Prop,(∀ σ' H',N σ' H'→∃ m',m' < m∧W m' σ' H')∧tb { D with nx:=N,ct:=N,bk:=D.nx } σ H1 else D.nx σ H1
theorem gC {c:Expr} {body:List Stmt} {tc:TT} {tb:TS} (hp:PassesOwn (model X.prog X.w) X.A X.env X.xe) (hc:PT X c tc) (hb:n8 X body tb):PS X (.While c body [] pos) (pH tc tb):=by
 intro pins s σ H D I h
 obtain ⟨W,⟨m0,w0⟩,turn⟩:=h
 refine wpAny_While (codeAny_whileLoop (fun n s'=>∃ σ' H',Inv X pins σ' H' s'∧W n σ' H') ?_ m0 ⟨σ,H,I,w0⟩)
 rintro n s1 ⟨σ1,H1,I1,w1⟩
 refine wpAny_passesOwn hp (bB (hc pins s1 σ1 H1 _ I1 (turn n σ1 H1 w1)) fun b s2 ⟨H2,I2,q2⟩=>?_)
 cases b with
 | true =>
  obtain ⟨N,hN,q2⟩:=q2
  rw [if_pos rfl]
  refine wpAny_passesOwn hp (bB (hb pins s2 σ1 H2 _ I2 q2) fun f s3 q3=>?_)
  cases f with
  | next =>
   obtain ⟨σ3,H3,I3,n3⟩:=q3
   obtain ⟨m',hm,w3⟩:=hN σ3 H3 n3
   exact ⟨m',hm,σ3,H3,I3,w3⟩
  | cont =>
   obtain ⟨σ3,H3,I3,n3⟩:=q3
   obtain ⟨m',hm,w3⟩:=hN σ3 H3 n3
   exact ⟨m',hm,σ3,H3,I3,w3⟩
  | brk=>exact q3
  | ret v=>exact q3
 | false =>
  rw [if_neg Bool.false_ne_true]
  exact wpAny_execs_nil ⟨σ1,H2,I2,q2⟩
end
structure It where
 go:Nat→Hp→Prop
 yld:Nat→Hp→V→Hp→Prop
 stop:Nat→Hp→Prop
def gi (X:Cx) (pins:List (Addr × Obj)) (H:Hp) (b:Addr):Prop :=
 H b=none∧b≠X.env.locals∧b ∉ X.fs∧(b∈X.ex∨X.s₀.heap.objs.size≤b)∧(∀ x c,X.env.cells.lookup x=some c→c≠b)∧∀ p∈X.pn ++ pins,p.1≠b
theorem Inv.yK {X:Cx} {pins:List (Addr × Obj)} {σ:St} {H H':Hp} {s:Shared} {b:Addr} (I:Inv X pins σ H s) (hb:s.heap.objs.size≤b) (hn:H' b=none):gi X pins H' b:=by
 refine ⟨hn,Nat.ne_of_gt (Nat.lt_of_lt_of_le I.lt hb),I.HU hb,.inr (Nat.le_trans I.sz hb),fun x c e z=>?_,fun p hp z=>?_⟩
 ·obtain ⟨v,q⟩:=I.cell x c e
  exact absurd (Nat.lt_of_lt_of_le q.lt (by rw [z];exact hb)) (Nat.lt_irrefl _)
 ·exact absurd (Nat.lt_of_lt_of_le (Heap.lt_size (I.pin p hp).1) (by rw [z];exact hb)) (Nat.lt_irrefl _)
structure Turn (P:Program) (w:World) (K:PySem.W.Frag) (tg:Expr) (J:It) (fp:List Addr) (it:Addr) (tn:Nat→Heap→Prop):Prop where
 mem:it∈fp
 obj:∀ i h,tn i h→∀ b∈fp,∃ o,h.get? b=some o∧∀ v,o.data≠.cell v
 keep:∀ i h h',tn i h→(∀ b∈fp,∀ o,h.get? b=some o→h'.get? b=some o)→tn i h'
 item:∀ (X:Cx),X.prog=P→X.w=w→X.K=K→X.calm=true→∀ (i:Nat) (pins:List (Addr × Obj)) (s:Shared) (σ:St) (H:Hp) (E:Value→Shared→Prop),Inv X pins σ H s→(∀ b∈fp,gi X pins H b)→tn i s.heap→J.go i H →
  wpAny (model P w) X.A (pyNext (.ref it)) (fun r s1=>∃ u,r=some u ∧
   wpAny (model P w) X.A (letOwnedTupleGo tg (.ref it) u) (fun _ s2=>∃ x H',Inv X pins σ H' s2∧RelV x u∧J.yld i H x H'∧tn (i + 1) s2.heap∧∀ b∈fp,H' b=none) E s1) E s
 done:∀ (X:Cx),X.prog=P→X.w=w→X.K=K→X.calm=true→∀ (i:Nat) (pins:List (Addr × Obj)) (s:Shared) (σ:St) (H:Hp) (E:Value→Shared→Prop),Inv X pins σ H s→(∀ b∈fp,gi X pins H b)→tn i s.heap→J.stop i H →
  wpAny (model P w) X.A (pyNext (.ref it)) (fun r s1=>r=none∧Inv X pins σ H s1) E s
 self:∀ (A:Around) (i:Nat) (s:Shared) (Q:Value→Shared→Prop) (E:Value→Shared→Prop),tn i s.heap→Q (.ref it) s→wpAny (model P w) A (pyIter (.ref it)) Q E s
abbrev TI:=St→Hp→(It→Hp→Prop)→Prop
def Jr (X:Cx) (pins:List (Addr × Obj)) (σ:St) (tg:Expr) (R:It→Hp→Prop) (itv:Value) (s2:Shared):Prop :=
 ∃ (it:Addr) (fp:List Addr) (tn:Nat→Heap→Prop) (J:It) (H':Hp),itv=.ref it∧Inv X pins σ H' s2∧Turn X.prog X.w X.K tg J fp it tn∧tn 0 s2.heap∧(∀ b∈fp,gi X pins H' b)∧R J H'
def PI (X:Cx) (tg iter:Expr) (wi:TI):Prop :=
 ∀ (pins:List (Addr × Obj)) (s:Shared) (σ:St) (H:Hp) (R:It→Hp→Prop),Inv X pins σ H s→wi σ H R →
  wpAny (model X.prog X.w) X.A (eval iter X.env) (fun v s1=>wpAny (model X.prog X.w) X.A (pyIter v) (Jr X pins σ tg R) X.xe s1) X.xe s
theorem xB {M:Model} {A:Around} {E:Value→Shared→Prop} {s:Shared} {tg:Expr} {it:Addr} {u:Value} {o:Obj} {n:String} {vs:Array Value} {Q:Unit→Shared→Prop} (ho:s.heap.get? it=some o) (hc:o.cls=.type n) (hd:o.data=.fields vs)
  (hn:["enumerate","zip","dict_itemiterator","dict_reverseitemiterator","odict_iterator","itertools.zip_longest","itertools.pairwise"].contains n=false) (hQ:Q () s):wpAny M A (letOwnedTupleGo tg (.ref it) u) Q E s:=by
 unfold letOwnedTupleGo
 cases tg <;> first
  | exact wpAny_pure hQ
  | (cases u <;> first
    | exact wpAny_pure hQ
    | (refine wpAny_bind (wpAny_load ho ?_)
       rw [hc,hd]
       show wpAny M A (if (["enumerate","zip","dict_itemiterator","dict_reverseitemiterator","odict_iterator","itertools.zip_longest","itertools.pairwise"].contains n && vs[0]? == some (rawInt _))=true then _ else _) Q E s
       rw [if_neg (by intro h;rw [hn,Bool.false_and] at h;cases h)]
       exact wpAny_pure hQ))
def Bf (K:PySem.W.Frag) (a:Addr):It :=
 ⟨fun i H=>∃ xs x,cg K H a xs∧xs[i]?=some x,fun i H x H'=>H'=H∧∀ xs,cg K H a xs→xs[i]?=some x,fun i H=>∃ xs,cg K H a xs∧xs.length≤i⟩
def JD (K:PySem.W.Frag) (a:Addr):It :=
 ⟨fun i H=>∃ xs x,fA K H a xs∧xs[i]?=some x,fun i H x H'=>H'=H∧∀ xs,fA K H a xs→xs[i]?=some x,fun i H=>∃ xs,fA K H a xs∧xs.length≤i⟩
def yF (lo:Int) (n:Nat):It:=⟨fun i _=>i < n,fun i H x H'=>H'=H∧x=.int (lo + i),fun i _=>n≤i⟩
theorem wZ {P:Program} {w:World} {K:PySem.W.Frag} {tg:Expr} (a it:Addr):Turn P w K tg (Bf K a) [it] it (fun i h=>h.IsListIter it a i) where
 mem:=by simp
 obj:=fun i h st b hb=>by
  have e:b=it:=by simpa using hb
  subst e
  obtain ⟨o,e,c,d⟩:=st
  exact ⟨o,e,fun v z=>by rw [d] at z;cases z⟩
 keep:=fun i h h' st k=>st.at fun o e=>k it (by simp) o e
 item:=by
  intro X hP hw hK hc i pins s σ H E I hf st hg
  subst hP hw hK
  obtain ⟨xs,x,hq,hx⟩:=hg
  obtain ⟨its,rv,p,hz⟩:=I.list hq
  obtain ⟨u,hu,ru⟩:=rv.get hx
  obtain ⟨f0,f1,f2,f3,f4,f5⟩:=hf it (by simp)
  refine wpAny_pyNext_list_item st p.isList (x:=u) (by simpa using hu) fun h' st' sb=>?_
  have I1:Inv X pins σ H { s with heap:=h' }:=I.turned (t':=s.toks) (fun b o hb e=>(sb.2 b hb).trans e) f0 f1 f3 f4 f5
  obtain ⟨o,e,c,d⟩:=id st'
  exact ⟨u,rfl,xB (s:={ s with heap:=h' }) e c d (by decide) ⟨x,H,I1,ru,⟨rfl,fun ys hy=>by rw [I.gI hy hq];exact hx⟩,st',fun b hb=>(hf b hb).1⟩⟩
 done:=by
  intro X hP hw hK hc i pins s σ H E I hf st hg
  subst hP hw hK
  obtain ⟨xs,hq,hx⟩:=hg
  obtain ⟨its,rv,p,hz⟩:=I.list hq
  obtain ⟨f0,f1,f2,f3,f4,f5⟩:=hf it (by simp)
  have hl:=rv.length
  exact wpAny_pyNext_list_end (I.ok.hd hc) st p.isList (by simp;omega) fun h' eb=>⟨rfl,I.turned (t':=s.toks) (fun b o hb e=>eb b o hb e) f0 f1 f3 f4 f5⟩
 self:=fun _ _ _ _ _ st h=>wpAny_pyIter_listiter st h
theorem s_ {P:Program} {w:World} {K:PySem.W.Frag} {tg:Expr} (it:Addr) (lo:Int) (n:Nat):Turn P w K tg (yF lo n) [it] it (fun i h=>IsRangeIter h it (lo + (i:Nat) * 1) ((n:Int) - (i:Nat)) 1) where
 mem:=by simp
 obj:=fun i h st b hb=>by
  have e:b=it:=by simpa using hb
  subst e
  exact ⟨_,st,fun v z=>by
   have z':Data.fields _=Data.cell v:=z
   cases z'⟩
 keep:=fun i h h' st k=>k it (by simp) _ st
 item:=by
  intro X hP hw hK hc i pins s σ H E I hf st hg
  subst hP hw hK
  obtain ⟨f0,f1,f2,f3,f4,f5⟩:=hf it (by simp)
  have W:=Walks.range (prog:=X.prog) (w:=X.w) (I.ok.hd hc) it lo 1 n
  refine W.item i s _ _ hg st fun v h' tk hv st' kk=>?_
  obtain ⟨t,rfl⟩:=hv
  have I1:Inv X pins σ H { s with heap:=h',toks:=tk }:=I.turned (fun b o hb e=>kk b o (by simpa using hb) e) f0 f1 f3 f4 f5
  refine ⟨_,rfl,xB (s:={ s with heap:=h',toks:=tk }) (n:="range_iterator") st' rfl rfl (by decide) ⟨.int (lo + i),H,I1,⟨t,?_⟩,⟨rfl,rfl⟩,st',fun b hb=>(hf b hb).1⟩⟩
  rw [Int.mul_one]
 done:=by
  intro X hP hw hK hc i pins s σ H E I hf st hg
  subst hP hw hK
  obtain ⟨f0,f1,f2,f3,f4,f5⟩:=hf it (by simp)
  exact wpAny_pyNext_range_end (I.ok.hd hc) st (by have:n≤i:=hg;omega) fun h' eb=>⟨rfl,I.turned (t':=s.toks) (fun b o hb e=>eb b o hb e) f0 f1 f3 f4 f5⟩
 self:=fun _ _ _ _ _ st h=>wpAny_pyIter_rangeiter st h
end L2
namespace L2
open PySem PySem.Spec PyProof.Rows
section
variable {X:Cx} {tg:Expr}
def t9 (K:PySem.W.Frag) (tl:TE):TI:=fun σ H R=>tl σ H fun x H1=>∃ a,x=.ref a∧(∃ xs,cg K H1 a xs)∧R (Bf K a) H1
def ID (K:PySem.W.Frag) (tl:TE):TI:=fun σ H R=>tl σ H fun x H1=>∃ a,x=.ref a∧(∃ xs,fA K H1 a xs)∧R (JD K a) H1
theorem iY {l:Expr} {tl:TE} (hl:PE X l tl):PI X tg l (t9 X.K tl):=by
 intro pins s σ H R I h
 refine bB (hl pins s σ H _ I h) fun v s1 ⟨x,H1,I1,r1,q1⟩=>?_
 obtain ⟨a,e,⟨xs,hq⟩,q⟩:=q1
 subst e
 cases r1
 obtain ⟨its,rv,p,hz⟩:=I1.list hq
 refine wpAny_pyIter_list p.isList ?_
 refine ⟨s1.heap.objs.size,[s1.heap.objs.size],_,_,H1,rfl,I1.kept (t':=s1.toks) fun b o e=>Heap.get?_push_of_some _ e,wZ a _,⟨_,Heap.get?_push_size _ rfl,rfl,rfl⟩,fun b hb=>?_,q⟩
 have e:b=s1.heap.objs.size:=by simpa using hb
 subst e
 exact I1.yK (Nat.le_refl _) (I1.hok.fresh (Nat.le_refl _))
theorem qS {pins:List (Addr × Obj)} {σ:St} {H:Hp} {s:Shared} {R:It→Hp→Prop} {E:Value→Shared→Prop} {lo hi:Int} {t u v:Tok} {tk:Nat} (I:Inv X pins σ H s) (h1:-(2 ^ 62)≤lo) (h2:lo < 2 ^ 62) (h3:-(2 ^ 62)≤hi) (h4:hi < 2 ^ 62)
  (q:R (yF lo (hi - lo).toNat) H):wpAny (model X.prog X.w) X.A (pyIter (.ref s.heap.objs.size)) (Jr X pins σ tg R) E { s with heap:=s.heap.push { cls:=.type "range",data:=.fields #[.int lo t,.int hi u,.int 1 v] },toks:=tk }:=by
 refine wpAny_pyIter_range (IsRange.new ..) (small_one h1 h2 h3 h4) ?_
 have I1:Inv X pins σ H { s with heap:=s.heap.push { cls:=.type "range",data:=.fields #[.int lo t,.int hi u,.int 1 v] },toks:=tk }:=I.kept fun b o e=>Heap.get?_push_of_some _ e
 refine ⟨(s.heap.push { cls:=.type "range",data:=.fields #[.int lo t,.int hi u,.int 1 v] }).objs.size,[(s.heap.push { cls:=.type "range",data:=.fields #[.int lo t,.int hi u,.int 1 v] }).objs.size],_,_,H,rfl,
  I1.kept (t':=tk) fun b o e=>Heap.get?_push_of_some _ e,s_ _ lo (hi - lo).toNat,?_,fun b hb=>?_,q⟩
 ·have e1:lo + ((0:Nat):Int) * 1=lo:=by simp
  have e2:(((hi - lo).toNat:Nat):Int) - ((0:Nat):Int)=Builtin.Range.rangeSize lo hi 1:=by rw [rangeSize_one];split <;> omega
  show IsRangeIter _ _ (lo + ((0:Nat):Int) * 1) ((((hi - lo).toNat:Nat):Int) - ((0:Nat):Int)) 1
  rw [e1,e2]
  exact Heap.get?_push_size _ rfl
 ·have e:b=(s.heap.push { cls:=.type "range",data:=.fields #[.int lo t,.int hi u,.int 1 v] }).objs.size:=by simpa using hb
  subst e
  exact I1.yK (Nat.le_refl _) (I1.hok.fresh (Nat.le_refl _))
def t_ (ta:TA):TI:=fun σ H R=>ta σ H fun vs H1=>∃ j:Int,vs=[.int j]∧-(2 ^ 62)≤j∧j < 2 ^ 62∧R (yF 0 j.toNat) H1
def uk (ta:TA):TI:=fun σ H R=>ta σ H fun vs H1=>∃ i j:Int,vs=[.int i,.int j]∧(-(2 ^ 62)≤i∧i < 2 ^ 62∧-(2 ^ 62)≤j∧j < 2 ^ 62)∧R (yF i (j - i).toNat) H1
theorem eG {a:Expr} {ta:TA} {p pos:Pos} (hg:Gl X "range") (hm:X.mg "range"=none) (ha:PA X [a] ta) (hs:starEach [a] X.env=[(false,eval a X.env)]:=by rfl):PI X tg (.Call (.Name "range" p) [a] [] pos) (t_ ta):=by
 intro pins s σ H R I h
 refine Call_ (gL I hg hm boot_range (PyProof.Rows.callWith_type1 (bB (ha pos pins s σ H _ I h) fun us s1 ⟨vs,H1,I1,r1,q1⟩=>?_) hs rfl))
 obtain ⟨j,e,q1,q2,q⟩:=q1
 subst e
 cases r1 with
 | cons r rr =>
  cases rr
  obtain ⟨t,rfl⟩:=r
  exact call_range_1 (qS I1 (by omega) (by omega) q1 q2 (by simpa using q))
theorem j3 {a b:Expr} {ta:TA} {p pos:Pos} (hg:Gl X "range") (hm:X.mg "range"=none) (ha:PA X [a,b] ta) (hs:starEach [a,b] X.env=[(false,eval a X.env),(false,eval b X.env)]:=by rfl) (hs2:starEach [b] X.env=[(false,eval b X.env)]:=by rfl) :
  PI X tg (.Call (.Name "range" p) [a,b] [] pos) (uk ta):=by
 intro pins s σ H R I h
 refine Call_ (gL I hg hm boot_range (PyProof.Rows.callWith_type1 (bB (ha pos pins s σ H _ I h) fun us s1 ⟨vs,H1,I1,r1,q1⟩=>?_) (by rw [hs,hs2]) (by rw [hs2];rfl)))
 obtain ⟨i,j,e,⟨q1,q2,q3,q4⟩,q⟩:=q1
 subst e
 cases r1 with
 | cons r rr =>
  cases rr with
  | cons r' rr =>
   cases rr
   obtain ⟨t,rfl⟩:=r
   obtain ⟨t',rfl⟩:=r'
   exact call_range_2 (qS I1 q1 q2 q3 q4 q)
def EB (wi:TI) (g:TG) (tb:TS):TS:=fun D σ H=>wi σ H fun J H1=>∃ W:Nat→Nat→St→Hp→Prop,(∃ m,W 0 m σ H1)∧∀ i m σ H,W i m σ H →
 (J.stop i H∧D.nx σ H)∨(J.go i H∧∃ N:St→Hp→Prop,(∀ σ' H',N σ' H'→∃ m',m' < m∧W (i + 1) m' σ' H')∧∀ x H',J.yld i H x H'→g x σ H' fun σ2 H2=>tb { D with nx:=N,ct:=N,bk:=D.nx } σ2 H2)
def oS (fp:List Addr) (h:Heap):List (Addr × Obj):=fp.filterMap fun b=>(h.get? b).map fun o=>(b,o)
theorem bx {fp:List Addr} {h:Heap} {b:Addr} {o:Obj} (hb:b∈fp) (e:h.get? b=some o):(b,o)∈oS fp h:=List.mem_filterMap.mpr ⟨b,hb,by rw [e];rfl⟩
theorem wt {fp:List Addr} {h:Heap} {p:Addr × Obj} (hp:p∈oS fp h):p.1∈fp∧h.get? p.1=some p.2:=by
 obtain ⟨b,hb,e⟩:=List.mem_filterMap.mp hp
 cases q:h.get? b with
 | none=>rw [q] at e;cases e
 | some o =>
  rw [q] at e
  have e':(b,o)=p:=Option.some.inj e
  subst e'
  exact ⟨hb,q⟩
theorem Inv.pinned {pins:List (Addr × Obj)} {σ:St} {H:Hp} {s:Shared} {fp:List Addr} (I:Inv X pins σ H s) (hf:∀ b∈fp,gi X pins H b) (ho:∀ b∈fp,∃ o,s.heap.get? b=some o∧∀ v,o.data≠.cell v):Inv X (pins ++ oS fp s.heap) σ H s :=
 I.vA fun p hp=>(List.mem_append.mp hp).elim (fun z=>I.pin p (List.mem_append_right _ z)) fun z=>by
  obtain ⟨hb,e⟩:=wt z
  obtain ⟨f0,f1,f2,_⟩:=hf p.1 hb
  obtain ⟨o,e',d⟩:=ho p.1 hb
  rw [e] at e';cases e'
  exact ⟨e,f0,f1,f2,d⟩
theorem Inv.dU {pins pl:List (Addr × Obj)} {σ:St} {H:Hp} {s:Shared} (I:Inv X (pins ++ pl) σ H s):Inv X pins σ H s:=I.vA fun p hp=>I.pin p (List.mem_append_right _ (List.mem_append_left _ hp))
theorem j5 {iter:Expr} {body:List Stmt} {wi:TI} {g:TG} {tb:TS} {pos:Pos} (hp:PassesOwn (model X.prog X.w) X.A X.env X.xe) (hc:X.calm=true) (hi:PI X tg iter wi) (hg:PG X tg g) (hb:n8 X body tb)
  (hs:∀ x,foldedSetIterable iter X.env x=pure x:=by intro _;rfl):PS X (.For tg iter body [] pos) (EB wi g tb):=by
 intro pins s σ H D I h
 refine wpAny_For (bB (hi pins s σ H _ I h) fun v s1 h1=>bB h1 fun itv s2 h2=>?_) hs
 obtain ⟨it,fp,tn,J,H2,e,I2,T,st2,f2,W,⟨m0,w0⟩,turn⟩:=h2
 subst e
 have stat:∀ {H':Hp},(∀ b∈fp,H' b=none)→∀ b∈fp,gi X pins H' b:=fun hn b hb=>⟨hn b hb,(f2 b hb).2⟩
 refine codeAny_forLoop_any (fun n s'=>∃ i σ' H',Inv X pins σ' H' s'∧tn i s'.heap∧(∀ b∈fp,H' b=none)∧W i n σ' H') ?_ m0 ⟨0,σ,H2,I2,st2,fun b hb=>(f2 b hb).1,w0⟩
 rintro n s3 ⟨i,σ3,H3,I3,st3,fr3,w3⟩
 rcases turn i n σ3 H3 w3 with ⟨stop,qn⟩ | ⟨go,N,hN,step⟩
 ·refine wpAny_passesOwn hp (bB (T.done X rfl rfl rfl hc i pins s3 σ3 H3 X.xe I3 (stat fr3) st3 stop) fun r s4 ⟨hr,I4⟩=>?_)
  subst hr
  exact wpAny_execs_nil ⟨σ3,H3,I4,qn⟩
 ·refine wpAny_passesOwn hp (bB (T.item X rfl rfl rfl hc i pins s3 σ3 H3 X.xe I3 (stat fr3) st3 go) fun r s4 ⟨u,hr,h4⟩=>?_)
  subst hr
  refine wpAny_passesOwn hp (bB h4 fun _ s5 ⟨x,H5,I5,r5,y5,st5,fr5⟩=>?_)
  have I5':=I5.pinned (stat fr5) (T.obj _ _ st5)
  refine wpAny_passesOwn hp (bB (hg _ s5 σ3 H5 x u _ I5' r5 (step x H5 y5)) fun _ s6 ⟨σ6,H6,I6,q6⟩=>?_)
  refine wpAny_passesOwn hp (bB (hb _ s6 σ6 H6 _ I6 q6) fun f s7 q7=>?_)
  have again:∀ {σ7:St} {H7:Hp},Inv X (pins ++ oS fp s5.heap) σ7 H7 s7→N σ7 H7→∃ m,m < n∧∃ i σ' H',Inv X pins σ' H' s7∧tn i s7.heap∧(∀ b∈fp,H' b=none)∧W i m σ' H':=fun {σ7 H7} I7 n7=>by
   obtain ⟨m',hm,w7⟩:=hN σ7 H7 n7
   refine ⟨m',hm,i + 1,σ7,H7,I7.dU,T.keep _ _ _ st5 fun b hb o e=>(I7.pin (b,o) (List.mem_append_right _ (List.mem_append_right _ (bx hb e)))).1,fun b hb=>?_,w7⟩
   obtain ⟨o,e,d⟩:=T.obj _ _ st5 b hb
   exact (I7.pin (b,o) (List.mem_append_right _ (List.mem_append_right _ (bx hb e)))).2.1
  cases f with
  | next=>obtain ⟨σ7,H7,I7,n7⟩:=q7;exact again I7 n7
  | cont=>obtain ⟨σ7,H7,I7,n7⟩:=q7;exact again I7 n7
  | brk=>obtain ⟨σ7,H7,I7,q7⟩:=q7;exact ⟨σ7,H7,I7.dU,q7⟩
  | ret v=>obtain ⟨x7,σ7,H7,I7,r7,q7⟩:=q7;exact ⟨x7,σ7,H7,I7.dU,r7,q7⟩
end
theorem zx {K:PySem.W.Frag} {a:Addr} {xs:List V} {g:TG} {tb:TS} {D:Ends} {σ:St} {H:Hp} (Pv:Nat→St→Hp→Prop) (h0:Pv 0 σ H) (hl:∀ i σ H,i≤xs.length→Pv i σ H→cg K H a xs)
  (hs:∀ i x σ H,xs[i]?=some x→Pv i σ H→g x σ H fun σ2 H2=>tb { D with nx:=Pv (i + 1),ct:=Pv (i + 1),bk:=D.nx } σ2 H2) (hd:∀ σ H,Pv xs.length σ H→D.nx σ H) :
  ∃ W:Nat→Nat→St→Hp→Prop,(∃ m,W 0 m σ H)∧∀ i m σ H,W i m σ H →
   ((Bf K a).stop i H∧D.nx σ H)∨((Bf K a).go i H∧∃ N:St→Hp→Prop,(∀ σ' H',N σ' H'→∃ m',m' < m∧W (i + 1) m' σ' H')∧∀ x H',(Bf K a).yld i H x H'→g x σ H' fun σ2 H2=>tb { D with nx:=N,ct:=N,bk:=D.nx } σ2 H2):=by
 refine ⟨fun i m σ H=>m=xs.length - i∧i≤xs.length∧Pv i σ H,⟨xs.length,by simp,Nat.zero_le _,h0⟩,?_⟩
 rintro i m σ H ⟨rfl,hi,p⟩
 have q:=hl i σ H hi p
 by_cases hlt:i < xs.length
 ·refine .inr ⟨⟨xs,xs[i],q,by simp [hlt]⟩,Pv (i + 1),fun σ' H' p'=>⟨xs.length - (i + 1),by omega,rfl,hlt,p'⟩,fun x H' y=>?_⟩
  obtain ⟨e,y⟩:=y
  subst e
  exact hs i x σ _ (y xs q) p
 ·have e:i=xs.length:=by omega
  subst e
  exact .inl ⟨⟨xs,q,Nat.le_refl _⟩,hd σ H p⟩
theorem nk {lo:Int} {n:Nat} {g:TG} {tb:TS} {D:Ends} {σ:St} {H:Hp} (Pv:Nat→St→Hp→Prop) (h0:Pv 0 σ H)
  (hs:∀ i σ H,i < n→Pv i σ H→g (.int (lo + i)) σ H fun σ2 H2=>tb { D with nx:=Pv (i + 1),ct:=Pv (i + 1),bk:=D.nx } σ2 H2) (hd:∀ σ H,Pv n σ H→D.nx σ H) :
  ∃ W:Nat→Nat→St→Hp→Prop,(∃ m,W 0 m σ H)∧∀ i m σ H,W i m σ H →
   ((yF lo n).stop i H∧D.nx σ H)∨((yF lo n).go i H∧∃ N:St→Hp→Prop,(∀ σ' H',N σ' H'→∃ m',m' < m∧W (i + 1) m' σ' H')∧∀ x H',(yF lo n).yld i H x H'→g x σ H' fun σ2 H2=>tb { D with nx:=N,ct:=N,bk:=D.nx } σ2 H2):=by
 refine ⟨fun i m σ H=>m=n - i∧i≤n∧Pv i σ H,⟨n,by simp,Nat.zero_le _,h0⟩,?_⟩
 rintro i m σ H ⟨rfl,hi,p⟩
 by_cases hlt:i < n
 ·refine .inr ⟨hlt,Pv (i + 1),fun σ' H' p'=>⟨n - (i + 1),by omega,rfl,hlt,p'⟩,fun x H' y=>?_⟩
  obtain ⟨e,y⟩:=y
  subst e y
  exact hs i σ _ hlt p
 ·have e:i=n:=by omega
  subst e
  exact .inl ⟨Nat.le_refl _,hd σ H p⟩
theorem rp {c:TT} {tb:TS} {D:Ends} {σ:St} {H:Hp} (Pv:St→Hp→Prop) (μ:St→Hp→Nat) (h0:Pv σ H)
  (hs:∀ σ H,Pv σ H→c σ H fun b H1=>if b=true then tb { D with nx:=fun σ' H'=>Pv σ' H'∧μ σ' H' < μ σ H,ct:=fun σ' H'=>Pv σ' H'∧μ σ' H' < μ σ H,bk:=D.nx } σ H1 else D.nx σ H1)
  (mono:∀ σ H Q Q',(∀ b H1,Q b H1→Q' b H1)→c σ H Q→c σ H Q'):pH c tb D σ H:=by
 refine ⟨fun m σ H=>m=μ σ H∧Pv σ H,⟨_,rfl,h0⟩,?_⟩
 rintro m σ H ⟨rfl,p⟩
 refine mono σ H _ _ (fun b H1 q=>?_) (hs σ H p)
 cases b with
 | true=>exact ⟨_,fun σ' H' ⟨p',l⟩=>⟨_,l,rfl,p'⟩,q⟩
 | false=>exact q
end L2
namespace L2
open PySem PySem.Spec PyProof.Rows
abbrev R2:=V→V→Hp→VK→Prop
def eX (X:Cx) (f:Value→Value→Sem Value) (r:R2):Prop :=
 ∀ (pins:List (Addr × Obj)) (s:Shared) (σ:St) (H:Hp) (x y:V) (v u:Value) (Q:VK),Inv X pins σ H s→RelV x v→RelV y u→r x y H Q →
  wpAny (model X.prog X.w) X.A (f v u) (EP X pins σ Q) X.xe s
def rY (X:Cx) (f:Value→Sem Value) (r:V→Hp→VK→Prop):Prop :=
 ∀ (pins:List (Addr × Obj)) (s:Shared) (σ:St) (H:Hp) (x:V) (v:Value) (Q:VK),Inv X pins σ H s→RelV x v→r x H Q →
  wpAny (model X.prog X.w) X.A (f v) (EP X pins σ Q) X.xe s
def cf (X:Cx) (f:Value) (r:List V→Hp→VK→Prop):Prop :=
 ∀ (pins:List (Addr × Obj)) (s:Shared) (σ:St) (H:Hp) (xs:List V) (us:List Value) (Q:VK),Inv X pins σ H s→Vals xs us→r xs H Q →
  wpAny (model X.prog X.w) X.A (call f us) (EP X pins σ Q) X.xe s
def IK (X:Cx) (r:V→Hp→(Bool→Hp→Prop)→Prop):Prop :=
 ∀ (pins:List (Addr × Obj)) (s:Shared) (σ:St) (H:Hp) (x:V) (v:Value) (Q:Bool→Hp→Prop),Inv X pins σ H s→RelV x v→r x H Q →
  wpAny (model X.prog X.w) X.A (truthy v) (TP X pins σ Q) X.xe s
def zI (r:R2) (ta tb:TE):TE:=fun σ H Q=>ta σ H fun x H1=>tb σ H1 fun y H2=>r x y H2 Q
def Hg (r:V→Hp→VK→Prop) (ta:TE):TE:=fun σ H Q=>ta σ H fun x H1=>r x H1 Q
def rI (C:Int→Int→Prop) (g:Int→Int→V):R2:=fun x y H Q=>∃ i j,x=.int i∧y=.int j∧C i j∧Q (g i j) H
def zY (g:Int→Int→V):R2:=fun x y H Q=>∃ i j,x=.int i∧y=.int j∧Q (g i j) H
def rU (g:Int→V):V→Hp→VK→Prop:=fun x H Q=>∃ i,x=.int i∧Q (g i) H
section
variable {X:Cx} {a b c:Expr} {ta tb tc:TE} {pos:Pos}
theorem C1 (ha:PE X a ta) (hb:PE X b tb) {pins:List (Addr × Obj)} {s:Shared} {σ:St} {H:Hp} {R:V→V→Hp→Prop} (I:Inv X pins σ H s)
  (h:ta σ H fun x H1=>tb σ H1 fun y H2=>R x y H2) {Q:Value→Shared→Prop} {f:Value→Value→Sem Value}
  (hf:∀ v u s2 x y H2,Inv X pins σ H2 s2→RelV x v→RelV y u→R x y H2→wpAny (model X.prog X.w) X.A (f v u) Q X.xe s2) :
  wpAny (model X.prog X.w) X.A (eval a X.env) (fun v s₁=>wpAny (model X.prog X.w) X.A (eval b X.env) (fun u s₂=>wpAny (model X.prog X.w) X.A (f v u) Q X.xe s₂) X.xe s₁) X.xe s:=by
 refine bB (ha pins s σ H _ I h) fun v s1 ⟨x,H1,I1,r1,q1⟩=>?_
 refine bB (hb pins s1 σ H1 _ I1 q1) fun u s2 ⟨y,H2,I2,r2,q2⟩=>?_
 exact hf v u s2 x y H2 I2 r1 r2 q2
theorem aY {op:Operator} {r:R2} (ho:eX X (binaryOp op) r) (ha:PE X a ta) (hb:PE X b tb):PE X (.BinOp a op b pos) (zI r ta tb):=by
 intro pins s σ H Q I h
 exact wpAny_BinOp (C1 ha hb I h fun v u s2 x y H2 I2 rx ry q=>ho pins s2 σ H2 x y v u Q I2 rx ry q)
theorem uU {op:UnaryOp} {r:V→Hp→VK→Prop} (ho:rY X (unaryOp op) r) (ha:PE X a ta):PE X (.UnaryOp op a pos) (Hg r ta):=by
 intro pins s σ H Q I h
 exact UnaryOp_ (bB (ha pins s σ H _ I h) fun v s1 ⟨x,H1,I1,r1,q1⟩=>ho pins s1 σ H1 x v Q I1 r1 q1)
theorem He {f:Value→Value→Sem Value} {C:Int→Int→Prop} {g:Int→Int→Int}
  (rule:∀ (i j:Int) (t u:Tok) (s:Shared) (Q:Value→Shared→Prop) (E:Value→Shared→Prop),C i j→Q (.int (g i j) s.toks) { s with toks:=s.toks + 1 }→wpAny (model X.prog X.w) X.A (f (.int i t) (.int j u)) Q E s) :
  eX X f (rI C fun i j=>.int (g i j)):=by
 intro pins s σ H x y v u Q I rx ry h
 obtain ⟨i,j,rfl,rfl,hc,q⟩:=h
 obtain ⟨t,rfl⟩:=rx
 obtain ⟨t',rfl⟩:=ry
 exact rule i j t t' s _ _ hc ⟨.int (g i j),H,I.tok _,⟨_,rfl⟩,q⟩
theorem Gg {f:Value→Value→Sem Value} {g:Int→Int→Int}
  (rule:∀ (i j:Int) (t u:Tok) (s:Shared) (Q:Value→Shared→Prop) (E:Value→Shared→Prop),Q (.int (g i j) s.toks) { s with toks:=s.toks + 1 }→wpAny (model X.prog X.w) X.A (f (.int i t) (.int j u)) Q E s) :
  eX X f (zY fun i j=>.int (g i j)):=by
 intro pins s σ H x y v u Q I rx ry h
 obtain ⟨i,j,rfl,rfl,q⟩:=h
 obtain ⟨t,rfl⟩:=rx
 obtain ⟨t',rfl⟩:=ry
 exact rule i j t t' s _ _ ⟨.int (g i j),H,I.tok _,⟨_,rfl⟩,q⟩
theorem A4 {f:Value→Value→Sem Value} {g:Int→Int→Bool}
  (rule:∀ (i j:Int) (t u:Tok) (s:Shared) (Q:Value→Shared→Prop) (E:Value→Shared→Prop),Q (.bool (g i j)) s→wpAny (model X.prog X.w) X.A (f (.int i t) (.int j u)) Q E s) :
  eX X f (zY fun i j=>.bl (g i j)):=by
 intro pins s σ H x y v u Q I rx ry h
 obtain ⟨i,j,rfl,rfl,q⟩:=h
 obtain ⟨t,rfl⟩:=rx
 obtain ⟨t',rfl⟩:=ry
 exact rule i j t t' s _ _ ⟨.bl (g i j),H,I,rfl,q⟩
def Ir (i j:Int):Prop:=0≤j∧j≤1000000∧i.natAbs < 2 ^ 64
def Gx (i j:Int):Prop:=(-(2 ^ 64) < i∧i < 2 ^ 64)∨(-(2 ^ 64) < j∧j < 2 ^ 64)
theorem Gx.ok {i j:Int} (h:Gx i j):IntMulOk i j:=by
 rcases h with ⟨h1,h2⟩ | ⟨h1,h2⟩
 ·exact .of_left (intBits_le_64 h1 h2)
 ·exact .of_right (intBits_le_64 h1 h2)
theorem f':eX X (binaryOp .Add) (zY fun i j=>.int (i + j)):=Gg fun _ _ _ _ _ _ _ q=>add_int q
theorem sQ:eX X (binaryOp .Sub) (zY fun i j=>.int (i - j)):=Gg fun _ _ _ _ _ _ _ q=>sub_int q
theorem eR:eX X (binaryOp .Mod) (rI (fun _ j=>0 < j) fun i j=>.int (i % j)):=He fun i j _ _ _ _ _ hc q=>by
 have h1:(0:Int) < j:=hc
 exact mod_int' (by omega) (by rw [Int.fmod_eq_emod_of_nonneg i (by omega)];exact q)
theorem yp:eX X (binaryOp .Pow) (rI Ir fun i j=>.int (i ^ j.toNat)):=He fun _ _ _ _ _ _ _ hc q=>pow_int_small hc.1 hc.2.1 hc.2.2 q
theorem JC {f:Value→Sem Value} {g:Int→Int}
  (rule:∀ (i:Int) (t:Tok) (s:Shared) (Q:Value→Shared→Prop) (E:Value→Shared→Prop),Q (.int (g i) s.toks) { s with toks:=s.toks + 1 }→wpAny (model X.prog X.w) X.A (f (.int i t)) Q E s) :
  rY X f (rU fun i=>.int (g i)):=by
 intro pins s σ H x v Q I rx h
 obtain ⟨i,rfl,q⟩:=h
 obtain ⟨t,rfl⟩:=rx
 exact rule i t s _ _ ⟨.int (g i),H,I.tok _,⟨_,rfl⟩,q⟩
theorem za:rY X (unaryOp .USub) (rU fun i=>.int (-i)):=JC fun _ _ _ _ _ q=>neg_int q
end
def zH:V→V→Bool
 | .non,.non=>true | .non,.int _=>true | .int _,.non=>true | .non,.bl _=>true | .bl _,.non=>true | .non,.str _=>true | .str _,.non=>true
 | .int _,.int _=>true | .bl _,.bl _=>true | .str _,.str _=>true | .byt _,.byt _=>true
 | .int _,.str _=>true | .str _,.int _=>true | .bl _,.str _=>true | .str _,.bl _=>true
 | _,_=>false
def I9:R2:=fun x y H Q=>zH x y=true∧Q (.bl (decide (x=y))) H
def Jq:R2:=fun x y H Q=>zH x y=true∧Q (.bl (!decide (x=y))) H
theorem uL {i j:Int}:decide (V.int i=V.int j)=(i == j):=by
 rw [Bool.eq_iff_iff]
 simp
theorem yh {i j:Bool}:decide (V.bl i=V.bl j)=(i == j):=by
 rw [Bool.eq_iff_iff]
 simp
theorem ub {i j:Str}:decide (V.str i=V.str j)=(i == j):=by
 rw [Bool.eq_iff_iff]
 simp
theorem vb {i j:Array UInt8}:decide (V.byt i=V.byt j)=(i.toList == j.toList):=by
 rw [Bool.eq_iff_iff]
 cases i
 cases j
 simp
section
variable {X:Cx} {a b c:Expr} {ta tb tc:TE} {pos:Pos}
theorem a7 {pins:List (Addr × Obj)} {σ:St} {H:Hp} {s:Shared} {Q:VK} {k k':Bool} (I:Inv X pins σ H s) (q:Q (.bl k) H) (e:k=k'):EP X pins σ Q (.bool k') s:=by
 subst e
 exact ⟨.bl k,H,I,rfl,q⟩
theorem yC:eX X (compareOp .Eq) I9:=by
 intro pins s σ H x y v u Q I rx ry h
 obtain ⟨hs,q⟩:=h
 cases x with
 | non =>
  cases rx
  cases y with
  | non=>cases ry;exact PySem.EqNone.eq_none_none (a7 I q (by simp))
  | bl j=>cases ry;exact PySem.EqNone.eq_none_bool (a7 I q (by simp))
  | int j=>obtain ⟨t',rfl⟩:=ry;exact PySem.EqNone.eq_none_int (a7 I q (by simp))
  | str j=>obtain ⟨t',rfl⟩:=ry;exact PySem.EqNone.eq_none_str (a7 I q (by simp))
  | _=>exact absurd (show false=true from hs) Bool.false_ne_true
 | bl i =>
  cases rx
  cases y with
  | non=>cases ry;exact PySem.EqNone.eq_bool_none (a7 I q (by simp))
  | bl j=>cases ry;exact eq_bool (a7 I q yh)
  | str j=>obtain ⟨t',rfl⟩:=ry;exact PySem.EqMixed.eq_bool_str (a7 I q (by simp))
  | _=>exact absurd (show false=true from hs) Bool.false_ne_true
 | int i =>
  obtain ⟨t,rfl⟩:=rx
  cases y with
  | non=>cases ry;exact PySem.EqNone.eq_int_none (a7 I q (by simp))
  | int j=>obtain ⟨t',rfl⟩:=ry;exact eq_int (a7 I q uL)
  | str j=>obtain ⟨t',rfl⟩:=ry;exact PySem.EqMixed.eq_int_str (a7 I q (by simp))
  | _=>exact absurd (show false=true from hs) Bool.false_ne_true
 | str i =>
  obtain ⟨t,rfl⟩:=rx
  cases y with
  | non=>cases ry;exact PySem.EqNone.eq_str_none (a7 I q (by simp))
  | bl j=>cases ry;exact PySem.EqMixed.eq_str_bool (a7 I q (by simp))
  | int j=>obtain ⟨t',rfl⟩:=ry;exact PySem.EqMixed.eq_str_int (a7 I q (by simp))
  | str j=>obtain ⟨t',rfl⟩:=ry;exact eq_str (a7 I q ub)
  | _=>exact absurd (show false=true from hs) Bool.false_ne_true
 | byt i =>
  obtain ⟨t,rfl⟩:=rx
  cases y with
  | byt j=>obtain ⟨t',rfl⟩:=ry;exact PySem.W.eq_bytes (a7 I q vb)
  | _=>exact absurd (show false=true from hs) Bool.false_ne_true
 | _=>cases y <;> exact absurd (show false=true from hs) Bool.false_ne_true
theorem Ce:eX X (compareOp .NotEq) Jq:=by
 intro pins s σ H x y v u Q I rx ry h
 obtain ⟨hs,q⟩:=h
 cases x with
 | non =>
  cases rx
  cases y with
  | non=>cases ry;exact PySem.EqNone.ne_none_none (a7 I q (by simp))
  | bl j=>cases ry;exact PySem.EqNone.ne_none_bool (a7 I q (by simp))
  | int j=>obtain ⟨t',rfl⟩:=ry;exact PySem.EqNone.ne_none_int (a7 I q (by simp))
  | str j=>obtain ⟨t',rfl⟩:=ry;exact PySem.EqNone.ne_none_str (a7 I q (by simp))
  | _=>exact absurd (show false=true from hs) Bool.false_ne_true
 | bl i =>
  cases rx
  cases y with
  | non=>cases ry;exact PySem.EqNone.ne_bool_none (a7 I q (by simp))
  | bl j=>cases ry;exact ne_bool (a7 I q (congrArg not yh))
  | str j=>obtain ⟨t',rfl⟩:=ry;exact PySem.EqMixed.ne_bool_str (a7 I q (by simp))
  | _=>exact absurd (show false=true from hs) Bool.false_ne_true
 | int i =>
  obtain ⟨t,rfl⟩:=rx
  cases y with
  | non=>cases ry;exact PySem.EqNone.ne_int_none (a7 I q (by simp))
  | int j=>obtain ⟨t',rfl⟩:=ry;exact ne_int (a7 I q (congrArg not uL))
  | str j=>obtain ⟨t',rfl⟩:=ry;exact PySem.EqMixed.ne_int_str (a7 I q (by simp))
  | _=>exact absurd (show false=true from hs) Bool.false_ne_true
 | str i =>
  obtain ⟨t,rfl⟩:=rx
  cases y with
  | non=>cases ry;exact PySem.EqNone.ne_str_none (a7 I q (by simp))
  | bl j=>cases ry;exact PySem.EqMixed.ne_str_bool (a7 I q (by simp))
  | int j=>obtain ⟨t',rfl⟩:=ry;exact PySem.EqMixed.ne_str_int (a7 I q (by simp))
  | str j=>obtain ⟨t',rfl⟩:=ry;exact ne_str (a7 I q (congrArg not ub))
  | _=>exact absurd (show false=true from hs) Bool.false_ne_true
 | byt i =>
  obtain ⟨t,rfl⟩:=rx
  cases y with
  | byt j=>obtain ⟨t',rfl⟩:=ry;exact PySem.W.ne_bytes (a7 I q (congrArg not vb))
  | _=>exact absurd (show false=true from hs) Bool.false_ne_true
 | _=>cases y <;> exact absurd (show false=true from hs) Bool.false_ne_true
theorem vj:eX X (compareOp .Lt) (zY fun i j=>.bl (decide (i < j))):=A4 fun _ _ _ _ _ _ _ q=>lt_int q
theorem CO:eX X (compareOp .LtE) (zY fun i j=>.bl (decide (i≤j))):=A4 fun _ _ _ _ _ _ _ q=>le_int q
theorem CF:eX X (compareOp .Gt) (zY fun i j=>.bl (decide (j < i))):=A4 fun _ _ _ _ _ _ _ q=>gt_int q
theorem CK:eX X (compareOp .GtE) (zY fun i j=>.bl (decide (j≤i))):=A4 fun _ _ _ _ _ _ _ q=>ge_int q
theorem wo:eX X (compareOp .Lt) (fun x y H Q=>∃ i j,x=.str i∧y=.str j∧Q (.bl (decide (i.cps.toList < j.cps.toList))) H):=by
 intro pins s σ H x y v u Q I rx ry h
 obtain ⟨i,j,rfl,rfl,q⟩:=h
 obtain ⟨t,rfl⟩:=rx
 obtain ⟨t',rfl⟩:=ry
 exact lt_str (a7 I q rfl)
theorem Em:eX X (compareOp .Is) (fun x y H Q=>y=.non∧Q (.bl (decide (x=.non))) H):=by
 intro pins s σ H x y v u Q I rx ry h
 obtain ⟨rfl,q⟩:=h
 cases ry
 refine is_none_gen (a7 I q ?_)
 cases x <;> first
  | (cases rx;rfl)
  | (obtain ⟨t,rfl⟩:=rx;rfl)
theorem BJ:eX X (compareOp .IsNot) (fun x y H Q=>y=.non∧Q (.bl (!decide (x=.non))) H):=by
 intro pins s σ H x y v u Q I rx ry h
 obtain ⟨rfl,q⟩:=h
 cases ry
 refine isnot_none_gen (a7 I q ?_)
 cases x <;> first
  | (cases rx;rfl)
  | (obtain ⟨t,rfl⟩:=rx;rfl)
theorem ax (b:Expr) {op:CmpOp} (h:op≠.In:=by decide) (h2:op≠.NotIn:=by decide):behindInMarks op b=false:=by
 have e1:(op == CmpOp.In)=false:=by cases op <;> first | rfl | exact absurd rfl h
 have e2:(op == CmpOp.NotIn)=false:=by cases op <;> first | rfl | exact absurd rfl h2
 cases b <;> simp [behindInMarks,e1,e2]
theorem k6 {op:CmpOp} {r:R2} (ho:eX X (compareOp op) r) (ha:PE X a ta) (hb:PE X b tb) (hm:behindInMarks op b=false):PE X (.Compare a [op] [b] pos) (zI r ta tb):=by
 intro pins s σ H Q I h
 exact wpAny_Compare1 (C1 ha hb I h fun v u s2 x y H2 I2 rx ry q=>ho pins s2 σ H2 x y v u Q I2 rx ry q) hm
def tS (t:TE):TT:=fun σ H Q=>t σ H fun x H'=>∃ k,x=.bl k∧Q k H'
theorem cK {op:CmpOp} {r:R2} (ho:eX X (compareOp op) r) (ha:PE X a ta) (hb:PE X b tb) (hm:behindInMarks op b=false):PT X (.Compare a [op] [b] pos) (tS (zI r ta tb)):=by
 intro pins s σ H Q I h
 refine wpAny_isTrue_Compare1 (bB (ha pins s σ H _ I h) fun v s1 ⟨x,H1,I1,r1,q1⟩=>bB (hb pins s1 σ H1 _ I1 q1) fun u s2 ⟨y,H2,I2,r2,q2⟩ =>
  bB (ho pins s2 σ H2 x y v u _ I2 r1 r2 q2) fun c s3 ⟨z,H3,I3,r3,k,e,q3⟩=>?_) hm
 subst e
 cases r3
 exact wpAny_truthy_bool ⟨H3,I3,q3⟩
def xo (r r':R2) (ta tb tc:TE):TE:=fun σ H Q=>ta σ H fun x H1=>tb σ H1 fun y H2=>r x y H2 fun z H3=>∃ k,z=.bl k ∧
 (if k=true then tc σ H3 fun w' H4=>r' y w' H4 Q else Q (.bl false) H3)
theorem yN {op op':CmpOp} {r r':R2} (ho:eX X (compareOp op) r) (ho':eX X (compareOp op') r') (ha:PE X a ta) (hb:PE X b tb) (hc:PE X c tc)
  (hm:lastMarks [op,op'] [b,c]=false:=by with_unfolding_all rfl):PE X (.Compare a [op,op'] [b,c] pos) (xo r r' ta tb tc):=by
 intro pins s σ H Q I h
 refine Compare_chain (bB (ha pins s σ H _ I h) fun v s1 ⟨x,H1,I1,r1,q1⟩=>chain_link (bB (hb pins s1 σ H1 _ I1 q1) fun u s2 ⟨y,H2,I2,r2,q2⟩ =>
  bB (ho pins s2 σ H2 x y v u _ I2 r1 r2 q2) fun d s3 ⟨z,H3,I3,r3,k,e,q3⟩=>?_)) hm
 subst e
 cases r3
 refine wpAny_truthy_bool ?_
 cases k with
 | false=>exact ite_ff ⟨.bl false,H3,I3,rfl,q3⟩
 | true=>exact ite_tt (chain_last (bB (hc pins s3 σ H3 _ I3 q3) fun w' s4 ⟨z',H4,I4,r4,q4⟩=>ho' pins s4 σ H4 y z' u w' Q I4 r2 r4 q4))
def C7 (K:PySem.W.Frag) (x:V) (H:Hp) (k:Bool):Prop :=
 match x with
 | .non=>k=false
 | .bl b=>k=b
 | .int i=>k=(i != 0)
 | .str y=>y.length≤sizeLine∧k=((y.length:Int) != 0)
 | .byt y=>y.size≤sizeLine∧k=((y.size:Int) != 0)
 | .ref p=>(∃ xs,cg K H p xs∧k=!xs.isEmpty)∨(∃ xs,fA K H p xs∧k=!xs.isEmpty)∨∃ kvs ep,H p=some (.dE kvs ep)∧k=!kvs.isEmpty
 | _=>False
theorem tM {κ:Type} {kvs:List (κ × V)} {vs:List (κ × Value)} (r:KV kvs vs):(!vs.isEmpty)=!kvs.isEmpty:=by
 cases r <;> rfl
theorem mq {xs:List V} {its:List Value} (r:Vals xs its):(!its.toArray.isEmpty)=!xs.isEmpty:=by
 cases r <;> simp
theorem iL:(sizeLine:Nat) < 2 ^ 63:=by rw [sizeLine_eq];decide
theorem Du:IK X (fun x H Q=>∃ k,C7 X.K x H k∧Q k H):=by
 intro pins s σ H x v Q I rx h
 obtain ⟨k,e,q⟩:=h
 have hl:=iL
 have hs:sizeLine=16777216:=sizeLine_eq
 cases x with
 | non =>
  cases rx
  have e':k=false:=e
  subst e'
  exact truthy_none ⟨H,I,q⟩
 | bl b =>
  cases rx
  have e':k=b:=e
  subst e'
  exact wpAny_truthy_bool ⟨H,I,q⟩
 | int i =>
  obtain ⟨t,rfl⟩:=rx
  have e':k=(i != 0):=e
  subst e'
  exact PySem.P.truthy_int ⟨H,I,q⟩
 | str y =>
  obtain ⟨t,rfl⟩:=rx
  obtain ⟨hy,e'⟩:y.length≤sizeLine∧k=((y.length:Int) != 0):=e
  subst e'
  exact PySem.P.truthy_str (by omega) ⟨H,I.tok _,q⟩
 | byt y =>
  obtain ⟨t,rfl⟩:=rx
  obtain ⟨hy,e'⟩:y.size≤sizeLine∧k=((y.size:Int) != 0):=e
  subst e'
  exact PySem.W.truthy_bytes (by omega) ⟨H,I.tok _,q⟩
 | ref p =>
  cases rx
  have e':(∃ xs,cg X.K H p xs∧k=!xs.isEmpty)∨(∃ xs,fA X.K H p xs∧k=!xs.isEmpty)∨∃ kvs ep,H p=some (.dE kvs ep)∧k=!kvs.isEmpty:=e
  rcases e' with ⟨xs,hx,e'⟩ | ⟨xs,hx,e'⟩ | ⟨kvs,ep,hx,e'⟩
  ·subst e'
   obtain ⟨its,r,pl,hz⟩:=I.list hx
   have hlen:=r.length
   exact wpAny_truthy_list pl.isList (by simp only [List.size_toArray];omega) ⟨H,I.tok _,by rw [mq r];exact q⟩
  ·subst e'
   obtain ⟨its,r,pl,hz⟩:=I.tuple hx
   have hlen:=r.length
   exact truthy_tuple pl (by simp only [List.size_toArray];omega) ⟨H,I.tok _,by rw [mq r];exact q⟩
  ·subst e'
   obtain ⟨hz,hS,vs,r,m⟩:kvs.length≤sizeLine∧(p == sysModules)=false∧∃ vs,KV kvs vs∧s.heap.DictAt (strKind X.prog X.w) p vs ep:=I.hok p _ hx
   have hlen:kvs.length=vs.length:=Paired.length r
   exact wpAny_truthy_dict hS m.dictOf (by omega) ⟨H,I.tok _,by rw [tM r];exact q⟩
 | _=>exact (show False from e).elim
theorem xS (ha:PE X a ta) (he:∀ whole,isTrue a X.env whole=(do let v ← whole;standAt a.pos;holding [v] (truthy v))) :
  PT X a (fun σ H Q=>ta σ H fun x H'=>∃ k,C7 X.K x H' k∧Q k H'):=by
 intro pins s σ H Q I h
 exact isTrue_plain (bB (ha pins s σ H _ I h) fun v s1 ⟨x,H1,I1,r1,q1⟩=>Du pins s1 σ H1 x v Q I1 r1 q1) (he _)
theorem vals1 {x:V} {us:List Value} (r:Vals [x] us):∃ u,us=[u]∧RelV x u:=by
 cases r with
 | cons r1 r2=>cases r2;exact ⟨_,rfl,r1⟩
theorem vals2 {x y:V} {us:List Value} (r:Vals [x,y] us):∃ u w',us=[u,w']∧RelV x u∧RelV y w':=by
 cases r with
 | cons r1 r2 =>
  cases r2 with
  | cons r3 r4=>cases r4;exact ⟨_,_,rfl,r1,r3⟩
theorem jf:cf X (.builtin "abs") (fun xs H Q=>∃ i,xs=[.int i]∧Q (.int (if i < 0 then -i else i)) H):=by
 intro pins s σ H xs us Q I r h
 obtain ⟨i,rfl,q⟩:=h
 obtain ⟨u,rfl,t,rfl⟩:=vals1 r
 exact call_abs_int fun u tk=>⟨.int (if i < 0 then -i else i),H,I.tok _,⟨_,rfl⟩,q⟩
end
end L2
namespace L2
open PySem PySem.Spec PyProof.Rows
structure sT (h:Heap) (x dx C:Addr) (mA:Str→Option Value):Prop where
 obj:h.get? x=some (PySem.W.instObj C dx)
 ns:h.Ns1 dx mA
 ne:dx≠x
theorem we {h:Heap} {dx:Addr} {mA:Str→Option Value} (n:h.Ns1 dx mA):∃ od,h.get? dx=some od∧∀ name,PySem.W.lookIn name od=some (mA name):=by
 obtain ⟨o,es,ep,ho,hd,hk,_,hm⟩:=n
 refine ⟨o,ho,fun name=>?_⟩
 have e:=hm name
 unfold nsFind findBy at e
 rw [← Array.find?_toList] at e
 unfold PySem.W.lookIn
 rw [hd]
 dsimp only
 split
 ·rename_i y q
  rw [q] at e
  exact congrArg some e
 ·rename_i q
  rw [q] at e
  have a:es.toList.any (·.refKey)=false:=by
   rw [List.any_eq_false]
   intro y hy
   obtain ⟨z,t,hkey⟩:=hk y (Array.mem_toList_iff.mp hy)
   simp [DictEntry.refKey,hkey]
  have a':¬ es.toList.any (·.refKey)=true:=by rw [a];exact Bool.false_ne_true
  rw [if_neg a']
  exact congrArg some e
theorem sT.look {h:Heap} {x dx C:Addr} {mA:Str→Option Value} (I:sT h x dx C mA):∃ od,PySem.W.InstAt h x (PySem.W.instObj C dx) C (some od)∧∀ name,PySem.W.lookIn name od=some (mA name) :=
 let ⟨od,ho,hl⟩:=we I.ns
 ⟨od,⟨I.obj,rfl,rfl,ho⟩,hl⟩
section
variable {prog:Program} {w:World} {A:Around} {E:Value→Shared→Prop} {s:Shared} {K:PySem.W.Frag} {x dx C f:Addr} {mA:Str→Option Value} {name:Str} {v:Value}
theorem get_map {expr:Bool} {Q:Value→Shared→Prop} (X:K.In s.heap) (I:sT s.heap x dx C mA) (hg:PySem.W.plainGet K C name=true) (hh:PySem.W.hasDictIn K C=true)
  (ha:PySem.W.findIn K (.ref C) name=some none) (hv:mA name=some v) (hv':PySem.W.handedIn v=true) (h:Q v { s with toks:=s.toks + 1 }) :
  wpAny (model prog w) A (getAttr (.ref x) name expr) Q E s:=by
 obtain ⟨od,J,hl⟩:=I.look
 exact PySem.W.get_value X J (PySem.W.plainGet_of hg).1 (PySem.W.findObj_own hh ha rfl (by rw [hl,hv])) hv' h
theorem yb {pl:Sem Bool} {Q:Value × List Value→Shared→Prop} (X:K.In s.heap) (I:sT s.heap x dx C mA) (hg:PySem.W.plainGet K C name=true)
  (hf:PySem.W.findIn K (.ref C) name=some (some (.ref f))) (ht:PySem.W.isFn K (.ref f)=true) (hv:mA name=none) (h:Q (.ref f,[.ref x]) s) :
  wpAny (model prog w) A (getMethod (.ref x) name pl) Q E s:=by
 obtain ⟨od,J,hl⟩:=I.look
 exact PySem.W.method_fn X J (PySem.W.plainGet_of hg).1 (PySem.W.plainGet_of hg).2 hf (beq_iff_eq.mp ht) (by show (PySem.W.lookIn name od).map (·.isSome)=some false;rw [hl,hv];rfl) h
theorem AQ {ns:List Str} {Q:Unit→Shared→Prop} (X:K.In s.heap) (I:sT s.heap x dx C mA)
  (hs:PySem.W.findIn K (.ref C) "__setattr__"=some (some (.builtin "object.__setattr__"))) (hp:PySem.W.plainOver K C=true) (ht:PySem.W.takerIn K C name=some none) (hh:PySem.W.hasDictIn K C=true)
  (hw:PySem.Within mA ns) (hsz:ns.length≤sizeLine)
  (h:∀ h',sT h' x dx C (fun y=>if y=name then some v else mA y)→Heap.SameBut dx s.heap h'→Q () { s with heap:=h',toks:=s.toks + 2 }) :
  wpAny (model prog w) A (setAttr (.ref x) name v) Q E s:=by
 obtain ⟨od,J,hl⟩:=I.look
 refine PySem.W.set_plain X J hs (PySem.W.osa_open (s:={ s with toks:=s.toks + 1 }) (r:=none) X J hp ht fun b=>?_)
 obtain ⟨cd,hc,hd'⟩:=PySem.W.any_some hh
 have hx:s.heap.get? x=some ⟨.ref C,some dx,.plain,#[]⟩:=I.obj
 refine wpAny_bind (wpAny_pure (wpAny_bind (wpAny_bind (wpAny_loadPart hx (wpAny_bind (PySem.W.Looks.here (s:={ s with toks:=s.toks + 1 }) (PySem.W.looks_clsIn X hc) ?_))))))
 rw [hd']
 refine wpAny_pure (a:=some dx) (wpAny_bind (wpAny_pure (wpAny_bind ?_)))
 refine wpAny_nsSet1 (s:={ s with toks:=s.toks + 1 }) I.ns fun h' hn2 hs2=>?_
 obtain ⟨oD,esD,epD,hoD,hdD,hcD⟩:=hn2.count (PySem.Within.cons name v hw)
 refine wpAny_bind (wpAny_lookBehind hoD (by rw [hdD];exact pastItsLine_dict (Nat.le_trans hcD (by rw [List.length_cons];omega))) ?_)
 exact wpAny_pure (h _ ⟨(hs2.2 _ (Ne.symm I.ne)).trans I.obj,hn2,I.ne⟩ hs2)
theorem zR {R:Result→Shared→Prop} {vs:List Value} {kw:List (Str × Value)} (X:K.In s.heap) (hm:PySem.W.makesIn K C=true)
  (hi:PySem.W.findIn K (.ref C) "__init__"=some (some (.ref f))) (hf:PySem.W.typeIn K (.ref f)=some (.type "function"))
  (h:codeAny (model prog w) (A.under (.builtin "type.__call__" ⟨.ref C :: vs,kw⟩)) (.call (.ref f) ⟨.ref (s.heap.objs.size + 1) :: vs,kw⟩) (PySem.W.InitBack (s.heap.objs.size + 1) R)
   { s with heap:=(s.heap.push PySem.W.emptyDict).push (PySem.W.instObj C s.heap.objs.size) }) :
  codeAny (model prog w) A (.call (.ref C) ⟨vs,kw⟩) R s:=by
 obtain ⟨hh,g,d,t,os⟩:=s
 exact PySem.W.make_core (PySem.W.makes_of X hm) (PySem.W.looks_findIn X hi) (fun self=>PySem.W.bind_fn X self hf) (.inl rfl) h
end
def dI (f:Str) (v:V):List (Str × V)→List (Str × V)
 | []=>[(f,v)]
 | (g,x) :: r=>if g=f then (g,v) :: r else (g,x) :: dI f v r
theorem kr (f g:Str) (v:V):∀ fs:List (Str × V),(dI f v fs).lookup g=if g=f then some v else fs.lookup g
 | []=>by
  show List.lookup g [(f,v)]=_
  by_cases h:g=f
  ·have hb:(g == f)=true:=beq_iff_eq.mpr h
   simp only [List.lookup,hb,if_pos h]
  ·have hb:(g == f)=false:=beq_eq_false_iff_ne.mpr h
   simp only [List.lookup,hb,if_neg h]
 | (k,x) :: r=>by
  have ih:=kr f g v r
  rw [show dI f v ((k,x) :: r)=(if k=f then (k,v) :: r else (k,x) :: dI f v r) from rfl]
  by_cases hk:k=f
  ·rw [if_pos hk]
   by_cases h:g=k
   ·have hb:(g == k)=true:=beq_iff_eq.mpr h
    simp only [List.lookup,hb,if_pos (h.trans hk)]
   ·have hb:(g == k)=false:=beq_eq_false_iff_ne.mpr h
    simp only [List.lookup,hb,if_neg (fun e:g=f=>h (e.trans hk.symm))]
  ·rw [if_neg hk]
   by_cases h:g=k
   ·have hb:(g == k)=true:=beq_iff_eq.mpr h
    simp only [List.lookup,hb,if_neg (fun e:g=f=>hk (h.symm.trans e))]
   ·have hb:(g == k)=false:=beq_eq_false_iff_ne.mpr h
    simp only [List.lookup,hb]
    exact ih
theorem j4 (f:Str) (v:V):∀ fs:List (Str × V),f∈(dI f v fs).map (·.1)∧∀ g,g∈fs.map (·.1)→g∈(dI f v fs).map (·.1)
 | []=>⟨by simp [dI],fun g h=>by simp at h⟩
 | (k,x) :: r=>by
  obtain ⟨i1,i2⟩:=j4 f v r
  rw [show dI f v ((k,x) :: r)=(if k=f then (k,v) :: r else (k,x) :: dI f v r) from rfl]
  by_cases hk:k=f
  ·rw [if_pos hk]
   subst hk
   exact ⟨by simp,fun g h=>by simpa using h⟩
  ·rw [if_neg hk]
   refine ⟨?_,fun g h=>?_⟩
   ·rw [List.map_cons]
    exact List.mem_cons_of_mem _ i1
   ·rw [List.map_cons] at h ⊢
    rcases List.mem_cons.mp h with e | e
    ·exact List.mem_cons.mpr (.inl e)
    ·exact List.mem_cons_of_mem _ (i2 g e)
theorem kF (f:Str) (v:V):∀ fs:List (Str × V),(dI f v fs).length≤fs.length + 1
 | []=>by simp [dI]
 | (k,x) :: r=>by
  have ih:=kF f v r
  rw [show dI f v ((k,x) :: r)=(if k=f then (k,v) :: r else (k,x) :: dI f v r) from rfl]
  by_cases hk:k=f
  ·rw [if_pos hk,List.length_cons,List.length_cons];omega
  ·rw [if_neg hk,List.length_cons,List.length_cons];omega
theorem m5.some_of {v:V} {o:Option Value} (r:m5 (some v) o):∃ u,o=some u∧RelV v u:=by
 cases o with
 | none=>exact (show False from r).elim
 | some u=>exact ⟨u,rfl,r⟩
theorem m5.none_of {o:Option Value} (r:m5 none o):o=none:=by
 cases o with
 | none=>rfl
 | some u=>exact (show False from r).elim
theorem vU {v:V} {u:Value} (r:RelV v u):PySem.W.handedIn u=true:=by
 cases v with
 | non=>cases (show u=Value.none from r);rfl
 | bl b=>cases (show u=Value.bool b from r);rfl
 | int i=>obtain ⟨t,e⟩:=(show ∃ t,u=Value.int i t from r);cases e;rfl
 | str x=>obtain ⟨t,e⟩:=(show ∃ t,u=Value.str x t from r);cases e;rfl
 | byt b=>obtain ⟨t,e⟩:=(show ∃ t,u=Value.bytes b t from r);cases e;rfl
 | flt b=>obtain ⟨t,e⟩:=(show ∃ t,u=Value.float b t from r);cases e;rfl
 | ref a=>cases (show u=Value.ref a from r);rfl
 | ty n=>cases (show u=Value.type n from r);rfl
section
variable {P:Program} {w:World} {H H':Hp} {h h':Heap} {a C dx:Addr} {fs fs':List (Str × V)}
theorem k9 (hok:iU P w H h) (e:H a=some (.ins C dx fs)):∃ mA,sT h a dx C mA∧(∀ f,m5 (fs.lookup f) (mA f))∧PySem.Within mA (fs.map (·.1))∧fs.length≤1000∧H dx=some (.own a):=by
 obtain ⟨d,z,ne,ob,mA,n,r,q⟩:=(show cn P w H h a (.ins C dx fs) from hok a _ e)
 exact ⟨mA,⟨ob,n,ne⟩,r,q,z,d⟩
end
structure lA (K:PySem.W.Frag) (C:Addr):Prop where
 pg:PySem.W.plainGet K C Str.empty=true
 hd:PySem.W.hasDictIn K C=true
 po:PySem.W.plainOver K C=true
 sa:PySem.W.findIn K (.ref C) "__setattr__"=some (some (.builtin "object.__setattr__"))
theorem lA.get {K:PySem.W.Frag} {C:Addr} (c:lA K C) (f:Str):PySem.W.plainGet K C f=true:=c.pg
def az (K:PySem.W.Frag) (C:Addr) (f:Str):Prop:=PySem.W.findIn K (.ref C) f=some none
theorem az.Gh {K:PySem.W.Frag} {C:Addr} {f:Str} (n:az K C f):PySem.W.takerIn K C f=some none:=by
 unfold PySem.W.takerIn
 rw [show PySem.W.findIn K (.ref C) f=some none from n]
 rfl
structure Meth (K:PySem.W.Frag) (C:Addr) (m:Str) (f:Addr):Prop where
 at_:PySem.W.findIn K (.ref C) m=some (some (.ref f))
 fn:PySem.W.isFn K (.ref f)=true
 kp:PySem.W.keepIn K (.ref f)=true
section
variable {X:Cx} {pins:List (Addr × Obj)} {σ:St} {H:Hp} {s:Shared} {a C dx:Addr} {fs:List (Str × V)} {f:Str} {v:V} {A:Around} {E:Value→Shared→Prop}
theorem tu {b:Bool} {Q:Value→Shared→Prop} (I:Inv X pins σ H s) (e:H a=some (.ins C dx fs)) (c:lA X.K C) (n:az X.K C f) (l:fs.lookup f=some v)
  (h:∀ u s',Inv X pins σ H s'→RelV v u→Q u s'):wpAny (model X.prog X.w) A (getAttr (.ref a) f b) Q E s:=by
 obtain ⟨mA,O,r,_,_,_⟩:=k9 I.hok e
 obtain ⟨u,hu,ru⟩:=m5.some_of (v:=v) (o:=mA f) (by rw [← l];exact r f)
 exact get_map I.jl O (c.get f) c.hd n hu (vU ru) (h u _ (I.tok _) ru)
theorem lD {m:Str} {g:Addr} {pl:Sem Bool} {Q:Value × List Value→Shared→Prop} (I:Inv X pins σ H s) (e:H a=some (.ins C dx fs)) (c:lA X.K C) (k:Meth X.K C m g) (l:fs.lookup m=none)
  (h:Q (.ref g,[.ref a]) s):wpAny (model X.prog X.w) A (getMethod (.ref a) m pl) Q E s:=by
 obtain ⟨mA,O,r,_,_,_⟩:=k9 I.hok e
 have hn:mA m=none:=m5.none_of (by rw [← l];exact r m)
 exact yb I.jl O (c.get m) k.at_ k.fn hn h
theorem sY {y:V} {u:Value} {Q:Unit→Shared→Prop} (I:Inv X pins σ H s) (e:H a=some (.ins C dx fs)) (c:lA X.K C) (n:az X.K C f) (hl:fs.length < 1000) (ry:RelV y u)
  (h:∀ s',Inv X pins σ (upd H a (.ins C dx (dI f y fs))) s'→Q () s'):wpAny (model X.prog X.w) A (setAttr (.ref a) f u) Q E s:=by
 obtain ⟨mA,O,r,wi,_,ho⟩:=k9 I.hok e
 have hz:(fs.map (·.1)).length≤sizeLine:=by rw [List.length_map,sizeLine_eq];omega
 refine AQ I.jl O c.sa c.po n.Gh c.hd wi hz fun h' O' sb=>h _ ?_
 have hd:∃ o,h'.get? dx=some o:=let ⟨o,_,_,e',_⟩:=O'.ns;⟨o,e'⟩
 refine I.write (x:=a) (e:=dx) (by rw [e];exact True.intro) (.inr ho) (fun b q hb z=>(sb.2 b hb).trans z) hd ?_
 refine ⟨by rw [aH O.ne];exact ho,?_,O.ne,O'.obj,_,O'.ns,fun g=>?_,fun g hg=>?_⟩
 ·have:=kF f y fs;omega
 ·show m5 ((dI f y fs).lookup g) (if g=f then some u else mA g)
  rw [kr]
  by_cases q:g=f
  ·rw [if_pos q,if_pos q];exact ry
  ·rw [if_neg q,if_neg q];exact r g
 ·by_cases q:g=f
  ·rw [q];exact (j4 f y fs).1
  ·refine (j4 f y fs).2 g (wi g fun z=>hg ?_)
   show (if g=f then some u else mA g)=none
   rw [if_neg q];exact z
theorem Inv.made (I:Inv X pins σ H s):Inv X pins σ (upd (upd H s.heap.objs.size (.own (s.heap.objs.size + 1))) (s.heap.objs.size + 1) (.ins C s.heap.objs.size []))
  { s with heap:=(s.heap.push PySem.W.emptyDict).push (PySem.W.instObj C s.heap.objs.size) }:=by
 have e1:(s.heap.push PySem.W.emptyDict).get? s.heap.objs.size=some PySem.W.emptyDict:=Heap.get?_push_size s.heap rfl
 have e2:((s.heap.push PySem.W.emptyDict).push (PySem.W.instObj C s.heap.objs.size)).get? (s.heap.objs.size + 1)=some (PySem.W.instObj C s.heap.objs.size):=by
  have:=Heap.get?_push_size (s.heap.push PySem.W.emptyDict) (o:=PySem.W.instObj C s.heap.objs.size) rfl
  rwa [Heap.size_push] at this
 have e3:(s.heap.push PySem.W.emptyDict).Ns s.heap.objs.size (fun _=>none):=⟨PySem.W.emptyDict,#[],_,e1,rfl,(fun e he=>absurd he (by simp)),fun _=>rfl⟩
 have I1:=I.laid (a:=s.heap.objs.size) (o:=.own (s.heap.objs.size + 1)) (h':=s.heap.push PySem.W.emptyDict) (t':=s.toks) (fun b u q=>Heap.get?_push_of_some _ q) (Nat.le_refl _) ⟨_,e1⟩
 refine I1.laid (a:=s.heap.objs.size + 1) (o:=.ins C s.heap.objs.size []) (t':=s.toks) (fun b u q=>Heap.get?_push_of_some _ q) (Nat.le_of_eq (Heap.size_push _ _)) ?_
 have ne:s.heap.objs.size≠s.heap.objs.size + 1:=Nat.ne_of_lt (Nat.lt_succ_self _)
 refine ⟨by rw [aH ne,ay],Nat.zero_le _,ne,e2,fun _=>none,(Heap.Ns1.of_empty e3).at fun o q=>Heap.get?_push_of_some _ q,fun _=>True.intro,fun y hy=>absurd rfl hy⟩
theorem Ap {prog:Program} {w:World} {env:Env} {e:Expr} {f:Str} {pos:Pos} {s:Shared} {Q:Value→Shared→Prop} (hb:attributeBase e f env (eval e env)=eval e env)
  (h:wpAny (model prog w) A (eval e env) (fun o s₁=>wpAny (model prog w) A (getAttr o f true) Q E s₁) E s):wpAny (model prog w) A (eval (.Attribute e f pos) env) Q E s :=
 Attribute_any_ h (by rw [arm_eval_Attribute,hb])
end
def Iu (K:PySem.W.Frag) (ta:TE) (f:Str):TE:=fun σ H Q=>ta σ H fun x H1=>∃ a C dx fs v,x=.ref a∧H1 a=some (.ins C dx fs)∧lA K C∧az K C f∧fs.lookup f=some v∧Q v H1
def Io (K:PySem.W.Frag) (ta tv:TE) (f:Str):TS:=fun D σ H=>tv σ H fun y H1=>ta σ H1 fun x H2=>∃ a C dx fs,x=.ref a∧H2 a=some (.ins C dx fs)∧lA K C∧az K C f∧fs.length < 1000 ∧
 D.nx σ (upd H2 a (.ins C dx (dI f y fs)))
section
variable {X:Cx} {o e value:Expr} {f:Str} {pos pos' tpos:Pos} {ta tv:TE}
theorem Ey (he:PE X e ta) (hb:attributeBase e f X.env (eval e X.env)=eval e X.env):PE X (.Attribute e f pos) (Iu X.K ta f):=by
 intro pins s σ H Q I h
 refine Ap hb (bB (he pins s σ H _ I h) fun u s1 ⟨x,H1,I1,rx,a,C,dx,fs,v,ex,ea,c,n,l,q⟩=>?_)
 subst ex
 obtain rfl:u=Value.ref a:=rx
 exact tu I1 ea c n l fun u' s2 I2 ru=>⟨v,H1,I2,ru,q⟩
theorem EC (ha:PE X o ta) (hv:PE X value tv) (hs:swapsWith value (some (.Attribute o f pos')) pos.line X.env=pure false):PS X (.Assign [.Attribute o f pos'] value pos) (Io X.K ta tv f):=by
 intro pins s σ H D I h
 refine plainObj_wpAny_Assign_Attribute (bB (hv pins s σ H _ I h) fun u s1 ⟨y,H1,I1,ry,q⟩=>bB (ha pins s1 σ H1 _ I1 q) fun ov s2 ⟨x,H2,I2,rx,a,C,dx,fs,ex,ea,c,n,l,q2⟩=>?_) hs
 subst ex
 obtain rfl:ov=Value.ref a:=rx
 exact sY I2 ea c n l ry fun s3 I3=>⟨σ,_,I3,q2⟩
end
section
variable {X:Cx} {pins:List (Addr × Obj)} {σ:St} {H:Hp} {s:Shared} {A:Around} {E:Value→Shared→Prop} {Q:Value→Shared→Prop} {c:Value} {b:Bool}
inductive fb (K:PySem.W.Frag) (H:Hp):V→Value→Prop where
 | non:fb K H .non (.type "NoneType")
 | bl (x:Bool):fb K H (.bl x) (.type "bool")
 | int (i:Int):fb K H (.int i) (.type "int")
 | str (x:Str):fb K H (.str x) (.type "str")
 | flt (x:UInt64):fb K H (.flt x) (.type "float")
 | lst {a:Addr} {xs:List V} (e:H a=some (.lst xs)):fb K H (.ref a) (.type "list")
 | m3 {a:Addr} {o:Obj} {xs:List V} (e:H a=some (.m3 o (.lst xs))):fb K H (.ref a) (.type "list")
 | tup {a:Addr} {xs:List V} (e:H a=some (.tup xs)):fb K H (.ref a) (.type "tuple")
 | dK {a:Addr} {kvs:List (Key × V)} (e:H a=some (.dK kvs)):fb K H (.ref a) (.type "dict")
 | dE {a:Addr} {kvs:List (Str × V)} {ep:Nat} (e:H a=some (.dE kvs ep)):fb K H (.ref a) (.type "dict")
 | ins {a C dx:Addr} {fs:List (Str × V)} (e:H a=some (.ins C dx fs)) (cl:lA K C) (ha:PySem.W.findIn K (.ref C) "__class__"=some (some (.builtin "object.__class__")))
   (hn:PySem.W.specialIn K (.builtin "object.__class__") "__get__"=some (some (.builtin "getset_descriptor.__get__"))) (htk:PySem.W.takesIn K (.builtin "object.__class__")=some true)
   (hm:PySem.W.mroIn K C (.type "object")=some true):fb K H (.ref a) (.ref C)
theorem vQ {x:V} {u t:Value} (I:Inv X pins σ H s) (rx:RelV x u) (ty:fb X.K H x t) (e:PySem.W.kitOne X.K t c=some b) (h:∀ tk,Q (.bool b) { s with toks:=tk }) :
  wpAny (model X.prog X.w) A (call (.builtin "isinstance") [u,c]) Q E s:=by
 cases ty with
 | non=>cases (show u=Value.none from rx);exact PySem.W.kia_one PySem.W.kitx_none I.jl True.intro e (fun z=>nomatch z) h
 | bl y=>cases (show u=Value.bool y from rx);exact PySem.W.kia_one PySem.W.kitx_bool I.jl True.intro e (fun z=>nomatch z) h
 | int i=>obtain ⟨t,q⟩:=(show ∃ t,u=Value.int i t from rx);cases q;exact PySem.W.kia_one PySem.W.kitx_int I.jl True.intro e (fun z=>nomatch z) h
 | str y=>obtain ⟨t,q⟩:=(show ∃ t,u=Value.str y t from rx);cases q;exact PySem.W.kia_one PySem.W.kitx_str I.jl True.intro e (fun z=>nomatch z) h
 | flt y=>obtain ⟨t,q⟩:=(show ∃ t,u=Value.float y t from rx);cases q;exact PySem.W.kia_one PySem.W.kitx_float I.jl True.intro e (fun z=>nomatch z) h
 | @lst a xs ea =>
  cases (show u=Value.ref a from rx)
  obtain ⟨_,_,n,_,h1⟩:=(show cn X.prog X.w H s.heap a (.lst xs) from I.hok a _ ea)
  exact PySem.W.kia_one PySem.W.kitx_list I.jl ⟨_,h1,rfl⟩ e (fun z=>nomatch z) h
 | @m3 a ob xs ea =>
  cases (show u=Value.ref a from rx)
  obtain ⟨_,_,_,n,_,h1⟩:=(show cn X.prog X.w H s.heap a (.m3 ob (.lst xs)) from I.hok a _ ea)
  exact PySem.W.kia_one PySem.W.kitx_list I.jl ⟨_,h1,rfl⟩ e (fun z=>nomatch z) h
 | @tup a xs ea =>
  cases (show u=Value.ref a from rx)
  obtain ⟨_,_,_,p⟩:=(show cn X.prog X.w H s.heap a (.tup xs) from I.hok a _ ea)
  obtain ⟨o,h1,h2,_⟩:=p
  exact PySem.W.kia_one PySem.W.kitx_tuple I.jl ⟨o,h1,h2⟩ e (fun z=>nomatch z) h
 | @dK a kvs ea =>
  cases (show u=Value.ref a from rx)
  obtain ⟨_,_,vs,_,p⟩:=(show cn X.prog X.w H s.heap a (.dK kvs) from I.hok a _ ea)
  obtain ⟨o,es,ep,h1,h2,_⟩:=p
  exact PySem.W.kia_one PySem.W.kitx_dict I.jl ⟨o,h1,h2.1⟩ e (fun z=>nomatch z) h
 | @dE a kvs ep ea =>
  cases (show u=Value.ref a from rx)
  obtain ⟨_,_,vs,_,o,es,h1,h2,_⟩:=(show cn X.prog X.w H s.heap a (.dE kvs ep) from I.hok a _ ea)
  exact PySem.W.kia_one PySem.W.kitx_dict I.jl ⟨o,h1,h2.1⟩ e (fun z=>nomatch z) h
 | @ins a C dx fs ea cl ha hn htk hm =>
  cases (show u=Value.ref a from rx)
  obtain ⟨mA,O,_⟩:=k9 I.hok ea
  obtain ⟨od,J,_⟩:=O.look
  exact PySem.W.kia_one (PySem.W.kitx_own (cl.get _) cl.hd ha hn htk hm) I.jl J e (fun z=>nomatch z) h
end
end L2
namespace L2
open PySem PySem.Spec PyProof.Rows
structure bj (k:Nat) (A:Around):Prop where
 hd:A.handled=none
 dp:A.depth + 3 * k + 5 < recursionLimit
 un:A.units + 16 * k + 200 < cLine
theorem bj.mono {j k:Nat} {A:Around} (r:bj k A) (h:j≤k):bj j A:=⟨r.hd,by have:=r.dp;omega,by have:=r.un;omega⟩
theorem bj.deeper {k:Nat} {A:Around} (r:bj (k + 1) A) (env:Env):bj k (A.deeper env) :=
 ⟨r.hd,by have:=r.dp;show A.depth + 1 + 3 * k + 5 < _;omega,by have:=r.un;show A.units + 3 + 16 * k + 200 < _;omega⟩
theorem bj.in1 {k:Nat} {A:Around} (r:bj (k + 1) A):bj k A.in1 :=
 ⟨r.hd,by have:=r.dp;show A.depth + 3 * k + 5 < _;omega,by have:=r.un;show A.units + 1 + 16 * k + 200 < _;omega⟩
theorem tL {A:Around} {C:Addr} {us:List Value} {kw:List (Str × Value)}:(A.under (.builtin "type.__call__" ⟨.ref C :: us,kw⟩)).depth=A.depth + 1:=by
 first | rfl | simp [Around.under,Code.weight,Code.isCreation,Code.isGuard,Code.isCaller,Code.frames,Code.isFrame,guardIds]
theorem tP {A:Around} {C:Addr} {us:List Value} {kw:List (Str × Value)}:(A.under (.builtin "type.__call__" ⟨.ref C :: us,kw⟩)).units=A.units + 1:=by
 first | rfl | simp [Around.under,Code.cUnits,Code.frames,Code.isFrame]
theorem bj.make {k:Nat} {A:Around} (r:bj (k + 1) A) (C:Addr) (us:List Value) (kw:List (Str × Value)):bj k (A.under (.builtin "type.__call__" ⟨.ref C :: us,kw⟩)) :=
 ⟨r.hd,by have:=r.dp;rw [tL];omega,by have:=r.un;rw [tP];omega⟩
theorem bj.depth {k:Nat} {A:Around} (r:bj k A):A.depth < recursionLimit:=by have:=r.dp;omega
theorem bj.units {k:Nat} {A:Around} (r:bj k A):A.units + 64 < cLine:=by have:=r.un;omega
theorem bj.D8 {k:Nat} {A:Around} (r:bj k A):A.units < cLine:=by have:=r.un;omega
def sj:TA:=fun _ H Q=>Q [] H
def rV (ta:TE) (tr:TA):TA:=fun σ H Q=>ta σ H fun x H1=>tr σ H1 fun xs H2=>Q (x :: xs) H2
section
variable {X:Cx} {e:Expr} {es:List Expr} {te:TE} {t:TA} {pos:Pos}
theorem bc:PA X [] sj:=fun _ _ _ _ H Q I h=>Calls.spliced_nil ⟨[],H,I,.nil,h⟩
theorem aL (ha:PE X e te) (hr:PA X es t) (hs:starEach (e :: es) X.env=(false,eval e X.env) :: starEach es X.env:=by rfl):PA X (e :: es) (rV te t):=by
 intro pos pins s σ H Q I h
 rw [hs]
 show wpAny _ _ (spliced ((false,eval e X.env) :: backTo pos (starEach es X.env))) _ _ s
 refine Calls.spliced_cons (bB (ha pins s σ H _ I h) fun u s1 ⟨x,H1,I1,r1,q1⟩=>?_)
 exact bB (hr pos pins s1 σ H1 _ I1 q1) fun us s2 ⟨xs,H2,I2,r2,q2⟩=>⟨x :: xs,H2,I2,.cons r1 r2,q2⟩
def Bq (t:TA):TE:=fun σ H Q=>t σ H fun xs H1=>xs.length≤sizeLine∧∀ p,H1 p=none→Q (.ref p) (upd H1 p (.tup xs))
def yf (t:TA):TE:=fun σ H Q=>t σ H fun xs H1=>xs.length≤sizeLine∧∀ p,H1 p=none→Q (.ref p) (upd H1 p (.lst xs))
theorem lO {x1} (h:PA X es t):PE X (.Tuple es x1 pos) (Bq t):=by
 intro pins s σ H Q I hq
 refine wpAny_Tuple_spliced (bB (h pos pins s σ H _ I hq) fun us s1 ⟨xs,H1,I1,r,z,q⟩=>⟨by rw [← r.length];exact z,?_⟩)
 have hf:H1 s1.heap.objs.size=none:=I1.hok.fresh (Nat.le_refl _)
 refine ⟨.ref s1.heap.objs.size,upd H1 s1.heap.objs.size (.tup xs),I1.laid (t':=s1.toks) (fun b u e=>Heap.get?_push_of_some _ e) (Nat.le_refl _) ?_,rfl,q _ hf⟩
 exact ⟨z,us,r,⟨_,Heap.get?_push_size _ rfl,rfl,_,rfl⟩⟩
theorem gJ (h:PA X es t):PE X (.List es pos) (yf t):=by
 intro pins s σ H Q I hq
 refine wpAny_List_spliced (bB (h pos pins s σ H _ I hq) fun us s1 ⟨xs,H1,I1,r,z,q⟩=>⟨by rw [← r.length];exact z,?_⟩)
 have hf:H1 s1.heap.objs.size=none:=I1.hok.fresh (Nat.le_refl _)
 refine ⟨.ref s1.heap.objs.size,upd H1 s1.heap.objs.size (.lst xs),I1.laid (t':=s1.toks) (fun b u e=>Heap.get?_push_of_some _ e) (Nat.le_refl _) ?_,rfl,q _ hf⟩
 exact ⟨z,us,0,r,Heap.get?_push_size _ rfl⟩
end
abbrev Sp:=List V→Hp→VK→XK→Prop
abbrev mz:=List Env→Hp→Shared→XK→Value→Shared→Prop
structure mZ (P:Program) (w:World) (K:PySem.W.Frag) (mg:Str→Option Value) (base:Heap) (A:Around) (outer:List Env) (s:Shared) (H:Hp):Prop where
 frames:A.frames=some outer
 mod:Mod K mg base
 bs:∀ b o,base.get? b=some o→s.heap.get? b=some o∧H b=none
 bsz:base.objs.size≤s.heap.objs.size
 jB:s.heap.FunFrames base outer
 frf:∀ b∈gB outer,H b=none
 hok:iU P w H s.heap
 bare:AllBare s.gens
def CE (outer:List Env) (P:Program) (w:World) (H:Hp) (s:Shared) (Q:VK) (u:Value) (s':Shared):Prop :=
 ∃ v H',s'.os=s.os∧AllBare s'.gens∧Un (gB outer) [] H H' s.heap s'.heap∧iU P w H' s'.heap∧RelV v u∧Q v H'
def CR (CX:mz) (outer:List Env) (P:Program) (w:World) (H:Hp) (s:Shared) (Q:VK) (E:XK) (r:Result) (s':Shared):Prop :=
 match r with
 | .ok (.ret u)=>CE outer P w H s Q u s'
 | .ok _=>False
 | .error e=>CX outer H s E e s'
structure aI (P:Program) (w:World) (K:PySem.W.Frag) (mg:Str→Option Value) (base:Heap) (CX:mz) (k:Nat) (f:Addr) (fd:FuncData) (ps:List Str) (sp:Sp):Prop where
 len:∀ vs H Q E,sp vs H Q E→vs.length=ps.length
 run:∀ (A:Around) (outer:List Env) (s:Shared) (H:Hp) (args:Args) (us:List Value) (vs:List V) (Q:VK) (E:XK),bj k A→mZ P w K mg base A outer s H→BindsTo s fd args (ps.zip us)→Vals vs us→sp vs H Q E →
  codeAny (model P w) A (.call (.ref f) args) (CR CX outer P w H s Q E) s
theorem aI.mono {P:Program} {w:World} {K:PySem.W.Frag} {mg:Str→Option Value} {base:Heap} {CX:mz} {j k:Nat} {f:Addr} {fd:FuncData} {ps:List Str} {sp:Sp} (F:aI P w K mg base CX j f fd ps sp) (h:j≤k) :
  aI P w K mg base CX k f fd ps sp:=⟨F.len,fun A outer s H args us vs Q E hr=>F.run A outer s H args us vs Q E (hr.mono h)⟩
theorem aI.imp {P:Program} {w:World} {K:PySem.W.Frag} {mg:Str→Option Value} {base:Heap} {CX:mz} {k:Nat} {f:Addr} {fd:FuncData} {ps:List Str} {sp sp':Sp} (F:aI P w K mg base CX k f fd ps sp)
  (h:∀ vs H Q E,sp' vs H Q E→sp vs H Q E):aI P w K mg base CX k f fd ps sp' :=
 ⟨fun vs H Q E q=>F.len vs H Q E (h _ _ _ _ q),fun A outer s H args us vs Q E hr he hb hv hs=>F.run A outer s H args us vs Q E hr he hb hv (h _ _ _ _ hs)⟩
theorem mZ.make {P:Program} {w:World} {K:PySem.W.Frag} {mg:Str→Option Value} {base:Heap} {A:Around} {outer:List Env} {s:Shared} {H:Hp} (e:mZ P w K mg base A outer s H) (C:Addr) (us:List Value) (kw:List (Str × Value)) :
  mZ P w K mg base (A.under (.builtin "type.__call__" ⟨.ref C :: us,kw⟩)) outer s H:=⟨by first | exact e.frames | (simpa [Around.under,Code.envs,Code.isFrame,pushEnvs] using e.frames),e.mod,e.bs,e.bsz,e.jB,e.frf,e.hok,e.bare⟩
theorem mZ.in1 {P:Program} {w:World} {K:PySem.W.Frag} {mg:Str→Option Value} {base:Heap} {A:Around} {outer:List Env} {s:Shared} {H:Hp} (e:mZ P w K mg base A outer s H) :
  mZ P w K mg base A.in1 outer s H:=⟨e.frames,e.mod,e.bs,e.bsz,e.jB,e.frf,e.hok,e.bare⟩
section
variable {X:Cx} {pins:List (Addr × Obj)} {σ:St} {H:Hp} {s s':Shared}
theorem Inv.F8 (I:Inv X pins σ H s):mZ X.prog X.w X.K X.mg X.base X.A X.stack s H :=
 ⟨I.ok.frames,I.ok.mod,I.bs,Nat.le_trans I.ok.bsz I.sz,I.stack,I.om,I.hok,I.bare⟩
theorem Inv.after {Q:VK} {u:Value} (I:Inv X pins σ H s) (h:CE X.stack X.prog X.w H s Q u s'):EP X pins σ Q u s':=by
 obtain ⟨v,H',os,bare,un,hok,r,q⟩:=h
 obtain ⟨hh,g,d,t,os'⟩:=s'
 obtain rfl:os'=s.os:=os
 exact ⟨v,H',I.call (h':=hh) (g':=g) (d':=d) (t':=t) (ch:=[]) un hok bare (fun b z=>absurd z (by simp)),r,q⟩
end
def mw (sp:Sp) (dvs:List V) (E:XK) (t:TA):TE:=fun σ H Q=>t σ H fun vs H1=>sp (vs ++ dvs) H1 Q E
def zy (C:Addr) (m:Str) (sp:Sp) (dvs:List V) (E:XK) (ta:TE) (t:TA):TE:=fun σ H Q=>ta σ H fun x H1=>∃ a dx fs,x=.ref a∧H1 a=some (.ins C dx fs)∧fs.lookup m=none ∧
 t σ H1 fun vs H2=>sp (x :: (vs ++ dvs)) H2 Q E
def zC (C:Addr) (sp:Sp) (dvs:List V) (E:XK) (t:TA):TE:=fun σ H Q=>t σ H fun vs H1=>∀ x dx,H1 x=none→H1 dx=none→dx≠x →
 sp (.ref x :: (vs ++ dvs)) (upd (upd H1 dx (.own x)) x (.ins C dx [])) (fun v H2=>v=.non∧Q (.ref x) H2) E
def Binds (K:PySem.W.Frag) (fd:FuncData) (ps:List Str) (ds:List Value):Prop :=
 ∀ (s:Shared) (us:List Value),K.In s.heap→(us ++ ds).length=ps.length→BindsTo s fd ⟨us,[]⟩ (ps.zip (us ++ ds))
theorem Binds.all {K:PySem.W.Frag} {fd:FuncData} {ps:List Str} (h:∀ us:List Value,us.length=ps.length→bindArgs fd ⟨us,[]⟩=pure (ps.zip us)):Binds K fd ps []:=fun s us _ hl=>by
 rw [List.append_nil] at hl ⊢
 exact .of_eq (h us hl)
def Passes (CX:mz) (X:Cx) (E:XK):Prop:=∀ (pins:List (Addr × Obj)) (σ:St) (H:Hp) (s:Shared) (e:Value) (s':Shared),Inv X pins σ H s→CX X.stack H s E e s'→X.xe e s'
section
variable {X:Cx} {CX:mz} {k:Nat} {f C:Addr} {fd:FuncData} {ps:List Str} {sp:Sp} {dvs:List V} {ds:List Value} {E:XK} {x m:Str} {p pos apos:Pos} {e o:Expr} {es:List Expr} {ta:TE} {t:TA}
theorem sM {pins:List (Addr × Obj)} {σ:St} {H:Hp} {s:Shared} {Q:VK} {us:List Value} {vs:List V} (F:aI X.prog X.w X.K X.mg X.base CX k f fd ps sp) (hr:bj k X.A) (hb:Binds X.K fd ps ds) (hd:Vals dvs ds) (hx:Passes CX X E)
  (I:Inv X pins σ H s) (r:Vals vs us) (h:sp (vs ++ dvs) H Q E):wpAny (model X.prog X.w) X.A (call (.ref f) us) (EP X pins σ Q) X.xe s:=by
 have r2:Vals (vs ++ dvs) (us ++ ds):=r.append hd
 have hl:(us ++ ds).length=ps.length:=by rw [← r2.length];exact F.len _ _ _ _ h
 refine wpAny_call (codeAny_mono (F.run X.A X.stack s H ⟨us,[]⟩ (us ++ ds) (vs ++ dvs) Q E hr I.F8 (hb s us I.jl hl) r2 h) fun r s' hq=>?_)
 cases r with
 | error e=>exact hx pins σ H s e s' I hq
 | ok fl =>
  cases fl with
  | ret u=>exact I.after hq
  | next=>exact False.elim hq
  | brk=>exact False.elim hq
  | cont=>exact False.elim hq
theorem vm (F:aI X.prog X.w X.K X.mg X.base CX k f fd ps sp) (hr:bj k X.A) (hg:Gl X x) (hm:X.mg x=some (.ref f)) (hk:PySem.W.keepIn X.K (.ref f)=true) (hb:Binds X.K fd ps ds) (hd:Vals dvs ds) (hx:Passes CX X E)
  (ha:PA X (e :: es) t) (hdb:(x == ("__debug__":Str))=false:=by decide) (he:starEach (e :: es) X.env=(false,eval e X.env) :: starEach es X.env:=by rfl) (hpl:(backTo pos (starEach es X.env)).any (·.1)=false:=by rfl) :
  PE X (.Call (.Name x p) (e :: es) [] pos) (mw sp dvs E t):=by
 intro pins s σ H Q I h
 refine wpAny_Call_Name_kw (iZ I hg hm ?_ hdb)
 refine PySem.W.callWith_K (h₀:=X.base) I.ok.mod.kin hk (bB (ha pos pins s σ H _ I h) fun us s1 ⟨vs,H1,I1,r,q⟩=>⟨I1.jl,?_⟩) he hpl
 exact sM F hr hb hd hx I1 r q
theorem AN {pl:Sem Bool} (he:PE X o ta) (c:lA X.K C) (hm:Meth X.K C m f) (F:aI X.prog X.w X.K X.mg X.base CX k f fd ps sp) (hr:bj k X.A) (hb:Binds X.K fd ps ds) (hd:Vals dvs ds) (hx:Passes CX X E) (ha:PA X (e :: es) t)
  (hst:starEach (e :: es) X.env=(false,eval e X.env) :: starEach es X.env:=by rfl) (hpl:(backTo pos (starEach es X.env)).any (·.1)=false:=by rfl)
  (ht:eval (.Call (.Attribute o m apos) (e :: es) [] pos) X.env=(do
   let ov ← eval o X.env
   standAt apos.atName
   let (f,first) ← holding [ov] (getMethod ov m pl)
   callWith pos f first (backTo pos (starEach (e :: es) X.env)) (backToKw pos (keywordEach [] X.env))):=by rfl) :
  PE X (.Call (.Attribute o m apos) (e :: es) [] pos) (zy C m sp dvs E ta t):=by
 intro pins s σ H Q I h
 refine PySem.W.methodCall_KW (pl:=pl) (bB (he pins s σ H _ I h) fun u s1 ⟨x,H1,I1,rx,a,dx,fs,ex,ea,l,q⟩=>?_) ht
 subst ex
 obtain rfl:u=Value.ref a:=rx
 refine lD I1 ea c hm l ?_
 refine PySem.W.callWith_K (first:=[.ref a]) (h₀:=X.base) I.ok.mod.kin hm.kp (bB (ha pos pins s1 σ H1 _ I1 q) fun us s2 ⟨vs,H2,I2,r,q2⟩=>⟨I2.jl,?_⟩) hst hpl
 exact sM (us:=.ref a :: us) (vs:=.ref a :: vs) F hr hb hd hx I2 (.cons rfl r) q2
theorem x9 {pl:Sem Bool} (he:PE X o ta) (c:lA X.K C) (hm:Meth X.K C m f) (F:aI X.prog X.w X.K X.mg X.base CX k f fd ps sp) (hr:bj k X.A) (hb:Binds X.K fd ps ds) (hd:Vals dvs ds) (hx:Passes CX X E)
  (ht:eval (.Call (.Attribute o m apos) [] [] pos) X.env=(do
   let ov ← eval o X.env
   standAt apos.atName
   let (f,first) ← holding [ov] (getMethod ov m pl)
   callWith pos f first (backTo pos (starEach [] X.env)) (backToKw pos (keywordEach [] X.env))):=by rfl) :
  PE X (.Call (.Attribute o m apos) [] [] pos) (zy C m sp dvs E ta sj):=by
 intro pins s σ H Q I h
 refine PySem.W.methodCall_KW (pl:=pl) (bB (he pins s σ H _ I h) fun u s1 ⟨x,H1,I1,rx,a,dx,fs,ex,ea,l,q⟩=>?_) ht
 subst ex
 obtain rfl:u=Value.ref a:=rx
 refine lD I1 ea c hm l ?_
 exact PySem.W.callWith_K0 (first:=[.ref a]) I1.jl hm.kp (sM (us:=[.ref a]) (vs:=[.ref a]) F hr hb hd hx I1 (.cons rfl .nil) q)
structure Mk (K:PySem.W.Frag) (C f:Addr):Prop where
 makes:PySem.W.makesIn K C=true
 init:PySem.W.findIn K (.ref C) "__init__"=some (some (.ref f))
 fn:PySem.W.isFn K (.ref f)=true
 kp:PySem.W.keepIn K (.ref C)=true
theorem p5 {pins:List (Addr × Obj)} {σ:St} {H:Hp} {s:Shared} {Q:VK} {us:List Value} {vs:List V} (M:Mk X.K C f) (F:aI X.prog X.w X.K X.mg X.base CX k f fd ps sp) (hr:bj (k + 1) X.A) (hb:Binds X.K fd ps ds) (hd:Vals dvs ds)
  (hx:Passes CX X E) (I:Inv X pins σ H s) (r:Vals vs us)
  (h:∀ x dx,H x=none→H dx=none→dx≠x→sp (.ref x :: (vs ++ dvs)) (upd (upd H dx (.own x)) x (.ins C dx [])) (fun v H2=>v=.non∧Q (.ref x) H2) E) :
  wpAny (model X.prog X.w) X.A (call (.ref C) us) (EP X pins σ Q) X.xe s:=by
 have hq:=h (s.heap.objs.size + 1) s.heap.objs.size (I.hok.fresh (Nat.le_succ _)) (I.hok.fresh (Nat.le_refl _)) (Nat.ne_of_lt (Nat.lt_succ_self _))
 have I2:=Inv.made (C:=C) I
 have r2:Vals (V.ref (s.heap.objs.size + 1) :: (vs ++ dvs)) (Value.ref (s.heap.objs.size + 1) :: (us ++ ds)):=.cons rfl (r.append hd)
 have hl:(Value.ref (s.heap.objs.size + 1) :: us ++ ds).length=ps.length:=by
  have e:=r2.length
  rw [F.len _ _ _ _ hq] at e
  exact e.symm
 refine wpAny_call (zR (f:=f) I.jl M.makes M.init (beq_iff_eq.mp M.fn) (codeAny_mono (F.run _ X.stack _ _ ⟨Value.ref (s.heap.objs.size + 1) :: us,[]⟩ (Value.ref (s.heap.objs.size + 1) :: (us ++ ds)) _ _ E (hr.make C us [])
  (I2.F8.make C us []) (hb _ (Value.ref (s.heap.objs.size + 1) :: us) I2.jl hl) r2 hq) fun r s' hq'=>?_))
 cases r with
 | error e=>exact hx pins σ _ _ e s' I2 hq'
 | ok fl =>
  cases fl with
  | ret u =>
   obtain ⟨v,H',I3,rv,ev,q3⟩:=I2.after hq'
   subst ev
   exact ⟨rv,⟨V.ref (s.heap.objs.size + 1),H',I3,rfl,q3⟩⟩
  | next=>exact False.elim hq'
  | brk=>exact False.elim hq'
  | cont=>exact False.elim hq'
theorem AE (M:Mk X.K C f) (F:aI X.prog X.w X.K X.mg X.base CX k f fd ps sp) (hr:bj (k + 1) X.A) (hg:Gl X x) (hm:X.mg x=some (.ref C)) (hb:Binds X.K fd ps ds) (hd:Vals dvs ds) (hx:Passes CX X E)
  (ha:PA X (e :: es) t) (hdb:(x == ("__debug__":Str))=false:=by decide) (he:starEach (e :: es) X.env=(false,eval e X.env) :: starEach es X.env:=by rfl) (hpl:(backTo pos (starEach es X.env)).any (·.1)=false:=by rfl) :
  PE X (.Call (.Name x p) (e :: es) [] pos) (zC C sp dvs E t):=by
 intro pins s σ H Q I h
 refine wpAny_Call_Name_kw (iZ I hg hm ?_ hdb)
 refine PySem.W.callWith_K (h₀:=X.base) I.ok.mod.kin M.kp (bB (ha pos pins s σ H _ I h) fun us s1 ⟨vs,H1,I1,r,q⟩=>⟨I1.jl,?_⟩) he hpl
 exact p5 M F hr hb hd hx I1 r q
theorem zh (M:Mk X.K C f) (F:aI X.prog X.w X.K X.mg X.base CX k f fd ps sp) (hr:bj (k + 1) X.A) (hg:Gl X x) (hm:X.mg x=some (.ref C)) (hb:Binds X.K fd ps ds) (hd:Vals dvs ds) (hx:Passes CX X E)
  (hdb:(x == ("__debug__":Str))=false:=by decide):PE X (.Call (.Name x p) [] [] pos) (zC C sp dvs E sj):=by
 intro pins s σ H Q I h
 refine wpAny_Call_Name_kw (iZ I hg hm ?_ hdb)
 exact PySem.W.callWith_K0 I.jl M.kp (p5 (us:=[]) M F hr hb hd hx I .nil h)
end
section
variable {X:Cx} {CX:mz} {k:Nat} {f C:Addr} {fd:FuncData} {ps ks:List Str} {sp:Sp} {E:XK} {x m:Str} {p pos apos kpos:Pos} {e o:Expr} {es:List Expr} {kws:List Keyword} {te ta:TE} {t tk:TA} {nm:Option Str}
variable {g:List Value→List Value→List Value} {gV:List V→List V→List V}
end
structure aw (N P:List Str) (sc:Scope):Prop where
 kind:sc.kind=.function
 co:sc.isCoroutine=false
 gen:sc.isGenerator=false
 nd:N.Nodup
 pre:N.take P.length=P
 par:∀ x∈P,sc.names.lookup x=some .local∨sc.names.lookup x=some .cell
 nofree:∀ y∈sc.names,y.2≠.free
theorem nA {kindOf:Str→Option NameKind} {x:Str}:∀ {binds:List (Str × Value)} {m:Str→Option Value},(∀ v,(x,v) ∉ binds)→bindL kindOf binds m x=m x
 | [],_,_=>rfl
 | (n,v) :: r,m,h=>by
  unfold bindL
  rw [nA fun w hw=>h w (List.mem_cons_of_mem _ hw)]
  split
  ·have:x≠n:=by rintro rfl;exact h v List.mem_cons_self
   simp [this]
  ·rfl
theorem nS {kindOf:Str→Option NameKind} {x:Str}:∀ {binds:List (Str × Value)} {m:Str→Option Value},(∀ v,(x,v) ∉ binds)→bindC kindOf binds m x=m x
 | [],_,_=>rfl
 | (n,v) :: r,m,h=>by
  unfold bindC
  rw [nS fun w hw=>h w (List.mem_cons_of_mem _ hw)]
  split
  ·rfl
  ·have:x≠n:=by rintro rfl;exact h v List.mem_cons_self
   simp [this]
theorem nB {kindOf:Str→Option NameKind} {x:Str} {v:Value}:∀ {P:List Str} {vs:List Value} {i:Nat} {m:Str→Option Value},P.Nodup→P[i]?=some x→vs[i]?=some v→kindOf x=some .local →
  bindL kindOf (P.zip vs) m x=some v
 | [],_,_,_,_,h,_,_=>by simp at h
 | _ :: _,[],_,_,_,_,h,_=>by simp at h
 | p :: P,w :: vs,0,m,nd,h1,h2,hk=>by
  simp at h1 h2;subst h1;subst h2
  show bindL kindOf ((p,w) :: P.zip vs) m p=_
  unfold bindL
  rw [nA fun v hv=>(List.nodup_cons.mp nd).1 (List.of_mem_zip hv).1,if_pos hk]
  simp
 | p :: P,w :: vs,i + 1,m,nd,h1,h2,hk=>by
  show bindL kindOf ((p,w) :: P.zip vs) m x=_
  unfold bindL
  exact nB (i:=i) (List.nodup_cons.mp nd).2 (by simpa using h1) (by simpa using h2) hk
theorem nG {kindOf:Str→Option NameKind} {x:Str} {v:Value}:∀ {P:List Str} {vs:List Value} {i:Nat} {m:Str→Option Value},P.Nodup→P[i]?=some x→vs[i]?=some v→kindOf x≠some .local →
  bindC kindOf (P.zip vs) m x=some v
 | [],_,_,_,_,h,_,_=>by simp at h
 | _ :: _,[],_,_,_,_,h,_=>by simp at h
 | p :: P,w :: vs,0,m,nd,h1,h2,hk=>by
  simp at h1 h2;subst h1;subst h2
  show bindC kindOf ((p,w) :: P.zip vs) m p=_
  unfold bindC
  rw [nS fun v hv=>(List.nodup_cons.mp nd).1 (List.of_mem_zip hv).1,if_neg hk]
  simp
 | p :: P,w :: vs,i + 1,m,nd,h1,h2,hk=>by
  show bindC kindOf ((p,w) :: P.zip vs) m x=_
  unfold bindC
  exact nG (i:=i) (List.nodup_cons.mp nd).2 (by simpa using h1) (by simpa using h2) hk
def start (N:List Str) (vs:List V):St:=vs.map some ++ List.replicate (N.length - vs.length) none
def pj (CX:mz) (P:Program) (w:World) (K:PySem.W.Frag) (mg:Str→Option Value) (base:Heap) (N:List Str) (qual:Str) (scope:Scope) (f:Addr) (cd:Value) (A:Around) (outer:List Env) (s:Shared) (H:Hp) (E:XK):Cx where
 prog:=P
 w:=w
 K:=K
 mg:=mg
 base:=base
 A:=A.deeper (envOfC qual scope s.heap.objs.size f cd)
 N:=N
 s₀:=s
 H₀:=H
 env:=envOfC qual scope s.heap.objs.size f cd
 outer:=outer
 stack:=envOfC qual scope s.heap.objs.size f cd :: outer
 ex:=[]
 calm:=true
 fn:=fun _=>true
 pn:=[]
 xe:=fun e s'=>wpAny (model P w) (A.deeper (envOfC qual scope s.heap.objs.size f cd)) (leaving (envOfC qual scope s.heap.objs.size f cd) e) (fun _ s''=>CX outer H s E e s'') (fun e' s''=>CX outer H s E e' s'') s'
theorem qx {sc:Scope} {n:Nat} {x:Str} (h:sc.names.lookup x=some .cell):∃ c,(cellsFrom n sc.names []).lookup x=some c:=by
 have q:=PySem.W.cellsFrom_some sc.names n [] (.inl h)
 exact Option.isSome_iff_exists.mp q
theorem v8 {CX:mz} {P:Program} {w:World} {K:PySem.W.Frag} {mg:Str→Option Value} {base:Heap} {N ps:List Str} {qual:Str} {scope:Scope} {f:Addr} {cd:Value} {A:Around} {outer:List Env} {s s1:Shared} {H:Hp} {E:XK} {us:List Value} {vs:List V}
  (S:aw N ps scope) (hd:A.handled=none) (e0:mZ P w K mg base A outer s H) (hl:vs.length=ps.length) (r:Vals vs us)
  (x:InCallC s s.heap.objs.size (bindL (envOfC qual scope s.heap.objs.size f cd).kindOf (ps.zip us) fun _=>none) (cellsFrom (s.heap.objs.size + 1) scope.names []) (bindC (envOfC qual scope s.heap.objs.size f cd).kindOf (ps.zip us) fun _=>none) s1) :
  Inv (pj CX P w K mg base N qual scope f cd A outer s H E) [] (start N vs) H s1:=by
 have hpl:ps.length≤N.length:=by have:=congrArg List.length S.pre;rw [List.length_take] at this;omega
 obtain ⟨h1,tk,rfl,hk⟩:=x.done
 have noA:∀ b:Addr,b ∉ (pj CX P w K mg base N qual scope f cd A outer s H E).ex:=fun b z=>absurd (show b∈([]:List Addr) from z) (by simp)
 refine ⟨⟨e0.mod,S.kind,rfl,rfl,Nat.le_refl _,fun y z c h1 h2=>?_,fun y hy=>?_,fun y c _ h=>?_,fun _=>hd,Around.frames_deeper e0.frames,.inr ⟨rfl,rfl⟩,fun b z=>absurd z (noA b),e0.bs,e0.bsz,fun b _ _=>noA b,fun b z=>absurd z (noA b),e0.jB,e0.frf⟩,
  rfl,e0.bare,Un.kept hk,⟨_,x.toInCall.ns,fun i y v h1 h2 h3=>?_⟩,fun y c h=>⟨_,x.cell y c h⟩,e0.hok.fresh (Nat.le_refl _),fun y c h=>?_,fun p hp=>absurd (show p∈([]:List (Addr × Obj)) from hp) (by simp),e0.hok.kept hk,?_⟩
 ·exact name_of_addr x.apart (PySem.mem_of_lookup h1) (PySem.mem_of_lookup h2)
 ·have hy:scope.names.lookup y=some .cell∨scope.names.lookup y=some .free:=hy
  rcases hy with hy | hy
  ·exact qx hy
  ·exact absurd rfl (S.nofree _ (PySem.mem_of_lookup hy))
 ·exact Nat.le_of_lt (x.above y c (PySem.mem_of_lookup h))
 ·have hi:i < vs.length:=by
   unfold start at h2
   by_cases hi:i < vs.length
   ·exact hi
   ·rw [List.getElem?_append_right (by simpa using hi)] at h2
    rw [List.getElem?_replicate] at h2
    split at h2 <;> cases h2
  have ha:vs[i]?=some v:=by
   unfold start at h2
   rw [List.getElem?_append_left (by simpa using hi),List.getElem?_map] at h2
   cases e:vs[i]? with
   | none=>rw [e] at h2;cases h2
   | some a=>rw [e] at h2;cases h2;rfl
  obtain ⟨u,hu,rv⟩:=r.get ha
  have hp:ps[i]?=some y:=by
   rw [← S.pre,List.getElem?_take_of_lt (by omega)];exact h1
  have ndP:ps.Nodup:=by rw [← S.pre];exact S.nd.sublist (List.take_sublist _ _)
  refine ⟨u,rv,?_⟩
  rcases S.par y (List.mem_of_getElem? hp) with k | k
  ·exact .inl ⟨k,nB ndP hp hu k⟩
  ·obtain ⟨c,e⟩:=qx (n:=s.heap.objs.size + 1) k
   refine .inr ⟨.inl k,c,e,?_⟩
   have q:=x.cell y c e
   rw [nG ndP hp hu (by show scope.names.lookup y≠_;rw [k];decide)] at q
   exact q
 ·exact e0.hok.fresh (Nat.le_of_lt (x.above y c (PySem.mem_of_lookup h)))
 ·unfold start
  show _=N.length
  rw [List.length_append,List.length_map,List.length_replicate]
  omega
theorem xA {CX:mz} {P:Program} {w:World} {K:PySem.W.Frag} {mg:Str→Option Value} {base:Heap} {k:Nat} {f:Addr} {name qual:Str} {params:Arguments} {body:List Stmt} {scope:Scope} {dV kV doc pm cdv ct oc:Value} {an od:Option Addr}
  {osl:Array (Option Value)} {N ps:List Str} {sp:Sp} (lk:K.lookup f=some ⟨oc,od,.func (PySem.W.fnOf name qual params body scope dV kV doc pm an cdv ct),osl⟩) (hcd:PySem.W.codeIn K cdv qual=true) (S:aw N ps scope)
  (len:∀ vs H Q E,sp vs H Q E→vs.length=ps.length)
  (hbody:∀ (A:Around) (outer:List Env) (s:Shared) (H:Hp) (vs:List V) (Q:VK) (E:XK),bj k (A.deeper (envOfC qual scope s.heap.objs.size f cdv))→sp vs H Q E →
   ∃ t,n8 (pj CX P w K mg base N qual scope f cdv A outer s H E) body t∧t { nx:=fun _ H'=>Q .non H',rt:=Q } (start N vs) H) :
  aI P w K mg base CX (k + 1) f (PySem.W.fnOf name qual params body scope dV kV doc pm an cdv ct) ps sp:=by
 refine ⟨len,fun A outer s H args us vs Q E hr e0 hb r hsp=>?_⟩
 have hl:=len _ _ _ _ hsp
 have KX:K.In s.heap:=e0.mod.kin.keeps fun b o e=>(e0.bs b o e).1
 have lim:s.heap.NoLimit:=e0.mod.nolimit.keeps fun b o e=>(e0.bs b o e).1
 have hkind:∀ y∈ps.zip us,scope.names.lookup y.1=some .local∨(scope.names.lookup y.1=some .cell∧((cellsFrom (s.heap.objs.size + 1) scope.names []).lookup y.1).isSome=true):=fun ⟨n,v⟩ hy=>by
  rcases S.par n (List.of_mem_zip hy).1 with q | q
  ·exact .inl q
  ·exact .inr ⟨q,PySem.W.cellsFrom_some _ _ _ (.inl q)⟩
 refine codeAny_call_function hr.depth (KX _ _ lk) rfl S.co S.gen rfl (PySem.W.codeRec_of KX hcd) (hb _ _ _ _ ?_)
 refine wpAny_newFunctionEnv_cells S.kind hkind fun env he s1 x=>?_
 subst he
 refine ⟨lim.keeps x.toInCall.keep,codeAny_func ?_⟩
 obtain ⟨t,ht,hq⟩:=hbody A outer s H vs Q E (hr.deeper _) hsp
 have I:Inv (pj CX P w K mg base N qual scope f cdv A outer s H E) [] (start N vs) H s1:=v8 S hr.hd e0 hl r x
 refine wpAny_mono (ht [] s1 (start N vs) H _ I hq) (fun fl s' hs=>?_) fun e s' hs=>hs
 have fin:∀ {σ':St} {H':Hp} {v:V} {u:Value},Inv (pj CX P w K mg base N qual scope f cdv A outer s H E) [] σ' H' s'→RelV v u→Q v H'→CE outer P w H s Q u s' :=
  fun {σ' H' v u} J rv q=>⟨v,H',J.os,J.bare,J.base,J.hok,rv,q⟩
 cases fl with
 | ret u =>
  obtain ⟨v,σ',H',J,rv,q⟩:=hs
  exact fin J rv q
 | next =>
  obtain ⟨σ',H',J,q⟩:=hs
  exact fin (v:=V.non) (u:=Value.none) J rfl q
 | brk =>
  obtain ⟨_,_,_,q⟩:=hs
  exact False.elim q
 | cont =>
  obtain ⟨_,_,_,q⟩:=hs
  exact False.elim q
end L2
namespace L2
open PySem PySem.Spec PyProof.Rows
section
variable {X:Cx} {x:Str} {p pos:Pos} {e:Expr} {es:List Expr} {t:TA} {id T:String} {r:List V→Hp→VK→Prop}
def Cn (r:List V→Hp→VK→Prop) (t:TA):TE:=fun σ H Q=>t σ H fun vs H1=>r vs H1 Q
theorem cV (hc:cf X (.builtin id) r) (hg:Gl X x) (hm:X.mg x=none) (hv:bootBuiltins x=some (.builtin id)) (ha:PA X (e :: es) t) (hn:x≠"__name__":=by decide) (hdb:(x == ("__debug__":Str))=false:=by decide)
  (he:starEach (e :: es) X.env=(false,eval e X.env) :: starEach es X.env:=by rfl) (hpl:(backTo pos (starEach es X.env)).any (·.1)=false:=by rfl):PE X (.Call (.Name x p) (e :: es) [] pos) (Cn r t):=by
 intro pins s σ H Q I h
 refine wpAny_Call_Name_kw (gL I hg hm hv ?_ hn hdb)
 exact PyProof.Rows.callWith_builtin1 (bB (ha pos pins s σ H _ I h) fun us s1 ⟨vs,H1,I1,r1,q1⟩=>hc pins s1 σ H1 vs us Q I1 r1 q1) he hpl
theorem j_ (hc:cf X (.type T) r) (hg:Gl X x) (hm:X.mg x=none) (hv:bootBuiltins x=some (.type T)) (ha:PA X (e :: es) t) (hn:x≠"__name__":=by decide) (hdb:(x == ("__debug__":Str))=false:=by decide)
  (he:starEach (e :: es) X.env=(false,eval e X.env) :: starEach es X.env:=by rfl) (hpl:(backTo pos (starEach es X.env)).any (·.1)=false:=by rfl):PE X (.Call (.Name x p) (e :: es) [] pos) (Cn r t):=by
 intro pins s σ H Q I h
 refine wpAny_Call_Name_kw (gL I hg hm hv ?_ hn hdb)
 exact PyProof.Rows.callWith_type1 (bB (ha pos pins s σ H _ I h) fun us s1 ⟨vs,H1,I1,r1,q1⟩=>hc pins s1 σ H1 vs us Q I1 r1 q1) he hpl
end
end L2
namespace HT
open PySem PyProof.Rows
def lexLt:List Int→List Int→Bool
 | [],[]=>false
 | [],_ :: _=>true
 | _ :: _,[]=>false
 | x :: xs,y :: ys=>if x=y then lexLt xs ys else decide (x < y)
section
open PySem.SeqAt
open PySem.AutoSeq1 (wpAny_loadPart')
open PySem.MeetsSeq PySem.MeetsSeq2 PySem.MeetsSeq3
end
section
variable {prog:Program} {w:World} {A:Around} {E:Value→Shared→Prop} {s:Shared}
def c8 (n d:Nat):Option Int→Nat
 | none=>d
 | some v=>if v < 0 then (v + (n:Int)).toNat else min v.toNat n
theorem qM (n d:Nat):c8 n d none=d:=rfl
theorem BS (n d k:Nat):c8 n d (some (k:Int))=min k n:=by
 show (if (k:Int) < 0 then ((k:Int) + (n:Int)).toNat else min (k:Int).toNat n)=min k n
 rw [if_neg (by omega),Int.toNat_natCast]
theorem DQ (n d:Nat) (hd:d≤n) (o:Option Int):c8 n d o≤n:=by
 cases o with
 | none=>exact hd
 | some v =>
  show (if v < 0 then (v + (n:Int)).toNat else min v.toNat n)≤n
  by_cases hv:v < 0
  ·rw [if_pos hv];omega
  ·rw [if_neg hv];exact Nat.min_le_right _ _
theorem uy (v:Int) (n d:Nat):(if v < 0 then max (v + (n:Int)) 0 else min v (n:Int))=((c8 n d (some v):Nat):Int):=by
 show (if v < 0 then max (v + (n:Int)) 0 else min v (n:Int))=(((if v < 0 then (v + (n:Int)).toNat else min v.toNat n):Nat):Int)
 by_cases hv:v < 0
 ·simp only [if_pos hv];omega
 ·simp only [if_neg hv];omega
theorem sC (lo hi:Option Int) (n:Nat):Builtin.Slice.sliceAdjust lo hi 1 (n:Int)=(((c8 n 0 lo:Nat):Int),((c8 n n hi:Nat):Int)):=by
 have h1:¬ ((1:Int) < 0):=by omega
 unfold Builtin.Slice.sliceAdjust
 simp only [h1,if_false]
 refine Prod.ext ?_ ?_
 ·cases lo with
  | none=>rfl
  | some v=>exact uy v n 0
 ·cases hi with
  | none=>rfl
  | some v=>exact uy v n n
theorem tq (i j:Nat):Builtin.Slice.slicePlaces (i:Int) (j:Int) 1=j - i:=by
 unfold Builtin.Slice.slicePlaces
 have h1:(1:Int) > 0:=by omega
 simp only [h1,if_true,Int.ediv_one]
 split <;> omega
theorem my {v:Value} {o:Option Int} {Q:Option Int→Shared→Prop} (p:IsPart v o) (h:Q o s):wpAny (model prog w) A (Builtin.Slice.slicePartIndex v) Q E s:=by
 cases p with
 | none=>exact slicePart_none h
 | int i t=>exact slicePart_int h
theorem jU {sl:Addr} {vl vu:Value} {lo hi:Option Int} {n:Nat} {Q:Int × Int × Nat→Shared→Prop} (hs:s.heap.IsSliceOf sl vl vu .none) (pl:IsPart vl lo) (pu:IsPart vu hi)
  (h:Q (((c8 n 0 lo:Nat):Int),1,c8 n n hi - c8 n 0 lo) s):wpAny (model prog w) A (Builtin.Slice.sliceApplied (.ref sl) (pure (n:Int))) Q E s:=by
 obtain ⟨os,hos,hcs,hds⟩:=id hs
 unfold Builtin.Slice.sliceApplied Builtin.Slice.sliceFields
 refine wpAny_bind (wpAny_bind (wpAny_field hos hds (x:=vl) rfl (wpAny_bind (wpAny_field hos hds (x:=vu) rfl (wpAny_bind (wpAny_field hos hds (x:=.none) rfl (wpAny_pure ?_)))))))
 refine wpAny_bind (slicePart_none ?_)
 show wpAny _ _ (if ((1:Int) == 0)=true then _ else _) _ _ s
 rw [if_neg (by decide)]
 refine wpAny_bind (my pl (wpAny_bind (my pu (wpAny_bind (wpAny_pure ?_)))))
 show wpAny _ _ (match Builtin.Slice.sliceAdjust lo hi 1 (n:Int) with | (lo,hi)=>pure (lo,(1:Int),Builtin.Slice.slicePlaces lo hi 1)) _ _ s
 rw [sC lo hi n]
 show wpAny _ _ (pure (((c8 n 0 lo:Nat):Int),(1:Int),Builtin.Slice.slicePlaces ((c8 n 0 lo:Nat):Int) ((c8 n n hi:Nat):Int) 1)) _ _ s
 rw [tq]
 exact wpAny_pure h
theorem yP (xs:Array Value) (i k:Nat):((List.range k).filterMap fun (m:Nat)=>xs[((i:Int) + (m:Int) * 1).toNat]?).toArray=((xs.toList.drop i).take k).toArray:=by
 have e:(fun (m:Nat)=>xs[((i:Int) + (m:Int) * 1).toNat]?)=fun m=>xs[i + m]?:=by
  funext m
  have:((i:Int) + (m:Int) * 1).toNat=i + m:=by omega
  rw [this]
 rw [e]
 have:=pick_run xs i k
 rw [List.filterMap_map] at this
 have e2:((fun x=>xs[x]?) ∘ fun x=>i + x)=fun m=>xs[i + m]?:=rfl
 rw [e2] at this
 rw [this]
theorem jz {t sl:Addr} {items:Array Value} {vl vu:Value} {lo hi:Option Int} {Q:Value→Shared→Prop} (ht:IsTup s.heap t items) (hs:s.heap.IsSliceOf sl vl vu .none) (pl:IsPart vl lo) (pu:IsPart vu hi)
  (hw:¬ (c8 items.size 0 lo=0∧c8 items.size items.size hi=items.size))
  (h:Q (.ref s.heap.objs.size) { s with heap:=s.heap.push { cls:=.type "tuple",data:=.seq ((items.toList.drop (c8 items.size 0 lo)).take (c8 items.size items.size hi - c8 items.size 0 lo)).toArray } })
  (hsz:items.size≤sizeLine):wpAny (model prog w) A (getItem (.ref t) (.ref sl)) Q E s:=by
 have htake:sizeOk (.seq ((items.toList.drop (c8 items.size 0 lo)).take (c8 items.size items.size hi - c8 items.size 0 lo)).toArray):=by
  show ((items.toList.drop (c8 items.size 0 lo)).take (c8 items.size items.size hi - c8 items.size 0 lo)).toArray.size≤sizeLine
  rw [List.size_toArray,List.length_take,List.length_drop,Array.length_toList]
  omega
 have hj:c8 items.size items.size hi≤items.size:=DQ _ _ (Nat.le_refl _) hi
 obtain ⟨os,hos,hcs,hds⟩:=id hs
 have hTs:s.TypeIs (.ref sl) "slice":=⟨os,hos,hcs⟩
 unfold getItem
 try with_reducible refine wpAny_holding ?_
 first | refine wpAny_bind (wpAny_pure ?_) | skip
 refine wpAny_bind (wpAny_sequenceKey ht.typeIs (by decide) ?_)
 refine wpAny_bind (wpAny_callSpecial?_slot (name:=Str.ofString "__getitem__") ht.typeIs PyProof.Rows.slot_tuple_getitem
  (wpAny_call_entry PyProof.Rows.slot_tuple_getitem ht.typeIs entry_tuple_getitem ?_ (args_tuple_getitem _ _)))
 show wpAny _ _ (Builtin.Tuple.tupleItemsOf (.ref t) >>= _) _ _ s
 refine wpAny_bind (tupleItemsOf_ ht ?_)
 refine wpAny_bind (wpAny_typeOf hTs ?_)
 rw [if_pos (by decide)]
 refine wpAny_bind (jU hs pl pu ?_)
 have hno:¬ ((((c8 items.size 0 lo:Nat):Int) == 0 && (1:Int) == 1 && (c8 items.size items.size hi - c8 items.size 0 lo) == items.size)=true):=by
  intro q
  rw [Bool.and_eq_true,Bool.and_eq_true] at q
  have q1:((c8 items.size 0 lo:Nat):Int)=0:=eq_of_beq q.1.1
  have q2:c8 items.size items.size hi - c8 items.size 0 lo=items.size:=eq_of_beq q.2
  exact hw ⟨by omega,by omega⟩
 show wpAny _ _ (if (((c8 items.size 0 lo:Nat):Int) == 0 && (1:Int) == 1 && (c8 items.size items.size hi - c8 items.size 0 lo) == items.size)=true then _ else _) _ _ s
 rw [if_neg hno,yP]
 first
  | exact wpAny_bind (m:=Builtin.Tuple.tupleExact _) (wpAny_newObj_type (wpAny_pure ⟨_,rfl,wpAny_pure h⟩) htake)
  | exact wpAny_bind (m:=Builtin.Tuple.tupleExact _) (wpAny_newObj_type (wpAny_bind (wpAny_pure (wpAny_pure ⟨_,rfl,wpAny_pure h⟩))) htake)
  | exact wpAny_bind (wpAny_bind (m:=Builtin.Tuple.tupleExact _) (wpAny_newObj_type (wpAny_pure (wpAny_pure ⟨_,rfl,wpAny_pure h⟩)) htake))
  | exact wpAny_bind (wpAny_bind (m:=Builtin.Tuple.tupleExact _) (wpAny_newObj_type (wpAny_pure ⟨_,rfl,wpAny_pure h⟩) htake))
end
end HT
namespace L2
open PySem PySem.Spec PyProof.Rows
abbrev TO:=St→Hp→(Option Int→Hp→Prop)→Prop
def PO (X:Cx) (e:Option Expr) (t:TO):Prop :=
 ∀ (pins:List (Addr × Obj)) (s:Shared) (σ:St) (H:Hp) (Q:Option Int→Hp→Prop),Inv X pins σ H s→t σ H Q →
  wpAny (model X.prog X.w) X.A (evalPart e X.env) (fun u s'=>∃ o H',Inv X pins σ H' s'∧IsPart u o∧Q o H') X.xe s
def kX:TO:=fun _ H Q=>Q none H
def uW (t:TE):TO:=fun σ H Q=>t σ H fun x H1=>∃ i,x=.int i∧Q (some i) H1
theorem intsAre_of {ns:List Int}:∀ {us:List Value},Vals (ns.map V.int) us→IntsAre us ns:=by
 induction ns with
 | nil=>intro us r;rw [List.map_nil] at r;cases r;exact .nil
 | cons n ns ih =>
  intro us r
  rw [List.map_cons] at r
  cases r with
  | cons r1 r2 =>
   obtain ⟨t,e⟩:=r1
   subst e
   exact .cons n t (ih r2)
section
variable {X:Cx} {e:Expr} {te:TE} {lo hi:Option Expr} {tl th:TO} {pos p2:Pos}
theorem k7:PO X none kX:=by
 intro pins s σ H Q I h
 rw [evalPart_none]
 exact wpAny_pure ⟨none,H,I,.none,h⟩
theorem g_ (h:PE X e te):PO X (some e) (uW te):=by
 intro pins s σ H Q I hw
 rw [evalPart_some]
 refine bB (h pins s σ H _ I hw) fun u s1 ⟨x,H1,I1,r1,q1⟩=>?_
 obtain ⟨i,rfl,q⟩:=q1
 obtain ⟨t,rfl⟩:=r1
 exact ⟨some i,H1,I1,.int i t,q⟩
def rX (X:Cx) (r:V→Option Int→Option Int→Hp→VK→Prop):Prop :=
 ∀ (pins:List (Addr × Obj)) (s:Shared) (σ:St) (H:Hp) (x:V) (v vl vu:Value) (lo hi:Option Int) (sl:Addr) (Q:VK),Inv X pins σ H s→RelV x v→s.heap.IsSliceOf sl vl vu .none→IsPart vl lo→IsPart vu hi→r x lo hi H Q →
  ∃ T id,typeLookup (.type T) "__getitem__"=pure (some (.builtin id))∧s.TypeIs v T∧wpAny (model X.prog X.w) X.A (getItem v (.ref sl)) (EP X pins σ Q) X.xe s
def G' (r:V→Option Int→Option Int→Hp→VK→Prop) (te:TE) (tl th:TO):TE:=fun σ H Q=>te σ H fun x H1=>tl σ H1 fun l H2=>th σ H2 fun u H3=>r x l u H3 Q
theorem gE {r:V→Option Int→Option Int→Hp→VK→Prop} (hr:rX X r) (he:PE X e te) (hl:PO X lo tl) (hu:PO X hi th):PE X (.Subscript e (.Slice lo hi none p2) pos) (G' r te tl th):=by
 intro pins s σ H Q I h
 refine Subscript_ (bB (he pins s σ H _ I h) fun v s1 ⟨x,H1,I1,r1,q1⟩=>?_)
 refine wpAny_Slice (bB (hl pins s1 σ H1 _ I1 q1) fun vl s2 ⟨l,H2,I2,pl,q2⟩=>bB (hu pins s2 σ H2 _ I2 q2) fun vu s3 ⟨u,H3,I3,pu,q3⟩=>?_)
 rw [evalPart_none]
 refine wpAny_pure ?_
 have I4:Inv X pins σ H3 { s3 with heap:=s3.heap.push { cls:=.type "slice",data:=.fields #[vl,vu,.none] } }:=I3.kept (t':=s3.toks) fun b ob q=>Heap.get?_push_of_some _ q
 obtain ⟨T,id,hT,ht,hg⟩:=hr pins { s3 with heap:=s3.heap.push { cls:=.type "slice",data:=.fields #[vl,vu,.none] } } σ H3 x v vl vu l u s3.heap.objs.size Q I4 r1 (Heap.IsSliceOf.new ..) pl pu q3
 show wpAny (model X.prog X.w) X.A (subscriptTail e (.Slice lo hi none p2) v (.ref s3.heap.objs.size)) (EP X pins σ Q) X.xe { s3 with heap:=s3.heap.push { cls:=.type "slice",data:=.fields #[vl,vu,.none] } }
 exact tail_any (ops:=[.ref s3.heap.objs.size,v]) ht hT hg (by with_unfolding_all rfl)
def me (xs:List V) (lo hi:Option Int):List V:=(xs.drop (HT.c8 xs.length 0 lo)).take (HT.c8 xs.length xs.length hi - HT.c8 xs.length 0 lo)
theorem kB (xs:List V) (lo hi:Option Int):(me xs lo hi).length≤xs.length:=by
 unfold me
 rw [List.length_take,List.length_drop]
 omega
def Hw (K:PySem.W.Frag):V→Option Int→Option Int→Hp→VK→Prop:=fun x lo hi H Q=>∃ a xs,x=.ref a∧fA K H a xs ∧
 ¬ (HT.c8 xs.length 0 lo=0∧HT.c8 xs.length xs.length hi=xs.length)∧∀ p,H p=none→Q (.ref p) (upd H p (.tup (me xs lo hi)))
theorem Dc:rX X (Hw X.K):=by
 intro pins s σ H x v vl vu lo hi sl Q I rx hs pl pu h
 obtain ⟨a,xs,rfl,hx,hw,q⟩:=h
 cases rx
 obtain ⟨its,r,ht,hz⟩:=I.tuple hx
 have hlen:its.toArray.size=xs.length:=by rw [List.size_toArray];exact r.length.symm
 refine ⟨"tuple",_,PyProof.Rows.slot_tuple_getitem.lookup,ht.typeIs,?_⟩
 refine HT.jz ht hs pl pu (by rw [hlen];exact hw) ?_ (by rw [hlen];exact hz)
 rw [hlen]
 refine ⟨.ref s.heap.objs.size,_,I.laid (t':=s.toks) (o:=.tup (me xs lo hi)) (fun b ob q=>Heap.get?_push_of_some _ q) (Nat.le_refl _) ?_,rfl,q _ (I.hok.fresh (Nat.le_refl _))⟩
 exact ⟨Nat.le_trans (kB xs lo hi) hz,_,(r.drop (HT.c8 xs.length 0 lo)).take (HT.c8 xs.length xs.length hi - HT.c8 xs.length 0 lo),IsTup.new _ _⟩
end
end L2
namespace L2
open PySem PySem.Spec PyProof.Rows
def w_ (n:Nat) (i:Int):Option Nat:=if 0≤i then (if i < n then some i.toNat else none) else if -(n:Int)≤i then some (i + n).toNat else none
def cH {α:Type} (xs:List α) (i:Int):Option α:=(w_ xs.length i).bind fun j=>xs[j]?
theorem uM {n:Nat} {i:Int} {j:Nat} (h:w_ n i=some j):seqIndex? i n=some j∧j < n∧-(n:Int)≤i∧i < n:=by
 unfold w_ at h
 by_cases h0:0≤i
 ·rw [if_pos h0] at h
  by_cases h1:i < n
  ·rw [if_pos h1] at h
   have e:i.toNat=j:=Option.some.inj h
   exact ⟨by rw [seqIndex_of h0 h1,e],by omega,by omega,h1⟩
  ·rw [if_neg h1] at h;cases h
 ·rw [if_neg h0] at h
  by_cases h1:-(n:Int)≤i
  ·rw [if_pos h1] at h
   have e:(i + n).toNat=j:=Option.some.inj h
   exact ⟨by rw [seqIndex_neg (by omega) h1,e],by omega,h1,by omega⟩
  ·rw [if_neg h1] at h;cases h
theorem n_ {α:Type} {xs:List α} {i:Int} {v:α} (h:cH xs i=some v):∃ j,seqIndex? i xs.length=some j∧xs[j]?=some v∧j < xs.length∧-(xs.length:Int)≤i∧i < xs.length:=by
 unfold cH at h
 cases e:w_ xs.length i with
 | none=>rw [e] at h;cases h
 | some j =>
  rw [e] at h
  obtain ⟨h1,h2,h3,h4⟩:=uM e
  exact ⟨j,h1,h,h2,h3,h4⟩
theorem a_ {α:Type} {xs:List α} {j:Nat} {v:α} (h:xs[j]?=some v):cH xs (j:Int)=some v:=by
 have hj:j < xs.length:=(List.getElem?_eq_some_iff.mp h).1
 have e:w_ xs.length (j:Int)=some j:=by
  unfold w_
  rw [if_pos (by omega),if_pos (by omega)];simp
 unfold cH;rw [e];exact h
def cQ (b:Expr):Prop:=∀ o i,subscripted b false o i=operate [o,i] (getItem o i)
def l_ (X:Cx) (r:R2):Prop :=
 ∀ (value slice:Expr) (pins:List (Addr × Obj)) (s:Shared) (σ:St) (H:Hp) (x y:V) (v u:Value) (Q:VK),Inv X pins σ H s→RelV x v→RelV y u→r x y H Q →
  subscripted slice false v u=operate [v,u] (getItem v u)→wpAny (model X.prog X.w) X.A (subscriptTail value slice v u) (EP X pins σ Q) X.xe s
def o5 (X:Cx) (id:String) (r:V→List V→Hp→VK→Prop):Prop :=
 ∀ (pins:List (Addr × Obj)) (s:Shared) (σ:St) (H:Hp) (x:V) (xs:List V) (v:Value) (us:List Value) (Q:VK),Inv X pins σ H s→RelV x v→Vals xs us→r x xs H Q →
  wpAny (model X.prog X.w) X.A (call (.builtin id) (v :: us)) (EP X pins σ Q) X.xe s
section
variable {X:Cx} {a b:Expr} {ta tb:TE} {pos:Pos}
theorem l_.or {r r':R2} (h:l_ X r) (h':l_ X r'):l_ X (fun x y H Q=>r x y H Q∨r' x y H Q):=by
 intro value slice pins s σ H x y v u Q I rx ry q hs
 rcases q with q | q
 ·exact h value slice pins s σ H x y v u Q I rx ry q hs
 ·exact h' value slice pins s σ H x y v u Q I rx ry q hs
theorem bG {r:R2} (hr:l_ X r) (ha:PE X a ta) (hb:PE X b tb) (hs:cQ b):PE X (.Subscript a b pos) (zI r ta tb):=by
 intro pins s σ H Q I h
 exact Subscript_ (C1 ha hb I h fun v u s2 x y H2 I2 rx ry q=>hr a b pins s2 σ H2 x y v u Q I2 rx ry q (hs _ _))
def GC (K:PySem.W.Frag):R2:=fun x y H Q=>∃ p xs i v,x=.ref p∧y=.int i∧cg K H p xs∧cH xs i=some v∧Q v H
def E4 (K:PySem.W.Frag):R2:=fun x y H Q=>∃ p xs i v,x=.ref p∧y=.int i∧fA K H p xs∧cH xs i=some v∧Q v H
def GV:R2:=fun x y H Q=>∃ z i c,x=.str z∧y=.int i∧z.length≤sizeLine∧cH z.cps.toList i=some c∧Q (.str ⟨#[c]⟩) H
theorem oe:l_ X (GC X.K):=by
 intro value slice pins s σ H x y v u Q I rx ry h hs
 obtain ⟨p,xs,i,z,rfl,rfl,hq,he,q⟩:=h
 cases rx
 obtain ⟨t,rfl⟩:=ry
 obtain ⟨its,r,pl,hz⟩:=I.list hq
 obtain ⟨j,h1,h2,h3,h4,h5⟩:=n_ he
 obtain ⟨w,ew,rw'⟩:=r.get h2
 have hl:=r.length
 have hn:=iL
 have fin:EP X pins σ Q w s:=⟨z,H,I,rw',q⟩
 by_cases h0:0≤i
 ·have hj:i.toNat=j:=by
   rw [seqIndex_of h0 h5] at h1
   exact Option.some.inj h1
  exact item_listR pl.isList h0 (by omega) (by rw [hj];simpa using ew) fin hs
 ·have hj:(i + (its.toArray.size:Int)).toNat=j:=by
   rw [seqIndex_neg (by omega) h4] at h1
   rw [List.size_toArray,← hl]
   exact Option.some.inj h1
  exact subscriptTail_builtinR (x:=w) pl.isList.typeIs slot_list_getitem.lookup
   (wpAny_getItem_list_neg (Q:=fun r s'=>r=w∧EP X pins σ Q r s') pl.isList (by omega) (by rw [List.size_toArray] <;> omega) (by omega) (by rw [hj];simpa using ew) ⟨rfl,fin⟩) hs
theorem bZ:l_ X (E4 X.K):=by
 intro value slice pins s σ H x y v u Q I rx ry h hs
 obtain ⟨p,xs,i,z,rfl,rfl,hq,he,q⟩:=h
 cases rx
 obtain ⟨t,rfl⟩:=ry
 obtain ⟨its,r,pl,hz⟩:=I.tuple hq
 obtain ⟨j,h1,h2,h3,h4,h5⟩:=n_ he
 obtain ⟨w,ew,rw'⟩:=r.get h2
 have hl:=r.length
 have hn:=iL
 have fin:EP X pins σ Q w s:=⟨z,H,I,rw',q⟩
 exact subscriptTail_builtinR (x:=w) pl.typeIs slot_tuple_getitem.lookup
  (getItem_tuple (j:=j) (Q:=fun r s'=>r=w∧EP X pins σ Q r s') pl (by omega) (by omega) (by rw [List.size_toArray,← hl];exact h1) (by simpa using ew) ⟨rfl,fin⟩) hs
theorem y3:l_ X GV:=by
 intro value slice pins s σ H x y v u Q I rx ry h hs
 obtain ⟨z,i,c,rfl,rfl,hz,he,q⟩:=h
 obtain ⟨t,rfl⟩:=rx
 obtain ⟨t',rfl⟩:=ry
 obtain ⟨j,h1,h2,h3,h4,h5⟩:=n_ he
 have hl:z.cps.toList.length=z.length:=by simp [Str.length]
 rw [hl] at h1 h4 h5
 have hn:=iL
 exact tail_any (typeIs_str s z t) slot_str_getitem.lookup (getItem_str (c:=c) (by
  have e1:decide (i < -(2 ^ 63:Int))=false:=decide_eq_false (by omega)
  have e2:decide (i ≥ 2 ^ 63)=false:=decide_eq_false (by omega)
  rw [e1,e2,Bool.or_false]) (by rw [h1];simpa using h2) ⟨.str ⟨#[c]⟩,H,I.tok _,⟨_,rfl⟩,q⟩) hs
theorem sV (its:List Value) (n j:Nat) (u:Value):Obj.mapSeq (·.setIfInBounds j u) { cls:=.type "list",data:=.seq its.toArray n }={ cls:=.type "list",data:=.seq (its.set j u).toArray n }:=by
 simp [Obj.mapSeq]
theorem Inv.lst {pins:List (Addr × Obj)} {σ:St} {H:Hp} {s:Shared} {p:Addr} {xs:List V} (I:Inv X pins σ H s) (h:H p=some (.lst xs)) :
  ∃ (its:List Value) (n:Nat),Vals xs its∧s.heap.get? p=some { cls:=.type "list",data:=.seq its.toArray n }∧xs.length≤sizeLine:=by
 obtain ⟨z,its,n,r,e⟩:=I.hok p _ h
 exact ⟨its,n,r,e,z⟩
theorem Inv.DO {pins:List (Addr × Obj)} {σ:St} {H:Hp} {s:Shared} {p:Addr} {xs ys:List V} {its its':List Value} {n n':Nat} {f:Obj→Obj} (I:Inv X pins σ H s) (h:H p=some (.lst xs))
  (ho:s.heap.get? p=some { cls:=.type "list",data:=.seq its.toArray n }) (hf:f { cls:=.type "list",data:=.seq its.toArray n }={ cls:=.type "list",data:=.seq its'.toArray n' }) (r:Vals ys its') (hz:ys.length≤sizeLine) (t:Nat) :
  Inv X pins σ (upd H p (.lst ys)) { s with heap:=s.heap.update p f,toks:=t }:=by
 have e:(s.heap.update p f).get? p=some { cls:=.type "list",data:=.seq its'.toArray n' }:=by
  rw [Heap.get?_update_self f ho (by rw [hf] <;> rfl),hf]
 refine I.write (x:=p) (e:=p) (by rw [h];trivial) (.inl rfl) (fun b u hb q=>(Heap.get?_update_other _ _ (Ne.symm hb)).trans q) ⟨_,e⟩ ?_
 exact ⟨hz,its',n',r,e⟩
def Ca:V→V→V→Hp→(Hp→Prop)→Prop:=fun o i v H Q=>∃ p xs k j,o=.ref p∧i=.int k∧H p=some (.lst xs)∧w_ xs.length k=some j∧Q (upd H p (.lst (xs.set j v)))
theorem set_list:ip X Ca:=by
 intro pins s σ H o i v ov iv u Q I ro ri rv h
 obtain ⟨p,xs,k,j,rfl,rfl,hp,hj,q⟩:=h
 cases ro
 obtain ⟨t,rfl⟩:=ri
 obtain ⟨its,n,r,ho,hz⟩:=I.lst hp
 obtain ⟨h1,h2,h3,h4⟩:=uM hj
 have hl:=r.length
 have hn:=iL
 have I':Inv X pins σ (upd H p (.lst (xs.set j v))) { s with heap:=s.heap.update p (Obj.mapSeq (·.setIfInBounds j u)) } :=
  I.DO hp ho (sV its n j u) (r.set rv j) (by rw [List.length_set];exact hz) s.toks
 by_cases h0:0≤k
 ·have hk:k.toNat=j:=by
   rw [seqIndex_of h0 h4] at h1
   exact Option.some.inj h1
  exact PySem.W.ki_setAt ho h0 (by omega) (by rw [List.size_toArray,← hl];exact h4) (by rw [hk];exact ⟨_,I',q⟩)
 ·have hk:(k + (its.toArray.size:Int)).toNat=j:=by
   rw [seqIndex_neg (by omega) h3] at h1
   rw [List.size_toArray,← hl]
   exact Option.some.inj h1
  exact PySem.W.ki_setBack ho (by omega) (by rw [List.size_toArray,← hl];exact h3) (by omega) (by rw [hk];exact ⟨_,I',q⟩)
theorem pd (lo hi:Option Int) (n:Nat):(sliceBounds lo hi none n).1=((HT.c8 n 0 lo:Nat):Int)∧(sliceBounds lo hi none n).2.1=((HT.c8 n n hi:Nat):Int)∧(sliceBounds lo hi none n).2.2=1:=by
 refine ⟨?_,?_,rfl⟩
 ·cases lo with
  | none=>simp [sliceBounds,HT.c8]
  | some i =>
   simp only [sliceBounds,HT.c8,Option.getD_none,show (1:Int) > 0 by decide,if_true]
   by_cases h:i < 0
   ·simp only [h,if_true] <;> omega
   ·simp only [h,if_false] <;> omega
 ·cases hi with
  | none=>simp [sliceBounds,HT.c8]
  | some i =>
   simp only [sliceBounds,HT.c8,Option.getD_none,show (1:Int) > 0 by decide,if_true]
   by_cases h:i < 0
   ·simp only [h,if_true] <;> omega
   ·simp only [h,if_false] <;> omega
theorem mC (its:List Value) (lo hi:Option Int):slicePick its.toArray lo hi none=((its.drop (HT.c8 its.length 0 lo)).take (HT.c8 its.length its.length hi - HT.c8 its.length 0 lo)).toArray:=by
 obtain ⟨h1,h2,h3⟩:=pd lo hi its.toArray.size
 unfold slicePick
 rw [h1,h2,h3]
 simp only [sliceRange_one,pick_run,List.size_toArray] <;> rfl
def GF (K:PySem.W.Frag):V→Option Int→Option Int→Hp→VK→Prop:=fun x lo hi H Q=>∃ a xs,x=.ref a∧cg K H a xs∧∀ p,H p=none→Q (.ref p) (upd H p (.lst (me xs lo hi)))
theorem o7:rX X (GF X.K):=by
 intro pins s σ H x v vl vu lo hi sl Q I rx hs pl pu h
 obtain ⟨a,xs,rfl,hx,q⟩:=h
 cases rx
 obtain ⟨its,r,ht,hz⟩:=I.list hx
 have hlen:=r.length
 refine ⟨"list",_,slot_list_getitem.lookup,ht.isList.typeIs,?_⟩
 refine wpAny_getItem_list_slice ht.isList hs pl pu .none (by simp) ?_ (by rw [List.size_toArray] <;> omega)
 rw [mC,← hlen]
 refine ⟨.ref s.heap.objs.size,_,I.laid (t':=s.toks) (o:=.lst (me xs lo hi)) (fun b ob q=>Heap.get?_push_of_some _ q) (Nat.le_refl _) ?_,rfl,q _ (I.hok.fresh (Nat.le_refl _))⟩
 exact ⟨Nat.le_trans (kB xs lo hi) hz,_,0,(r.drop (HT.c8 xs.length 0 lo)).take (HT.c8 xs.length xs.length hi - HT.c8 xs.length 0 lo),Heap.get?_push_size _ rfl⟩
def gr:V→Bool
 | .non=>true
 | .bl _=>true
 | .int _=>true
 | .str _=>true
 | _=>false
def zU:V→V→Bool
 | .non,.non=>true
 | .bl a,.bl b=>a == b
 | .bl a,.int b=>(if a then 1 else 0) == b
 | .int a,.bl b=>a == (if b then 1 else 0)
 | .int a,.int b=>a == b
 | .str a,.str b=>a == b
 | _,_=>false
theorem El {A:Around} {s:Shared} {y x:V} {u v:Value} (ry:RelV y u) (rx:RelV x v) (fy:gr y=true) (fx:gr x=true):SeqAt.EqAt A s u v (zU y x):=by
 cases y with
 | non =>
  cases ry
  cases x with
  | non=>cases rx;exact SeqAt.EqAt.same _
  | bl b=>cases rx;exact SeqAt.EqAt.none_bool b
  | int b=>obtain ⟨t,rfl⟩:=rx;exact SeqAt.EqAt.none_int b t
  | str b=>obtain ⟨t,rfl⟩:=rx;exact SeqAt.EqAt.none_str b t
  | _=>exact absurd (show false=true from fx) Bool.false_ne_true
 | bl a =>
  cases ry
  cases x with
  | non=>cases rx;exact SeqAt.EqAt.bool_none a
  | bl b=>cases rx;exact SeqAt.EqAt.bool_bool a b
  | int b=>obtain ⟨t,rfl⟩:=rx;exact SeqAt.EqAt.bool_int a b t
  | str b=>obtain ⟨t,rfl⟩:=rx;exact SeqAt.EqAt.bool_str a b t
  | _=>exact absurd (show false=true from fx) Bool.false_ne_true
 | int a =>
  obtain ⟨t',rfl⟩:=ry
  cases x with
  | non=>cases rx;exact SeqAt.EqAt.int_none a t'
  | bl b=>cases rx;exact SeqAt.EqAt.int_bool a t' b
  | int b=>obtain ⟨t,rfl⟩:=rx;exact SeqAt.EqAt.int_int a t' b t
  | str b=>obtain ⟨t,rfl⟩:=rx;exact SeqAt.EqAt.int_str a t' b t
  | _=>exact absurd (show false=true from fx) Bool.false_ne_true
 | str a =>
  obtain ⟨t',rfl⟩:=ry
  cases x with
  | non=>cases rx;exact SeqAt.EqAt.str_none a t'
  | bl b=>cases rx;exact SeqAt.EqAt.str_bool a t' b
  | int b=>obtain ⟨t,rfl⟩:=rx;exact SeqAt.EqAt.str_int a t' b t
  | str b=>obtain ⟨t,rfl⟩:=rx;exact SeqAt.EqAt.str_str a t' b t
  | _=>exact absurd (show false=true from fx) Bool.false_ne_true
 | _=>exact absurd (show false=true from fy) Bool.false_ne_true
def sD (x:V) (u:Value):Bool:=match u with
 | .none=>zU .non x
 | .bool b=>zU (.bl b) x
 | .int i _=>zU (.int i) x
 | .str z _=>zU (.str z) x
 | _=>false
theorem yd {x y:V} {u:Value} (r:RelV y u) (f:gr y=true):sD x u=zU y x:=by
 cases y with
 | non=>cases r;rfl
 | bl b=>cases r;rfl
 | int i=>obtain ⟨t,rfl⟩:=r;rfl
 | str z=>obtain ⟨t,rfl⟩:=r;rfl
 | _=>exact absurd (show false=true from f) Bool.false_ne_true
theorem i8 {x:V}:∀ {xs:List V} {us:List Value},Vals xs us→xs.all gr=true→us.any (sD x)=xs.any fun y=>zU y x
 | _,_,.nil,_=>rfl
 | y :: xs,u :: us,.cons r t,f=>by
  rw [List.all_cons,Bool.and_eq_true] at f
  rw [List.any_cons,List.any_cons,yd r f.1,i8 t f.2]
theorem gT {A:Around} {s:Shared} {x:V} {v:Value} (rx:RelV x v) (fx:gr x=true):∀ {xs:List V} {us:List Value},Vals xs us→xs.all gr=true→∀ u∈us,SeqAt.EqAt A s u v (sD x u)
 | _,_,.nil,_=>fun u hu=>by cases hu
 | y :: xs,u :: us,.cons r t,f=>fun u' hu=>by
  rw [List.all_cons,Bool.and_eq_true] at f
  rcases List.mem_cons.mp hu with rfl | hu
  ·rw [yd r f.1];exact El r rx f.1 fx
  ·exact gT rx fx t f.2 u' hu
def ED (x:V) (xs:List V):Bool:=xs.any fun y=>zU y x
def Jc (K:PySem.W.Frag) (neg:Bool):R2:=fun x y H Q=>∃ p xs,y=.ref p∧(cg K H p xs∨fA K H p xs)∧gr x=true∧xs.all gr=true∧Q (.bl (if neg then !ED x xs else ED x xs)) H
theorem wC:eX X (compareOp .In) (Jc X.K false):=by
 intro pins s σ H x y v u Q I rx ry h
 obtain ⟨p,xs,rfl,hq,fx,fs,q⟩:=h
 cases ry
 rcases hq with hq | hq
 ·obtain ⟨its,r,pl,hz⟩:=I.list hq
  refine SeqAt.in_listAt (sD x) pl.isList (fun w hw=>gT rx fx r fs w (by simpa using hw)) ⟨.bl _,H,I,rfl,?_⟩
  rw [show its.toArray.any (sD x)=its.any (sD x) by simp,i8 r fs]
  exact q
 ·obtain ⟨its,r,pl,hz⟩:=I.tuple hq
  refine SeqAt.in_tupleAt (sD x) pl (fun w hw=>gT rx fx r fs w (by simpa using hw)) ⟨.bl _,H,I,rfl,?_⟩
  rw [show its.toArray.any (sD x)=its.any (sD x) by simp,i8 r fs]
  exact q
theorem o9:eX X (compareOp .NotIn) (Jc X.K true):=by
 intro pins s σ H x y v u Q I rx ry h
 obtain ⟨p,xs,rfl,hq,fx,fs,q⟩:=h
 cases ry
 rcases hq with hq | hq
 ·obtain ⟨its,r,pl,hz⟩:=I.list hq
  refine SeqAt.notIn_listAt (sD x) pl.isList (fun w hw=>gT rx fx r fs w (by simpa using hw)) ⟨.bl _,H,I,rfl,?_⟩
  rw [show its.toArray.any (sD x)=its.any (sD x) by simp,i8 r fs]
  exact q
 ·obtain ⟨its,r,pl,hz⟩:=I.tuple hq
  refine SeqAt.notIn_tupleAt (sD x) pl (fun w hw=>gT rx fx r fs w (by simpa using hw)) ⟨.bl _,H,I,rfl,?_⟩
  rw [show its.toArray.any (sD x)=its.any (sD x) by simp,i8 r fs]
  exact q
theorem f_:cf X (.builtin "len") (fun xs H Q=>∃ p ys,xs=[.ref p]∧(cg X.K H p ys∨fA X.K H p ys)∧Q (.int ys.length) H):=by
 intro pins s σ H xs us Q I r h
 obtain ⟨p,ys,rfl,hq,q⟩:=h
 obtain ⟨u,rfl,rx⟩:=vals1 r
 cases rx
 have hn:=iL
 rcases hq with hq | hq
 ·obtain ⟨its,r',pl,hz⟩:=I.list hq
  have hlen:=r'.length
  exact Calls.call_len_list pl.isList (by simp only [List.size_toArray] <;> omega) ⟨.int ys.length,H,I.tok _,⟨s.toks + 1,by rw [List.size_toArray,hlen]⟩,q⟩
 ·obtain ⟨its,r',pl,hz⟩:=I.tuple hq
  have hlen:=r'.length
  exact len_tuple pl (by simp only [List.size_toArray] <;> omega) ⟨.int ys.length,H,I.tok _,⟨s.toks + 1,by rw [List.size_toArray,hlen]⟩,q⟩
theorem je:cf X (.builtin "len") (fun xs H Q=>∃ z,xs=[.str z]∧z.length≤sizeLine∧Q (.int z.length) H):=by
 intro pins s σ H xs us Q I r h
 obtain ⟨z,rfl,hz,q⟩:=h
 obtain ⟨u,rfl,t,rfl⟩:=vals1 r
 have hn:=iL
 exact len_str (by omega) ⟨.int z.length,H,I.tok _,⟨_,rfl⟩,q⟩
theorem oV:cf X (.type "list") (fun xs H Q=>∃ p ys,xs=[.ref p]∧(cg X.K H p ys∨fA X.K H p ys)∧∀ l,H l=none→Q (.ref l) (upd H l (.lst ys))):=by
 intro pins s σ H xs us Q I r h
 obtain ⟨p,ys,rfl,hq,q⟩:=h
 obtain ⟨u,rfl,rx⟩:=vals1 r
 cases rx
 have fin:∀ (its:List Value),Vals ys its→ys.length≤sizeLine→∀ (h':Heap) (c':Nat),(∀ b o',s.heap.get? b=some o'→h'.get? b=some o') →
   h'.get? s.heap.objs.size=some { cls:=.type "list",dict:=none,data:=.seq its.toArray c',slots:=#[] }→EP X pins σ Q (.ref s.heap.objs.size) { s with heap:=h' }:=fun its r' hz h' c' kp e =>
  ⟨.ref s.heap.objs.size,_,I.laid (t':=s.toks) kp (Nat.le_refl _) (show cn X.prog X.w _ h' _ (.lst ys) from ⟨hz,its,c',r',e⟩),rfl,q _ (I.hok.fresh (Nat.le_refl _))⟩
 rcases hq with hq | hq
 ·obtain ⟨its,r',pl,hz⟩:=I.list hq
  have hlen:=r'.length
  obtain ⟨o,ho,hc,n,hd⟩:=pl.isList
  exact call_list_seq p (.inl rfl) ho hc hd (fun h' c' kp e=>fin its r' hz h' c' kp e) (by simp only [List.size_toArray] <;> omega)
 ·obtain ⟨its,r',pl,hz⟩:=I.tuple hq
  have hlen:=r'.length
  obtain ⟨o,ho,hc,n,hd⟩:=pl
  exact call_list_seq p (.inr rfl) ho hc hd (fun h' c' kp e=>fin its r' hz h' c' kp e) (by simp only [List.size_toArray] <;> omega)
def Ha (K:PySem.W.Frag) (T:String) (x:V) (H:Hp):Prop:=match x with
 | .str _=>T="str"
 | .int _=>T="int"
 | .ref p=>(T="list"∧∃ xs,cg K H p xs)∨(T="tuple"∧∃ o,K.lookup p=some o∧o.cls=.type "tuple"∧o.dict=none) ∨
   (T="dict"∧((∃ kvs,H p=some (.dK kvs))∨∃ kvs ep,H p=some (.dE kvs ep)))∨(T="set"∧∃ S n,H p=some (.set S n))
 | _=>False
theorem zr {pins:List (Addr × Obj)} {σ:St} {H:Hp} {s:Shared} {T:String} {x:V} {v:Value} (I:Inv X pins σ H s) (r:RelV x v) (ty:Ha X.K T x H) :
  s.TypeIs v T∧∀ a,v=.ref a→∃ ob,s.heap.get? a=some ob∧ob.dict=none:=by
 cases x with
 | str z =>
  obtain ⟨t,rfl⟩:=r
  cases (show T="str" from ty)
  exact ⟨typeIs_str s z t,fun _ e=>nomatch e⟩
 | int i =>
  obtain ⟨t,rfl⟩:=r
  cases (show T="int" from ty)
  exact ⟨typeIs_int s i t,fun _ e=>nomatch e⟩
 | ref p =>
  cases r
  rcases ty with ⟨rfl,xs,hq⟩ | ⟨rfl,o,hk,hc,hd⟩ | ⟨rfl,hk⟩ | ⟨rfl,S,n,hk⟩
  ·obtain ⟨its,_,pl,_⟩:=I.list hq
   refine ⟨pl.isList.typeIs,fun a e=>?_⟩
   cases e
   obtain ⟨o,n,e,c,hd,_⟩:=pl
   exact ⟨o,e,hd⟩
  ·refine ⟨⟨o,I.jl p o hk,hc⟩,fun a e=>?_⟩
   cases e
   exact ⟨o,I.jl _ o hk,hd⟩
  ·have z:∃ o,s.heap.get? p=some o∧o.ExactDict:=by
    rcases hk with ⟨kvs,hk⟩ | ⟨kvs,ep,hk⟩
    ·obtain ⟨_,_,_,_,o,_,_,e,ex,_⟩:=I.hok p _ hk
     exact ⟨o,e,ex⟩
    ·obtain ⟨_,_,_,_,o,_,e,ex,_⟩:=I.hok p _ hk
     exact ⟨o,e,ex⟩
   obtain ⟨o,e,ex⟩:=z
   refine ⟨⟨o,e,ex.1⟩,fun a e2=>?_⟩
   cases e2
   exact ⟨o,e,ex.2.1⟩
  ·obtain ⟨o,_,_,_,e,ex,_⟩:=I.hok p _ hk
   refine ⟨⟨o,e,ex.1⟩,fun a e2=>?_⟩
   cases e2
   exact ⟨o,e,ex.2.1⟩
 | _=>exact False.elim ty
def IC (K:PySem.W.Frag) (T:String) (r:V→List V→Hp→VK→Prop) (to:TE):TE:=fun σ H Q=>to σ H fun x H1=>Ha K T x H1∧r x [] H1 Q
def G9 (K:PySem.W.Frag) (T:String) (r:V→List V→Hp→VK→Prop) (to:TE) (t:TA):TE:=fun σ H Q=>to σ H fun x H1=>Ha K T x H1∧t σ H1 fun xs H2=>r x xs H2 Q
variable {o e:Expr} {es:List Expr} {to:TE} {t:TA} {name:Str} {apos cpos:Pos} {T id:String} {r:V→List V→Hp→VK→Prop}
theorem Ef (pa:PlainAttrs T) (slot:Slot T name id) (hty:typeOf (.builtin id)=pure (.type "method_descriptor")) (hm:o5 X id r) (ho:PE X o to)
  (hbase:attributeBase o name X.env (eval o X.env)=eval o X.env:=by rfl) (hline:(apos.endLine == cpos.line)=true:=by rfl):PE X (.Call (.Attribute o name apos) [] [] cpos) (IC X.K T r to):=by
 intro pins s σ H Q I h
 refine wpAny_Call_method0_late hbase hline (bB (ho pins s σ H _ I h) fun v s1 ⟨x,H1,I1,r1,ty,q1⟩=>?_)
 obtain ⟨h1,h2⟩:=zr I1 r1 ty
 exact ⟨T,id,pa,slot,hty,h1,h2,Calls.callWith_builtin rfl (PySem.evalArgs_none (hm pins s1 σ H1 x [] v [] Q I1 r1 .nil q1))⟩
theorem l3 (pa:PlainAttrs T) (slot:Slot T name id) (hty:typeOf (.builtin id)=pure (.type "method_descriptor")) (hm:o5 X id r) (ho:PE X o to) (ha:PA X (e :: es) t)
  (hbase:attributeBase o name X.env (eval o X.env)=eval o X.env:=by rfl)
  (hfew:((backTo cpos (starEach (e :: es) X.env)).all (fun x=>!x.1) && (backToKw cpos (keywordEach [] X.env)).all (fun x=>x.1.isSome)
   && decide ((e :: es).length + ([]:List Keyword).length + (if ([]:List Keyword).isEmpty then 0 else 1) < 30))=true:=by rfl)
  (hline:(apos.endLine == cpos.line)=true:=by rfl) (hs:starEach (e :: es) X.env=(false,eval e X.env) :: starEach es X.env:=by rfl) (hplain:(backTo cpos (starEach es X.env)).any (·.1)=false:=by rfl) :
  PE X (.Call (.Attribute o name apos) (e :: es) [] cpos) (G9 X.K T r to t):=by
 intro pins s σ H Q I h
 refine wpAny_Call_method_late hbase hfew hline rfl (bB (ho pins s σ H _ I h) fun v s1 ⟨x,H1,I1,r1,ty,q1⟩=>?_)
 obtain ⟨h1,h2⟩:=zr I1 r1 ty
 refine ⟨T,id,pa,slot,hty,h1,h2,?_⟩
 have hA:=ha cpos pins s1 σ H1 _ I1 q1
 rw [hs] at hA ⊢
 refine Calls.callWith_builtin (by show (false || (backTo cpos (starEach es X.env)).any (·.1))=false;rw [hplain] <;> rfl) (Calls.evalArgs_plain ?_)
 exact bB hA fun us s2 ⟨vs,H2,I2,r2,q2⟩=>hm pins s2 σ H2 x vs v us Q I2 r1 r2 q2
end
end L2
namespace L2
open PySem PySem.Spec PyProof.Rows
def I8 (X:Cx) (id:String) (r:V→List V→Hp→VK→Prop):Prop :=
 ∀ (pins:List (Addr × Obj)) (s:Shared) (σ:St) (H:Hp) (x:V) (xs:List V) (v:Value) (us:List Value) (Q:VK),Inv X pins σ H s→RelV x v→Vals xs us→r x xs H Q →
  wpAny (model X.prog X.w) X.A (call (.builtin id) (v :: us)) (EP X pins σ Q) X.xe s
theorem Vals.one:∀ {x:V} {us:List Value},Vals [x] us→∃ u,us=[u]∧RelV x u
 | _,_,.cons r .nil=>⟨_,rfl,r⟩
theorem Vals.zero:∀ {us:List Value},Vals [] us→us=[]
 | _,.nil=>rfl
theorem Vals.dropLast {xs:List V} {us:List Value} (h:Vals xs us):Vals xs.dropLast us.dropLast:=by
 induction h with
 | nil=>exact .nil
 | cons r t ih =>
  cases t with
  | nil=>exact .nil
  | cons q t'=>exact .cons r ih
theorem Vals.eraseIdx:∀ {xs:List V} {us:List Value} (i:Nat),Vals xs us→Vals (xs.eraseIdx i) (us.eraseIdx i)
 | _,_,_,.nil=>.nil
 | _,_,0,.cons _ t=>t
 | _,_,i + 1,.cons r t=>.cons r (Vals.eraseIdx i t)
theorem Vals.reverse {xs:List V} {us:List Value} (h:Vals xs us):Vals xs.reverse us.reverse:=by
 induction h with
 | nil=>exact .nil
 | cons r t ih=>rw [List.reverse_cons,List.reverse_cons];exact Vals.append ih (.cons r .nil)
theorem Vals.rep {xs:List V} {us:List Value} (h:Vals xs us):∀ k:Nat,Vals (List.replicate k xs).flatten (List.replicate k us).flatten
 | 0=>.nil
 | k + 1=>by
  rw [List.replicate_succ,List.replicate_succ,List.flatten_cons,List.flatten_cons]
  exact Vals.append h (Vals.rep h k)
theorem sv {α:Type} (l:List α):l.eraseIdx (l.length - 1)=l.dropLast:=by
 induction l with
 | nil=>rfl
 | cons a r ih =>
  cases r with
  | nil=>rfl
  | cons b r =>
   have e:(a :: b :: r).length - 1=((b :: r).length - 1) + 1:=by
    have h1:(a :: b :: r).length=r.length + 2:=rfl
    have h2:(b :: r).length=r.length + 1:=rfl
    omega
   rw [e,List.eraseIdx_cons_succ,ih]
   all_goals rfl
section
variable {X:Cx} {pins:List (Addr × Obj)} {σ:St} {H:Hp} {s:Shared} {l b:Addr} {xs ys zs:List V}
theorem Inv.BK {its its':List Value} {n:Nat} {f:Array Value→Array Value} {t':Nat} (I:Inv X pins σ H s) (hH:H l=some (.lst xs))
  (e:s.heap.get? l=some { cls:=.type "list",data:=.seq its.toArray n }) (hf:f its.toArray=its'.toArray) (hv:Vals ys its') (hz:ys.length≤sizeLine) :
  Inv X pins σ (upd H l (.lst ys)) { s with heap:=s.heap.update l (Obj.mapSeq f),toks:=t' }:=by
 have q:=PySem.IsL.update e f
 rw [hf] at q
 refine I.write (x:=l) (e:=l) (by rw [hH];exact trivial) (.inl rfl) (fun b' u hb hu=>(Heap.get?_update_other s.heap (Obj.mapSeq f) (Ne.symm hb)).trans hu) ⟨_,q⟩ ?_
 exact ⟨hz,its',_,hv,q⟩
theorem Inv.fresh (I:Inv X pins σ H s):H s.heap.objs.size=none:=I.hok.fresh (Nat.le_refl _)
theorem Inv.A5 (I:Inv X pins σ H s) (hH:H l=some (.lst xs)):xs.length≤sizeLine∧∃ (its:List Value) (n:Nat),Vals xs its∧xs.length=its.length∧s.heap.get? l=some { cls:=.type "list",data:=.seq its.toArray n }:=by
 obtain ⟨z,its,n,r,e⟩:=I.hok l _ hH
 exact ⟨z,its,n,r,r.length,e⟩
end
section
variable {X:Cx}
def uS:V→List V→Hp→VK→Prop:=fun x vs H Q=>∃ l xs y,x=.ref l∧vs=[y]∧H l=some (.lst xs)∧xs.length < sizeLine∧Q .non (upd H l (.lst (xs ++ [y])))
theorem eI:I8 X "list.append" uS:=by
 intro pins s σ H x vs v us Q I rx rv h
 obtain ⟨l,xs,y,rfl,rfl,hH,hz,q⟩:=h
 cases rx
 obtain ⟨u,rfl,ru⟩:=rv.one
 obtain ⟨z,its,n,r,hl,e⟩:=I.A5 hH
 refine call_meets F.slot_list_append ⟨_,e,rfl⟩ F.entry_list_append (F.args_list_append_2 _ _) (PySem.list_append l its.toArray n u (by rw [List.size_toArray];omega)) ⟨e,?_⟩
 refine ⟨.non,_,I.BK (its':=its ++ [u]) hH e (by simp) (r.append (.cons ru .nil)) ?_,rfl,q⟩
 rw [List.length_append,List.length_singleton]
 omega
def IM:V→List V→Hp→VK→Prop:=fun x vs H Q=>∃ l xs y,x=.ref l∧vs=[]∧H l=some (.lst xs)∧xs[xs.length - 1]?=some y∧Q y (upd H l (.lst xs.dropLast))
theorem C8:I8 X "list.pop" IM:=by
 intro pins s σ H x vs v us Q I rx rv h
 obtain ⟨l,xs,y,rfl,rfl,hH,hy,q⟩:=h
 cases rx
 have hus:=rv.zero
 subst hus
 obtain ⟨z,its,n,r,hl,e⟩:=I.A5 hH
 obtain ⟨u,hu,ru⟩:=r.get hy
 have hy':its.toArray[its.toArray.size - 1]?=some u:=by
  show its.toArray[its.length - 1]?=some u
  rw [← Array.getElem?_toList,← hl]
  exact hu
 refine call_meets F.slot_list_pop ⟨_,e,rfl⟩ F.entry_list_pop (F.args_list_pop_1 _) (MeetsSeq.list_pop_last l its.toArray n u hy' (by rw [List.size_toArray];omega)) ⟨e,?_⟩
 refine ⟨y,_,I.BK (its':=its.dropLast) hH e ?_ r.dropLast ?_,ru,q⟩
 ·show its.toArray.eraseIdxIfInBounds (its.toArray.size - 1)=its.dropLast.toArray
  rw [List.size_toArray,List.eraseIdxIfInBounds_toArray,sv]
 ·rw [List.length_dropLast]
  omega
end
section
variable {prog:Program} {w:World} {A:Around} {E:Value→Shared→Prop} {s:Shared}
end
section
variable {X:Cx}
end
end L2
namespace Att
open PySem PySem.W PySem.Calls PyProof.Rows
theorem kK {P:Params} {h:Heap}:∀ (ns:List Int) (vs:List Value),WellAll P h vs (ns.map WData.int)→IntsAre vs ns:=by
 intro ns
 induction ns with
 | nil =>
  intro vs w
  rw [List.map_nil] at w
  cases w
  exact .nil
 | cons n ns ih =>
  intro vs w
  rw [List.map_cons] at w
  cases w with
  | cons a b =>
   cases a
   exact .cons _ _ (ih _ b)
theorem wL {l:OpenLaw} {n:Nat} (hn:l.most=some n) {P:Params} {h:Heap} {args:List WData} {vals:List Value}
  (hpre:l.row.toRowW.claim.pre args=true) (hwl:WellAll P h vals args) :
  ∃ a vs ns,vals=[Value.ref a]∧args=[WData.list (ns.map WData.int)]∧h.get? a=some { cls:=.type "list",data:=.seq vs.toArray }∧IntsAre vs ns∧ns.length≤n:=by
 have hsh:WShape.hasAll [] args [.list .int]=true:=(pre_splitW hpre).1
 have hc:l.pre.holds [] { args:=args }=true:=(pre_splitW hpre).2
 obtain ⟨d,r,rfl,h1,h2⟩:=hasAllW_cons hsh
 obtain rfl:=hasAllW_nil h2
 obtain ⟨xs,rfl,h3⟩:=hasW_list h1
 obtain ⟨ns,rfl⟩:=items_int h3
 have hlen:ns.length≤n:=by
  unfold OpenLaw.pre at hc
  have h4:(WTm.not (.lt (.lit (.int (n:Int))) (.len (.arg 0)))).holds [] { args:=[.list (ns.map .int)] }=true:=by
   have h4:=(holds_andW hc).1
   rw [hn] at h4
   exact h4
  have h5:=condW_of h4 (w_not (w_lt w_lit (w_len_list (w_arg rfl))))
  rw [List.length_map] at h5
  refine Nat.le_of_not_lt fun q=>?_
  have q':(n:Int) < ((ns.length:Nat):Int):=by omega
  first
   | (rw [decide_eq_true q'] at h5;exact absurd h5 (by decide))
   | (simp at h5;omega)
 cases hwl with
 | cons w1 w2 =>
  cases w2
  cases w1 with
  | list ho hall=>exact ⟨_,_,ns,rfl,rfl,ho,kK ns _ hall,hlen⟩
theorem wV (l:OpenLaw) (args:List WData):l.row.toRowW.claim.post args (.bool true) args=true :=
 postW_of (r:=l.row.toRowW) (X:=(true == true))
  (show WShape.has [] (.bool true) .bool=true by first | rfl | decide | simp [WShape.has,WShape.arms,WShape.armsAll])
  (show (WTm.eq .res (.lit (.bool true))).value [] { args:=args,res:=some (.bool true),after:=args }=some (.bool (true == true)) from w_eq_bool (w_res rfl) w_lit) rfl
theorem q9 {l:OpenLaw} {n:Nat} {q:Program} {loose:List Str} {XP:(Str→Option Value)→Heap→Prop} {YP:World→Heap→Prop} {d:DefRec}
  (hn:l.most=some n) (hdf:d.params.defaults=[])
  (call:∀ (w:World) (s₀ s₁:Shared) (mg mb:Str→Option Value) (fa:Addr) (o:Obj) (pm cd doc:Value) (a:Addr) (vs:List Value) (ns:List Int),
   Ground q loose [] XP w s₀ mg mb s₁.heap→YP w s₁.heap →
   s₁.heap.get? fa=some o→o.data=.func (docDef d.name d.params d.body d.scope pm cd doc)→s₁.heap.CodeRec cd d.name→mg d.name=some (.ref fa) →
   s₁.heap.get? a=some { cls:=.type "list",data:=.seq vs.toArray }→IntsAre vs ns→ns.length≤n→s₁.gens=#[] →
   codeAny (model l.prog w) callerA (.call (.ref fa) ⟨[.ref a],[]⟩) (fun r s'=>r=.ok (.ret (.bool true))∧OldK s₁.heap s'.heap∧s'.os=s₁.os∧AllBare s'.gens) s₁) :
  WalkO q loose XP YP l.row.toRowW d [] (fun f vs=>PySem.call f vs):=by
 intro w s₀ s₁ mg mb G Y fa o pm cd doc dV kV ho hd hcd hD hmg hg args vals as hpre hlay hrd hwl hlo
 obtain rfl:dV=.none:=Dflts.none hD hdf
 obtain rfl:kV=.none:=Dflts.noKw hD
 obtain ⟨a,vs,ns,rfl,rfl,hobj,hints,hlen⟩:=wL hn hpre hwl
 refine enter_call (codeAny_mono (call w s₀ s₁ mg mb fa o pm cd doc a vs ns G Y ho (fd_plain hd) hcd hmg hobj hints hlen hg) fun r s' hq=>?_)
 obtain ⟨rfl,h2,h3,h4⟩:=hq
 exact ⟨.inl ⟨.bool true,.bool true,[],rfl,fun _=>rfl,.bool true,wV l _,fun _=>⟨List.Pairwise.nil,fun _ hm=>(nomatch hm)⟩⟩,h2,h3,h4⟩
section
variable {prog:Program} {w:World} {A:Around} {E:Value→Shared→Prop} {s:Shared} {K:Frag}
end
end Att
namespace L2
open PySem PySem.Spec PyProof.Rows
theorem m9:∀ {vs:List Value} {ns:List Int},IntsAre vs ns→Vals (ns.map V.int) vs
 | _,_,.nil=>.nil
 | _,_,.cons n t h=>.cons ⟨t,rfl⟩ (m9 h)
end L2
namespace L2
open PySem PySem.Spec PyProof.Rows
abbrev bQ {K:PySem.W.Frag} {h:Heap} (_:K.In h):PySem.W.Frag:=K
end L2
namespace L2
open PySem PySem.Spec PyProof.Rows
def inClass (s:Stmt) (j:Nat):Stmt:=match s with
 | .ClassDef _ _ _ body _ _ _ _ _ _ _=>body.getD j (.Pass ⟨0,0,0,0⟩)
 | _=>.Pass ⟨0,0,0,0⟩
def cv (s:Stmt):Arguments:=match s with
 | .FunctionDef _ a _ _ _ _ _ _ _ _=>a
 | _=>{ posonlyargs:=[],args:=[],vararg:=none,kwonlyargs:=[],kw_defaults:=[],kwarg:=none,defaults:=[] }
def bE (s:Stmt):List Stmt:=match s with
 | .FunctionDef _ _ b _ _ _ _ _ _ _=>b
 | _=>[]
def aj (s:Stmt):Scope:=match s with
 | .FunctionDef _ _ _ _ _ _ sc _ _ _=>sc
 | _=>{ kind:=.function,names:=[],isGenerator:=false,isCoroutine:=false }
abbrev ml:mz:=fun _ _ _ _ _ _=>False
abbrev E0:XK:=fun _ _ _=>False
theorem Gs {X:Cx}:Passes ml X E0:=fun _ _ _ _ _ _ _ h=>h.elim
structure bX (K:PySem.W.Frag) (x qual:Str) (st:Stmt) (f:Addr) (fd:FuncData):Prop where
 ex:∃ (oc:Value) (od:Option Addr) (kV doc pm:Value) (an:Option Addr) (cdv ct:Value) (osl:Array (Option Value)),
  fd=PySem.W.fnOf x qual (cv st) (bE st) (aj st) .none kV doc pm an cdv ct∧K.lookup f=some ⟨oc,od,.func fd,osl⟩∧PySem.W.codeIn K cdv qual=true
 kp:PySem.W.keepIn K (.ref f)=true
section
variable {P:Program} {w:World} {K:PySem.W.Frag} {mg:Str→Option Value} {base:Heap}
theorem bX.ok {x qual:Str} {st:Stmt} {f:Addr} {fd:FuncData} {N ps:List Str} {k:Nat} {sp:Sp} (F:bX K x qual st f fd) (S:aw N ps (aj st)) (len:∀ vs H Q E,sp vs H Q E→vs.length=ps.length)
  (hbody:∀ (cdv:Value) (A:Around) (outer:List Env) (s:Shared) (H:Hp) (vs:List V) (Q:VK) (E:XK),bj k (A.deeper (envOfC qual (aj st) s.heap.objs.size f cdv))→sp vs H Q E →
   ∃ t,n8 (pj ml P w K mg base N qual (aj st) f cdv A outer s H E).zT (bE st) t∧t { nx:=fun _ H'=>Q .non H',rt:=Q } (start N vs) H):aI P w K mg base ml (k + 1) f fd ps sp:=by
 obtain ⟨oc,od,kV,doc,pm,an,cdv,ct,osl,rfl,lk,hcd⟩:=F.ex
 refine xA lk hcd S len fun A outer s H vs Q E hr hsp=>?_
 obtain ⟨t,h,q⟩:=hbody cdv A outer s H vs Q E hr hsp
 exact ⟨t,h.zT,q⟩
theorem bX.binds {x qual:Str} {st:Stmt} {f:Addr} {fd:FuncData} {ps:List Str} (F:bX K x qual st f fd)
  (h:∀ (kV doc pm:Value) (an:Option Addr) (cdv ct:Value) (us:List Value),us.length=ps.length→bindArgs (PySem.W.fnOf x qual (cv st) (bE st) (aj st) .none kV doc pm an cdv ct) ⟨us,[]⟩=pure (ps.zip us)):Binds K fd ps []:=by
 obtain ⟨oc,od,kV,doc,pm,an,cdv,ct,osl,rfl,lk,hcd⟩:=F.ex
 exact .all (h kV doc pm an cdv ct)
theorem sE {x qual:Str} {st:Stmt} {f:Addr} {oc:Value} {od an:Option Addr} {osl:Array (Option Value)} {kV doc pm cdv ct:Value} (l:K.lookup f=some ⟨oc,od,.func (PySem.W.fnOf x qual (cv st) (bE st) (aj st) .none kV doc pm an cdv ct),osl⟩)
  (c:PySem.W.codeIn K cdv qual=true) (k:PySem.W.keepIn K (.ref f)=true):bX K x qual st f (PySem.W.fnOf x qual (cv st) (bE st) (aj st) .none kV doc pm an cdv ct):=⟨⟨oc,od,kV,doc,pm,an,cdv,ct,osl,rfl,l,c⟩,k⟩
end
theorem aV {n:Nat} (h:n≤1000):n < sizeLine:=Nat.lt_of_le_of_lt h (by decide)
section
variable {X:Cx}
theorem pv (i:Nat) {x:Str} {pos:Pos} (hN:X.N[i]?=some x:=by rfl) (hv:p7 X.env.scope x:=by first | exact Or.inl rfl | exact Or.inr (Or.inl rfl) | exact Or.inr (Or.inr rfl)) (hd:(x == ("__debug__":Str))=false:=by decide)
  (hcd:(x == ("__classdict__":Str))=false:=by decide):PE X (.Name x pos) (wR i):=tE hN hv hd hcd
end
theorem yn {c A B:Prop} [Decidable c] (h1:c→A) (h2:¬ c→B):if c then A else B:=by
 by_cases h:c
 ·rw [if_pos h]
  exact h1 h
 ·rw [if_neg h]
  exact h2 h
def aZ (H H':Hp):Prop:=∀ b o,H b=some o→H' b=some o
theorem aZ.refl (H:Hp):aZ H H:=fun _ _ h=>h
theorem aZ.trans {H H1 H2:Hp} (a:aZ H H1) (b:aZ H1 H2):aZ H H2:=fun c o h=>b c o (a c o h)
theorem aZ.free {H H':Hp} (e:aZ H H') {l:Addr} (h:H' l=Option.none):H l=Option.none:=by
 cases q:H l with
 | none=>rfl
 | some o =>
  rw [e l o q] at h
  cases h
theorem aZ.seq {K:PySem.W.Frag} {H H':Hp} {a:Addr} {xs:List V} (e:aZ H H') (h:cg K H a xs):cg K H' a xs:=by
 rcases h with (h | ⟨o,h⟩) | h
 ·exact .inl (.inl (e _ _ h))
 ·exact .inl (.inr ⟨o,e _ _ h⟩)
 ·exact .inr h
end L2
namespace Ov
theorem p_ {a b:Int} (h:b≠0):Int.gcd b (a % b)=Int.gcd a b:=by
 have e:a=b * (a / b) + a % b:=(Int.mul_ediv_add_emod a b).symm
 have d1:((Int.gcd b (a % b):Nat):Int) ∣ a:=by
  rw [e]
  exact Int.dvd_add (Int.dvd_trans (Int.gcd_dvd_left ..) (Int.dvd_mul_right ..)) (by rw [← e];exact Int.gcd_dvd_right ..)
 have d2:((Int.gcd a b:Nat):Int) ∣ a % b:=by
  have e2:a % b=a - b * (a / b):=by omega
  rw [e2]
  exact Int.dvd_sub (Int.gcd_dvd_left ..) (Int.dvd_trans (Int.gcd_dvd_right ..) (Int.dvd_mul_right ..))
 exact Nat.dvd_antisymm (Int.dvd_gcd d1 (Int.gcd_dvd_left ..)) (Int.dvd_gcd (Int.gcd_dvd_right ..) d2)
theorem vt {a:Int} (h:0≤a):((Int.gcd a 0:Nat):Int)=a:=by
 rw [Int.gcd_zero_right];omega
theorem Ae (a b:Int):Int.gcd (if a < 0 then -a else a) (if b < 0 then -b else b)=Int.gcd a b:=by
 split <;> split <;> simp [Int.gcd_neg,Int.neg_gcd]
theorem yD (a b:Int):Int.gcd (if a < 0 then -a else a) b=Int.gcd a b:=by
 split <;> simp [Int.gcd_neg,Int.neg_gcd]
theorem uG {t b:Int} (h:b≠0):0 < ((Int.gcd t b:Nat):Int):=by
 have:0 < Int.gcd t b:=Int.gcd_pos_of_ne_zero_right t h
 omega
theorem Eu {t b:Int} (h:b≠0):Int.gcd t b≤b.natAbs:=Nat.le_of_dvd (by omega) (Int.ofNat_dvd.mp (by rw [Int.dvd_natAbs];exact Int.gcd_dvd_right ..))
theorem oK {t b:Int} (h:0 < b):t.fdiv ((Int.gcd t b:Nat):Int)=(Rat.divInt t b).num:=by
 rw [Rat.num_divInt,Int.sign_eq_one_of_pos h,Int.one_mul,Int.gcd_comm b t,Int.fdiv_eq_ediv_of_nonneg _ (Int.natCast_nonneg _)]
theorem den_pos {t b:Int} (h:0 < b):b.fdiv ((Int.gcd t b:Nat):Int)=((Rat.divInt t b).den:Int):=by
 rw [Rat.den_divInt,if_neg (by omega),Int.gcd_comm b t,Int.fdiv_eq_ediv_of_nonneg _ (Int.natCast_nonneg _)]
 rw [Int.natCast_ediv]
 congr 1
 omega
theorem uO {t b:Int} (h:b < 0):t.fdiv (-((Int.gcd t b:Nat):Int))=(Rat.divInt t b).num:=by
 have e:t.fdiv (-((Int.gcd t b:Nat):Int))=(-t).fdiv ((Int.gcd t b:Nat):Int):=by
  have:=Int.neg_fdiv_neg (a:=-t) (b:=((Int.gcd t b:Nat):Int))
  rw [← this];simp
 rw [e,Rat.num_divInt,Int.sign_eq_neg_one_of_neg h,Int.gcd_comm b t,Int.fdiv_eq_ediv_of_nonneg _ (Int.natCast_nonneg _)]
 congr 1
 omega
theorem BX {t b:Int} (h:b < 0):b.fdiv (-((Int.gcd t b:Nat):Int))=((Rat.divInt t b).den:Int):=by
 have e:b.fdiv (-((Int.gcd t b:Nat):Int))=(-b).fdiv ((Int.gcd t b:Nat):Int):=by
  have:=Int.neg_fdiv_neg (a:=-b) (b:=((Int.gcd t b:Nat):Int))
  rw [← this];simp
 rw [e,Rat.den_divInt,if_neg (by omega),Int.gcd_comm b t,Int.fdiv_eq_ediv_of_nonneg _ (Int.natCast_nonneg _)]
 rw [Int.natCast_ediv]
 congr 1
 omega
theorem uH (t b:Int):(Rat.divInt t b).num.natAbs≤t.natAbs:=by
 rcases Int.lt_trichotomy b 0 with h | h | h
 ·rw [← uO h]
  exact Int.natAbs_fdiv_le_natAbs ..
 ·subst h;simp
 ·rw [← oK h,Int.fdiv_eq_ediv_of_nonneg _ (Int.natCast_nonneg _)]
  exact Int.natAbs_ediv_le_natAbs ..
theorem oC {t b:Int} (h:b≠0):(((Rat.divInt t b).den:Int)).natAbs≤b.natAbs:=by
 rw [Rat.den_divInt,if_neg h]
 exact Nat.div_le_self ..
theorem ig (p:Rat):Rat.divInt p.num p.den=p:=Rat.num_divInt_den p
theorem dC (p:Rat):(p.den:Int)≠0:=by have:=p.den_pos;omega
theorem iI (p:Rat):(0:Int) < p.den:=by have:=p.den_pos;omega
theorem add_eq (p q:Rat):Rat.divInt (p.num * q.den + q.num * p.den) (p.den * q.den)=p + q:=by
 rw [← Rat.divInt_add_divInt _ _ (dC p) (dC q),ig,ig]
theorem sub_eq (p q:Rat):Rat.divInt (p.num * q.den - q.num * p.den) (p.den * q.den)=p - q:=by
 rw [← Rat.divInt_sub_divInt _ _ (dC p) (dC q),ig,ig]
theorem mul_eq (p:Rat) (m:Int):Rat.divInt (p.num * m) p.den=p * m:=by
 have:=Rat.divInt_mul_divInt p.num m (d₁:=p.den) (d₂:=1)
 rw [ig,Int.mul_one] at this
 rw [← this,Rat.divInt_eq_div]
 congr 1
 grind
theorem cast_eq (p:Rat):(p.num:Rat)=p * (p.den:Int):=by
 have h:((p.den:Int):Rat)≠0:=by
  intro e
  exact dC p (by exact_mod_cast e)
 have e:=ig p
 rw [Rat.divInt_eq_div] at e
 grind
theorem fH (p:Rat):((p.den:Int):Rat)≠0:=fun e=>dC p (by exact_mod_cast e)
theorem Gf (b p m:Rat) (v:Int):Rat.divInt (p.num * (m.den * b.den) + v * (m.num * b.den - b.num * m.den) * p.den) (p.den * (m.den * b.den))=p + (m - b) * v:=by
 have h:=fH p
 have g:=fH b
 have k:=fH m
 simp only [Rat.divInt_eq_div,Rat.intCast_add,Rat.intCast_sub,Rat.intCast_mul,cast_eq p,cast_eq b,cast_eq m]
 generalize ((p.den:Int):Rat)=d at h ⊢
 generalize ((b.den:Int):Rat)=e at g ⊢
 generalize ((m.den:Int):Rat)=f at k ⊢
 generalize (v:Rat)=v
 grind
theorem rh {n:Int} (h:n≠0):(n:Rat)≠0:=fun e=>h (by exact_mod_cast e)
theorem D1 (g:Rat) (n:Int) (h:n≠0):Rat.divInt g.num (g.den * n)=g / n:=by
 have k:=fH g
 have l:=rh h
 simp only [Rat.divInt_eq_div,Rat.intCast_mul,cast_eq g]
 generalize ((g.den:Int):Rat)=d at k ⊢
 generalize (n:Rat)=n at l ⊢
 grind
end Ov
namespace Ov
open PySem PySem.Spec PyProof.Rows L2
structure Bd (n:Nat) (x:Int):Prop where
 lt:x.natAbs < 2 ^ n
theorem Bd.bits {n:Nat} {x:Int} (h:Bd n x):Builtin.Int.intBits x≤n:=intBits_le_iff.mpr h.lt
theorem Bd.of {n:Nat} {x:Int} (h:Builtin.Int.intBits x≤n):Bd n x:=⟨intBits_le_iff.mp h⟩
theorem Bd.mono {m n:Nat} {x:Int} (h:Bd m x) (hmn:m≤n):Bd n x:=.of (Nat.le_trans h.bits hmn)
theorem Bd.neg {n:Nat} {x:Int} (h:Bd n x):Bd n (-x):=.of (intBits_neg_le h.bits)
theorem Bd.add {m n k:Nat} {x y:Int} (h:Bd m x) (g:Bd n y) (hk:max m n + 1≤k:=by decide):Bd k (x + y):=(Bd.of (intBits_add_le h.bits g.bits)).mono hk
theorem Bd.sub {m n k:Nat} {x y:Int} (h:Bd m x) (g:Bd n y) (hk:max m n + 1≤k:=by decide):Bd k (x - y):=(Bd.of (intBits_sub_le h.bits g.bits)).mono hk
theorem Bd.mul {m n k:Nat} {x y:Int} (h:Bd m x) (g:Bd n y) (hk:m + n≤k:=by decide):Bd k (x * y):=(Bd.of (intBits_mul_le h.bits g.bits)).mono hk
theorem Bd.le {n:Nat} {x y:Int} (g:Bd n y) (h:x.natAbs≤y.natAbs):Bd n x:=⟨Nat.lt_of_le_of_lt h g.lt⟩
theorem Bd.small {x:Int} (h1:-(2 ^ 64) < x) (h2:x < 2 ^ 64):Bd 64 x:=.of (intBits_le_64 h1 h2)
theorem Bd.log {n:Nat} {x:Int} (h:Bd n x) (hn:n≤9000) (h0:x≠0):x.natAbs.log2 < 9000 :=
 Nat.lt_of_lt_of_le ((Nat.log2_lt (by omega)).mpr h.lt) hn
section
variable {X:Cx}
def CM (i j:Int):Prop:=∃ m n,Bd m i∧Bd n j∧m + n≤134217728
theorem CM.of {m n:Nat} {i j:Int} (h:Bd m i) (g:Bd n j) (hk:m + n≤134217728:=by decide):CM i j:=⟨m,n,h,g,hk⟩
theorem bT:eX X (binaryOp .Mult) (rI CM fun i j=>.int (i * j)):=He fun _ _ _ _ _ _ _ hc q=>by
 obtain ⟨m,n,h,g,hk⟩:=hc
 exact mul_int q (IntMulOk.of_le h.bits g.bits hk)
def CQ (_ j:Int):Prop:=j≠0∧Bd 9000 j
theorem eJ:eX X (binaryOp .FloorDiv) (rI CQ fun i j=>.int (i.fdiv j)):=He fun _ _ _ _ _ _ _ hc q =>
 floordiv_int hc.1 q (.inl (PyProof.noPylong_of_log2 (hc.2.log (Nat.le_refl _) hc.1)))
def Jz (f:Bool→Bool):R2:=fun x y H Q=>∃ (p q:Addr) (a b c d:Int),x=.ref p∧y=.ref q∧H p=some (.tup [.int a,.int b])∧H q=some (.tup [.int c,.int d])∧Q (.bl (f (decide (a=c∧b=d)))) H
def E_ (t u:TS):TS:=fun D σ H=>∃ M:L2.St→Hp→Prop,t { D with nx:=M } σ H∧∀ σ' H',M σ' H'→u D σ' H'
theorem Bo {st:Stmt} {rest:List Stmt} {t u:TS} (h1:PS X st t) (h2:n8 X rest u):n8 X (st :: rest) (E_ t u):=by
 intro pins s σ H D I h
 obtain ⟨M,h,k⟩:=h
 refine wpAny_execs_cons (bB (h1 pins s σ H { D with nx:=M } I h) fun f s1 q=>?_)
 cases f with
 | next =>
  obtain ⟨σ',H',I',q⟩:=q
  exact h2 pins s1 σ' H' D I' (k _ _ q)
 | ret v=>exact q
 | brk=>exact q
 | cont=>exact q
end
section
variable {X:Cx}
def CI:R2:=fun x y H Q=>∃ p xs i v,x=.ref p∧y=.int i∧H p=some (.lst xs)∧cH xs i=some v∧Q v H
def FR:R2:=fun x y H Q=>∃ p xs i v,x=.ref p∧y=.int i∧H p=some (.tup xs)∧cH xs i=some v∧Q v H
theorem e8:l_ X CI:=fun value slice pins s σ H x y v u Q I rx ry ⟨p,xs,i,z,e1,e2,h,e3,q⟩ hs =>
 oe value slice pins s σ H x y v u Q I rx ry ⟨p,xs,i,z,e1,e2,cg.of h,e3,q⟩ hs
end
theorem cS {α:Type} (x:α) (xs:List α):cH (x :: xs) 0=some x:=a_ (j:=0) rfl
theorem d7 {α:Type} (x y:α) (xs:List α):cH (x :: y :: xs) 1=some y:=a_ (j:=1) rfl
theorem iz {α:Type} (x y z:α) (xs:List α):cH (x :: y :: z :: xs) 2=some z:=a_ (j:=2) rfl
theorem yO {α:Type} (x y z u:α) (xs:List α):cH (x :: y :: z :: u :: xs) 3=some u:=a_ (j:=3) rfl
theorem Bu (i j:Int):zH (.int i) (.int j)=true:=rfl
theorem Av (i j:Bool):zH (.bl i) (.bl j)=true:=rfl
theorem Az (i j:Str):zH (.str i) (.str j)=true:=rfl
def mB (P:Program) (w:World) (K:PySem.W.Frag) (mg:Str→Option Value) (base:Heap) (k:Nat) (x:Str) (ps:List Str) (sp:Sp):Prop :=
 ∃ f fd,aI P w K mg base ml k f fd ps sp∧Binds K fd ps []∧PySem.W.keepIn K (.ref f)=true∧mg x=some (.ref f)
theorem D9 {X:Cx} {k k':Nat} {x:Str} {ps:List Str} {sp:Sp} {p pos:Pos} {e:Expr} {es:List Expr} {t:TA} (C:mB X.prog X.w X.K X.mg X.base k x ps sp) (hr:bj k' X.A) (hk:k≤k') (hg:Gl X x) (ha:PA X (e :: es) t)
  (hdb:(x == ("__debug__":Str))=false:=by decide) (he:starEach (e :: es) X.env=(false,eval e X.env) :: starEach es X.env:=by rfl) (hpl:(backTo pos (starEach es X.env)).any (·.1)=false:=by rfl) :
  PE X (.Call (.Name x p) (e :: es) [] pos) (mw sp [] E0 t):=by
 obtain ⟨f,fd,F,b,kp,m⟩:=C
 exact vm F (hr.mono hk) hg m kp b .nil Gs ha hdb he hpl
theorem dD {N P:List Str} {sc:Scope} (a:sc.kind=.function:=by rfl) (b:sc.isCoroutine=false:=by rfl) (c:sc.isGenerator=false:=by rfl) (d:N.Nodup:=by decide +kernel) (e:N.take P.length=P:=by rfl) (f:∀ x∈P,sc.names.lookup x=some .local∨sc.names.lookup x=some .cell:=by decide +kernel) (g:∀ y∈sc.names,y.2≠.free:=by decide +kernel):aw N P sc:=⟨a,b,c,d,e,f,g⟩
def Def (K:PySem.W.Frag) (mg:Str→Option Value) (x:Str) (st:Stmt):Prop:=∃ f fd,bX K x x st f fd∧mg x=some (.ref f)
theorem Dy {K:PySem.W.Frag} {h:Heap} {mg:Str→Option Value} {x:Str} {st:Stmt} (X:K.In h) (G:h.Ns mainGlobals mg) {f:Addr} {od an:Option Addr} {sl:Array (Option Value)} {oc kV dc pm cd ct:Value}
  (a:PySem.W.nsIn K mainGlobals x=some (some (.ref f))) (l:K.lookup f=some ⟨oc,od,.func (PySem.W.fnOf x x (cv st) (bE st) (aj st) .none kV dc pm an cd ct),sl⟩) (c:PySem.W.codeIn K cd x=true) (k:PySem.W.keepIn K (.ref f)=true) :
  Def K mg x st:=⟨f,_,sE l c k,PySem.W.mg_of X G a⟩
theorem Def.yM {P:Program} {w:World} {K:PySem.W.Frag} {mg:Str→Option Value} {base:Heap} {x:Str} {st:Stmt} {k:Nat} {ps:List Str} {sp:Sp} (D:Def K mg x st)
  (h:∀ f fd,bX K x x st f fd→aI P w K mg base ml k f fd ps sp)
  (hb:∀ (kV doc pm:Value) (an:Option Addr) (cdv ct:Value) (us:List Value),us.length=ps.length→bindArgs (PySem.W.fnOf x x (cv st) (bE st) (aj st) .none kV doc pm an cdv ct) ⟨us,[]⟩=pure (ps.zip us)) :
  mB P w K mg base k x ps sp:=by
 obtain ⟨f,fd,F,m⟩:=D
 exact ⟨f,fd,h f fd F,F.binds hb,F.kp,m⟩
theorem Eo {K:PySem.W.Frag} {mg:Str→Option Value} {st:Stmt} {fa:Addr} {p:Str} (D:Def K mg "law" st) (hfa:mg "law"=some (.ref fa))
  (hb:∀ (kV doc pm:Value) (an:Option Addr) (cdv ct:Value) (u:Value),bindArgs (PySem.W.fnOf "law" "law" (cv st) (bE st) (aj st) .none kV doc pm an cdv ct) ⟨[u],[]⟩=pure [(p,u)]) :
  ∃ fd,bX K "law" "law" st fa fd∧∀ (s:Shared) (u:Value),BindsTo s fd ⟨[u],[]⟩ [(p,u)]:=by
 obtain ⟨f,fd,F,m⟩:=D
 have e:=m.symm.trans hfa
 cases e
 obtain ⟨oc,od,kV,doc,pm,an,cdv,ct,osl,rfl,lk,hcd⟩:=F.ex
 exact ⟨_,F,fun s u=>.of_eq (hb kV doc pm an cdv ct u)⟩
structure xa (mg:Str→Option Value):Prop where
 abs:mg "abs"=none
 len:mg "len"=none
 isinstance:mg "isinstance"=none
 range:mg "range"=none
 int:mg "int"=none
 bool:mg "bool"=none
 tuple:mg "tuple"=none
 list:mg "list"=none
 sorted:mg "sorted"=none
 all:mg "all"=none
theorem _root_.L2.aZ.tup {K:PySem.W.Frag} {H H':Hp} {a:Addr} {xs:List V} (e:aZ H H') (h:fA K H a xs):fA K H' a xs:=by
 rcases h with (h | ⟨o,h⟩) | h
 ·exact .inl (.inl (e _ _ h))
 ·exact .inl (.inr ⟨o,e _ _ h⟩)
 ·exact .inr h
theorem _root_.L2.aZ.new {H:Hp} {p:Addr} (h:H p=none) (o:HO):aZ H (upd H p o):=fun b u q=>by rw [aH (bH q h)];exact q
theorem _root_.L2.aZ.EJ {H H':Hp} {p:Addr} (h:H p=none) (e:aZ H H') (o:HO):aZ H (upd H' p o):=fun b u q=>by rw [aH (bH q h)];exact e b u q
def Ag (K:PySem.W.Frag) (H:Hp) (a:Addr) (q:Rat):Prop:=fA K H a [.int q.num,.int q.den]
theorem Ag.keep {K:PySem.W.Frag} {H H':Hp} {a:Addr} {q:Rat} (h:Ag K H a q) (e:aZ H H'):Ag K H' a q:=e.tup h
structure Sz (n:Nat) (q:Rat):Prop where
 num:Bd n q.num
 den:Bd n q.den
theorem Sz.mono {m n:Nat} {q:Rat} (h:Sz m q) (k:m≤n):Sz n q:=⟨h.num.mono k,h.den.mono k⟩
theorem AM (x y:Rat):(x.num=y.num∧(x.den:Int)=(y.den:Int))=(x=y):=propext
 ⟨fun h=>Rat.ext h.1 (by have:=h.2;omega),fun h=>by subst h;exact ⟨rfl,rfl⟩⟩
theorem gP (c:Str→NameKind→Bool):∀ (names:List (Str × NameKind)) (y:Str),
  (names.map fun (x:Str × NameKind)=>if c x.1 x.2 then (x.1,NameKind.cell) else (x.1,x.2)).lookup y=(names.lookup y).map fun k=>if c y k then NameKind.cell else k
 | [],_=>rfl
 | (n,k) :: r,y=>by
  have ih:=gP c r y
  cases hy:y == n with
  | true =>
   have e:y=n:=by simpa using hy
   subst e
   by_cases h:c y k=true <;> simp [List.lookup_cons,h]
  | false =>
   by_cases h:c n k=true <;> simp [List.lookup_cons,h,hy,ih]
theorem gR (sc:Scope) (env:Env) (y:Str):(relabel sc env).names.lookup y=(sc.names.lookup y).map fun k=>if (k == .free && env.scope.kind == .function && env.kindOf y == some .cell) then NameKind.cell else k:=by
 have h:=gP (fun n k=>k == .free && env.scope.kind == .function && env.kindOf n == some .cell) sc.names y
 exact h
theorem iJ {env:Env}:∀ (names:List (Str × NameKind)) (acc:List (Str × Addr)),(∀ y∈names,y.2=.free→∃ c,env.cells.lookup y.1=some c)→(∀ y c,acc.lookup y=some c→env.cells.lookup y=some c) →
  ∃ cl,(forIn names acc fun (x:Str × NameKind) (r:List (Str × Addr))=>match x with
   | (name,kind)=>if (kind == NameKind.free)=true then (do let c ← cellOf env name;pure (ForInStep.yield ((name,c) :: r))) else (pure (ForInStep.yield r):Sem (ForInStep (List (Str × Addr)))))=(pure cl:Sem (List (Str × Addr))) ∧
   (∀ y c,cl.lookup y=some c→env.cells.lookup y=some c)∧(∀ y c,acc.lookup y=some c→∃ c,cl.lookup y=some c)∧∀ y∈names,y.2=.free→∃ c,cl.lookup y.1=some c
 | [],acc,_,ha=>⟨acc,rfl,ha,fun y c e=>⟨c,e⟩,fun y hy=>by cases hy⟩
 | (n,k) :: r,acc,hn,ha=>by
  by_cases hk:k=.free
  ·subst hk
   obtain ⟨c,hc⟩:=hn (n,.free) List.mem_cons_self rfl
   obtain ⟨cl,e,h1,h2,h3⟩:=iJ r ((n,c) :: acc) (fun y hy=>hn y (List.mem_cons_of_mem _ hy)) (fun y d e=>by
    rw [List.lookup_cons] at e
    cases hy:y == n with
    | true =>
     rw [hy] at e
     have e1:y=n:=by simpa using hy
     subst e1
     rw [hc]
     exact e
    | false=>rw [hy] at e;exact ha y d e)
   have self:∃ d,cl.lookup n=some d:=h2 n c (by simp [List.lookup_cons])
   refine ⟨cl,?_,h1,fun y d q=>?_,fun y hy hf=>?_⟩
   ·rw [List.forIn_cons]
    have ec:cellOf env n=pure c:=by unfold cellOf;rw [hc]
    simp only [beq_self_eq_true,if_true,ec,pure_bind]
    exact e
   ·by_cases hy:y=n
    ·subst hy;exact self
    ·exact h2 y d (by rw [List.lookup_cons];have:(y == n)=false:=by simpa using hy
                      rw [this];exact q)
   ·rcases List.mem_cons.mp hy with rfl | hy
    ·exact self
    ·exact h3 y hy hf
  ·obtain ⟨cl,e,h1,h2,h3⟩:=iJ r acc (fun y hy=>hn y (List.mem_cons_of_mem _ hy)) ha
   refine ⟨cl,?_,h1,h2,fun y hy hf=>?_⟩
   ·rw [List.forIn_cons]
    have hb:(k == NameKind.free)=false:=by simpa using hk
    simp only [hb,Bool.false_eq_true,if_false,pure_bind]
    exact e
   ·rcases List.mem_cons.mp hy with rfl | hy
    ·exact absurd hf hk
    ·exact h3 y hy hf
theorem gg {sc:Scope} {env:Env} (h:∀ y∈sc.names,y.2=.free→∃ c,env.cells.lookup y.1=some c) :
  ∃ cl,closureFor sc env=pure cl∧(∀ y c,cl.lookup y=some c→env.cells.lookup y=some c)∧∀ y∈sc.names,y.2=.free→∃ c,cl.lookup y.1=some c:=by
 obtain ⟨cl,e,h1,_,h3⟩:=iJ sc.names [] h (fun y c z=>by cases z)
 refine ⟨cl,?_,h1,h3⟩
 unfold closureFor
 have e':=congrArg (fun m=>m >>= fun r=>(pure r:Sem (List (Str × Addr)))) e
 simp only [pure_bind] at e'
 exact e'
abbrev bU (sc osc:Scope) (N:List Str) (x:Str) (ks:List (Str × Nat)):Prop :=
 sc.kind=.function∧(∀ y∈sc.names,y.2≠.cell)∧sc.names.lookup x=some .local∧(∀ y∈sc.names,y.2=.local→sc.names.lookup y.1=some .local) ∧
 (∀ y∈sc.names,y.2=.free→osc.names.lookup y.1=some .cell)∧(∀ p∈ks,N[p.2]?=some p.1∧sc.names.lookup p.1=some .free)∧(x :: ks.map (·.1)).Nodup
def dH (X:Cx) (sc:Scope) (cl:List (Str × Addr)) (C:Addr) (x:Str) (ks:List (Str × Nat)) (s₀:Shared) (H₀:Hp) (fp:List Addr) (pins:List (Addr × Obj)):Cx :=
 { X with N:=x :: ks.map (·.1),s₀:=s₀,H₀:=H₀,env:=compEnvC sc cl C X.env,outer:=X.stack,ex:=fp,fn:=fun _=>false,pn:=X.pn ++ pins,xe:=fun _ _=>False }
def cD (ks:List (Str × Nat)) (σ:L2.St):L2.St:=ks.map fun p=>(σ[p.2]?).getD none
section
variable {X:Cx} {pins:List (Addr × Obj)} {σ:L2.St} {H:Hp} {s:Shared} {sc:Scope} {cl:List (Str × Addr)} {x:Str} {ks:List (Str × Nat)} {fp:List Addr}
theorem get_map {α β:Type} (f:α→β) (l:List α) (i:Nat):(l.map f)[i]?=(l[i]?).map f:=List.getElem?_map
theorem lE (I:Inv X pins σ H s) (ok:bU sc X.env.scope X.N x ks) (h1:∀ y c,cl.lookup y=some c→X.env.cells.lookup y=some c) (h2:∀ y∈sc.names,y.2=.free→∃ c,cl.lookup y.1=some c)
  (hfp:∀ b∈fp,gi X pins H b∧∃ o,s.heap.get? b=some o) {h4:Heap} {m:Str→Option Value} {t':Nat} (hn:h4.Ns s.heap.objs.size m) (kp:∀ b o,s.heap.get? b=some o→h4.get? b=some o) :
  Inv (dH X sc cl s.heap.objs.size x ks s H fp pins) [] (none :: cD ks σ) H { s with heap:=h4,toks:=t' }:=by
 obtain ⟨kd,nc,lx,ll,fr,kk,nd⟩:=ok
 have fresh:H s.heap.objs.size=none:=I.hok.fresh (Nat.le_refl _)
 have lt:∀ b o,s.heap.get? b=some o→b≠s.heap.objs.size:=fun b o e=>Nat.ne_of_lt (Heap.lt_size e)
 have cellLt:∀ y c,X.env.cells.lookup y=some c→c≠s.heap.objs.size:=fun y c e=>by
  obtain ⟨v,o,ho,_⟩:=I.cell y c e
  exact lt c o ho
 have sub:∀ b∈gB X.stack,b=X.env.locals∨b∈X.fs:=fun b hb=>List.mem_cons.mp (I.iC b hb)
 have kof:∀ y,(compEnvC sc cl s.heap.objs.size X.env).kindOf y=(relabel sc X.env).names.lookup y:=fun y=>rfl
 have ok':(dH X sc cl s.heap.objs.size x ks s H fp pins).Ok:={
  mod:=I.ok.mod
  kind:=kd
  glob:=I.ok.glob
  blt:=I.ok.blt
  above:=Nat.le_refl _
  inj:=fun y z c e1 e2=>I.ok.inj y z c (h1 y c e1) (h1 z c e2)
  has:=fun y hy=>by
   rw [show (dH X sc cl s.heap.objs.size x ks s H fp pins).env.kindOf y=_ from kof y,gR] at hy
   cases e:sc.names.lookup y with
   | none=>rw [e] at hy;rcases hy with z | z <;> cases z
   | some k =>
    have hm:(y,k)∈sc.names:=by
     have:=List.lookup_eq_some_iff.mp e
     obtain ⟨l1,l2,q,_⟩:=this
     rw [q]
     simp
    by_cases hk:k=.free
    ·subst hk;exact h2 _ hm rfl
    ·have hb:(k == NameKind.free)=false:=by simpa using hk
     rw [e] at hy
     simp only [Option.map_some,hb,Bool.false_and,Bool.false_eq_true,if_false] at hy
     rcases hy with z | z
     ·exact absurd (Option.some.inj z) (nc _ hm)
     ·exact absurd (Option.some.inj z) hk
  cab:=fun _ _ z=>by cases z
  hd:=fun z=>I.ok.hd z
  frames:=I.ok.frames
  stk:=.inl rfl
  exf:=fun b hb=>⟨lt b _ (hfp b hb).2.choose_spec,fun y c e=>(hfp b hb).1.2.2.2.2.1 y c (h1 y c e)⟩
  bs:=fun b o e=>I.bs b o e
  bsz:=Nat.le_trans I.ok.bsz I.sz
  noex:=fun b o e hb=>by
   rcases (hfp b hb).1.2.2.2.1 with z | z
   ·exact I.ok.noex b o e z
   ·exact absurd (Nat.lt_of_lt_of_le (Heap.lt_size e) (Nat.le_trans I.ok.bsz z)) (Nat.lt_irrefl _)
  exfs:=fun b hb z=>by
   rcases sub b z with e | e
   ·exact (hfp b hb).1.2.1 e
   ·exact (hfp b hb).1.2.2.1 e
  jB:=I.stack
  frf:=I.om }
 obtain ⟨mX,hnX,hlX⟩:=I.loc
 refine ⟨ok',rfl,I.bare,Un.kept kp,⟨m,hn,fun i y v e1 e2 e3=>?_⟩,fun y c e=>?_,fresh,fun y c e=>I.freeC y c (h1 y c e),fun p hp=>?_,I.hok.kept kp,by simp [dH,cD]⟩
 ·cases i with
  | zero =>
   rw [List.getElem?_cons_zero] at e2
   cases e2
  | succ i =>
   have e1':(ks.map (·.1))[i]?=some y:=by simpa [dH] using e1
   rw [List.getElem?_cons_succ] at e2
   unfold cD at e2
   rw [List.getElem?_map] at e1' e2
   cases ep:ks[i]? with
   | none=>rw [ep] at e1';cases e1'
   | some p =>
    rw [ep] at e1' e2
    have ey:p.1=y:=Option.some.inj e1'
    have ev:(σ[p.2]?).getD none=some v:=Option.some.inj e2
    obtain ⟨kN,kf⟩:=kk p (List.mem_of_getElem? ep)
    have es:σ[p.2]?=some (some v):=by
     cases q:σ[p.2]? with
     | none=>rw [q] at ev;cases ev
     | some w=>rw [q] at ev;exact congrArg some ev
    have hm:(p.1,NameKind.free)∈sc.names:=by
     obtain ⟨l1,l2,q,_⟩:=List.lookup_eq_some_iff.mp kf
     rw [q]
     simp
    have oc:X.env.scope.names.lookup p.1=some .cell:=fr _ hm rfl
    obtain ⟨u,ru,lu⟩:=hlX p.2 p.1 v kN es (.inr (.inl oc))
    refine ⟨u,ru,.inr ⟨.inl ?_,?_⟩⟩
    ·rw [show (dH X sc cl s.heap.objs.size x ks s H fp pins).env.kindOf y=_ from kof y,gR,← ey,kf]
     have k1:X.env.kindOf p.1=some .cell:=oc
     simp [I.ok.kind,k1]
    ·obtain ⟨c,hc⟩:=h2 _ hm rfl
     have hc:cl.lookup p.1=some c:=hc
     rcases lu with ⟨z,_⟩ | ⟨_,c',hc',z⟩
     ·have z':X.env.scope.names.lookup p.1=some .local:=z
      rw [oc] at z';cases z'
     ·have:=h1 _ _ hc
      rw [hc'] at this
      cases this
      obtain ⟨o,ho,hd⟩:=z
      exact ⟨_,by rw [← ey];exact hc,o,kp _ _ ho,hd⟩
 ·obtain ⟨v,o,ho,hd⟩:=I.cell y c (h1 y c e)
  exact ⟨v,o,kp _ _ ho,hd⟩
 ·rw [List.append_nil] at hp
  obtain ⟨a1,a2,a3,a4,a5⟩:=I.pin p hp
  refine ⟨kp _ _ a1,a2,lt _ _ a1,fun z=>?_,a5⟩
  rcases sub p.1 z with e | e
  ·exact a3 e
  ·exact a4 e
end
section
variable {prog:Program} {w:World} {A:Around} {R:Result→Shared→Prop} {s:Shared}
theorem wQ {elt iter:Expr} {x:Str} {px:Pos} {sc:Scope} {pos:Pos} {it acc:Value} {env:Env} (I:Nat→Shared→Prop)
  (turn:∀ n s,I n s→wpAny (model prog w) A (pyNext it) (fun r s₁=>match r with
   | none=>R (.ok .next) s₁
   | some v=>wpAny (model prog w) A (letOwnedTupleGo (.Name x px) it v) (fun _ s₂=>wpAny (model prog w) A (assign (.Name x px) env v) (fun _ s₃=>wpAny (model prog w) A (eval elt env) (fun y s₄ =>
     wpAny (model prog w) A (call (.builtin "list.append") [acc,y]) (fun _ s₅=>∃ m,m < n∧I m s₅) (fun _ _=>False) s₄) (fun _ _=>False) s₃) (fun _ _=>False) s₂) (fun _ _=>False) s₁) (fun _ _=>False) s)
  (n:Nat) (h:I n s):codeAny (model prog w) A (.compLoop (.ListComp elt [⟨.Name x px,iter,[],0⟩] sc pos) 0 it acc env) R s:=by
 refine codeAny_loop rfl I (fun n s hI=>?_) n h
 show wpAny _ _ ((compTurn (.ListComp elt [⟨.Name x px,iter,[],0⟩] sc pos) 0 it acc env).onRaise (fun x=>do noteFrame x env;theTreesLotGoes x)) _ _ s
 refine wpAny_noted ?_
 rw [compTurn_list1]
 have no:∀ (e:Value) (s':Shared),False→notedBy (model prog w) A env (fun e s'=>R (.error e) s') e s':=fun _ _ z=>z.elim
 refine wpAny_bind (wpAny_standAt (wpAny_bind (wpAny_mono (turn n s hI) (fun r s₁ h₁=>?_) no)))
 cases r with
 | none=>exact wpAny_pure h₁
 | some v =>
  refine wpAny_bind (wpAny_mono h₁ (fun _ s₂ h₂=>?_) no)
  exact wpAny_bind (wpAny_mono h₂ (fun _ s₃ h₃=>wpAny_bind (wpAny_bind (wpAny_mono h₃ (fun y s₄ h₄=>wpAny_bind (wpAny_mono h₄
   (fun _ s₅ h₅=>wpAny_pure (wpAny_pure ⟨rfl,h₅⟩)) no)) no))) no)
end
def G6 (wi:TI) (ks:List (Str × Nat)) (te:TE):TE:=fun σ H Q=>wi σ H fun J H1=>∀ D,H1 D=none→∃ W:Nat→Nat→Hp→Prop,(∃ m,W 0 m (upd H1 D (.lst []))) ∧
 ∀ i m H2,W i m H2→(J.stop i H2∧Q (.ref D) H2)∨(J.go i H2∧∀ v H3,J.yld i H2 v H3→te (some v :: cD ks σ) H3 fun y H4=>∃ ys,H4 D=some (.lst ys)∧ys.length < sizeLine∧∃ m',m' < m∧W (i + 1) m' (upd H4 D (.lst (ys ++ [y]))))
section
variable {X:Cx}
theorem qv {elt iter:Expr} {x:Str} {px:Pos} {sc:Scope} {pos:Pos} {te:TE} {ks:List (Str × Nat)} {cl:List (Str × Addr)} {pins:List (Addr × Obj)} {σ:L2.St} {H:Hp} {s:Shared} {it:Addr} {fp:List Addr} {tn:Nat→Heap→Prop} {J:It} {Q:VK}
  {RR:Value→Addr→Result→Shared→Prop} {E:Value→Shared→Prop}
  (hc:X.calm=true) (ok:bU sc X.env.scope X.N x ks) (h1:∀ y c,cl.lookup y=some c→X.env.cells.lookup y=some c) (h2:∀ y∈sc.names,y.2=.free→∃ c,cl.lookup y.1=some c)
  (he:∀ cl C s₀ H₀ fp pins,PE (dH X sc cl C x ks s₀ H₀ fp pins) elt te)
  (I:Inv X pins σ H s) (T:Turn X.prog X.w X.K (.Name x px) J fp it tn) (st:tn 0 s.heap) (f:∀ b∈fp,gi X pins H b)
  (hw:∀ D,H D=none→∃ W:Nat→Nat→Hp→Prop,(∃ m,W 0 m (upd H D (.lst [])))∧∀ i m H2,W i m H2→(J.stop i H2∧Q (.ref D) H2) ∨
   (J.go i H2∧∀ v H3,J.yld i H2 v H3→te (some v :: cD ks σ) H3 fun y H4=>∃ ys,H4 D=some (.lst ys)∧ys.length < sizeLine∧∃ m',m' < m∧W (i + 1) m' (upd H4 D (.lst (ys ++ [y])))))
  (hR:∀ (D C:Addr) (s':Shared) (H':Hp) (m:Str→Option Value),Inv X pins σ H' s'→Q (.ref D) H'→s'.heap.Ns C m→H' C=none→C≠X.env.locals→X.s₀.heap.objs.size≤C→(∀ y c,X.env.cells.lookup y=some c→c≠C)→(∀ p∈X.pn ++ pins,p.1≠C)→RR (.ref D) C (.ok .next) s') :
  wpAny (model X.prog X.w) X.A (newList []) (fun acc s₃=>wpAny (model X.prog X.w) X.A (newFunctionEnv sc X.env.globals cl [] X.env.qual none .none (some X.env)) (fun cenv s₄ =>
   codeAny (model X.prog X.w) X.A (.compStart (.ListComp elt [⟨.Name x px,iter,[],0⟩] sc pos) 0 (.ref it) acc { cenv with scope:=relabel sc X.env }) (RR acc cenv.locals) s₄) E s₃) E s:=by
 have okk:=ok
 obtain ⟨kd,nc,lx,ll,fr,kk,nd⟩:=okk
 have hD0:H s.heap.objs.size=none:=I.hok.fresh (Nat.le_refl _)
 obtain ⟨W,⟨m0,w0⟩,turn⟩:=hw s.heap.objs.size hD0
 refine wpAny_newObj_type ?_
 have I3:Inv X pins σ (upd H s.heap.objs.size (.lst [])) { s with heap:=s.heap.push { cls:=.type "list",dict:=none,data:=.seq ([]:List Value).toArray } } :=
  I.laid (t':=s.toks) (fun b u e=>Heap.get?_push_of_some _ e) (Nat.le_refl _) (show cn X.prog X.w _ _ _ (.lst []) from ⟨Nat.zero_le _,[],0,.nil,Heap.get?_push_size _ rfl⟩)
 have st3:tn 0 (s.heap.push { cls:=.type "list",dict:=none,data:=.seq ([]:List Value).toArray }):=T.keep 0 _ _ st fun b hb o e=>Heap.get?_push_of_some _ e
 generalize hD:s.heap.objs.size=D at *
 generalize hH:upd H D (.lst [])=H3 at *
 generalize hs3:({ s with heap:=s.heap.push { cls:=.type "list",dict:=none,data:=.seq ([]:List Value).toArray } }:Shared)=s3 at *
 have e3:s.heap.push { cls:=.type "list",dict:=none,data:=.seq ([]:List Value).toArray }=s3.heap:=by rw [← hs3]
 rw [e3] at st3
 have fD:∀ b∈fp,b≠D:=fun b hb z=>by
  obtain ⟨o,ho,_⟩:=T.obj 0 _ st b hb
  have:=Heap.lt_size ho
  rw [z,← hD] at this
  exact Nat.lt_irrefl _ this
 have f3:∀ b∈fp,gi X pins H3 b:=fun b hb=>⟨by rw [← hH,aH (fD b hb)];exact (f b hb).1,(f b hb).2⟩
 have g3:∀ b∈fp,∃ o,s3.heap.get? b=some o:=fun b hb=>by
  obtain ⟨o,ho,_⟩:=T.obj 0 _ st3 b hb
  exact ⟨o,ho⟩
 refine wpAny_newFunctionEnv nc (by intro y hy;simp at hy) (fun h₁ hns hsb=>?_) kd
 have kp:∀ b o,s3.heap.get? b=some o→h₁.get? b=some o:=fun b o e=>hsb.extBut b o (Nat.ne_of_lt (Heap.lt_size e)) (Heap.get?_push_of_some _ e)
 have J0:=lE (fp:=fp) (cl:=cl) (t':=s3.toks + ([]:List (Str × Value)).length) I3 ok h1 h2 (fun b hb=>⟨f3 b hb,g3 b hb⟩) hns kp
 have st4:tn 0 h₁:=T.keep 0 _ _ st3 fun b hb o e=>kp b o e
 have ltC:∀ b o,s3.heap.get? b=some o→b≠s3.heap.objs.size:=fun b o e=>Nat.ne_of_lt (Heap.lt_size e)
 have cC:∀ y c,X.env.cells.lookup y=some c→c≠s3.heap.objs.size:=fun y c e=>by
  obtain ⟨v,o,ho,_⟩:=I3.cell y c e
  exact ltC c o ho
 have pC:∀ p∈X.pn ++ pins,p.1≠s3.heap.objs.size:=fun p hp=>ltC _ _ (I3.pin p hp).1
 have lC:s3.heap.objs.size≠X.env.locals:=Nat.ne_of_gt I3.lt
 have fX:∀ {H':Hp},(∀ b∈fp,H' b=none)→∀ b∈fp,gi (dH X sc cl s3.heap.objs.size x ks s3 H3 fp pins) [] H' b:=fun hn b hb=>by
  obtain ⟨o,ho⟩:=g3 b hb
  obtain ⟨_,q1,q2,q3,q4,q5⟩:=f b hb
  refine ⟨hn b hb,ltC b o ho,fun z=>?_,.inl hb,fun y c e=>q4 y c (h1 y c e),fun p hp=>q5 p (by simpa [dH] using hp)⟩
  rcases List.mem_cons.mp (I3.iC b z) with e | e
  ·exact q1 e
  ·exact q2 e
 have back:∀ {o:Option V} {H':Hp} {s':Shared},Inv (dH X sc cl s3.heap.objs.size x ks s3 H3 fp pins) [] (o :: cD ks σ) H' s'→Inv X pins σ H' s':=fun {o H' s'} J=>by
  obtain ⟨hh,g,d,t,os'⟩:=s'
  obtain rfl:os'=s3.os:=J.os
  exact I3.call (h':=hh) (g':=g) (d':=d) (t':=t) (ch:=fp) J.base J.hok J.bare fun b hb=>⟨(f b hb).2.2.2.1,(f b hb).2.1,(f b hb).2.2.2.2.1,(f b hb).2.2.2.2.2⟩
 have lookX:(relabel sc X.env).names.lookup x=some .local:=lookup_relabel_local lx
 have loop:∀ s',(∃ (i:Nat) (o:Option V) (H':Hp),Inv (dH X sc cl s3.heap.objs.size x ks s3 H3 fp pins) [] (o :: cD ks σ) H' s'∧tn i s'.heap∧(∀ b∈fp,H' b=none)∧W i m0 H') →
   codeAny (model X.prog X.w) X.A (.compLoop (.ListComp elt [⟨.Name x px,iter,[],0⟩] sc pos) 0 (.ref it) (.ref D) (compEnvC sc cl s3.heap.objs.size X.env)) (RR (.ref D) s3.heap.objs.size) s':=by
  intro s' hs'
  refine wQ (fun n s'=>∃ (i:Nat) (o:Option V) (H':Hp),Inv (dH X sc cl s3.heap.objs.size x ks s3 H3 fp pins) [] (o :: cD ks σ) H' s'∧tn i s'.heap∧(∀ b∈fp,H' b=none)∧W i n H') ?_ m0 hs'
  rintro n s5 ⟨i,o,H5,J5,t5,n5,w5⟩
  rcases turn i n H5 w5 with ⟨stop,hq⟩ | ⟨go,step⟩
  ·refine bB (T.done (dH X sc cl s3.heap.objs.size x ks s3 H3 fp pins) rfl rfl rfl hc i [] s5 _ H5 _ J5 (fX n5) t5 stop) fun r s6 ⟨hr,J6⟩=>?_
   subst hr
   obtain ⟨m,hm,_⟩:=J6.loc
   exact hR D _ s6 H5 m (back J6) hq hm J6.free lC I3.sz cC pC
  ·refine bB (T.item (dH X sc cl s3.heap.objs.size x ks s3 H3 fp pins) rfl rfl rfl hc i [] s5 _ H5 _ J5 (fX n5) t5 go) fun r s6 ⟨u,hr,h6⟩=>?_
   subst hr
   refine bB h6 fun _ s7 ⟨v,H7,J7,r7,y7,t7,n7⟩=>?_
   have J7':=J7.pinned (fX n7) (T.obj _ _ t7)
   refine wpAny_assign_Name (dR (X:=dH X sc cl s3.heap.objs.size x ks s3 H3 fp pins) (i:=0) J7' nd rfl (.inl lookX) r7 (fun s8 J8=>?_) (.inr lookX))
   refine bB (he cl s3.heap.objs.size s3 H3 fp pins _ s8 _ H7 _ J8 (step v H7 y7)) fun y s9 ⟨vy,H9,J9,r9,ys,hys,hz,m',hm,w'⟩=>?_
   refine bB (eI (X:=dH X sc cl s3.heap.objs.size x ks s3 H3 fp pins) _ s9 _ H9 (.ref D) [vy] (.ref D) [y] (fun _ H'=>H'=upd H9 D (.lst (ys ++ [vy]))) J9 rfl (.cons r9 .nil) ⟨D,ys,vy,rfl,rfl,hys,hz,rfl⟩) fun _ s10 ⟨_,H10,J10,_,eH⟩=>?_
   subst eH
   refine ⟨m',hm,i + 1,_,_,J10.dU,?_,?_,w'⟩
   ·exact T.keep _ _ _ t7 fun b hb o e=>(J10.pin (b,o) (List.mem_append_right _ (List.mem_append_right _ (bx hb e)))).1
   ·intro b hb
    obtain ⟨o,e,d⟩:=T.obj _ _ t7 b hb
    exact (J10.pin (b,o) (List.mem_append_right _ (List.mem_append_right _ (bx hb e)))).2.1
 have l0:=loop _ ⟨0,none,H3,J0,st4,fun b hb=>(f3 b hb).1,w0⟩
 exact codeAny_compStart_list l0 (T.self _ 0 _ _ _ st4 l0)
theorem i7 {sc osc:Scope} {N:List Str} {x:Str} {ks:List (Str × Nat)} (ok:bU sc osc N x ks) {pins:List (Addr × Obj)} {σ:L2.St} {H:Hp} {s:Shared} (I:Inv X pins σ H s) (ho:X.env.scope=osc):∀ y∈sc.names,y.2=.free→∃ c,X.env.cells.lookup y.1=some c:=fun y hy hf =>
 I.ok.has y.1 (.inl (by show X.env.scope.names.lookup y.1=some .cell;rw [ho];exact ok.2.2.2.2.1 y hy hf))
theorem B5 {elt iter:Expr} {x:Str} {px:Pos} {sc:Scope} {pos:Pos} {wi:TI} {te:TE} (osc:Scope) (N:List Str) (ks:List (Str × Nat)) (hc:X.calm=true) (ho:X.env.scope=osc) (hN:X.N=N) (hi:PI X (.Name x px) iter wi)
  (he:∀ cl C s₀ H₀ fp pins,PE (dH X sc cl C x ks s₀ H₀ fp pins) elt te) (ok:bU sc osc N x ks:=by decide +kernel) (hs:∀ x,foldedSetIterable iter X.env x=pure x:=by intro _;rfl) :
  PE X (.ListComp elt [⟨.Name x px,iter,[],0⟩] sc pos) (G6 wi ks te):=by
 intro pins s σ H Q I hw
 obtain ⟨cl,hcl,h1,h2⟩:=gg (i7 ok I ho)
 have ok':bU sc X.env.scope X.N x ks:=by rw [ho,hN];exact ok
 rw [eval_ListComp]
 refine wpAny_comprehension_free (use:=none) rfl hs hcl ok.1 ok.2.2.2.1 (bB (hi pins s σ H _ I hw) fun v s1 h3=>bB h3 fun itv s2 h4=>?_)
 obtain ⟨it,fp,tn,J,H2,rfl,I2,T,st2,f2,hR⟩:=h4
 refine qv (RR:=fun acc C=>compPost (model X.prog X.w) X.A X.xe none (EP X pins σ Q) acc C) hc ok' h1 h2 he I2 T st2 f2 hR ?_
 intro D C s' H' m J' q hn hC cl' cs cc cp
 refine ⟨m,hn,fun h' hsb=>⟨.ref D,H',?_,rfl,q⟩⟩
 exact J'.turned (t':=s'.toks) (it:=C) (fun b o ne e=>hsb.extBut b o ne e) hC cl' (.inr cs) cc cp
def Dt (wi:TI) (ks:List (Str × Nat)) (te:TE) (i:Nat):TS:=fun D σ H=>G6 wi ks te σ H fun v H1=>D.nx (σ.set i (some v)) H1
theorem CG {elt iter:Expr} {x y:Str} {px py:Pos} {sc:Scope} {pos spos:Pos} {wi:TI} {te:TE} {i:Nat} (osc:Scope) (N:List Str) (ks:List (Str × Nat)) (hc:X.calm=true) (ho:X.env.scope=osc) (hN:X.N=N) (hnd:X.N.Nodup) (hy:X.N[i]?=some y) (hl:Loc X.env.scope y)
  (hi:PI X (.Name x px) iter wi) (he:∀ cl C s₀ H₀ fp pins,PE (dH X sc cl C x ks s₀ H₀ fp pins) elt te) (ok:bU sc osc N x ks:=by decide +kernel) (hs:∀ x,foldedSetIterable iter X.env x=pure x:=by intro _;rfl)
  (hsw:swapsWith (.ListComp elt [⟨.Name x px,iter,[],0⟩] sc pos) (some (.Name y py)) spos.line X.env=pure true:=by rfl) (hf:X.fn y=true∨X.env.scope.names.lookup y=some .local:=by first | exact .inl rfl | exact .inr rfl | assumption) :
  PS X (.Assign [.Name y py] (.ListComp elt [⟨.Name x px,iter,[],0⟩] sc pos) spos) (Dt wi ks te i):=by
 intro pins s σ H Dn I hw
 obtain ⟨cl,hcl,h1,h2⟩:=gg (i7 ok I ho)
 have ok':bU sc X.env.scope X.N x ks:=by rw [ho,hN];exact ok
 rw [exec_Assign_Name_used _ _ _ _ hsw]
 refine wpAny_bind (wpAny_standAt (wpAny_bind ?_))
 show wpAny _ X.A (do let _ ← comprehension (.ListComp elt [⟨.Name x px,iter,[],0⟩] sc pos) sc X.env _ (newList []) false (eval iter X.env) (some (assign (.Name y py) X.env))) _ _ s
 refine wpAny_bind (wpAny_mono (wpAny_comprehension_free (use:=some (assign (.Name y py) X.env)) (Q:=fun _ s'=>SP X pins Dn .next s') rfl hs hcl ok.1 ok.2.2.2.1
  (bB (hi pins s σ H _ I hw) fun v s1 h3=>bB h3 fun itv s2 h4=>?_)) (fun _ s' hq=>wpAny_pure (wpAny_pure hq)) fun _ _ e=>e)
 obtain ⟨it,fp,tn,J,H2,rfl,I2,T,st2,f2,hR⟩:=h4
 refine qv (Q:=fun v H1=>Dn.nx (σ.set i (some v)) H1) (RR:=fun acc C=>compPost (model X.prog X.w) X.A X.xe (some (assign (.Name y py) X.env)) (fun _ s'=>SP X pins Dn .next s') acc C) hc ok' h1 h2 he I2 T st2 f2 hR ?_
 intro D C s' H' m J' q hn hC cl' cs cc cp
 show wpAny _ X.A (assign (.Name y py) X.env (.ref D)) _ _ _
 refine wpAny_assign_Name (jN J' hnd hy hl (v:=.ref D) rfl (fun s'' J'' ⟨a,hsb,ha⟩=>?_) hf)
 refine ⟨m,hn.sameBut hsb (fun z=>?_),fun h' hsb'=>⟨_,H',?_,q⟩⟩
 ·rcases ha with e | e
  ·exact cl' (z.trans e)
  ·exact cc _ _ e z.symm
 ·exact J''.turned (t':=s''.toks) (it:=C) (fun b o ne e=>hsb'.extBut b o ne e) hC cl' (.inr cs) cc cp
end
theorem Bi {K:PySem.W.Frag} {a D:Addr} {xs:List V} {H:Hp} {te:TE} {ks:List (Str × Nat)} {σ:L2.St} {q:Hp→Prop} (Pv:Nat→Hp→Prop) (h0:Pv 0 (upd H D (.lst []))) (hl:∀ i H,i≤xs.length→Pv i H→cg K H a xs)
  (hs:∀ i x H (R:VK),xs[i]?=some x→Pv i H→(∀ y H4 ys,H4 D=some (.lst ys)→ys.length < sizeLine→Pv (i + 1) (upd H4 D (.lst (ys ++ [y])))→R y H4)→te (some x :: cD ks σ) H R) (hd:∀ H,Pv xs.length H→q H) :
  ∃ W:Nat→Nat→Hp→Prop,(∃ m,W 0 m (upd H D (.lst [])))∧∀ i m H2,W i m H2→((Bf K a).stop i H2∧q H2) ∨
   ((Bf K a).go i H2∧∀ v H3,(Bf K a).yld i H2 v H3→te (some v :: cD ks σ) H3 fun y H4=>∃ ys,H4 D=some (.lst ys)∧ys.length < sizeLine∧∃ m',m' < m∧W (i + 1) m' (upd H4 D (.lst (ys ++ [y])))):=by
 refine ⟨fun i m H=>m=xs.length - i∧i≤xs.length∧Pv i H,⟨xs.length,by simp,Nat.zero_le _,h0⟩,?_⟩
 rintro i m H2 ⟨rfl,hi,p⟩
 have hq:=hl i H2 hi p
 by_cases hlt:i < xs.length
 ·refine .inr ⟨⟨xs,xs[i],hq,by simp [hlt]⟩,fun v H3 y=>?_⟩
  obtain ⟨e,y⟩:=y
  subst e
  exact hs i v _ _ (y xs hq) p fun y H4 ys e1 e2 e3=>⟨ys,e1,e2,xs.length - (i + 1),by omega,rfl,hlt,e3⟩
 ·have e:i=xs.length:=by omega
  subst e
  exact .inl ⟨⟨xs,hq,Nat.le_refl _⟩,hd H2 p⟩
theorem xN {lo:Int} {n:Nat} {D:Addr} {H:Hp} {te:TE} {ks:List (Str × Nat)} {σ:L2.St} {q:Hp→Prop} (Pv:Nat→Hp→Prop) (h0:Pv 0 (upd H D (.lst [])))
  (hs:∀ i H (R:VK),i < n→Pv i H→(∀ y H4 ys,H4 D=some (.lst ys)→ys.length < sizeLine→Pv (i + 1) (upd H4 D (.lst (ys ++ [y])))→R y H4)→te (some (.int (lo + i)) :: cD ks σ) H R) (hd:∀ H,Pv n H→q H) :
  ∃ W:Nat→Nat→Hp→Prop,(∃ m,W 0 m (upd H D (.lst [])))∧∀ i m H2,W i m H2→((yF lo n).stop i H2∧q H2) ∨
   ((yF lo n).go i H2∧∀ v H3,(yF lo n).yld i H2 v H3→te (some v :: cD ks σ) H3 fun y H4=>∃ ys,H4 D=some (.lst ys)∧ys.length < sizeLine∧∃ m',m' < m∧W (i + 1) m' (upd H4 D (.lst (ys ++ [y])))):=by
 refine ⟨fun i m H=>m=n - i∧i≤n∧Pv i H,⟨n,by simp,Nat.zero_le _,h0⟩,?_⟩
 rintro i m H2 ⟨rfl,hi,p⟩
 by_cases hlt:i < n
 ·refine .inr ⟨hlt,fun v H3 y=>?_⟩
  obtain ⟨e,y⟩:=y
  subst e y
  exact hs i _ _ hlt p fun y H4 ys e1 e2 e3=>⟨ys,e1,e2,n - (i + 1),by omega,rfl,hlt,e3⟩
 ·have e:i=n:=by omega
  subst e
  exact .inl ⟨Nat.le_refl _,hd H2 p⟩
def one (c:Nat):Str:=⟨#[c]⟩
theorem nh:∀ (cs:List Nat) (acc:Array Nat),(cs.map one).foldl (fun acc (p:Str)=>acc ++ (Str.ofString "").cps ++ p.cps) acc=acc ++ cs.toArray
 | [],acc=>by simp
 | c :: cs,acc=>by
  have e:(Str.ofString "").cps=#[]:=by decide +kernel
  rw [List.map_cons,List.foldl_cons,nh cs]
  rw [e]
  show (acc ++ #[] ++ #[c]) ++ cs.toArray=_
  simp
theorem join_ones (cs:List Nat):Txt.join (Str.ofString "") (cs.map one)=⟨cs.toArray⟩:=by
 unfold Txt.join Builtin.Str.glued
 cases cs with
 | nil=>rfl
 | cons c cs =>
  simp only [List.map_cons,List.drop_succ_cons,List.drop_zero,List.headD_cons]
  rw [nh]
  show (⟨#[c] ++ cs.toArray⟩:Str)=_
  simp
theorem gh:∀ {ys:List Str} {us:List Value},Vals (ys.map V.str) us→StrsAre us ys
 | [],_,.nil=>.nil
 | y :: ys,_,.cons r rr=>by
  obtain ⟨t,rfl⟩:=r
  exact .cons y t (gh rr)
section
variable {X:Cx}
def rJoin (K:PySem.W.Frag):V→List V→Hp→VK→Prop:=fun x vs H Q=>∃ z p ys,x=.str z∧vs=[.ref p]∧cg K H p (ys.map V.str)∧(ys.map (·.length)).sum + ys.length * z.length≤16777216∧Q (.str (Txt.join z ys)) H
theorem B3:o5 X "str.join" (rJoin X.K):=by
 intro pins s σ H x vs v us Q I rx rv h
 obtain ⟨z,p,ys,rfl,rfl,hp,hz,q⟩:=h
 obtain ⟨t,rfl⟩:=rx
 obtain ⟨u,rfl,ru⟩:=vals1 rv
 cases ru
 obtain ⟨its,r,pl,_⟩:=I.list hp
 exact join_list pl.isList (by simpa using gh r) hz fun t' k=>⟨.str _,H,I.tok _,⟨_,rfl⟩,q⟩
end
def oN:Expr→Option V
 | .Constant (.int i) _ _=>some (.int i)
 | .Constant (.str x) _ _=>some (.str x)
 | .Constant (.bool b) _ _=>some (.bl b)
 | _=>none
theorem lB {X:Cx}:∀ {es:List Expr} (vs:List V),es.map oN=vs.map some→PA X es (fun _ H Q=>Q vs H)
 | [],[],_=>fun _ _ _ _ H Q I h=>Calls.spliced_nil ⟨[],H,I,.nil,h⟩
 | [],_ :: _,h=>by cases h
 | _ :: _,[],h=>by cases h
 | e :: es,v :: vs,h=>by
  rw [List.map_cons,List.map_cons] at h
  injection h with h1 h2
  have ih:=lB (X:=X) (es:=es) vs h2
  have hs:starEach (e :: es) X.env=(false,eval e X.env) :: starEach es X.env:=by
   cases e <;> first | rfl | cases h1
  have he:PE X e (tC v):=by
   cases e with
   | Constant c j pos =>
    cases c with
    | int i=>cases h1;exact aF
    | str x=>cases h1;exact jS
    | bool b=>cases h1;exact qV
    | _=>cases h1
   | _=>cases h1
  exact fun pos pins s σ H Q I hq=>aL he ih hs pos pins s σ H Q I hq
end Ov
namespace Ov
open PySem PySem.Spec PyProof.Rows
open L2 (V HO Hp Inv Cx St VK TE TT TA TS TG mr TI TO ik Ends p7 Loc Gl Rd RelV Vals eX rY cf l_ rX o5 ip R2 wR tC zI Hg tS tB yz GI AK ui Bt tR Hb Bq yf sj rV Cn mw G9 tJ A7 mi As uQ Bl Bk Ad pH EB t9 ID t_ uk Ab vn vi F6 CY tZ AU sU kX uW G' upd E0 bj cQ)
structure QE (X:Cx) (e:Expr) (t:TE):Prop where
 run:L2.PE X e t
structure QT (X:Cx) (e:Expr) (t:TT):Prop where
 run:L2.PT X e t
structure QW (X:Cx) (e:Expr) (t:TT):Prop where
 run:L2.PW X e t
structure QA (X:Cx) (es:List Expr) (t:TA):Prop where
 run:L2.PA X es t
structure QS (X:Cx) (st:Stmt) (t:TS):Prop where
 run:L2.PS X st t
structure QB (X:Cx) (st:List Stmt) (t:TS):Prop where
 run:L2.n8 X st t
structure QG (X:Cx) (e:Expr) (t:TG):Prop where
 run:L2.PG X e t
structure Hc (X:Cx) (es:List Expr) (t:mr):Prop where
 run:L2.CS X es t
structure QI (X:Cx) (tg e:Expr) (t:TI):Prop where
 run:L2.PI X tg e t
structure QO (X:Cx) (e:Option Expr) (t:TO):Prop where
 run:L2.PO X e t
section
variable {X:Cx} {a b c e o:Expr} {es rest:List Expr} {ta tb te tc to:TE} {tA tB':TT} {t:TA} {pos px p p2 apos cpos:Pos} {x:Str} {i j:Nat}
theorem pv (i:Nat) {x:Str} {pos:Pos} (hN:X.N[i]?=some x:=by rfl) (hv:p7 X.env.scope x:=by first | exact Or.inl rfl | exact Or.inr (Or.inl rfl) | exact Or.inr (Or.inr rfl)) (hd:(x == ("__debug__":Str))=false:=by decide)
  (hcd:(x == ("__classdict__":Str))=false:=by decide):QE X (.Name x pos) (wR i):=⟨L2.tE hN hv hd hcd⟩
theorem aF {i:Int} {j pos}:QE X (.Constant (.int i) j pos) (tC (.int i)):=⟨L2.aF⟩
theorem qV {b:Bool} {j pos}:QE X (.Constant (.bool b) j pos) (tC (.bl b)):=⟨L2.qV⟩
theorem sP {j pos}:QE X (.Constant .none j pos) (tC .non):=⟨L2.sP⟩
theorem jS {x:Str} {j pos}:QE X (.Constant (.str x) j pos) (tC (.str x)):=⟨L2.jS⟩
theorem lz {v:V} {u:Value} (hg:Gl X x) (hm:X.mg x=some u) (r:RelV v u) (hd:(x == ("__debug__":Str))=false:=by decide):QE X (.Name x pos) (tC v):=⟨L2.lz hg hm r hd⟩
theorem pD {v:V} {u:Value} (hg:Gl X x) (hm:X.mg x=none) (hv:bootBuiltins x=some u) (r:RelV v u) (hn:x≠"__name__":=by decide) (hd:(x == ("__debug__":Str))=false:=by decide):QE X (.Name x pos) (tC v):=⟨L2.pD hg hm hv r hn hd⟩
theorem aY {op:Operator} {r:R2} (ho:eX X (binaryOp op) r) (ha:QE X a ta) (hb:QE X b tb):QE X (.BinOp a op b pos) (zI r ta tb):=⟨L2.aY ho ha.run hb.run⟩
theorem uU {op:UnaryOp} {r:V→Hp→VK→Prop} (ho:rY X (unaryOp op) r) (ha:QE X a ta):QE X (.UnaryOp op a pos) (Hg r ta):=⟨L2.uU ho ha.run⟩
theorem k6 {op:CmpOp} {r:R2} (ho:eX X (compareOp op) r) (ha:QE X a ta) (hb:QE X b tb) (hm:behindInMarks op b=false):QE X (.Compare a [op] [b] pos) (zI r ta tb):=⟨L2.k6 ho ha.run hb.run hm⟩
theorem cK {op:CmpOp} {r:R2} (ho:eX X (compareOp op) r) (ha:QE X a ta) (hb:QE X b tb) (hm:behindInMarks op b=false):QT X (.Compare a [op] [b] pos) (tS (zI r ta tb)):=⟨L2.cK ho ha.run hb.run hm⟩
theorem sf {op} (h:QE X a ta):QE X (.BoolOp op [a] pos) ta:=⟨L2.sf h.run⟩
theorem sG (ha:QE X a ta) (hb:QE X (.BoolOp .And (b :: rest) pos) tb):QE X (.BoolOp .And (a :: b :: rest) pos) (ui ta tb):=⟨L2.sG ha.run hb.run⟩
theorem yv (ha:QE X a ta) (hb:QE X (.BoolOp .Or (b :: rest) pos) tb):QE X (.BoolOp .Or (a :: b :: rest) pos) (Bt ta tb):=⟨L2.yv ha.run hb.run⟩
theorem sL (ha:QE X a ta):QE X (.UnaryOp .Not a pos) (tR ta):=⟨L2.sL ha.run⟩
theorem se (ha:QT X a tA):QT X (.UnaryOp .Not a pos) (AK tA):=⟨L2.se ha.run⟩
theorem ly (ha:QT X a tA):QW X (.BoolOp .And [a] pos) tA:=⟨L2.ly ha.run⟩
theorem oX (ha:QT X a tA):QW X (.BoolOp .Or [a] pos) tA:=⟨L2.oX ha.run⟩
theorem oH (ha:QT X a tA) (hb:QW X (.BoolOp .And (b :: rest) pos) tB'):QW X (.BoolOp .And (a :: b :: rest) pos) (yz tA tB'):=⟨L2.oH ha.run hb.run⟩
theorem tU (ha:QT X a tA) (hb:QW X (.BoolOp .Or (b :: rest) pos) tB'):QW X (.BoolOp .Or (a :: b :: rest) pos) (GI tA tB'):=⟨L2.tU ha.run hb.run⟩
theorem Co (h:QW X e tA):QT X e tA:=⟨h.run.pt⟩
theorem tw (h:QE X e te) (he:∀ whole,isTrue e X.env whole=(do let v ← whole;standAt e.pos;holding [v] (truthy v)):=by intro _;rfl):QT X e (tB te):=⟨L2.tw h.run he⟩
theorem lG (hc:QT X c tA) (ha:QE X a ta) (hb:QE X b tb):QE X (.IfExp c a b pos) (Hb tA ta tb):=⟨L2.lG hc.run ha.run hb.run⟩
theorem bc:QA X [] sj:=⟨L2.bc⟩
theorem aL (ha:QE X e te) (hr:QA X es t) (hs:starEach (e :: es) X.env=(false,eval e X.env) :: starEach es X.env:=by rfl):QA X (e :: es) (rV te t):=⟨L2.aL ha.run hr.run hs⟩
theorem ym {es:List Expr} (vs:List V) (h:es.map oN=vs.map some):QA X es (fun _ H Q=>Q vs H):=⟨lB vs h⟩
theorem lO {x1} (h:QA X es t):QE X (.Tuple es x1 pos) (Bq t):=⟨L2.lO h.run⟩
theorem gJ (h:QA X es t):QE X (.List es pos) (yf t):=⟨L2.gJ h.run⟩
theorem bG {r:R2} (hr:l_ X r) (ha:QE X a ta) (hb:QE X b tb) (hs:cQ b):QE X (.Subscript a b pos) (zI r ta tb):=⟨L2.bG hr ha.run hb.run hs⟩
theorem k7:QO X none kX:=⟨L2.k7⟩
theorem g_ (h:QE X e te):QO X (some e) (uW te):=⟨L2.g_ h.run⟩
theorem gE {lo hi:Option Expr} {tl th:TO} {r:V→Option Int→Option Int→Hp→VK→Prop} (hr:rX X r) (he:QE X e te) (hl:QO X lo tl) (hu:QO X hi th):QE X (.Subscript e (.Slice lo hi none p2) pos) (G' r te tl th):=⟨L2.gE hr he.run hl.run hu.run⟩
theorem cV {id:String} {r:List V→Hp→VK→Prop} (hc:cf X (.builtin id) r) (hg:Gl X x) (hm:X.mg x=none) (hv:bootBuiltins x=some (.builtin id)) (ha:QA X (e :: es) t) (hn:x≠"__name__":=by decide) (hdb:(x == ("__debug__":Str))=false:=by decide)
  (he:starEach (e :: es) X.env=(false,eval e X.env) :: starEach es X.env:=by rfl) (hpl:(backTo pos (starEach es X.env)).any (·.1)=false:=by rfl):QE X (.Call (.Name x p) (e :: es) [] pos) (Cn r t):=⟨L2.cV hc hg hm hv ha.run hn hdb he hpl⟩
theorem j_ {T:String} {r:List V→Hp→VK→Prop} (hc:cf X (.type T) r) (hg:Gl X x) (hm:X.mg x=none) (hv:bootBuiltins x=some (.type T)) (ha:QA X (e :: es) t) (hn:x≠"__name__":=by decide) (hdb:(x == ("__debug__":Str))=false:=by decide)
  (he:starEach (e :: es) X.env=(false,eval e X.env) :: starEach es X.env:=by rfl) (hpl:(backTo pos (starEach es X.env)).any (·.1)=false:=by rfl):QE X (.Call (.Name x p) (e :: es) [] pos) (Cn r t):=⟨L2.j_ hc hg hm hv ha.run hn hdb he hpl⟩
theorem qd {k k':Nat} {ps:List Str} {sp:L2.Sp} (C:mB X.prog X.w X.K X.mg X.base k x ps sp) (hr:bj k' X.A) (hk:k≤k') (hg:Gl X x) (ha:QA X (e :: es) t)
  (hdb:(x == ("__debug__":Str))=false:=by decide) (he:starEach (e :: es) X.env=(false,eval e X.env) :: starEach es X.env:=by rfl) (hpl:(backTo pos (starEach es X.env)).any (·.1)=false:=by rfl) :
  QE X (.Call (.Name x p) (e :: es) [] pos) (mw sp [] E0 t):=⟨D9 C hr hk hg ha.run hdb he hpl⟩
theorem l3 {name:Str} {T id:String} {r:V→List V→Hp→VK→Prop} (pa:PlainAttrs T) (slot:Slot T name id) (hty:typeOf (.builtin id)=pure (.type "method_descriptor")) (hm:o5 X id r) (ho:QE X o to) (ha:QA X (e :: es) t)
  (hbase:attributeBase o name X.env (eval o X.env)=eval o X.env:=by rfl)
  (hfew:((backTo cpos (starEach (e :: es) X.env)).all (fun x=>!x.1) && (backToKw cpos (keywordEach [] X.env)).all (fun x=>x.1.isSome)
   && decide ((e :: es).length + ([]:List Keyword).length + (if ([]:List Keyword).isEmpty then 0 else 1) < 30))=true:=by rfl)
  (hline:(apos.endLine == cpos.line)=true:=by rfl) (hs:starEach (e :: es) X.env=(false,eval e X.env) :: starEach es X.env:=by rfl) (hplain:(backTo cpos (starEach es X.env)).any (·.1)=false:=by rfl) :
  QE X (.Call (.Attribute o name apos) (e :: es) [] cpos) (G9 X.K T r to t):=⟨L2.l3 pa slot hty hm ho.run ha.run hbase hfew hline hs hplain⟩
end
section
variable {X:Cx} {st:Stmt} {rest:List Stmt} {t u:TS} {e tg:Expr} {es:List Expr} {te:TE} {pos:Pos} {g:TG}
theorem d_:QB X [] tZ:=⟨L2.d_⟩
theorem aM (h1:QS X st t) (h2:QB X rest u):QB X (st :: rest) (AU t u):=⟨L2.aM h1.run h2.run⟩
theorem bh (h1:QS X st t):QB X [st] t:=⟨L2.bh h1.run⟩
theorem qE (h1:QS X st t) (h2:QB X rest u):QB X (st :: rest) (E_ t u):=⟨Bo h1.run h2.run⟩
theorem j0 {sts:List Stmt}:QB X sts sU:=⟨L2.j0⟩
theorem g7 (he:QE X e te) (hs:swapsWith e none pos.line X.env=pure false:=by rfl):QS X (.Expr e pos) (vi te):=⟨L2.g7 he.run hs⟩
theorem cT (he:QE X e te):QS X (.Return (some e) pos) (Ab te):=⟨L2.cT he.run⟩
theorem pE:QS X (.Return none pos) vn:=⟨L2.pE⟩
theorem jg {c:Expr} {a b:List Stmt} {tc:TT} (hc:QT X c tc) (ha:QB X a t) (hb:QB X b u):QS X (.If c a b pos) (Ad tc t u):=⟨L2.jg hc.run ha.run hb.run⟩
theorem gC {c:Expr} {body:List Stmt} {tc:TT} {tb:TS} (hp:PassesOwn (model X.prog X.w) X.A X.env X.xe) (hc:QT X c tc) (hb:QB X body tb):QS X (.While c body [] pos) (pH tc tb):=⟨L2.gC hp hc.run hb.run⟩
theorem g6 {i:Nat} {x:Str} (hN:X.N.Nodup) (hi:X.N[i]?=some x) (hx:Loc X.env.scope x) (hf:X.fn x=true∨X.env.scope.names.lookup x=some .local:=by first | exact .inl rfl | exact .inr rfl | assumption):QG X (.Name x pos) (mi i):=⟨L2.g6 hN hi hx hf⟩
theorem o4:Hc X [] As:=⟨L2.o4⟩
theorem lH {e:Expr} {es:List Expr} {t:TG} {u:mr} (h1:QG X e t) (h2:Hc X es u)
  (hs:(assignEach (e :: es) X.env).map (·.2)=assign e X.env :: (assignEach es X.env).map (·.2):=by rfl):Hc X (e :: es) (uQ t u):=⟨L2.lH h1.run h2.run hs⟩
theorem tG {k:Nat} {t:mr} {n:Nat} (hc:X.calm=true) (h:Hc X es t)
  (hn:(assignEach es X.env).length=n:=by rfl) (hst:(assignEach es X.env).findIdx? (·.1)=none:=by rfl):QG X (.Tuple es k pos) (Bl X.K n t):=⟨L2.tG hc h.run hn hst⟩
theorem oj {o i:Expr} {to ti:TE} {t:ik} (ho:QE X o to) (hi:QE X i ti) (hs:ip X t)
  (ha:∀ v,assign (.Subscript o i pos) X.env v=(do
   let ov ← holding [v] (eval o X.env)
   let iv ← holding [v,ov] (eval i X.env)
   standAt pos
   holding [v,ov,iv] (setItem ov iv v)
   release [v,ov,iv] []):=by intro _;rfl):QG X (.Subscript o i pos) (Bk to ti t):=⟨L2.oj ho.run hi.run hs ha⟩
theorem ou {tg e:Expr} (he:QE X e te) (hg:QG X tg g) (hs:swapsWithSole [tg] e pos.line X.env=pure false:=by rfl) (hw:swappedStores [tg] e X.env=pure none:=by rfl)
  (h1:(assignEach [tg] X.env).map (·.2)=[assign tg X.env]:=by rfl):QS X (.Assign [tg] e pos) (tJ te g):=⟨L2.ou he.run hg.run hs hw h1⟩
theorem b7 {i:Nat} {x:Str} {pos':Pos} (hN:X.N.Nodup) (hi:X.N[i]?=some x) (hx:Loc X.env.scope x) (he:QE X e te) (hs:swapsWith e (some (.Name x pos')) pos.line X.env=pure false:=by rfl) (hf:X.fn x=true∨X.env.scope.names.lookup x=some .local:=by first | exact .inl rfl | exact .inr rfl | assumption) :
  QS X (.Assign [.Name x pos'] e pos) (tJ te (mi i)):=⟨L2.b7 hN hi hx he.run hs hf⟩
theorem j1 {i j:Nat} {x y:Str} {a b:Expr} {ta:TA} {px py pt:Pos} {kt k2 pt2} (hc:X.calm=true) (hN:X.N.Nodup) (hi:X.N[i]?=some x) (hj:X.N[j]?=some y) (hij:i≠j)
  (hx:X.env.scope.names.lookup x=some .local) (hy:X.env.scope.names.lookup y=some .local) (ha:QA X [a,b] ta)
  (hw:swappedStores [.Tuple [.Name x px,.Name y py] kt pt] (.Tuple [a,b] k2 pt2) X.env=pure (some [x,y]))
  (hs:swapsWithSole [.Tuple [.Name x px,.Name y py] kt pt] (.Tuple [a,b] k2 pt2) pos.line X.env=pure false:=by rfl) :
  QS X (.Assign [.Tuple [.Name x px,.Name y py] kt pt] (.Tuple [a,b] k2 pt2) pos) (A7 i j ta):=⟨L2.j1 hc hN hi hj hij hx hy ha.run hw hs⟩
theorem iY {l:Expr} {tl:TE} (hl:QE X l tl):QI X tg l (t9 X.K tl):=⟨L2.iY hl.run⟩
theorem eG {a:Expr} {ta:TA} {p pos:Pos} (hg:Gl X "range") (hm:X.mg "range"=none) (ha:QA X [a] ta) (hs:starEach [a] X.env=[(false,eval a X.env)]:=by rfl):QI X tg (.Call (.Name "range" p) [a] [] pos) (t_ ta):=⟨L2.eG hg hm ha.run hs⟩
theorem j3 {a b:Expr} {ta:TA} {p pos:Pos} (hg:Gl X "range") (hm:X.mg "range"=none) (ha:QA X [a,b] ta) (hs:starEach [a,b] X.env=[(false,eval a X.env),(false,eval b X.env)]:=by rfl) (hs2:starEach [b] X.env=[(false,eval b X.env)]:=by rfl) :
  QI X tg (.Call (.Name "range" p) [a,b] [] pos) (uk ta):=⟨L2.j3 hg hm ha.run hs hs2⟩
theorem j5 {iter:Expr} {body:List Stmt} {wi:TI} {g:TG} {tb:TS} {pos:Pos} (hp:PassesOwn (model X.prog X.w) X.A X.env X.xe) (hc:X.calm=true) (hi:QI X tg iter wi) (hg:QG X tg g) (hb:QB X body tb)
  (hs:∀ x,foldedSetIterable iter X.env x=pure x:=by intro _;rfl):QS X (.For tg iter body [] pos) (EB wi g tb):=⟨L2.j5 hp hc hi.run hg.run hb.run hs⟩
theorem Ba {elt iter:Expr} {x:Str} {px:Pos} {sc:Scope} {pos:Pos} {wi:TI} (osc:Scope) (N:List Str) (ks:List (Str × Nat)) (hc:X.calm=true) (ho:X.env.scope=osc) (hN:X.N=N) (hi:QI X (.Name x px) iter wi)
  (he:∀ cl C s₀ H₀ fp pins,QE (dH X sc cl C x ks s₀ H₀ fp pins) elt te) (ok:bU sc osc N x ks:=by decide +kernel) (hs:∀ x,foldedSetIterable iter X.env x=pure x:=by intro _;rfl) :
  QE X (.ListComp elt [⟨.Name x px,iter,[],0⟩] sc pos) (G6 wi ks te):=⟨B5 osc N ks hc ho hN hi.run (fun cl C s₀ H₀ fp pins=>(he cl C s₀ H₀ fp pins).run) ok hs⟩
theorem AB {elt iter:Expr} {x y:Str} {px py:Pos} {sc:Scope} {pos spos:Pos} {wi:TI} {i:Nat} (osc:Scope) (N:List Str) (ks:List (Str × Nat)) (hc:X.calm=true) (ho:X.env.scope=osc) (hN:X.N=N) (hnd:X.N.Nodup) (hy:X.N[i]?=some y) (hl:Loc X.env.scope y)
  (hi:QI X (.Name x px) iter wi) (he:∀ cl C s₀ H₀ fp pins,QE (dH X sc cl C x ks s₀ H₀ fp pins) elt te) (ok:bU sc osc N x ks:=by decide +kernel) (hs:∀ x,foldedSetIterable iter X.env x=pure x:=by intro _;rfl)
  (hsw:swapsWith (.ListComp elt [⟨.Name x px,iter,[],0⟩] sc pos) (some (.Name y py)) spos.line X.env=pure true:=by rfl) (hf:X.fn y=true∨X.env.scope.names.lookup y=some .local:=by first | exact .inl rfl | exact .inr rfl | assumption) :
  QS X (.Assign [.Name y py] (.ListComp elt [⟨.Name x px,iter,[],0⟩] sc pos) spos) (Dt wi ks te i):=⟨CG osc N ks hc ho hN hnd hy hl hi.run (fun cl C s₀ H₀ fp pins=>(he cl C s₀ H₀ fp pins).run) ok hs hsw hf⟩
end
end Ov
namespace Ov
open PySem PySem.Spec PyProof.Rows
open L2 (V HO Hp Inv Cx VK TE TA Vals RelV eX cf cg R2 upd EP vals1 intsAre_of Gl)
section
variable {X:Cx}
end
end Ov
namespace Ov
open PySem PySem.Spec PyProof.Rows
open L2 (V HO Hp Inv Cx VK TE TA Vals RelV eX cf cg fA R2 upd aZ)
inductive Py where
 | non | bl (b:Bool) | int (i:Int) | str (x:Str) | tup (xs:List Py) | lst (xs:List Py)
mutual
def At (K:PySem.W.Frag) (H:Hp):Py→V→Prop
 | .non,v=>v=.non
 | .bl b,v=>v=.bl b
 | .int i,v=>v=.int i
 | .str x,v=>v=.str x
 | .tup xs,v=>∃ a vs,v=.ref a∧fA K H a vs∧mT K H xs vs
 | .lst xs,v=>∃ a vs,v=.ref a∧cg K H a vs∧mT K H xs vs
def mT (K:PySem.W.Frag) (H:Hp):List Py→List V→Prop
 | [],vs=>vs=[]
 | x :: xs,vs=>∃ v us,vs=v :: us∧At K H x v∧mT K H xs us
end
mutual
def gZ:Py→Py→Bool
 | .non,.non=>true
 | .bl a,.bl b=>a == b
 | .int a,.int b=>a == b
 | .bl a,.int b=>(if a then 1 else 0) == b
 | .int a,.bl b=>a == (if b then 1 else 0)
 | .str a,.str b=>a == b
 | .tup xs,.tup ys=>gF xs ys
 | .lst xs,.lst ys=>gF xs ys
 | _,_=>false
def gF:List Py→List Py→Bool
 | [],[]=>true
 | x :: xs,y :: ys=>gZ x y && gF xs ys
 | _,_=>false
end
mutual
def dep:Py→Nat
 | .tup xs=>dy xs + 1
 | .lst xs=>dy xs + 1
 | _=>0
def dy:List Py→Nat
 | []=>0
 | x :: xs=>max (dep x) (dy xs)
end
mutual
theorem rS:∀ x:Py,gZ x x=true
 | .non=>rfl
 | .bl b=>by simp [gZ]
 | .int b=>by simp [gZ]
 | .str b=>by simp [gZ]
 | .tup xs=>by simpa [gZ] using jI xs
 | .lst xs=>by simpa [gZ] using jI xs
theorem jI:∀ xs:List Py,gF xs xs=true
 | []=>rfl
 | x :: xs=>by simp [gF,rS x,jI xs]
end
mutual
theorem At.same {K:PySem.W.Frag} {H H':Hp} (e:aZ H H'):∀ {x:Py} {v:V},At K H x v→At K H' x v
 | .non,_,h=>h
 | .bl _,_,h=>h
 | .int _,_,h=>h
 | .str _,_,h=>h
 | .tup xs,_,⟨a,vs,e1,h,k⟩=>⟨a,vs,e1,e.tup h,mT.same e k⟩
 | .lst xs,_,⟨a,vs,e1,h,k⟩=>⟨a,vs,e1,e.seq h,mT.same e k⟩
theorem mT.same {K:PySem.W.Frag} {H H':Hp} (e:aZ H H'):∀ {xs:List Py} {vs:List V},mT K H xs vs→mT K H' xs vs
 | [],_,h=>h
 | _ :: _,_,⟨v,us,e1,h,k⟩=>⟨v,us,e1,At.same e h,mT.same e k⟩
end
theorem mT.length {K:PySem.W.Frag} {H:Hp}:∀ {xs:List Py} {vs:List V},mT K H xs vs→xs.length=vs.length
 | [],_,h=>by cases h;rfl
 | _ :: xs,_,⟨v,us,e1,_,k⟩=>by subst e1;simp [mT.length k]
def v_ (xs ys:List Py) (j:Nat):Bool:=match xs[j]?,ys[j]? with
 | some x,some y=>gZ x y
 | _,_=>false
theorem gd:∀ (xs ys:List Py),((List.range (min xs.length ys.length)).all (v_ xs ys) && (xs.length == ys.length))=gF xs ys
 | [],[]=>rfl
 | [],_ :: _=>by simp [gF]
 | _ :: _,[]=>by simp [gF]
 | x :: xs,y :: ys=>by
  have ih:=gd xs ys
  rw [List.length_cons,List.length_cons,Nat.succ_min_succ,List.range_succ_eq_map,List.all_cons,List.all_map]
  have e1:(v_ (x :: xs) (y :: ys) ∘ Nat.succ)=v_ xs ys:=by
   funext j
   simp [v_]
  have e2:(xs.length + 1 == ys.length + 1)=(xs.length == ys.length):=by
   rw [Bool.eq_iff_iff]
   simp
  rw [e1,e2,Bool.and_assoc,ih]
  simp [v_,gF]
section
variable {X:Cx} {pins:List (Addr × Obj)} {σ:L2.St} {H:Hp} {s:Shared}
mutual
theorem At.one (I:Inv X pins σ H s):∀ {x y:Py} {v:V},At X.K H x v→At X.K H y v→gZ x y=true
 | .non,y,v,h,k=>by cases h;cases y <;> simp_all [At,gZ]
 | .bl b,y,v,h,k=>by cases h;cases y <;> simp_all [At,gZ]
 | .int b,y,v,h,k=>by cases h;cases y <;> simp_all [At,gZ]
 | .str b,y,v,h,k=>by cases h;cases y <;> simp_all [At,gZ]
 | .tup xs,y,v,h,k=>by
  obtain ⟨a,vs,rfl,h1,h2⟩:=h
  cases y with
  | tup ys =>
   obtain ⟨b,us,e,k1,k2⟩:=k
   cases e
   cases I.vZ h1 k1
   simpa [gZ] using mT.one I h2 k2
  | lst ys =>
   obtain ⟨b,us,e,k1,k2⟩:=k
   cases e
   obtain ⟨_,_,⟨o,e1,c1,_⟩,_⟩:=I.tuple h1
   obtain ⟨_,_,⟨o',n,e2,c2,_⟩,_⟩:=I.list k1
   rw [e1] at e2;cases e2;exact absurd (Value.type.inj (c1.symm.trans c2)) (by decide)
  | _=>cases k
 | .lst xs,y,v,h,k=>by
  obtain ⟨a,vs,rfl,h1,h2⟩:=h
  cases y with
  | lst ys =>
   obtain ⟨b,us,e,k1,k2⟩:=k
   cases e
   cases I.gI h1 k1
   simpa [gZ] using mT.one I h2 k2
  | tup ys =>
   obtain ⟨b,us,e,k1,k2⟩:=k
   cases e
   obtain ⟨_,_,⟨o,e1,c1,_⟩,_⟩:=I.tuple k1
   obtain ⟨_,_,⟨o',n,e2,c2,_⟩,_⟩:=I.list h1
   rw [e1] at e2;cases e2;exact absurd (Value.type.inj (c1.symm.trans c2)) (by decide)
  | _=>cases k
theorem mT.one (I:Inv X pins σ H s):∀ {xs ys:List Py} {vs:List V},mT X.K H xs vs→mT X.K H ys vs→gF xs ys=true
 | [],ys,vs,h,k=>by
  cases h
  cases ys with
  | nil=>rfl
  | cons y ys=>obtain ⟨_,_,e,_⟩:=k;cases e
 | x :: xs,ys,vs,h,k=>by
  obtain ⟨v,us,rfl,h1,h2⟩:=h
  cases ys with
  | nil=>cases k
  | cons y ys =>
   obtain ⟨v',us',e,k1,k2⟩:=k
   cases e
   simp [gF,At.one I h1 k1,mT.one I h2 k2]
end
mutual
theorem Ht (I:Inv X pins σ H s):∀ (x y:Py) {v v':V} {u u':Value} {A:Around},At X.K H x v→At X.K H y v'→RelV v u→RelV v' u'→A.units + dep x < cLine→SeqAt.EqAt A s u u' (gZ x y)
 | .non,y,v,v',u,u',A,h,k,r,r',hu=>by
  cases h;cases r
  cases y with
  | non=>cases k;cases r';exact SeqAt.EqAt.same _
  | bl b=>cases k;cases r';exact SeqAt.EqAt.none_bool _
  | int b=>cases k;obtain ⟨t,rfl⟩:=r';exact SeqAt.EqAt.none_int _ _
  | str b=>cases k;obtain ⟨t,rfl⟩:=r';exact SeqAt.EqAt.none_str _ _
  | tup ys=>obtain ⟨a,vs,rfl,h1,h2⟩:=k;cases r';obtain ⟨_,_,p,_⟩:=I.tuple h1;exact SeqAt.EqAt.none_tuple p (by simpa [dep] using hu)
  | lst ys=>obtain ⟨a,vs,rfl,h1,h2⟩:=k;cases r';obtain ⟨_,_,p,_⟩:=I.list h1;exact SeqAt.EqAt.none_list p.isList (by simpa [dep] using hu)
 | .bl x,y,v,v',u,u',A,h,k,r,r',hu=>by
  cases h;cases r
  cases y with
  | non=>cases k;cases r';exact SeqAt.EqAt.bool_none _
  | bl b=>cases k;cases r';exact SeqAt.EqAt.bool_bool _ _
  | int b=>cases k;obtain ⟨t,rfl⟩:=r';exact SeqAt.EqAt.bool_int _ _ _
  | str b=>cases k;obtain ⟨t,rfl⟩:=r';exact SeqAt.EqAt.bool_str _ _ _
  | tup ys=>obtain ⟨a,vs,rfl,h1,h2⟩:=k;cases r';obtain ⟨_,_,p,_⟩:=I.tuple h1;exact SeqAt.EqAt.bool_tuple _ p (by simpa [dep] using hu)
  | lst ys=>obtain ⟨a,vs,rfl,h1,h2⟩:=k;cases r';obtain ⟨_,_,p,_⟩:=I.list h1;exact SeqAt.EqAt.bool_list _ p.isList (by simpa [dep] using hu)
 | .int x,y,v,v',u,u',A,h,k,r,r',hu=>by
  cases h;obtain ⟨t0,rfl⟩:=r
  cases y with
  | non=>cases k;cases r';exact SeqAt.EqAt.int_none _ _
  | bl b=>cases k;cases r';exact SeqAt.EqAt.int_bool _ _ _
  | int b=>cases k;obtain ⟨t,rfl⟩:=r';exact SeqAt.EqAt.int_int _ _ _ _
  | str b=>cases k;obtain ⟨t,rfl⟩:=r';exact SeqAt.EqAt.int_str _ _ _ _
  | tup ys=>obtain ⟨a,vs,rfl,h1,h2⟩:=k;cases r';obtain ⟨_,_,p,_⟩:=I.tuple h1;exact SeqAt.EqAt.int_tuple _ _ p (by simpa [dep] using hu)
  | lst ys=>obtain ⟨a,vs,rfl,h1,h2⟩:=k;cases r';obtain ⟨_,_,p,_⟩:=I.list h1;exact SeqAt.EqAt.int_list _ _ p.isList (by simpa [dep] using hu)
 | .str x,y,v,v',u,u',A,h,k,r,r',hu=>by
  cases h;obtain ⟨t0,rfl⟩:=r
  cases y with
  | non=>cases k;cases r';exact SeqAt.EqAt.str_none _ _
  | bl b=>cases k;cases r';exact SeqAt.EqAt.str_bool _ _ _
  | int b=>cases k;obtain ⟨t,rfl⟩:=r';exact SeqAt.EqAt.str_int _ _ _ _
  | str b=>cases k;obtain ⟨t,rfl⟩:=r';exact SeqAt.EqAt.str_str _ _ _ _
  | tup ys=>obtain ⟨a,vs,rfl,h1,h2⟩:=k;cases r';obtain ⟨_,_,p,_⟩:=I.tuple h1;exact SeqAt.EqAt.str_tuple _ _ p (by simpa [dep] using hu)
  | lst ys=>obtain ⟨a,vs,rfl,h1,h2⟩:=k;cases r';obtain ⟨_,_,p,_⟩:=I.list h1;exact SeqAt.EqAt.str_list _ _ p.isList (by simpa [dep] using hu)
 | .tup xs,y,v,v',u,u',A,h,k,r,r',hu=>by
  have h0:=h
  obtain ⟨a,vs,rfl,h1,h2⟩:=h
  cases r
  obtain ⟨is,r1,p1,_⟩:=I.tuple h1
  have hu0:A.units < cLine:=by omega
  have hu1:A.in1.units + dy xs < cLine:=by
   have e:dep (.tup xs)=dy xs + 1:=by rw [dep]
   rw [e] at hu
   show A.units + 1 + dy xs < cLine
   omega
  cases y with
  | non=>cases k;cases r';exact SeqAt.EqAt.tuple_none p1 hu0
  | bl b=>cases k;cases r';exact SeqAt.EqAt.tuple_bool _ p1 hu0
  | int b=>cases k;obtain ⟨t,rfl⟩:=r';exact SeqAt.EqAt.tuple_int _ _ p1 hu0
  | str b=>cases k;obtain ⟨t,rfl⟩:=r';exact SeqAt.EqAt.tuple_str _ _ p1 hu0
  | lst ys=>obtain ⟨b,us,rfl,k1,k2⟩:=k;cases r';obtain ⟨_,_,p,_⟩:=I.list k1;exact SeqAt.EqAt.tuple_list p1 p.isList hu0
  | tup ys =>
   have k0:=k
   obtain ⟨b,us,rfl,k1,k2⟩:=k
   cases r'
   by_cases hab:a=b
   ·subst hab
    rw [At.one I h0 k0]
    exact SeqAt.EqAt.same _
   ·obtain ⟨js,r2,p2,_⟩:=I.tuple k1
    refine SeqAt.EqAt.of_refs hab ?_
    have key:=SeqAt.RcAt.tuples (e:=v_ xs ys) p1 p2 hu0 fun j q1 q2=>lR I xs ys h2 k2 r1 r2 hu1 j (by simpa using q1) (by simpa using q2)
    have e1:is.length=xs.length:=by rw [← r1.length,h2.length]
    have e2:js.length=ys.length:=by rw [← r2.length,k2.length]
    simp only [List.size_toArray] at key
    rw [e1,e2,gd] at key
    simpa [gZ] using key
 | .lst xs,y,v,v',u,u',A,h,k,r,r',hu=>by
  have h0:=h
  obtain ⟨a,vs,rfl,h1,h2⟩:=h
  cases r
  obtain ⟨is,r1,p1,_⟩:=I.list h1
  have hu0:A.units < cLine:=by omega
  have hu1:A.in1.units + dy xs < cLine:=by
   have e:dep (.lst xs)=dy xs + 1:=by rw [dep]
   rw [e] at hu
   show A.units + 1 + dy xs < cLine
   omega
  cases y with
  | non=>cases k;cases r';exact SeqAt.EqAt.list_none p1.isList hu0
  | bl b=>cases k;cases r';exact SeqAt.EqAt.list_bool _ p1.isList hu0
  | int b=>cases k;obtain ⟨t,rfl⟩:=r';exact SeqAt.EqAt.list_int _ _ p1.isList hu0
  | str b=>cases k;obtain ⟨t,rfl⟩:=r';exact SeqAt.EqAt.list_str _ _ p1.isList hu0
  | tup ys=>obtain ⟨b,us,rfl,k1,k2⟩:=k;cases r';obtain ⟨_,_,p,_⟩:=I.tuple k1;exact SeqAt.EqAt.list_tuple p1.isList p hu0
  | lst ys =>
   have k0:=k
   obtain ⟨b,us,rfl,k1,k2⟩:=k
   cases r'
   by_cases hab:a=b
   ·subst hab
    rw [At.one I h0 k0]
    exact SeqAt.EqAt.same _
   ·obtain ⟨js,r2,p2,_⟩:=I.list k1
    refine SeqAt.EqAt.of_refs hab ?_
    have e1:is.length=xs.length:=by rw [← r1.length,h2.length]
    have e2:js.length=ys.length:=by rw [← r2.length,k2.length]
    have ae:=gd xs ys
    by_cases hl:xs.length=ys.length
    ·have key:=SeqAt.RcAt.lists (e:=v_ xs ys) p1.isList p2.isList (by simp only [List.size_toArray];omega) hu0 fun j q1 q2=>lR I xs ys h2 k2 r1 r2 hu1 j (by simpa using q1) (by simpa using q2)
     simp only [List.size_toArray] at key
     rw [hl,Nat.min_self] at ae
     have e3:(ys.length == ys.length)=true:=by simp
     rw [e3,Bool.and_true] at ae
     rw [e1,hl,ae] at key
     simpa [gZ] using key
    ·have key:=SeqAt.RcAt.lists_lengths p1.isList p2.isList (A:=A) (by simp only [List.size_toArray];rw [e1,e2];simpa using hl) hu0
     have e3:gF xs ys=false:=by
      rw [← ae]
      have:(xs.length == ys.length)=false:=by simpa using hl
      rw [this,Bool.and_false]
     simpa [gZ,e3] using key
theorem lR (I:Inv X pins σ H s):∀ (xs ys:List Py) {vs us:List V} {is js:List Value} {A:Around},mT X.K H xs vs→mT X.K H ys us→Vals vs is→Vals us js→A.units + dy xs < cLine→∀ j (h1:j < is.length) (h2:j < js.length),SeqAt.EqAt A s is[j] js[j] (v_ xs ys j)
 | [],ys,vs,us,is,js,A,h,k,r,r',hu,j,h1,h2=>by
  cases h;cases r;exact absurd h1 (Nat.not_lt_zero _)
 | x :: xs,[],vs,us,is,js,A,h,k,r,r',hu,j,h1,h2=>by
  cases k;cases r';exact absurd h2 (Nat.not_lt_zero _)
 | x :: xs,y :: ys,vs,us,is,js,A,h,k,r,r',hu,j,h1,h2=>by
  obtain ⟨v,vs',rfl,a1,a2⟩:=h
  obtain ⟨v',us',rfl,b1,b2⟩:=k
  cases r with
  | cons q1 q2 =>
   cases r' with
   | cons z1 z2 =>
    have e:dy (x :: xs)=max (dep x) (dy xs):=by rw [dy]
    rw [e] at hu
    cases j with
    | zero=>exact Ht I x y a1 b1 q1 z1 (by omega)
    | succ j =>
     have:=lR I xs ys a2 b2 q2 z2 (A:=A) (by omega) j (by simpa using h1) (by simpa using h2)
     simpa [v_] using this
end
theorem HE (I:Inv X pins σ H s) (x y:Py) {v v':V} {u u':Value} {A:Around} (h:At X.K H x v) (k:At X.K H y v') (r:RelV v u) (r':RelV v' u') (hu:A.units + dep x < cLine):SeqAt.RcAt A s u u' (gZ x y):=by
 have hu0:A.units < cLine:=by omega
 cases x with
 | non =>
  cases h;cases r
  cases y with
  | non=>cases k;cases r';exact SeqAt.RcAt.none_none
  | bl b=>cases k;cases r';exact SeqAt.RcAt.none_bool _
  | int b=>cases k;obtain ⟨t,rfl⟩:=r';exact SeqAt.RcAt.none_int _ _
  | str b=>cases k;obtain ⟨t,rfl⟩:=r';exact SeqAt.RcAt.none_str _ _
  | tup ys=>obtain ⟨b,us,rfl,k1,k2⟩:=k;cases r';obtain ⟨js,r2,p2,_⟩:=I.tuple k1;exact SeqAt.RcAt.none_tuple p2 hu0
  | lst ys=>obtain ⟨b,us,rfl,k1,k2⟩:=k;cases r';obtain ⟨js,r2,p2,_⟩:=I.list k1;exact SeqAt.RcAt.none_list p2.isList hu0
 | bl i =>
  cases h;cases r
  cases y with
  | non=>cases k;cases r';exact SeqAt.RcAt.bool_none _
  | bl b=>cases k;cases r';exact SeqAt.RcAt.bool_bool _ _
  | int b=>cases k;obtain ⟨t,rfl⟩:=r';exact SeqAt.RcAt.bool_int _ _ _
  | str b=>cases k;obtain ⟨t,rfl⟩:=r';exact SeqAt.RcAt.bool_str _ _ _
  | tup ys=>obtain ⟨b,us,rfl,k1,k2⟩:=k;cases r';obtain ⟨js,r2,p2,_⟩:=I.tuple k1;exact SeqAt.RcAt.bool_tuple _ p2 hu0
  | lst ys=>obtain ⟨b,us,rfl,k1,k2⟩:=k;cases r';obtain ⟨js,r2,p2,_⟩:=I.list k1;exact SeqAt.RcAt.bool_list _ p2.isList hu0
 | int i =>
  cases h;obtain ⟨t0,rfl⟩:=r
  cases y with
  | non=>cases k;cases r';exact SeqAt.RcAt.int_none _ _
  | bl b=>cases k;cases r';exact SeqAt.RcAt.int_bool _ _ _
  | int b=>cases k;obtain ⟨t,rfl⟩:=r';exact SeqAt.RcAt.int_int _ _ _ _
  | str b=>cases k;obtain ⟨t,rfl⟩:=r';exact SeqAt.RcAt.int_str _ _ _ _
  | tup ys=>obtain ⟨b,us,rfl,k1,k2⟩:=k;cases r';obtain ⟨js,r2,p2,_⟩:=I.tuple k1;exact SeqAt.RcAt.int_tuple _ _ p2 hu0
  | lst ys=>obtain ⟨b,us,rfl,k1,k2⟩:=k;cases r';obtain ⟨js,r2,p2,_⟩:=I.list k1;exact SeqAt.RcAt.int_list _ _ p2.isList hu0
 | str i =>
  cases h;obtain ⟨t0,rfl⟩:=r
  cases y with
  | non=>cases k;cases r';exact SeqAt.RcAt.str_none _ _
  | bl b=>cases k;cases r';exact SeqAt.RcAt.str_bool _ _ _
  | int b=>cases k;obtain ⟨t,rfl⟩:=r';exact SeqAt.RcAt.str_int _ _ _ _
  | str b=>cases k;obtain ⟨t,rfl⟩:=r';exact SeqAt.RcAt.str_str _ _ _ _
  | tup ys=>obtain ⟨b,us,rfl,k1,k2⟩:=k;cases r';obtain ⟨js,r2,p2,_⟩:=I.tuple k1;exact SeqAt.RcAt.str_tuple _ _ p2 hu0
  | lst ys=>obtain ⟨b,us,rfl,k1,k2⟩:=k;cases r';obtain ⟨js,r2,p2,_⟩:=I.list k1;exact SeqAt.RcAt.str_list _ _ p2.isList hu0
 | tup xs =>
  obtain ⟨a,vs,rfl,h1,h2⟩:=h
  cases r
  obtain ⟨is,r1,p1,_⟩:=I.tuple h1
  have hu1:A.in1.units + dy xs < cLine:=by
   have e:dep (.tup xs)=dy xs + 1:=by rw [dep]
   rw [e] at hu
   show A.units + 1 + dy xs < cLine
   omega
  cases y with
  | non=>cases k;cases r';exact SeqAt.RcAt.tuple_none p1 hu0
  | bl b=>cases k;cases r';exact SeqAt.RcAt.tuple_bool _ p1 hu0
  | int b=>cases k;obtain ⟨t,rfl⟩:=r';exact SeqAt.RcAt.tuple_int _ _ p1 hu0
  | str b=>cases k;obtain ⟨t,rfl⟩:=r';exact SeqAt.RcAt.tuple_str _ _ p1 hu0
  | tup ys =>
   obtain ⟨b,us,rfl,k1,k2⟩:=k;cases r';obtain ⟨js,r2,p2,_⟩:=I.tuple k1
   have e1:is.length=xs.length:=by rw [← r1.length,h2.length]
   have e2:js.length=ys.length:=by rw [← r2.length,k2.length]
   have ae:=gd xs ys
   have key:=SeqAt.RcAt.tuples (e:=v_ xs ys) p1 p2 hu0 fun j q1 q2=>lR I xs ys h2 k2 r1 r2 hu1 j (by simpa using q1) (by simpa using q2)
   simp only [List.size_toArray] at key
   rw [e1,e2,ae] at key
   simpa [gZ] using key
  | lst ys=>obtain ⟨b,us,rfl,k1,k2⟩:=k;cases r';obtain ⟨js,r2,p2,_⟩:=I.list k1;exact SeqAt.RcAt.tuple_list p1 p2.isList hu0
 | lst xs =>
  obtain ⟨a,vs,rfl,h1,h2⟩:=h
  cases r
  obtain ⟨is,r1,p1,_⟩:=I.list h1
  have hu1:A.in1.units + dy xs < cLine:=by
   have e:dep (.lst xs)=dy xs + 1:=by rw [dep]
   rw [e] at hu
   show A.units + 1 + dy xs < cLine
   omega
  cases y with
  | non=>cases k;cases r';exact SeqAt.RcAt.list_none p1.isList hu0
  | bl b=>cases k;cases r';exact SeqAt.RcAt.list_bool _ p1.isList hu0
  | int b=>cases k;obtain ⟨t,rfl⟩:=r';exact SeqAt.RcAt.list_int _ _ p1.isList hu0
  | str b=>cases k;obtain ⟨t,rfl⟩:=r';exact SeqAt.RcAt.list_str _ _ p1.isList hu0
  | tup ys=>obtain ⟨b,us,rfl,k1,k2⟩:=k;cases r';obtain ⟨js,r2,p2,_⟩:=I.tuple k1;exact SeqAt.RcAt.list_tuple p1.isList p2 hu0
  | lst ys =>
   obtain ⟨b,us,rfl,k1,k2⟩:=k;cases r';obtain ⟨js,r2,p2,_⟩:=I.list k1
   have e1:is.length=xs.length:=by rw [← r1.length,h2.length]
   have e2:js.length=ys.length:=by rw [← r2.length,k2.length]
   have ae:=gd xs ys
   by_cases hl:xs.length=ys.length
   ·have key:=SeqAt.RcAt.lists (e:=v_ xs ys) p1.isList p2.isList (by simp only [List.size_toArray];omega) hu0 fun j q1 q2=>lR I xs ys h2 k2 r1 r2 hu1 j (by simpa using q1) (by simpa using q2)
    simp only [List.size_toArray] at key
    rw [hl,Nat.min_self] at ae
    have e3:(ys.length == ys.length)=true:=by simp
    rw [e3,Bool.and_true] at ae
    rw [e1,hl,ae] at key
    simpa [gZ] using key
   ·have key:=SeqAt.RcAt.lists_lengths p1.isList p2.isList (A:=A) (by simp only [List.size_toArray];rw [e1,e2];simpa using hl) hu0
    have e3:gF xs ys=false:=by
     rw [← ae]
     have:(xs.length == ys.length)=false:=by simpa using hl
     rw [this,Bool.and_false]
    simpa [gZ,e3] using key
theorem E5 (I:Inv X pins σ H s) (x y:Py) {v v':V} {u u':Value} {A:Around} (h:At X.K H x v) (k:At X.K H y v') (r:RelV v u) (r':RelV v' u') (hu:A.units + dep x < cLine):SeqAt.RcNeAt A s u u' (!gZ x y):=by
 have hu0:A.units < cLine:=by omega
 cases x with
 | non =>
  cases h;cases r
  cases y with
  | non=>cases k;cases r';exact SeqAt.RcNeAt.none_none
  | bl b=>cases k;cases r';exact SeqAt.RcNeAt.none_bool _
  | int b=>cases k;obtain ⟨t,rfl⟩:=r';exact SeqAt.RcNeAt.none_int _ _
  | str b=>cases k;obtain ⟨t,rfl⟩:=r';exact SeqAt.RcNeAt.none_str _ _
  | tup ys=>obtain ⟨b,us,rfl,k1,k2⟩:=k;cases r';obtain ⟨js,r2,p2,_⟩:=I.tuple k1;exact SeqAt.RcNeAt.none_tuple p2 hu0
  | lst ys=>obtain ⟨b,us,rfl,k1,k2⟩:=k;cases r';obtain ⟨js,r2,p2,_⟩:=I.list k1;exact SeqAt.RcNeAt.none_list p2.isList hu0
 | bl i =>
  cases h;cases r
  cases y with
  | non=>cases k;cases r';exact SeqAt.RcNeAt.bool_none _
  | bl b=>cases k;cases r';exact SeqAt.RcNeAt.bool_bool _ _
  | int b=>cases k;obtain ⟨t,rfl⟩:=r';exact SeqAt.RcNeAt.bool_int _ _ _
  | str b=>cases k;obtain ⟨t,rfl⟩:=r';exact SeqAt.RcNeAt.bool_str _ _ _
  | tup ys=>obtain ⟨b,us,rfl,k1,k2⟩:=k;cases r';obtain ⟨js,r2,p2,_⟩:=I.tuple k1;exact SeqAt.RcNeAt.bool_tuple _ p2 hu0
  | lst ys=>obtain ⟨b,us,rfl,k1,k2⟩:=k;cases r';obtain ⟨js,r2,p2,_⟩:=I.list k1;exact SeqAt.RcNeAt.bool_list _ p2.isList hu0
 | int i =>
  cases h;obtain ⟨t0,rfl⟩:=r
  cases y with
  | non=>cases k;cases r';exact SeqAt.RcNeAt.int_none _ _
  | bl b=>cases k;cases r';exact SeqAt.RcNeAt.int_bool _ _ _
  | int b=>cases k;obtain ⟨t,rfl⟩:=r';exact SeqAt.RcNeAt.int_int _ _ _ _
  | str b=>cases k;obtain ⟨t,rfl⟩:=r';exact SeqAt.RcNeAt.int_str _ _ _ _
  | tup ys=>obtain ⟨b,us,rfl,k1,k2⟩:=k;cases r';obtain ⟨js,r2,p2,_⟩:=I.tuple k1;exact SeqAt.RcNeAt.int_tuple _ _ p2 hu0
  | lst ys=>obtain ⟨b,us,rfl,k1,k2⟩:=k;cases r';obtain ⟨js,r2,p2,_⟩:=I.list k1;exact SeqAt.RcNeAt.int_list _ _ p2.isList hu0
 | str i =>
  cases h;obtain ⟨t0,rfl⟩:=r
  cases y with
  | non=>cases k;cases r';exact SeqAt.RcNeAt.str_none _ _
  | bl b=>cases k;cases r';exact SeqAt.RcNeAt.str_bool _ _ _
  | int b=>cases k;obtain ⟨t,rfl⟩:=r';exact SeqAt.RcNeAt.str_int _ _ _ _
  | str b=>cases k;obtain ⟨t,rfl⟩:=r';exact SeqAt.RcNeAt.str_str _ _ _ _
  | tup ys=>obtain ⟨b,us,rfl,k1,k2⟩:=k;cases r';obtain ⟨js,r2,p2,_⟩:=I.tuple k1;exact SeqAt.RcNeAt.str_tuple _ _ p2 hu0
  | lst ys=>obtain ⟨b,us,rfl,k1,k2⟩:=k;cases r';obtain ⟨js,r2,p2,_⟩:=I.list k1;exact SeqAt.RcNeAt.str_list _ _ p2.isList hu0
 | tup xs =>
  obtain ⟨a,vs,rfl,h1,h2⟩:=h
  cases r
  obtain ⟨is,r1,p1,_⟩:=I.tuple h1
  have hu1:A.in1.units + dy xs < cLine:=by
   have e:dep (.tup xs)=dy xs + 1:=by rw [dep]
   rw [e] at hu
   show A.units + 1 + dy xs < cLine
   omega
  cases y with
  | non=>cases k;cases r';exact SeqAt.RcNeAt.tuple_none p1 hu0
  | bl b=>cases k;cases r';exact SeqAt.RcNeAt.tuple_bool _ p1 hu0
  | int b=>cases k;obtain ⟨t,rfl⟩:=r';exact SeqAt.RcNeAt.tuple_int _ _ p1 hu0
  | str b=>cases k;obtain ⟨t,rfl⟩:=r';exact SeqAt.RcNeAt.tuple_str _ _ p1 hu0
  | tup ys =>
   obtain ⟨b,us,rfl,k1,k2⟩:=k;cases r';obtain ⟨js,r2,p2,_⟩:=I.tuple k1
   have e1:is.length=xs.length:=by rw [← r1.length,h2.length]
   have e2:js.length=ys.length:=by rw [← r2.length,k2.length]
   have ae:=gd xs ys
   have key:=SeqAt.RcNeAt.tuples (e:=v_ xs ys) p1 p2 hu0 fun j q1 q2=>lR I xs ys h2 k2 r1 r2 hu1 j (by simpa using q1) (by simpa using q2)
   simp only [List.size_toArray] at key
   rw [e1,e2,ae] at key
   simpa [gZ] using key
  | lst ys=>obtain ⟨b,us,rfl,k1,k2⟩:=k;cases r';obtain ⟨js,r2,p2,_⟩:=I.list k1;exact SeqAt.RcNeAt.tuple_list p1 p2.isList hu0
 | lst xs =>
  obtain ⟨a,vs,rfl,h1,h2⟩:=h
  cases r
  obtain ⟨is,r1,p1,_⟩:=I.list h1
  have hu1:A.in1.units + dy xs < cLine:=by
   have e:dep (.lst xs)=dy xs + 1:=by rw [dep]
   rw [e] at hu
   show A.units + 1 + dy xs < cLine
   omega
  cases y with
  | non=>cases k;cases r';exact SeqAt.RcNeAt.list_none p1.isList hu0
  | bl b=>cases k;cases r';exact SeqAt.RcNeAt.list_bool _ p1.isList hu0
  | int b=>cases k;obtain ⟨t,rfl⟩:=r';exact SeqAt.RcNeAt.list_int _ _ p1.isList hu0
  | str b=>cases k;obtain ⟨t,rfl⟩:=r';exact SeqAt.RcNeAt.list_str _ _ p1.isList hu0
  | tup ys=>obtain ⟨b,us,rfl,k1,k2⟩:=k;cases r';obtain ⟨js,r2,p2,_⟩:=I.tuple k1;exact SeqAt.RcNeAt.list_tuple p1.isList p2 hu0
  | lst ys =>
   obtain ⟨b,us,rfl,k1,k2⟩:=k;cases r';obtain ⟨js,r2,p2,_⟩:=I.list k1
   have e1:is.length=xs.length:=by rw [← r1.length,h2.length]
   have e2:js.length=ys.length:=by rw [← r2.length,k2.length]
   have ae:=gd xs ys
   by_cases hl:xs.length=ys.length
   ·have key:=SeqAt.RcNeAt.lists (e:=v_ xs ys) p1.isList p2.isList (by simp only [List.size_toArray];omega) hu0 fun j q1 q2=>lR I xs ys h2 k2 r1 r2 hu1 j (by simpa using q1) (by simpa using q2)
    simp only [List.size_toArray] at key
    rw [hl,Nat.min_self] at ae
    have e3:(ys.length == ys.length)=true:=by simp
    rw [e3,Bool.and_true] at ae
    rw [e1,hl,ae] at key
    simpa [gZ] using key
   ·have key:=SeqAt.RcNeAt.lists_lengths p1.isList p2.isList (A:=A) (by simp only [List.size_toArray];rw [e1,e2];simpa using hl) hu0
    have e3:gF xs ys=false:=by
     rw [← ae]
     have:(xs.length == ys.length)=false:=by simpa using hl
     rw [this,Bool.and_false]
    simpa [gZ,e3] using key
def rP (K:PySem.W.Frag) (f:Bool→Bool):R2:=fun v v' H Q=>∃ x y:Py,At K H x v∧At K H y v'∧dep x≤60∧Q (.bl (f (gZ x y))) H
theorem Dg (hu:X.A.units + 61 < cLine):eX X (compareOp .Eq) (rP X.K id):=by
 intro pins s σ H x y v u Q I rx ry h
 obtain ⟨a,b,h1,h2,d,q⟩:=h
 exact HE I a b h1 h2 rx ry (by omega) X.prog X.w X.xe _ ⟨.bl _,H,I,rfl,q⟩
theorem Ei (hu:X.A.units + 61 < cLine):eX X (compareOp .NotEq) (rP X.K not):=by
 intro pins s σ H x y v u Q I rx ry h
 obtain ⟨a,b,h1,h2,d,q⟩:=h
 exact E5 I a b h1 h2 rx ry (by omega) X.prog X.w X.xe _ ⟨.bl _,H,I,rfl,q⟩
end
end Ov
namespace Ov
open PySem PySem.Spec PySem.Calls PyProof.Rows PySem.W Builtin.Getset_descriptor
def ExcAt (x D:Addr) (h:Heap):Prop:=∃ ox,h.get? x=some ox∧ox.cls=.ref D
theorem ExcAt.ty {M:Model} {h:Heap} {x D:Addr} (I:ExcAt x D h):Looks M h (typeOf (.ref x)) (.ref D):=by
 obtain ⟨ox,a,b⟩:=I
 rw [← b]
 exact (Looks.ld a).andThen .now
section
variable {prog:Program} {w:World} {A:Around} {E:Value→Shared→Prop} {s:Shared} {K:Frag} {x D:Addr}
structure BR (K:Frag) (D:Addr):Prop where
 cls:(clsIn K D).isSome=true
 ga:findIn K (.ref D) "__getattribute__"=some (some (.builtin "BaseException.__getattribute__"))
 gt:findIn K (.ref D) "__getattr__"=some none
 ca:findIn K (.ref D) "__class__"=some (some (.builtin "object.__class__"))
 get:specialIn K (.builtin "object.__class__") "__get__"=some (some (.builtin "getset_descriptor.__get__"))
 tk:takesIn K (.builtin "object.__class__")=some true
 obj:mroIn K D (.type "object")=some true
 bex:subIn K (.ref D) (.type "BaseException")=some true
theorem BR.at {h:Heap} (Z:BR K D) (X:K.In h):∃ c d cd sl,h.get? D=some ⟨c,d,.cls cd,sl⟩:=by
 obtain ⟨cd,q⟩:=Option.isSome_iff_exists.mp Z.cls
 unfold clsIn at q
 split at q
 ·exact ⟨_,_,_,_,X _ _ (by assumption)⟩
 ·cases q
end
end Ov
namespace Ov
open PySem PySem.Spec PyProof.Rows L2
structure B_ (P:Program) (w:World) (outer:List Env) (H:Hp) (s:Shared) (ea:Addr) (cls:Value) (H':Hp) (s':Shared):Prop where
 os:s'.os=s.os
 bare:AllBare s'.gens
 un:Un (gB outer) [] H H' s.heap s'.heap
 hok:iU P w H' s'.heap
 fl:∃ B t,Heap.FlyingW B outer ea cls (.ref t) s'.heap∧∀ b o,s'.heap.get? b=some o→(H' b≠none∨∃ o₀,s.heap.get? b=some o₀)→b ∉ gB outer→B.get? b=some o
def cU (P:Program) (w:World):mz:=fun outer H s E e s'=>∃ ea cls H',e=.ref ea∧B_ P w outer H s ea cls H' s'∧E cls none H'
theorem BM {P:Program} {w:World} {H:Hp} {h:Heap} {a:Addr} {o:HO} (x:cn P w H h a o):∃ ob,h.get? a=Option.some ob:=by
 have lt:=x.lt
 cases o with
 | lst xs=>obtain ⟨_,_,_,_,e⟩:=x;exact ⟨_,e⟩
 | tup xs=>obtain ⟨_,_,_,ob,e,_⟩:=x;exact ⟨_,e⟩
 | dK kvs=>obtain ⟨_,_,_,_,o,_,_,e,_⟩:=x;exact ⟨_,e⟩
 | dE kvs ep=>obtain ⟨_,_,_,_,o,_,e,_⟩:=x;exact ⟨_,e⟩
 | set S n=>obtain ⟨o,_,_,_,e,_⟩:=x;exact ⟨_,e⟩
 | ins C dx fs=>obtain ⟨_,_,_,e,_⟩:=x;exact ⟨_,e⟩
 | own y=>exact x
 | xd fs=>obtain ⟨_,⟨_,_,_,e,_⟩,_⟩:=x;exact ⟨_,e⟩
 | DK lo hi=>obtain ⟨_,_,_,e⟩:=x;exact ⟨_,e⟩
 | m3 ob u=>obtain ⟨e,_⟩:=x;exact ⟨_,e⟩
 | tbl ps=>exact ⟨_,x⟩
 | met f y=>exact ⟨_,x⟩
 | ext φ=>obtain ⟨_,e,_⟩:=x;exact e
section
variable {X:Cx} {pins:List (Addr × Obj)} {σ:L2.St} {H H':Hp} {s:Shared} {ea t:Addr} {cls:Value} {B h1 h2:Heap}
theorem iV (I:Inv X pins σ H s) (un:Un (gB X.stack) [] H H' s.heap h1) {b:Addr} (hb:b∈gB X.stack):H' b=none∧∃ o,h1.get? b=some o∧∀ vs,o.data≠.fields vs:=by
 obtain ⟨_,o,ho,hn⟩:=I.stack.mem hb
 have n:=I.om b hb
 obtain ⟨sl,e⟩:=un.any ho n (by simp)
 exact ⟨un.free b o ho n (by simp),_,e,hn⟩
theorem uY (I:Inv X pins σ H s) (un:Un (gB X.stack) [] H H' s.heap h1) (cov:∀ b o,h1.get? b=some o→(H' b≠none∨∃ o₀,s.heap.get? b=some o₀)→b ∉ gB X.stack→B.get? b=some o)
  (hB:B.StaysIn h2) (up:h1.UpToSlots h2):Un (gB X.stack) [] H H' s.heap h2 where
 keep:=fun b o e n hb hx=>hB b o (cov b o (un.keep b o e n hb hx) (.inr ⟨o,e⟩) hb)
 slot:=fun b o e n hb hx=>by
  obtain ⟨sl,e1⟩:=un.slot b o e n hb hx
  obtain ⟨_,o',e2,hn⟩:=iV I un hb
  rw [e1] at e2;cases e2
  obtain ⟨sl',e3⟩:=up b _ e1 hn
  exact ⟨sl',e3⟩
 free:=un.free
 there:=fun b o e hx=>by
  obtain ⟨o',e1⟩:=un.there b o e hx
  by_cases hb:b∈gB X.stack
  ·obtain ⟨_,o2,e2,hn⟩:=iV I un hb
   obtain ⟨sl',e3⟩:=up b _ e2 hn
   exact ⟨_,e3⟩
  ·exact ⟨o',hB b o' (cov b o' e1 (.inr ⟨o,e⟩) hb)⟩
 tups:=un.tups
 frzs:=un.frzs
 tbls:=un.tbls
theorem uh (I:Inv X pins σ H s) (un:Un (gB X.stack) [] H H' s.heap h1) (cov:∀ b o,h1.get? b=some o→(H' b≠none∨∃ o₀,s.heap.get? b=some o₀)→b ∉ gB X.stack→B.get? b=some o)
  (hB:B.StaysIn h2) (ok:iU X.prog X.w H' h1):iU X.prog X.w H' h2:=fun a o e=>by
 have nf:∀ b u,H' b=some u→b ∉ gB X.stack:=fun b u q hb=>by
  have:=(iV I un hb).1
  rw [q] at this;cases this
 refine (ok a o e).lW (fun b u hb q=>?_) (fun _ q=>q) fun _ _ q=>q
 rcases hb with rfl | hb
 ·exact hB _ _ (cov _ _ q (.inl (by rw [e];exact fun z=>nomatch z)) (nf _ _ e))
 ·exact hB _ _ (cov _ _ q (.inl (by rw [hb];exact fun z=>nomatch z)) (nf _ _ hb))
theorem zg (un:Un (gB X.stack) [] H H' s.heap h1) (ok:iU X.prog X.w H' h1) (cov:∀ b o,h1.get? b=some o→(H' b≠none∨∃ o₀,s.heap.get? b=some o₀)→b ∉ gB X.stack→B.get? b=some o) (hB:B.StaysIn h2) :
  ∀ b o,h2.get? b=some o→(H' b≠none∨∃ o₀,s.heap.get? b=some o₀)→b ∉ gB X.stack→B.get? b=some o:=fun b o e hb nb=>by
 have:∃ o1,h1.get? b=some o1:=by
  rcases hb with z | ⟨o₀,z⟩
  ·cases q:H' b with
   | none=>exact absurd q z
   | some u=>exact BM (ok b u q)
  ·exact un.there b o₀ z (by simp)
 obtain ⟨o1,e1⟩:=this
 have c:=cov b o1 e1 hb nb
 have:=hB b o1 c
 rw [e] at this;cases this
 exact c
theorem tT {s2:Shared} (I:Inv X pins σ H s) (hst:X.stack=X.env :: X.outer) (hfr:X.env.frame=some X.env.locals) (hex:X.ex=[]) (os:s2.os=s.os) (bare:AllBare s2.gens) (un:Un (gB X.stack) [] H H' s.heap s2.heap)
  (ok:iU X.prog X.w H' s2.heap) (cov:∀ b o,s2.heap.get? b=some o→(H' b≠none∨∃ o₀,s.heap.get? b=some o₀)→b ∉ gB X.stack→B.get? b=some o) (fl:Heap.FlyingW B X.outer ea cls (.ref t) s2.heap) :
  B_ X.prog X.w X.outer X.H₀ X.s₀ ea cls H' s2:=by
 have nst:∀ b o,X.s₀.heap.get? b=some o→b ∉ X.fs→b ∉ gB X.stack:=fun b o e nb hb=>by
  rcases List.mem_cons.mp (I.iC b hb) with z | z
  ·have:=Nat.lt_of_lt_of_le (Heap.lt_size e) I.ok.above
   rw [z] at this
   exact Nat.lt_irrefl _ this
  ·exact nb z
 have sub:∀ b,b∈X.fs→b∈gB X.stack:=fun b hb=>by rw [hst];unfold gB;rw [List.filterMap_cons,hfr];exact List.mem_cons_of_mem _ hb
 have nx:∀ b:Addr,b ∉ X.ex:=fun b=>by rw [hex];simp
 refine ⟨os.trans I.os,bare,⟨fun b o e n hb _=>?_,fun b o e n hb _=>?_,fun b o e n _=>?_,fun b o e _=>?_,fun b xs q=>un.tups b xs (I.base.tups b xs q),fun b o xs q=>un.frzs b o xs (I.base.frzs b o xs q),fun b ps q=>?_⟩,ok,B,t,fl,fun b o e hb nb=>?_⟩
 ·exact un.keep b o (I.base.keep b o e n hb (nx b)) (I.base.free b o e n (nx b)) (nst b o e hb) (by simp)
 ·obtain ⟨sl,e1⟩:=I.base.slot b o e n hb (nx b)
  obtain ⟨sl',e2⟩:=un.slot b _ e1 (I.base.free b o e n (nx b)) (sub b hb) (by simp)
  exact ⟨sl',e2⟩
 ·obtain ⟨o',e1⟩:=I.base.there b o e (nx b)
  exact un.free b o' e1 (I.base.free b o e n (nx b)) (by simp)
 ·obtain ⟨o',e1⟩:=I.base.there b o e (nx b)
  exact un.there b o' e1 (by simp)
 ·obtain ⟨m1,e1⟩:=I.base.tbls b ps q
  obtain ⟨m2,e2⟩:=un.tbls b _ e1
  exact ⟨m1 ++ m2,by rw [e2,Array.append_assoc]⟩
 ·rcases hb with z | ⟨o₀,z⟩
  ·exact cov b o e (.inl z) fun hb=>z (iV I un hb).1
  ·obtain ⟨o1,e1⟩:=I.base.there b o₀ z (nx b)
   exact cov b o e (.inr ⟨o1,e1⟩) (nst b o₀ z nb)
theorem vM {E:XK} {e:Value} {s':Shared} {R:Value→Shared→Prop} (I:Inv X pins σ H s) (hst:X.stack=X.env :: X.outer) (hfr:X.env.frame=some X.env.locals) (hex:X.ex=[]) (h:cU X.prog X.w X.stack H s E e s') :
  wpAny (model X.prog X.w) X.A (leaving X.env e) (fun _ s''=>cU X.prog X.w X.outer X.H₀ X.s₀ E e s'') R s':=by
 obtain ⟨ea,cls,H',rfl,F,q⟩:=h
 obtain ⟨B,t,fl,cov⟩:=F.fl
 refine wpAny_leaves_onW (by rw [I.ok.frames,hst]) hfr (hst ▸ fl) fun h2 fl2 up=>?_
 exact ⟨ea,cls,H',rfl,tT (s2:={ s' with heap:=h2 }) I hst hfr hex F.os F.bare (uY I F.un cov fl2.1 up) (uh I F.un cov fl2.1 F.hok) (zg F.un F.hok cov fl2.1) fl2,q⟩
theorem leave_new {E:XK} {e C:Addr} {args:List Value} {h':Heap} {R:Value→Shared→Prop} (I:Inv X pins σ H s) (hst:X.stack=X.env :: X.outer) (hfr:X.env.frame=some X.env.locals) (hex:X.ex=[])
  (hx:Heap.MadeExcOf s.heap h' e (.ref C) args) (q:E (.ref C) none H) :
  wpAny (model X.prog X.w) X.A (leaving X.env (.ref e)) (fun _ s''=>cU X.prog X.w X.outer X.H₀ X.s₀ E (.ref e) s'') R { s with heap:=h' }:=by
 have hin:∀ env∈X.env :: X.outer,∀ a,env.frame=some a→a∈gB X.stack:=fun env he a ha=>by rw [hst];exact List.mem_filterMap.mpr ⟨env,he,ha⟩
 have cov:∀ b o,s.heap.get? b=some o→(H b≠none∨∃ o₀,s.heap.get? b=some o₀)→b ∉ gB X.stack→(PySem.W.hideAll s.heap (gB X.stack)).get? b=some o:=fun b o e _ nb=>PySem.W.hideAll_get _ e nb
 refine wpAny_leaves_madeW (base:=PySem.W.hideAll s.heap (gB X.stack)) (by rw [I.ok.frames,hst]) hfr (fun b o z=>PySem.W.of_hideAll _ z) (PySem.W.funFrames_hide (hst ▸ I.stack) hin) hx fun h2 t fl _ _ up=>?_
 have up2:s.heap.UpToSlots h2:=(Heap.UpToSlots.of_keeps hx.keeps).trans up
 exact ⟨e,.ref C,H,rfl,tT (s2:={ s with heap:=h2 }) I hst hfr hex rfl I.bare (uY I Un.refl cov fl.1 up2) (uh I Un.refl cov fl.1 I.hok) (zg Un.refl I.hok cov fl.1) fl,q⟩
end
abbrev HH:List Value:=[.type "ValueError",.type "Exception",.type "BaseException",.type "object"]
structure Own (K:PySem.W.Frag) (mg:Str→Option Value) (x:Str) (C:Addr):Prop where
 mg:mg x=some (.ref C)
 own:PySem.W.excIn K C HH "ValueError.__new__"=true
 xc:BR K C
theorem BV {K:PySem.W.Frag} {h:Heap} {C:Addr} {bmB:List Value} {newId:String} (X:K.In h) (q:PySem.W.excIn K C bmB newId=true) :
  ∃ bm N nm qn bs hd sn sub ab col dd k0 k1 k2 k3 k5 mN,h.get? C=some (excClassObj nm qn C N bs bm hd sn sub ab col dd k0 k1 k2 k3 k5 newId)∧h.Ns N mN∧mN "__init__"=none∧OwnTail h bmB bm:=by
 unfold PySem.W.excIn at q
 split at q
 ·next dd cd sl ho =>
  split at q
  ·next C' bm k0 k1 k2 k3 n k5 hm hs =>
   simp only [beq_iff_eq,Bool.and_eq_true,Bool.not_eq_true'] at q
   obtain ⟨⟨⟨⟨⟨rfl,rfl⟩,e3⟩,e4⟩,e5⟩,e6⟩:=q
   cases cd with
   | mk nm bs mro ns qn hd sn sub ab col del =>
    have hm:mro=.ref C' :: bm:=hm
    have e3:del=false:=e3
    subst hm;subst e3
    have hsl:sl=#[k0,k1,k2,k3,some (.builtin n),k5]:=Array.toList_inj.mp hs
    subst hsl
    exact ⟨bm,ns,nm,qn,bs,hd,sn,sub,ab,col,dd,k0,k1,k2,k3,k5,_,X _ _ ho,.of_isNs (PySem.W.isNs_of_in X e5),PySem.W.nsMap_none_of_in X e5 e6,PySem.W.tail_of_in X e4⟩
  ·cases q
 ·cases q
def C3 (C:Addr) (E:XK) (t:TA):TS:=fun _ σ H=>t σ H fun vs H1=>vs.length≤sizeLine∧E (.ref C) none H1
def Throws (X:Cx) (E:XK):Prop:=∀ (pins:List (Addr × Obj)) (σ:L2.St) (H:Hp) (s:Shared) (e C:Addr) (args:List Value) (h':Heap),Inv X pins σ H s→Heap.MadeExcOf s.heap h' e (.ref C) args→E (.ref C) none H→X.xe (.ref e) { s with heap:=h' }
theorem wJ {X:Cx} {E:XK} {x:Str} {C:Addr} {e:Expr} {es:List Expr} {np cpos pos:Pos} {t:TA} (O:Own X.K X.mg x C) (hc:X.calm=true) (hx:Throws X E) (hg:Gl X x) (ha:PA X (e :: es) t)
  (hd:(x == ("__debug__":Str))=false:=by decide) (he:starEach (e :: es) X.env=(false,eval e X.env) :: starEach es X.env:=by rfl) (hpl:(backTo cpos (starEach es X.env)).any (·.1)=false:=by rfl) :
  PS X (.Raise (some (.Call (.Name x np) (e :: es) [] cpos)) none pos) (C3 C E t):=by
 intro pins s σ H D I h
 obtain ⟨bm,N,nm,qn,bs,hd',sn,sub,ab,col,dd,k0,k1,k2,k3,k5,mN,hC,hN,hni,T⟩:=BV I.mod.kin O.own
 have hplain:(backTo cpos (starEach (e :: es) X.env)).any (·.1)=false:=by
  rw [he]
  show (false || (backTo cpos (starEach es X.env)).any (·.1))=false
  rw [hpl];rfl
 refine wpAny_Raise_call_subT (C:=C) (N:=N) (nm:=nm) (q:=qn) (bs:=bs) (hdct:=hd') (sn:=sn) (sub:=sub) (ab:=ab) (col:=col) (dd:=dd) (k0:=k0) (k1:=k1) (k2:=k2) (k3:=k3) (k5:=k5) PySem.F.excBase_ValueError (T.hasType (by decide +kernel)) (I.ok.hd hc) hplain hni ?_
 refine iZ I hg O.mg ⟨rfl,?_⟩ hd
 have key:=bB (ha cpos pins s σ H _ I h) (Q':=fun us s1=>us.length≤sizeLine∧s1.heap.get? C=some (excClassObj nm qn C N bs bm hd' sn sub ab col dd k0 k1 k2 k3 k5 "ValueError.__new__")∧s1.heap.Ns N mN∧OwnTail s1.heap HH bm ∧
  ∀ h' e,Heap.MadeExcOf s1.heap h' e (.ref C) us→X.xe (.ref e) { s1 with heap:=h' }) fun us s1 ⟨vs,H1,I1,r,z,q⟩ =>
   ⟨by rw [← r.length];exact z,I1.bk _ _ hC,hN.keeps I1.bk,T.keeps I1.bk,fun h' ea hm=>hx pins σ H1 s1 ea C us h' I1 hm q⟩
 rw [he] at key ⊢
 exact PySem.Calls.evalArgs_plain (bB key fun _ _ z=>⟨rfl,z⟩)
section
variable {P:Program} {w:World} {K:PySem.W.Frag} {mg:Str→Option Value} {base:Heap} {N:List Str} {qual:Str} {scope:Scope} {f:Addr} {cd:Value} {A:Around} {outer:List Env} {s:Shared} {H:Hp} {E:XK}
abbrev xg (P:Program) (w:World) (K:PySem.W.Frag) (mg:Str→Option Value) (base:Heap) (N:List Str) (qual:Str) (scope:Scope) (f:Addr) (cd:Value) (A:Around) (outer:List Env) (s:Shared) (H:Hp) (E:XK):Cx:=pj (cU P w) P w K mg base N qual scope f cd A outer s H E
theorem b9:Throws (xg P w K mg base N qual scope f cd A outer s H E) E:=fun pins σ H1 s1 e C args h' I hm q =>
 leave_new (X:=xg P w K mg base N qual scope f cd A outer s H E) I rfl rfl rfl hm q
theorem tO:Passes (cU P w) (xg P w K mg base N qual scope f cd A outer s H E) E:=fun pins σ H1 s1 e s' I h =>
 vM (X:=xg P w K mg base N qual scope f cd A outer s H E) I rfl rfl rfl h
theorem bY:PassesOwn (model P w) (xg P w K mg base N qual scope f cd A outer s H E).A (xg P w K mg base N qual scope f cd A outer s H E).env (xg P w K mg base N qual scope f cd A outer s H E).xe:=PassesOwn.leaving
theorem JO {x qual:Str} {st:Stmt} {f:Addr} {fd:FuncData} {N ps:List Str} {k:Nat} {sp:Sp} (F:bX K x qual st f fd) (S:aw N ps (aj st)) (len:∀ vs H Q E,sp vs H Q E→vs.length=ps.length)
  (hbody:∀ (cdv:Value) (A:Around) (outer:List Env) (s:Shared) (H:Hp) (vs:List V) (Q:VK) (E:XK),bj k (A.deeper (envOfC qual (aj st) s.heap.objs.size f cdv))→sp vs H Q E →
   ∃ t,QB (xg P w K mg base N qual (aj st) f cdv A outer s H E) (bE st) t∧t { nx:=fun _ H'=>Q .non H',rt:=Q } (start N vs) H):aI P w K mg base (cU P w) (k + 1) f fd ps sp:=by
 obtain ⟨oc,od,kV,doc,pm,an,cdv,ct,osl,rfl,lk,hcd⟩:=F.ex
 refine xA lk hcd S len fun A outer s H vs Q E hr hsp=>?_
 obtain ⟨t,h,q⟩:=hbody cdv A outer s H vs Q E hr hsp
 exact ⟨t,h.run,q⟩
end
def Ej (P:Program) (w:World) (K:PySem.W.Frag) (mg:Str→Option Value) (base:Heap) (k:Nat) (x:Str) (ps:List Str) (sp:Sp):Prop :=
 ∃ f fd,aI P w K mg base (cU P w) k f fd ps sp∧Binds K fd ps []∧PySem.W.keepIn K (.ref f)=true∧mg x=some (.ref f)
theorem AH {X:Cx} {k k':Nat} {x:Str} {ps:List Str} {sp:Sp} {p pos:Pos} {e:Expr} {es:List Expr} {t:TA} {E:XK} (C:Ej X.prog X.w X.K X.mg X.base k x ps sp) (hx:Passes (cU X.prog X.w) X E) (hr:bj k' X.A) (hk:k≤k') (hg:Gl X x) (ha:PA X (e :: es) t)
  (hdb:(x == ("__debug__":Str))=false:=by decide) (he:starEach (e :: es) X.env=(false,eval e X.env) :: starEach es X.env:=by rfl) (hpl:(backTo pos (starEach es X.env)).any (·.1)=false:=by rfl) :
  PE X (.Call (.Name x p) (e :: es) [] pos) (mw sp [] E t):=by
 obtain ⟨f,fd,F,b,kp,m⟩:=C
 exact vm F (hr.mono hk) hg m kp b .nil hx ha hdb he hpl
theorem Def.IG {P:Program} {w:World} {K:PySem.W.Frag} {mg:Str→Option Value} {base:Heap} {x:Str} {st:Stmt} {k:Nat} {ps:List Str} {sp:Sp} (D:Def K mg x st)
  (h:∀ f fd,bX K x x st f fd→aI P w K mg base (cU P w) k f fd ps sp)
  (hb:∀ (kV doc pm:Value) (an:Option Addr) (cdv ct:Value) (us:List Value),us.length=ps.length→bindArgs (PySem.W.fnOf x x (cv st) (bE st) (aj st) .none kV doc pm an cdv ct) ⟨us,[]⟩=pure (ps.zip us)) :
  Ej P w K mg base k x ps sp:=by
 obtain ⟨f,fd,F,m⟩:=D
 exact ⟨f,fd,h f fd F,F.binds hb,F.kp,m⟩
section
variable {X:Cx} {pins pn:List (Addr × Obj)} {σ:L2.St} {H H':Hp} {s:Shared}
end
end Ov
namespace Ov
open PySem PySem.Spec PyProof.Rows
open L2 (V HO Hp Inv Cx St VK TE TT TA TS Ends Loc Gl RelV Vals eX cf mw upd E0 bj XK Passes)
section
variable {X:Cx} {e:Expr} {es:List Expr} {t:TA} {x:Str} {np cpos pos p:Pos}
end
open PySem.W in
def zJ (K:Frag) (D:Addr):Bool:=(clsIn K D).isSome && findIn K (.ref D) "__getattribute__" == some (some (.builtin "BaseException.__getattribute__")) && findIn K (.ref D) "__getattr__" == some none &&
 findIn K (.ref D) "__class__" == some (some (.builtin "object.__class__")) && specialIn K (.builtin "object.__class__") "__get__" == some (some (.builtin "getset_descriptor.__get__")) && takesIn K (.builtin "object.__class__") == some true &&
 mroIn K D (.type "object") == some true && subIn K (.ref D) (.type "BaseException") == some true
theorem Bz {K:PySem.W.Frag} {D:Addr} (h:zJ K D=true):BR K D:=by
 simp only [zJ,Bool.and_eq_true,beq_iff_eq] at h
 obtain ⟨⟨⟨⟨⟨⟨⟨a,b⟩,c⟩,d⟩,e⟩,f⟩,g⟩,i⟩:=h
 exact ⟨a,b,c,d,e,f,g,i⟩
open L2 (tJ yf rV sj wR tC Cn mi)
theorem _root_.L2.bj.aT {k:Nat} {A:Around} (r:bj k A):A.units + 61 < cLine:=by have:=r.un;omega
end Ov
namespace Ov
open PySem PySem.Spec PyProof.Rows L2
def dm (P:Addr) (h:Heap):Prop:=∃ ps:Array Value,h.get? P=some { cls:=.none,data:=.fields ps }∧TriplesOk ps.toList
def nR (K:PySem.W.Frag) (c P:Addr):Prop:=c≠P∧∃ (o:Obj) (vs:Array Value) (file:Str) (tf:Tok) (flags:Int) (tg:Tok) (inF:Bool) (text:Int) (tt:Tok),
 K.lookup c=some o∧o.cls=.type "code"∧o.data=.fields vs∧vs[11]?=some (.ref P)∧vs.getD 18 .none=.str file tf∧vs.getD 7 .none=.int flags tg∧vs.getD 9 .none=.bool inF∧vs.getD 10 .none=.int text tt
def BMain (mg:Str→Option Value) (h:Heap):Prop:=∃ bm ob,mg "__builtins__"=some (.ref bm)∧bm≠builtinsNs∧h.get? bm=some ob∧ob.cls=.type "module"∧ob.dict=some builtinsNs∧ob.data=.plain
theorem nR.at {K:PySem.W.Frag} {h:Heap} {c P:Addr} {ps:Array Value} (Z:nR K c P) (X:K.In h) (hp:h.get? P=some { cls:=.none,data:=.fields ps }) (tr:TriplesOk ps.toList):h.IsCode c P ps∧h.TableAt c P ps:=by
 obtain ⟨ne,o,vs,file,tf,flags,tg,inF,text,tt,lk,hc,hd,h11,h18,h7,h9,h10⟩:=Z
 have e11:vs.getD 11 .none=.ref P:=by
  rw [Array.getD_eq_getD_getElem?,h11];rfl
 exact ⟨⟨o,vs,file,tf,flags,tg,inF,text,tt,_,X _ _ lk,hd,e11,h18,h7,h9,h10,hp,rfl,tr,ne⟩,⟨o,vs,X _ _ lk,hc,hd,h11⟩,hp⟩
section
variable {X:Cx} {pins:List (Addr × Obj)} {σ:L2.St} {H:Hp} {s:Shared} {c P:Addr}
theorem Ak {s':Shared} (I:Inv X pins σ H s) (hP:H P=some (.ext (dm P))) (os:s'.os=s.os) (bare:AllBare s'.gens) (k:∀ b o,b≠P→s.heap.get? b=some o→s'.heap.get? b=some o) (t:dm P s'.heap):Inv X pins σ H s':=by
 have nP:∀ b,H b=none→b≠P:=fun b n z=>by rw [z,hP] at n;cases n
 have hok:iU X.prog X.w H s'.heap:=fun b u e=>by
  by_cases hb:b=P
  ·subst hb
   rw [hP] at e;cases e
   obtain ⟨ps,hp,_⟩:=id t
   exact ⟨t,⟨_,hp⟩,((I.hok b _ hP)).2.2⟩
  ·refine (I.hok b u e).lW (fun d v hd q=>k d v ?_ q) (fun _ q=>q) fun _ _ q=>q
   rcases hd with rfl | hd
   ·exact hb
   ·intro z
    rw [z,hP] at hd;cases hd
 have un:Un (gB X.stack) [] H H s.heap s'.heap:=⟨fun b o e n _ _=>k b o (nP b n) e,fun b o e n _ _=>⟨o.slots,k b o (nP b n) e⟩,fun _ _ _ n _=>n,fun b o e _=>by
  by_cases hb:b=P
  ·subst hb
   obtain ⟨ps,hp,_⟩:=t
   exact ⟨_,hp⟩
  ·exact ⟨o,k b o hb e⟩,fun _ _ q=>q,fun _ _ _ q=>q,fun _ ps q=>⟨#[],by rw [q];simp⟩⟩
 exact I.GJ os un hok bare fun b z=>absurd z (by simp)
theorem yq {M:Model} {A:Around} {E:Value→Shared→Prop} {env:Env} {pos:Pos} {q:Str} {sc:Scope} {Q:Value→Shared→Prop} {s:Shared} (hc:env.code=.ref c) (Z:nR X.K c P) (kin:X.K.In s.heap) (t:dm P s.heap)
  (h:∀ code h' tk,(∀ b o,b≠P→s.heap.get? b=some o→h'.get? b=some o)→s.heap.objs.size≤h'.objs.size→dm P h'→Q code { s with heap:=h',toks:=tk }):wpAny M A (genexprCode env pos q sc) Q E s:=by
 obtain ⟨ps,hp,tr⟩:=t
 obtain ⟨ic,ta⟩:=Z.at kin hp tr
 cases hf:codeAmong pos ps.toList with
 | some c'=>exact wpAny_genexprCode_hit hc ic hf (h c' s.heap s.toks (fun _ _ _ e=>e) (Nat.le_refl _) ⟨ps,hp,tr⟩)
 | none =>
  refine wpAny_genexprCodeX hc ic ta hf fun c' h' tk ext l1 l2 ic' _ ta' _=>h _ h' tk (fun b o nb e=>ext b o nb e) (Nat.le_of_lt (Nat.lt_of_le_of_lt l1 l2)) ⟨_,ta'.2,?_⟩
  obtain ⟨_,_,_,_,_,_,_,_,_,_,_,_,_,_,_,_,_,hop,hpd,tr',_⟩:=ic'
  exact tr'
theorem zA {α:Type} (B:List α) (q:α→Bool):((List.range B.length).all fun j=>(B[j]?).elim true q)=B.all q:=by
 rw [Bool.eq_iff_iff,List.all_eq_true,List.all_eq_true]
 refine ⟨fun h b hb=>?_,fun h j hj=>?_⟩
 ·obtain ⟨j,hj,rfl⟩:=List.getElem_of_mem hb
  have:=h j (List.mem_range.mpr hj)
  rwa [List.getElem?_eq_getElem hj] at this
 ·have hj:=List.mem_range.mp hj
  rw [List.getElem?_eq_getElem hj]
  exact h _ (List.getElem_mem hj)
def c6 (tx:Str) (ch:Nat):Bool:=!(Builtin.Str.occurrences tx ⟨#[ch]⟩ 0 tx.length 1).isEmpty
def zK (P:Addr) (tx:Str) (ti:TE):TE:=fun σ H Q=>ti σ H fun v H1=>∃ y:Str,v=.str y∧H1 P=some (.ext (dm P))∧Q (.bl (y.cps.toList.all (c6 tx))) H1
theorem zj {prog:Program} {w:World} {env:Env} {scope:Scope} {x g:Str} {tx y:Str} {tt:Tok} {C:Addr} {code:Value} {fp wr:List Addr} {href:Heap} {D U:Nat} {p1 p2 p3:Pos} {mg:Str→Option Value} (sck:scope.kind=.function) (hx:scope.names.lookup x=some .local) (hg:scope.names.lookup g=some .globalImplicit)
  (ns:href.Ns env.globals mg) (hm:mg g=some (.str tx tt)) (h1:env.globals∈fp) (h2:env.globals ∉ wr) (hmk:behindInMarks .In (.Name g p2)=false) (hdx:(x == ("__debug__":Str))=false) (hdg:(g == ("__debug__":Str))=false) :
  QuietGenD prog w (genEnv scope [] C code builtinsNs env) x [] (.Compare (.Name x p1) [.In] [.Name g p2] p3) fp wr (SignAt y) (fun _=>true) (fun i v=>∃ ch,y.cps[i]?=some ch∧v=.bool (c6 tx ch)) href D U where
 tests:=fun A' E' i v s₂ m₂ _ _ _ _ _ _ _=>wpAny_pure ⟨rfl,_,_,rfl,fun _ _ e=>e⟩
 elt:=fun A' E' i v s₂ m₂ _ _ _ hP _ hn hmx hk=>by
  obtain ⟨ch,u,hch,rfl⟩:=hP
  refine wpAny_Compare1 (wpAny_Name (wpAny_loadName_local (show (genEnv scope [] C code builtinsNs env).scope.kind=.function from sck) (show (genEnv scope [] C code builtinsNs env).kindOf x=some .local from hx) hn hmx ?_) hdx) hmk
  refine Calls.Name_function_global (show (genEnv scope [] C code builtinsNs env).scope.kind=.function from sck) (show (genEnv scope [] C code builtinsNs env).kindOf g=some .globalImplicit from hg) (Calls.loadGlobal_global (ns.at' fun o e=>hk _ h1 h2 o e) hm ?_) hdg
  exact in_str ⟨⟨ch,hch,rfl⟩,_,_,rfl,fun _ _ e=>e⟩
theorem wd {x g:Str} {p px p1 p2 p3 gpos cpos:Pos} {iter:Expr} {ti:TE} {scope:Scope} {tx:Str} {tt:Tok} (hcalm:X.calm=true) (Bm:BMain X.mg X.base) (hcode:X.env.code=.ref c) (Z:nR X.K c P) (hdep:X.A.depth < recursionLimit)
  (hgl:Gl X "all") (hma:X.mg "all"=none) (hsg:X.mg g=some (.str tx tt)) (hi:PE X iter ti) (sck:scope.kind=.function) (hco:scope.isCoroutine=false) (hclos:closureFor scope X.env=pure []) (hcell:∀ y∈scope.names,y.2≠.cell)
  (h0:scope.names.lookup (".0":Str)=some NameKind.local) (hx:scope.names.lookup x=some .local) (hsc:scope.names.lookup g=some .globalImplicit) (hmk:behindInMarks .In (.Name g p2)=false) (hs:∀ x,genFold iter X.env x=pure x)
  (hst:starEach [.GeneratorExp (.Compare (.Name x p1) [.In] [.Name g p2] p3) [⟨.Name x px,iter,[],0⟩] scope gpos] X.env=[(false,eval (.GeneratorExp (.Compare (.Name x p1) [.In] [.Name g p2] p3) [⟨.Name x px,iter,[],0⟩] scope gpos) X.env)])
  (hdx:(x == ("__debug__":Str))=false) (hdg:(g == ("__debug__":Str))=false) :
  PE X (.Call (.Name "all" p) [.GeneratorExp (.Compare (.Name x p1) [.In] [.Name g p2] p3) [⟨.Name x px,iter,[],0⟩] scope gpos] [] cpos) (zK P tx ti):=by
 intro pins s σ H Q I h
 refine wpAny_Call_Name_kw (gL I hgl hma PyProof.Rows.Boot.«all» ?_)
 refine PyProof.Rows.callWith_builtin1 ?_ hst rfl
 rw [hst]
 show wpAny _ _ (spliced ((false,eval (.GeneratorExp (.Compare (.Name x p1) [.In] [.Name g p2] p3) [⟨.Name x px,iter,[],0⟩] scope gpos) X.env) :: [])) _ _ s
 refine Calls.spliced_cons ?_
 refine wpAny_GeneratorExp_walksQD (I.ok.hd hcalm) hco hclos hcell h0 hx sck hdep ?_ hs
 refine bB (hi pins s σ H _ I h) fun xv s1 ⟨v,H1,I1,r1,y,ev,hP,q⟩=>?_
 subst ev
 obtain ⟨ty,rfl⟩:=r1
 have t1:dm P s1.heap:=(I1.hok P _ hP).1
 have ltP:P < s1.heap.objs.size:=I1.hok.lt hP
 refine wpAny_pyIter_str fun o St W st0=>?_
 have k1:∀ b ob,s1.heap.get? b=some ob→(s1.heap.push o).get? b=some ob:=fun b ob e=>Heap.get?_push_of_some _ e
 refine ⟨I1.nolimit.keeps k1,?_⟩
 have t2:dm P (s1.heap.push o):=let ⟨ps,hp,tr⟩:=t1;⟨ps,k1 _ _ hp,tr⟩
 refine yq (X:=X) (s:={ s1 with heap:=s1.heap.push o }) hcode Z (I1.jl.keeps k1) t2 fun code h' tk k sz t'=>?_
 have kk:∀ b ob,b≠P→s1.heap.get? b=some ob→h'.get? b=some ob:=fun b ob nb e=>k b ob nb (k1 b ob e)
 have nsP:∀ (b:Addr) (m:Str→Option Value),s1.heap.Ns b m→b≠P:=fun b m hn z=>by
  obtain ⟨ob,es,ep,ho,hd,_⟩:=hn
  obtain ⟨ps,hp,_⟩:=t1
  rw [z,hp] at ho;cases ho;cases hd
 have nsK:∀ (b:Addr) (m:Str→Option Value),s1.heap.Ns b m→h'.Ns b m:=fun b m hn=>hn.at' fun ob e=>kk b ob (nsP b m hn) e
 have nsG:s1.heap.Ns X.env.globals X.mg:=by rw [I1.ok.glob];exact I1.mod.glob.keeps I1.bk
 have nl:h'.NoLimit:=let ⟨mc,h1,h2⟩:=I1.nolimit;⟨mc,nsK _ _ h1,h2⟩
 have ltC:cStatics < s1.heap.objs.size:=let ⟨mc,h1,_⟩:=I1.nolimit;h1.lt
 have szI:s1.heap.objs.size < h'.objs.size:=Nat.lt_of_lt_of_le (by rw [Heap.size_push];exact Nat.lt_succ_self _) sz
 obtain ⟨bm,ob,b1,b2,b3,b4,b5,b6⟩:=Bm
 have b3':=I1.bk _ _ b3
 have nbm:bm≠P:=fun z=>by
  obtain ⟨ps,hp,_⟩:=t1
  rw [z,hp] at b3'
  rw [← Option.some.inj b3'] at b6;cases b6
 refine wpAny_builtinsFor (nsK _ _ nsG) b1 b2 (kk _ _ nbm b3') b4 b5 b6 ?_
 refine ⟨s1.heap.objs.size,[s1.heap.objs.size],[s1.heap.objs.size],y.cps.size,SignAt y,St,fun _=>true,fun i v=>∃ ch,y.cps[i]?=some ch∧v=.bool (c6 tx ch),rfl,W,
  (W X.A (I.ok.hd hcalm)).frame _ _ _ st0 fun b hb o' e=>k b o' (by rw [List.mem_singleton.mp hb];exact Nat.ne_of_gt ltP) e,fun b hb=>by rw [List.mem_singleton.mp hb];exact szI,nl,
  fun hb=>Nat.ne_of_lt ltC (List.mem_singleton.mp hb),fun href kh=>zj sck hx hsc ((nsK _ _ nsG).keeps kh) hsg (List.mem_range.mpr (nsK _ _ nsG).lt) (fun hb=>Nat.ne_of_lt nsG.lt (List.mem_singleton.mp hb)) hmk hdx hdg,fun a h5 tk5 gs hgs ltA szA k5 WS G=>?_⟩
 refine Calls.spliced_nil ?_
 have pall:passing (fun _=>true) y.cps.size 0=List.range y.cps.size:=by simp [passing]
 have WS:=WS.in4_1
 refine call_all_walkS (WS.self 0 _ _ _ G ⟨a,_,_,_,_,_,_,(fun j=>(y.cps.toList[j]?).elim true (c6 tx)),rfl,WS,G,fun j v s Q E hv hQ=>?_,fun s' hm=>?_⟩)
 ·obtain ⟨i,hi,ch,hch,rfl⟩:=hv
  rw [pall] at hi
  have hji:i=j:=by
   obtain ⟨hj,e⟩:=List.getElem?_eq_some_iff.mp hi
   simpa using e.symm
  subst hji
  have e:y.cps.toList[i]?=some ch:=by simpa using hch
  simp only [e,Option.elim] at hQ
  exact wpAny_truthy_bool hQ
 ·have nwr:∀ b,b < s1.heap.objs.size→b ∉ h'.objs.size :: [s1.heap.objs.size]:=fun b hb hm=>by
   rcases List.mem_cons.mp hm with z | z
   ·omega
   ·have:=List.mem_singleton.mp z
    omega
  refine ⟨.bl _,H1,Ak I1 hP hm.os ((I1.bare.push hgs).movedS hm) (fun b o' nb e=>hm.heap b o' (nwr b (Heap.lt_size e)) (k5 b o' (kk b o' nb e))) ?_,rfl,?_⟩
  ·obtain ⟨ps,hp,tr⟩:=t'
   exact ⟨ps,hm.heap P _ (nwr P ltP) (k5 P _ hp),tr⟩
  ·rw [pall]
   have e:y.cps.size=y.cps.toList.length:=by simp
   have z:=zA y.cps.toList (c6 tx)
   rw [List.length_range,e,z]
   exact q
end
section
variable {X:Cx} {c P:Addr}
theorem yw {x g:Str} {p px p1 p2 p3 gpos cpos:Pos} {iter:Expr} {ti:TE} {scope:Scope} {tx:Str} {tt:Tok} {k:Nat} (hcalm:X.calm=true) (Bm:BMain X.mg X.base) (hcode:X.env.code=.ref c) (Z:nR X.K c P) (hr:bj k X.A)
  (hgl:Gl X "all") (hma:X.mg "all"=none) (hsg:X.mg g=some (.str tx tt)) (hi:QE X iter ti) (sck:scope.kind=.function:=by rfl) (hco:scope.isCoroutine=false:=by rfl) (hclos:closureFor scope X.env=pure []:=by rfl) (hcell:∀ y∈scope.names,y.2≠.cell:=by decide)
  (h0:scope.names.lookup (".0":Str)=some NameKind.local:=by rfl) (hx:scope.names.lookup x=some .local:=by rfl) (hsc:scope.names.lookup g=some .globalImplicit:=by rfl) (hmk:behindInMarks .In (.Name g p2)=false:=by with_unfolding_all rfl) (hs:∀ x,genFold iter X.env x=pure x:=by intro _;rfl)
  (hst:starEach [.GeneratorExp (.Compare (.Name x p1) [.In] [.Name g p2] p3) [⟨.Name x px,iter,[],0⟩] scope gpos] X.env=[(false,eval (.GeneratorExp (.Compare (.Name x p1) [.In] [.Name g p2] p3) [⟨.Name x px,iter,[],0⟩] scope gpos) X.env)]:=by rfl)
  (hdx:(x == ("__debug__":Str))=false:=by decide) (hdg:(g == ("__debug__":Str))=false:=by decide) :
  QE X (.Call (.Name "all" p) [.GeneratorExp (.Compare (.Name x p1) [.In] [.Name g p2] p3) [⟨.Name x px,iter,[],0⟩] scope gpos] [] cpos) (zK P tx ti) :=
 ⟨wd hcalm Bm hcode Z (by have:=hr.dp;omega) hgl hma hsg hi.run sck hco hclos hcell h0 hx hsc hmk hs hst hdx hdg⟩
end
structure Bv (K:PySem.W.Frag) (mg:Str→Option Value) (x:Str) (st:Stmt) (P:Addr) (f:Addr) (fd:FuncData) (c:Addr):Prop where
 fn:bX K x x st f fd
 mg:mg x=some (.ref f)
 code:fd.code=.ref c
 tab:nR K c P
 out:K.lookup P=none
def r8 (K:PySem.W.Frag) (mg:Str→Option Value) (x:Str) (st:Stmt) (P:Addr):Prop:=∃ f fd c,Bv K mg x st P f fd c
section
variable {P:Program} {w:World} {K:PySem.W.Frag} {mg:Str→Option Value} {base:Heap}
theorem JI {x:Str} {st:Stmt} {T f c:Addr} {fd:FuncData} {N ps:List Str} {k:Nat} {sp:Sp} (F:Bv K mg x st T f fd c) (S:aw N ps (aj st)) (len:∀ vs H Q E,sp vs H Q E→vs.length=ps.length)
  (hbody:∀ (A:Around) (outer:List Env) (s:Shared) (H:Hp) (vs:List V) (Q:VK) (E:XK),bj k (A.deeper (envOfC x (aj st) s.heap.objs.size f (.ref c)))→sp vs H Q E →
   ∃ t,QB (pj ml P w K mg base N x (aj st) f (.ref c) A outer s H E).zT (bE st) t∧t { nx:=fun _ H'=>Q .non H',rt:=Q } (start N vs) H):aI P w K mg base ml (k + 1) f fd ps sp:=by
 obtain ⟨oc,od,kV,doc,pm,an,cdv,ct,osl,rfl,lk,hcd⟩:=F.fn.ex
 obtain rfl:cdv=.ref c:=F.code
 refine xA lk hcd S len fun A outer s H vs Q E hr hsp=>?_
 obtain ⟨t,h,q⟩:=hbody A outer s H vs Q E hr hsp
 exact ⟨t,h.run.zT,q⟩
theorem r8.yM {x:Str} {st:Stmt} {T:Addr} {k:Nat} {ps:List Str} {sp:Sp} (D:r8 K mg x st T)
  (h:∀ f fd c,Bv K mg x st T f fd c→aI P w K mg base ml k f fd ps sp)
  (hb:∀ (kV doc pm:Value) (an:Option Addr) (cdv ct:Value) (us:List Value),us.length=ps.length→bindArgs (PySem.W.fnOf x x (cv st) (bE st) (aj st) .none kV doc pm an cdv ct) ⟨us,[]⟩=pure (ps.zip us)) :
  mB P w K mg base k x ps sp:=by
 obtain ⟨f,fd,c,F⟩:=D
 exact ⟨f,fd,h f fd c F,F.fn.binds hb,F.fn.kp,F.mg⟩
end
def codeB (vs:Array Value):Bool:=(match vs.getD 18 .none with | .str _ _=>true | _=>false) && (match vs.getD 7 .none with | .int _ _=>true | _=>false) && (match vs.getD 9 .none with | .bool _=>true | _=>false) && (match vs.getD 10 .none with | .int _ _=>true | _=>false)
theorem A2 {K:PySem.W.Frag} {h:Heap} {mg:Str→Option Value} {x:Str} {st:Stmt} (X:K.In h) (G:h.Ns mainGlobals mg) {f c T:Addr} {od an od':Option Addr} {sl sl':Array (Option Value)} {vs:Array Value} {oc kV dc pm ct:Value}
  (a:PySem.W.nsIn K mainGlobals x=some (some (.ref f))) (l:K.lookup f=some ⟨oc,od,.func (PySem.W.fnOf x x (cv st) (bE st) (aj st) .none kV dc pm an (.ref c) ct),sl⟩) (cc:PySem.W.codeIn K (.ref c) x=true) (k:PySem.W.keepIn K (.ref f)=true)
  (t:K.lookup c=some ⟨.type "code",od',.fields vs,sl'⟩) (p:vs[11]?=some (.ref T)) (b:codeB vs=true) (ne:c≠T) (out:K.lookup T=none):r8 K mg x st T:=by
 refine ⟨f,_,c,sE l cc k,PySem.W.mg_of X G a,rfl,⟨ne,?_⟩,out⟩
 simp only [codeB,Bool.and_eq_true] at b
 obtain ⟨⟨⟨b1,b2⟩,b3⟩,b4⟩:=b
 cases e1:vs.getD 18 .none with
 | str file tf =>
  cases e2:vs.getD 7 .none with
  | int fl tg =>
   cases e3:vs.getD 9 .none with
   | bool inF =>
    cases e4:vs.getD 10 .none with
    | int text tt=>exact ⟨_,vs,file,tf,fl,tg,inF,text,tt,t,rfl,rfl,p,e1,e2,e3,e4⟩
    | _=>rw [e4] at b4;cases b4
   | _=>rw [e3] at b3;cases b3
  | _=>rw [e2] at b2;cases b2
 | _=>rw [e1] at b1;cases b1
def GQ (K:PySem.W.Frag) (mg:Str→Option Value) (names:List Str) (T:Addr):Prop:=∃ x∈names,∃ st,r8 K mg x st T
theorem vL {P:Program} {w:World} {K:PySem.W.Frag} {mg mb:Str→Option Value} {k:Nat} {fa a:Addr} {fd:FuncData} {x:Str} {sp:Sp} {s₁:Shared} {vs:List Value} {ns:List Int} {tabs:List Addr}
  (KX:K.In s₁.heap) (hns:s₁.heap.Ns mainGlobals mg) (hb:s₁.heap.Ns builtinsNs mb) (hbb:∀ x:Str,x≠"__name__"→mb x=bootBuiltins x) (hlim:s₁.heap.NoLimit) (hg:s₁.gens=#[])
  (ha:s₁.heap.get? a=some { cls:=.type "list",data:=.seq vs.toArray }) (hi:IntsAre vs ns) (hl:ns.length≤sizeLine) (hr:bj k callerA) (hbm:BMain mg s₁.heap)
  (htab:∀ T∈tabs,isCodeTable s₁.heap T∧s₁.heap.get? T=some { cls:=.none,data:=.fields #[] }∧K.lookup T=none)
  (F:∀ base:Heap,K.In base→base.Ns mainGlobals mg→BMain mg base→aI P w K mg base ml k fa fd [x] sp) (hbind:∀ (s:Shared) (u:Value),BindsTo s fd ⟨[u],[]⟩ [(x,u)])
  (hsp:∀ H:Hp,(∀ T∈tabs,H T=some (.ext (dm T)))→cg K H a (ns.map V.int)→(∀ b,H b≠none→b=a∨b∈tabs)→(∀ u,H a=some u→∃ o xs,u=.m3 o (.lst xs))→sp [.ref a] H (fun v H'=>v=.bl true∧aZ H H') fun _ _ _=>False) :
  codeAny (model P w) callerA (.call (.ref fa) ⟨[.ref a],[]⟩) (fun r s'=>r=.ok (.ret (.bool true))∧OldK s₁.heap s'.heap∧s'.os=s₁.os∧AllBare s'.gens) s₁:=by
 have rv:=m9 hi
 have lenV:=hi.length
 have naT:∀ T∈tabs,T≠a:=fun T hT z=>by
  have:=(htab T hT).2.1
  rw [z,ha] at this
  have h1:=congrArg Obj.cls (Option.some.inj this)
  cases h1
 have core:∀ H:Hp,(∀ T∈tabs,H T=some (.ext (dm T)))→cg K H a (ns.map V.int)→iU P w H s₁.heap→(∀ b,H b≠none→b=a∨b∈tabs)→(∀ u,H a=some u→K.lookup a=none∧∃ o xs,u=.m3 o (.lst xs)) →
   codeAny (model P w) callerA (.call (.ref fa) ⟨[.ref a],[]⟩) (fun r s'=>r=.ok (.ret (.bool true))∧OldK s₁.heap s'.heap∧s'.os=s₁.os∧AllBare s'.gens) s₁:=by
  intro H hT hS hok hA hK
  have base_of:∀ {b:Addr} {o:Obj},s₁.heap.get? b=some o→H b=none→(mG s₁.heap H).get? b=some o:=fun e n=>y_ e n
  have no:∀ {b:Addr} {o:Obj},s₁.heap.get? b=some o→(∀ xs n,o.data≠.seq xs n)→(∀ xs,o.data≠.fields xs)→H b=none:=fun {b o} e d1 d2=>by
   cases q:H b with
   | none=>rfl
   | some u =>
    rcases hA b (by rw [q];simp) with rfl | hb
    ·rw [ha] at e;cases e;exact absurd rfl (d1 _ _)
    ·rw [(htab b hb).2.1] at e;cases e;exact absurd rfl (d2 _)
  have nsK:∀ {b:Addr} {m:Str→Option Value},s₁.heap.Ns b m→(mG s₁.heap H).Ns b m:=fun {b m} ⟨o,es,ep,e,d,r⟩=>⟨o,es,ep,base_of e (no e (fun _ _ z=>by rw [d] at z;cases z) fun _ z=>by rw [d] at z;cases z),d,r⟩
  have hKb:K.In (mG s₁.heap H):=fun b o e=>base_of (KX b o e) (by
   cases q:H b with
   | none=>rfl
   | some u =>
    rcases hA b (by rw [q];simp) with rfl | hb
    ·have:=(hK u q).1
     exact absurd (this.symm.trans e) (fun z=>nomatch z)
    ·have:=(htab b hb).2.2
     exact absurd (this.symm.trans e) (fun z=>nomatch z))
  have hM:Mod K mg (mG s₁.heap H):=⟨hKb,nsK hns,⟨mb,nsK hb,hbb⟩,let ⟨mc,h1,h2⟩:=hlim;⟨mc,nsK h1,h2⟩⟩
  have hbm':BMain mg (mG s₁.heap H):=by
   obtain ⟨bm,ob,b1,b2,b3,b4,b5,b6⟩:=hbm
   exact ⟨bm,ob,b1,b2,base_of b3 (no b3 (fun _ _ z=>by rw [b6] at z;cases z) fun _ z=>by rw [b6] at z;cases z),b4,b5,b6⟩
  have e0:mZ P w K mg (mG s₁.heap H) callerA [] s₁ H:=⟨rfl,hM,fun b o e=>By e,Nat.le_of_eq (w9 _ _),trivial,fun b hb=>absurd (show b∈([]:List Addr) from hb) (by simp),hok,.of_eq hg⟩
  refine codeAny_mono ((F _ hKb (nsK hns) hbm').run callerA [] s₁ H ⟨[.ref a],[]⟩ [.ref a] [.ref a] _ _ hr e0 (hbind s₁ (.ref a)) (.cons rfl .nil) (hsp H hT hS hA fun u z=>(hK u z).2)) fun r s' h=>?_
  cases r with
  | error e=>exact False.elim h
  | ok fl =>
   cases fl with
   | next=>exact False.elim h
   | brk=>exact False.elim h
   | cont=>exact False.elim h
   | ret u =>
    obtain ⟨v,H',os,bare,un,hok',r',rfl,same⟩:=h
    obtain rfl:u=Value.bool true:=r'
    refine ⟨rfl,⟨fun b o e=>?_,fun b o e=>?_⟩,os,bare⟩
    ·cases q:H b with
     | none=>exact .inl (un.keep b o e q (by intro z;exact absurd (show b∈([]:List Addr) from z) (by simp)) (by simp))
     | some u =>
      have q':=same b u q
      rcases hA b (by rw [q];simp) with rfl | hb'
      ·obtain ⟨_,ob,xs,rfl⟩:=hK u q
       obtain ⟨e1,_⟩:=hok _ _ q
       obtain ⟨e2,_⟩:=hok' _ _ q'
       rw [e] at e1;cases e1
       exact .inl e2
      ·have hz:=hT b hb'
       rw [q] at hz;cases hz
       obtain ⟨⟨ps,hp,_⟩,_⟩:=hok' _ _ q'
       obtain ⟨t1,t2,_⟩:=htab b hb'
       rw [t2] at e;cases e
       exact .inr (.inl ⟨t1,rfl,#[],ps,rfl,by rw [hp];simp⟩)
    ·exact un.there b o e (by simp)
 have hTt:∀ T∈tabs,∀ H:Hp,cn P w H s₁.heap T (.ext (dm T)):=fun T hT H=>by
  have:=(htab T hT).2.1
  exact ⟨⟨#[],this,trivial⟩,⟨_,this⟩,fun h1 h2 ⟨ps,hp,tr⟩ kk=>⟨ps,kk _ hp,tr⟩⟩
 cases hk:K.lookup a with
 | some o =>
  have e:=KX a o hk
  rw [ha] at e
  cases e
  refine core (fun b=>if b∈tabs then some (.ext (dm b)) else none) (fun T hT=>if_pos hT) (.inr ⟨_,vs.toArray,_,hk,rfl,rfl,rfl,by rw [List.size_toArray,lenV];exact hl,by simpa using rv⟩) (fun b u z=>?_) (fun b z=>?_) fun u z=>?_
  ·by_cases hb:b∈tabs
   ·have z':=(if_pos hb).symm.trans z
    cases z'
    exact hTt b hb _
   ·have z':=(if_neg hb).symm.trans z
    cases z'
  ·by_cases hb:b∈tabs
   ·exact .inr hb
   ·exact absurd (if_neg hb) z
  ·have hb:a ∉ tabs:=fun hb=>naT a hb rfl
   have z':=(if_neg hb).symm.trans z
   cases z'
 | none =>
  refine core (fun b=>if b=a then some (.m3 { cls:=.type "list",data:=.seq vs.toArray } (.lst (ns.map V.int))) else if b∈tabs then some (.ext (dm b)) else none) (fun T hT=>?_) (.inl (.inr ⟨{ cls:=.type "list",data:=.seq vs.toArray },if_pos rfl⟩)) (fun b u z=>?_) (fun b z=>?_) fun u z=>?_
  ·show (if T=a then _ else _)=_
   rw [if_neg (naT T hT),if_pos hT]
  ·by_cases hb:b=a
   ·have z':=(if_pos hb).symm.trans z
    cases z'
    subst hb
    exact ⟨ha,by rw [List.length_map];exact hl,vs,_,rv,ha⟩
   ·have z:=(if_neg hb).symm.trans z
    by_cases hb:b∈tabs
    ·have z':=(if_pos hb).symm.trans z
     cases z'
     exact hTt b hb _
    ·have z':=(if_neg hb).symm.trans z
     cases z'
  ·by_cases hb:b=a
   ·exact .inl hb
   ·by_cases hb':b∈tabs
    ·exact .inr hb'
    ·exact absurd ((if_neg hb).trans (if_neg hb')) z
  ·have z':=(if_pos rfl).symm.trans z
   cases z'
   exact ⟨hk,_,_,rfl⟩
theorem Eb {p:Program} {loose:List Str} {mean:ExcName→Option Value} {mg mb:Str→Option Value} {h:Heap} {K:PySem.W.Frag} {x:Str} {st:Stmt} {T:Addr} (Tp:Top p loose mean mg mb h) (KX:K.In h) (hx:∃ d∈recsOf p,d.name=x) (D:r8 K mg x st T) :
  isCodeTable h T∧h.get? T=some { cls:=.none,data:=.fields #[] }∧K.lookup T=none:=by
 obtain ⟨f,fd,c,F⟩:=D
 obtain ⟨d,hd,rfl⟩:=hx
 obtain ⟨a',o',fd',c',P',h1,h2,h3,h4,h5,h6⟩:=Tp.tab d hd
 rw [F.mg] at h1;cases h1
 obtain ⟨oc,od,kV,doc,pm,an,cdv,ct,osl,rfl,lk,_⟩:=F.fn.ex
 have:=KX _ _ lk
 rw [h2] at this;cases this
 have e3:fd'=_:=(Data.func.inj h3).symm
 subst e3
 have e4:=F.code.symm.trans h4
 cases e4
 obtain ⟨_,oo,vs,_,_,_,_,_,_,_,lk',_,hd',h11,_⟩:=F.tab
 obtain ⟨⟨o2,vs2,g1,g2,g3,g4⟩,g5⟩:=id h6
 rw [KX _ _ lk'] at g1;cases g1
 rw [hd'] at g3;cases g3
 rw [h11] at g4;cases g4
 exact ⟨h6.isCodeTable,g5,F.out⟩
theorem yQ {l:PySem.W.OpenLaw} {n k:Nat} {q:Program} {loose:List Str} {XP:(Str→Option Value)→Heap→Prop} {YP:World→Heap→Prop} {d:DefRec} {K:Params→PySem.W.Frag} {sp:List Addr→PySem.W.Frag→Sp} {x:Str} (names:List Str)
  (hn:l.most=some n) (hn2:n≤sizeLine) (hdf:d.params.defaults=[]) (hr:bj k callerA) (hY:∀ (w:World) (h:Heap),YP w h→(K w.params).In h) (hnm:∀ x∈names,∃ d∈recsOf q,d.name=x)
  (F:∀ (w:World) (mg:Str→Option Value) (fa:Addr) (h:Heap),(K w.params).In h→h.Ns mainGlobals mg→mg d.name=some (.ref fa) →
   ∃ (fd:FuncData) (tabs:List Addr),(∀ (s:Shared) (u:Value),BindsTo s fd ⟨[u],[]⟩ [(x,u)])∧(∀ T∈tabs,GQ (K w.params) mg names T) ∧
    ∀ base:Heap,(K w.params).In base→base.Ns mainGlobals mg→BMain mg base→aI l.prog w (K w.params) mg base ml k fa fd [x] (sp tabs (K w.params)))
  (hsp:∀ (tabs:List Addr) (K:PySem.W.Frag) (H:Hp) (a:Addr) (ns:List Int),ns.length≤n→(∀ T∈tabs,H T=some (.ext (dm T)))→cg K H a (ns.map V.int)→(∀ b,H b≠none→b=a∨b∈tabs)→(∀ u,H a=some u→∃ o xs,u=.m3 o (.lst xs))→sp tabs K [.ref a] H (fun v H'=>v=.bl true∧aZ H H') fun _ _ _=>False) :
  PySem.W.WalkO q loose XP YP l.row.toRowW d [] (fun f vs=>PySem.call f vs):=by
 refine Att.q9 hn hdf fun w s₀ s₁ mg mb fa o pm cd doc a vs ns G Y ho hd hcd hmg hobj hints hlen hg=>?_
 have KX:=hY w _ Y
 obtain ⟨fd,tabs,hb,ht,hF⟩:=F w mg fa _ KX G.T.g hmg
 refine vL KX G.T.g G.T.b G.T.builtins G.T.nolimit hg hobj hints (Nat.le_trans hlen hn2) hr G.T.bmain (fun T hT=>?_) hF hb (fun H hT hS hA hK=>hsp tabs _ H a ns hlen hT hS hA hK)
 obtain ⟨x,hx,st,D⟩:=ht T hT
 exact Eb G.T KX (hnm x hx) D
def xM (s:Str):Value→Bool
 | .str y _=>y == s
 | _=>false
def yY (i:Int):Value→Bool
 | .int j _=>j == i
 | _=>false
theorem wI {K:PySem.W.Frag} {h:Heap} {mg:Str→Option Value} {x s:Str} {u:Value} (X:K.In h) (G:h.Ns mainGlobals mg) (e:PySem.W.nsIn K mainGlobals x=some (some u)) (hu:xM s u=true):∃ t,mg x=some (.str s t):=by
 cases u with
 | str y t =>
  have:y=s:=by simpa [xM] using hu
  subst this
  exact ⟨t,PySem.W.mg_of X G e⟩
 | _=>cases hu
theorem const_int {K:PySem.W.Frag} {h:Heap} {mg:Str→Option Value} {x:Str} {i:Int} {u:Value} (X:K.In h) (G:h.Ns mainGlobals mg) (e:PySem.W.nsIn K mainGlobals x=some (some u)) (hu:yY i u=true):∃ t,mg x=some (.int i t):=by
 cases u with
 | int y t =>
  have:y=i:=by simpa [yY] using hu
  subst this
  exact ⟨t,PySem.W.mg_of X G e⟩
 | _=>cases hu
section
variable {X:Cx} {tg:Expr}
end
section
variable {prog:Program} {w:World} {A:Around} {R:Result→Shared→Prop} {s:Shared}
theorem sI {elt iter cnd:Expr} {x:Str} {px:Pos} {sc:Scope} {pos:Pos} {it acc:Value} {env:Env} (I:Nat→Shared→Prop)
  (turn:∀ n s,I n s→wpAny (model prog w) A (pyNext it) (fun r s₁=>match r with
   | none=>R (.ok .next) s₁
   | some v=>wpAny (model prog w) A (letOwnedTupleGo (.Name x px) it v) (fun _ s₂=>wpAny (model prog w) A (assign (.Name x px) env v) (fun _ s₃=>wpAny (model prog w) A (isTrue cnd env (eval cnd env)) (fun ok s₃=>if ok=true then wpAny (model prog w) A (eval elt env) (fun y s₄ =>
     wpAny (model prog w) A (call (.builtin "list.append") [acc,y]) (fun _ s₅=>∃ m,m < n∧I m s₅) (fun _ _=>False) s₄) (fun _ _=>False) s₃ else ∃ m,m < n∧I m s₃) (fun _ _=>False) s₃) (fun _ _=>False) s₂) (fun _ _=>False) s₁) (fun _ _=>False) s)
  (n:Nat) (h:I n s):codeAny (model prog w) A (.compLoop (.ListComp elt [⟨.Name x px,iter,[cnd],0⟩] sc pos) 0 it acc env) R s:=by
 refine codeAny_loop rfl I (fun n s hI=>?_) n h
 show wpAny _ _ ((compTurn (.ListComp elt [⟨.Name x px,iter,[cnd],0⟩] sc pos) 0 it acc env).onRaise (fun x=>do noteFrame x env;theTreesLotGoes x)) _ _ s
 refine wpAny_noted ?_
 rw [compTurn_list]
 have no:∀ (e:Value) (s':Shared),False→notedBy (model prog w) A env (fun e s'=>R (.error e) s') e s':=fun _ _ z=>z.elim
 refine wpAny_bind (wpAny_standAt (wpAny_bind (wpAny_mono (turn n s hI) (fun r s₁ h₁=>?_) no)))
 cases r with
 | none=>exact wpAny_pure h₁
 | some v =>
  refine wpAny_bind (wpAny_mono h₁ (fun _ s₂ h₂=>?_) no)
  refine wpAny_bind (wpAny_mono h₂ (fun _ s₃ h₃=>wpAny_bind (wpAny_mono (wpAny_tests_one h₃) (fun ok s₃' h₃'=>?_) no)) no)
  cases ok with
  | false=>exact wpAny_pure ⟨rfl,h₃'⟩
  | true =>
   exact wpAny_bind (wpAny_bind (wpAny_mono h₃' (fun y s₄ h₄=>wpAny_bind (wpAny_mono h₄ (fun _ s₅ h₅=>wpAny_pure (wpAny_pure ⟨rfl,h₅⟩)) no)) no))
end
def C0 (wi:TI) (ks:List (Str × Nat)) (tc:TT) (te:TE):TE:=fun σ H Q=>wi σ H fun J H1=>∀ D,H1 D=none→∃ W:Nat→Nat→Hp→Prop,(∃ m,W 0 m (upd H1 D (.lst []))) ∧
 ∀ i m H2,W i m H2→(J.stop i H2∧Q (.ref D) H2)∨(J.go i H2∧∀ v H3,J.yld i H2 v H3→tc (some v :: cD ks σ) H3 fun b H4=>if b=true then te (some v :: cD ks σ) H4 fun y H5=>∃ ys,H5 D=some (.lst ys)∧ys.length < sizeLine∧∃ m',m' < m∧W (i + 1) m' (upd H5 D (.lst (ys ++ [y]))) else ∃ m',m' < m∧W (i + 1) m' H4)
section
variable {X:Cx}
theorem vF {elt iter cnd:Expr} {x:Str} {px:Pos} {sc:Scope} {pos:Pos} {te:TE} {tc:TT} {ks:List (Str × Nat)} {cl:List (Str × Addr)} {pins:List (Addr × Obj)} {σ:L2.St} {H:Hp} {s:Shared} {it:Addr} {fp:List Addr} {tn:Nat→Heap→Prop} {J:It} {Q:VK}
  {RR:Value→Addr→Result→Shared→Prop} {E:Value→Shared→Prop}
  (hc:X.calm=true) (ok:bU sc X.env.scope X.N x ks) (h1:∀ y c,cl.lookup y=some c→X.env.cells.lookup y=some c) (h2:∀ y∈sc.names,y.2=.free→∃ c,cl.lookup y.1=some c)
  (he:∀ cl C s₀ H₀ fp pins,PE (dH X sc cl C x ks s₀ H₀ fp pins) elt te) (hcn:∀ cl C s₀ H₀ fp pins,PT (dH X sc cl C x ks s₀ H₀ fp pins) cnd tc)
  (I:Inv X pins σ H s) (T:Turn X.prog X.w X.K (.Name x px) J fp it tn) (st:tn 0 s.heap) (f:∀ b∈fp,gi X pins H b)
  (hw:∀ D,H D=none→∃ W:Nat→Nat→Hp→Prop,(∃ m,W 0 m (upd H D (.lst [])))∧∀ i m H2,W i m H2→(J.stop i H2∧Q (.ref D) H2) ∨
   (J.go i H2∧∀ v H3,J.yld i H2 v H3→tc (some v :: cD ks σ) H3 fun b H4=>if b=true then te (some v :: cD ks σ) H4 fun y H5=>∃ ys,H5 D=some (.lst ys)∧ys.length < sizeLine∧∃ m',m' < m∧W (i + 1) m' (upd H5 D (.lst (ys ++ [y]))) else ∃ m',m' < m∧W (i + 1) m' H4))
  (hR:∀ (D C:Addr) (s':Shared) (H':Hp) (m:Str→Option Value),Inv X pins σ H' s'→Q (.ref D) H'→s'.heap.Ns C m→H' C=none→C≠X.env.locals→X.s₀.heap.objs.size≤C→(∀ y c,X.env.cells.lookup y=some c→c≠C)→(∀ p∈X.pn ++ pins,p.1≠C)→RR (.ref D) C (.ok .next) s') :
  wpAny (model X.prog X.w) X.A (newList []) (fun acc s₃=>wpAny (model X.prog X.w) X.A (newFunctionEnv sc X.env.globals cl [] X.env.qual none .none (some X.env)) (fun cenv s₄ =>
   codeAny (model X.prog X.w) X.A (.compStart (.ListComp elt [⟨.Name x px,iter,[cnd],0⟩] sc pos) 0 (.ref it) acc { cenv with scope:=relabel sc X.env }) (RR acc cenv.locals) s₄) E s₃) E s:=by
 have okk:=ok
 obtain ⟨kd,nc,lx,ll,fr,kk,nd⟩:=okk
 have hD0:H s.heap.objs.size=none:=I.hok.fresh (Nat.le_refl _)
 obtain ⟨W,⟨m0,w0⟩,turn⟩:=hw s.heap.objs.size hD0
 refine wpAny_newObj_type ?_
 have I3:Inv X pins σ (upd H s.heap.objs.size (.lst [])) { s with heap:=s.heap.push { cls:=.type "list",dict:=none,data:=.seq ([]:List Value).toArray } } :=
  I.laid (t':=s.toks) (fun b u e=>Heap.get?_push_of_some _ e) (Nat.le_refl _) (show cn X.prog X.w _ _ _ (.lst []) from ⟨Nat.zero_le _,[],0,.nil,Heap.get?_push_size _ rfl⟩)
 have st3:tn 0 (s.heap.push { cls:=.type "list",dict:=none,data:=.seq ([]:List Value).toArray }):=T.keep 0 _ _ st fun b hb o e=>Heap.get?_push_of_some _ e
 generalize hD:s.heap.objs.size=D at *
 generalize hH:upd H D (.lst [])=H3 at *
 generalize hs3:({ s with heap:=s.heap.push { cls:=.type "list",dict:=none,data:=.seq ([]:List Value).toArray } }:Shared)=s3 at *
 have e3:s.heap.push { cls:=.type "list",dict:=none,data:=.seq ([]:List Value).toArray }=s3.heap:=by rw [← hs3]
 rw [e3] at st3
 have fD:∀ b∈fp,b≠D:=fun b hb z=>by
  obtain ⟨o,ho,_⟩:=T.obj 0 _ st b hb
  have:=Heap.lt_size ho
  rw [z,← hD] at this
  exact Nat.lt_irrefl _ this
 have f3:∀ b∈fp,gi X pins H3 b:=fun b hb=>⟨by rw [← hH,aH (fD b hb)];exact (f b hb).1,(f b hb).2⟩
 have g3:∀ b∈fp,∃ o,s3.heap.get? b=some o:=fun b hb=>by
  obtain ⟨o,ho,_⟩:=T.obj 0 _ st3 b hb
  exact ⟨o,ho⟩
 refine wpAny_newFunctionEnv nc (by intro y hy;simp at hy) (fun h₁ hns hsb=>?_) kd
 have kp:∀ b o,s3.heap.get? b=some o→h₁.get? b=some o:=fun b o e=>hsb.extBut b o (Nat.ne_of_lt (Heap.lt_size e)) (Heap.get?_push_of_some _ e)
 have J0:=lE (fp:=fp) (cl:=cl) (t':=s3.toks + ([]:List (Str × Value)).length) I3 ok h1 h2 (fun b hb=>⟨f3 b hb,g3 b hb⟩) hns kp
 have st4:tn 0 h₁:=T.keep 0 _ _ st3 fun b hb o e=>kp b o e
 have ltC:∀ b o,s3.heap.get? b=some o→b≠s3.heap.objs.size:=fun b o e=>Nat.ne_of_lt (Heap.lt_size e)
 have cC:∀ y c,X.env.cells.lookup y=some c→c≠s3.heap.objs.size:=fun y c e=>by
  obtain ⟨v,o,ho,_⟩:=I3.cell y c e
  exact ltC c o ho
 have pC:∀ p∈X.pn ++ pins,p.1≠s3.heap.objs.size:=fun p hp=>ltC _ _ (I3.pin p hp).1
 have lC:s3.heap.objs.size≠X.env.locals:=Nat.ne_of_gt I3.lt
 have fX:∀ {H':Hp},(∀ b∈fp,H' b=none)→∀ b∈fp,gi (dH X sc cl s3.heap.objs.size x ks s3 H3 fp pins) [] H' b:=fun hn b hb=>by
  obtain ⟨o,ho⟩:=g3 b hb
  obtain ⟨_,q1,q2,q3,q4,q5⟩:=f b hb
  refine ⟨hn b hb,ltC b o ho,fun z=>?_,.inl hb,fun y c e=>q4 y c (h1 y c e),fun p hp=>q5 p (by simpa [dH] using hp)⟩
  rcases List.mem_cons.mp (I3.iC b z) with e | e
  ·exact q1 e
  ·exact q2 e
 have back:∀ {o:Option V} {H':Hp} {s':Shared},Inv (dH X sc cl s3.heap.objs.size x ks s3 H3 fp pins) [] (o :: cD ks σ) H' s'→Inv X pins σ H' s':=fun {o H' s'} J=>by
  obtain ⟨hh,g,d,t,os'⟩:=s'
  obtain rfl:os'=s3.os:=J.os
  exact I3.call (h':=hh) (g':=g) (d':=d) (t':=t) (ch:=fp) J.base J.hok J.bare fun b hb=>⟨(f b hb).2.2.2.1,(f b hb).2.1,(f b hb).2.2.2.2.1,(f b hb).2.2.2.2.2⟩
 have lookX:(relabel sc X.env).names.lookup x=some .local:=lookup_relabel_local lx
 have loop:∀ s',(∃ (i:Nat) (o:Option V) (H':Hp),Inv (dH X sc cl s3.heap.objs.size x ks s3 H3 fp pins) [] (o :: cD ks σ) H' s'∧tn i s'.heap∧(∀ b∈fp,H' b=none)∧W i m0 H') →
   codeAny (model X.prog X.w) X.A (.compLoop (.ListComp elt [⟨.Name x px,iter,[cnd],0⟩] sc pos) 0 (.ref it) (.ref D) (compEnvC sc cl s3.heap.objs.size X.env)) (RR (.ref D) s3.heap.objs.size) s':=by
  intro s' hs'
  refine sI (fun n s'=>∃ (i:Nat) (o:Option V) (H':Hp),Inv (dH X sc cl s3.heap.objs.size x ks s3 H3 fp pins) [] (o :: cD ks σ) H' s'∧tn i s'.heap∧(∀ b∈fp,H' b=none)∧W i n H') ?_ m0 hs'
  rintro n s5 ⟨i,o,H5,J5,t5,n5,w5⟩
  rcases turn i n H5 w5 with ⟨stop,hq⟩ | ⟨go,step⟩
  ·refine bB (T.done (dH X sc cl s3.heap.objs.size x ks s3 H3 fp pins) rfl rfl rfl hc i [] s5 _ H5 _ J5 (fX n5) t5 stop) fun r s6 ⟨hr,J6⟩=>?_
   subst hr
   obtain ⟨m,hm,_⟩:=J6.loc
   exact hR D _ s6 H5 m (back J6) hq hm J6.free lC I3.sz cC pC
  ·refine bB (T.item (dH X sc cl s3.heap.objs.size x ks s3 H3 fp pins) rfl rfl rfl hc i [] s5 _ H5 _ J5 (fX n5) t5 go) fun r s6 ⟨u,hr,h6⟩=>?_
   subst hr
   refine bB h6 fun _ s7 ⟨v,H7,J7,r7,y7,t7,n7⟩=>?_
   have J7':=J7.pinned (fX n7) (T.obj _ _ t7)
   refine wpAny_assign_Name (dR (X:=dH X sc cl s3.heap.objs.size x ks s3 H3 fp pins) (i:=0) J7' nd rfl (.inl lookX) r7 (fun s8 J8=>?_) (.inr lookX))
   refine bB (hcn cl s3.heap.objs.size s3 H3 fp pins _ s8 _ H7 _ J8 (step v H7 y7)) fun ok s8' ⟨H8,J8',q8⟩=>?_
   cases ok with
   | false =>
    simp only [Bool.false_eq_true,if_false] at q8 ⊢
    obtain ⟨m',hm,w'⟩:=q8
    refine ⟨m',hm,i + 1,_,_,J8'.dU,?_,?_,w'⟩
    ·exact T.keep _ _ _ t7 fun b hb o e=>(J8'.pin (b,o) (List.mem_append_right _ (List.mem_append_right _ (bx hb e)))).1
    ·intro b hb
     obtain ⟨o,e,d⟩:=T.obj _ _ t7 b hb
     exact (J8'.pin (b,o) (List.mem_append_right _ (List.mem_append_right _ (bx hb e)))).2.1
   | true =>
    simp only [if_true] at q8 ⊢
    refine bB (he cl s3.heap.objs.size s3 H3 fp pins _ s8' _ H8 _ J8' q8) fun y s9 ⟨vy,H9,J9,r9,ys,hys,hz,m',hm,w'⟩=>?_
    refine bB (eI (X:=dH X sc cl s3.heap.objs.size x ks s3 H3 fp pins) _ s9 _ H9 (.ref D) [vy] (.ref D) [y] (fun _ H'=>H'=upd H9 D (.lst (ys ++ [vy]))) J9 rfl (.cons r9 .nil) ⟨D,ys,vy,rfl,rfl,hys,hz,rfl⟩) fun _ s10 ⟨_,H10,J10,_,eH⟩=>?_
    subst eH
    refine ⟨m',hm,i + 1,_,_,J10.dU,?_,?_,w'⟩
    ·exact T.keep _ _ _ t7 fun b hb o e=>(J10.pin (b,o) (List.mem_append_right _ (List.mem_append_right _ (bx hb e)))).1
    ·intro b hb
     obtain ⟨o,e,d⟩:=T.obj _ _ t7 b hb
     exact (J10.pin (b,o) (List.mem_append_right _ (List.mem_append_right _ (bx hb e)))).2.1
 have l0:=loop _ ⟨0,none,H3,J0,st4,fun b hb=>(f3 b hb).1,w0⟩
 exact codeAny_compStart_list l0 (T.self _ 0 _ _ _ st4 l0)
def Fq (wi:TI) (ks:List (Str × Nat)) (tc:TT) (te:TE) (i:Nat):TS:=fun D σ H=>C0 wi ks tc te σ H fun v H1=>D.nx (σ.set i (some v)) H1
theorem xy {elt iter cnd:Expr} {x y:Str} {px py:Pos} {sc:Scope} {pos spos:Pos} {wi:TI} {te:TE} {tc:TT} {i:Nat} (osc:Scope) (N:List Str) (ks:List (Str × Nat)) (hc:X.calm=true) (ho:X.env.scope=osc) (hN:X.N=N) (hnd:X.N.Nodup) (hy:X.N[i]?=some y) (hl:Loc X.env.scope y)
  (hi:PI X (.Name x px) iter wi) (he:∀ cl C s₀ H₀ fp pins,PE (dH X sc cl C x ks s₀ H₀ fp pins) elt te) (hcn:∀ cl C s₀ H₀ fp pins,PT (dH X sc cl C x ks s₀ H₀ fp pins) cnd tc) (ok:bU sc osc N x ks:=by decide +kernel) (hs:∀ x,foldedSetIterable iter X.env x=pure x:=by intro _;rfl)
  (hsw:swapsWith (.ListComp elt [⟨.Name x px,iter,[cnd],0⟩] sc pos) (some (.Name y py)) spos.line X.env=pure true:=by rfl) (hf:X.fn y=true∨X.env.scope.names.lookup y=some .local:=by first | exact .inl rfl | exact .inr rfl | assumption) :
  PS X (.Assign [.Name y py] (.ListComp elt [⟨.Name x px,iter,[cnd],0⟩] sc pos) spos) (Fq wi ks tc te i):=by
 intro pins s σ H Dn I hw
 obtain ⟨cl,hcl,h1,h2⟩:=gg (i7 ok I ho)
 have ok':bU sc X.env.scope X.N x ks:=by rw [ho,hN];exact ok
 rw [exec_Assign_Name_used _ _ _ _ hsw]
 refine wpAny_bind (wpAny_standAt (wpAny_bind ?_))
 show wpAny _ X.A (do let _ ← comprehension (.ListComp elt [⟨.Name x px,iter,[cnd],0⟩] sc pos) sc X.env _ (newList []) false (eval iter X.env) (some (assign (.Name y py) X.env))) _ _ s
 refine wpAny_bind (wpAny_mono (wpAny_comprehension_free (use:=some (assign (.Name y py) X.env)) (Q:=fun _ s'=>SP X pins Dn .next s') rfl hs hcl ok.1 ok.2.2.2.1
  (bB (hi pins s σ H _ I hw) fun v s1 h3=>bB h3 fun itv s2 h4=>?_)) (fun _ s' hq=>wpAny_pure (wpAny_pure hq)) fun _ _ e=>e)
 obtain ⟨it,fp,tn,J,H2,rfl,I2,T,st2,f2,hR⟩:=h4
 refine vF (Q:=fun v H1=>Dn.nx (σ.set i (some v)) H1) (RR:=fun acc C=>compPost (model X.prog X.w) X.A X.xe (some (assign (.Name y py) X.env)) (fun _ s'=>SP X pins Dn .next s') acc C) hc ok' h1 h2 he hcn I2 T st2 f2 hR ?_
 intro D C s' H' m J' q hn hC cl' cs cc cp
 show wpAny _ X.A (assign (.Name y py) X.env (.ref D)) _ _ _
 refine wpAny_assign_Name (jN J' hnd hy hl (v:=.ref D) rfl (fun s'' J'' ⟨a,hsb,ha⟩=>?_) hf)
 refine ⟨m,hn.sameBut hsb (fun z=>?_),fun h' hsb'=>⟨_,H',?_,q⟩⟩
 ·rcases ha with e | e
  ·exact cl' (z.trans e)
  ·exact cc _ _ e z.symm
 ·exact J''.turned (t':=s''.toks) (it:=C) (fun b o ne e=>hsb'.extBut b o ne e) hC cl' (.inr cs) cc cp
end
end Ov
namespace Ov
open PySem PySem.Spec PyProof.Rows
open L2 (V HO Hp Inv Cx VK XK TE TT TA TS TG mr TI TO ik Ends p7 Loc Gl Rd RelV Vals eX rY cf l_ rX o5 ip R2 upd ay aH cg fA Sp mz It aZ)
inductive PV where
 | non | bl (b:Bool) | int (i:Int) | str (x:Str) | ref (a:Addr) | ty (n:String) | tup (xs:List PV) | fl (xs:List PV)
inductive HQ where
 | lst (xs:List PV) | ins (C:Addr) (fs:List (Str × PV)) | dct (kvs:List (Str × PV)) (ep:Nat) | tab
abbrev Hq:=Addr→Option HQ
def put (J:Hq) (a:Addr) (o:HQ):Hq:=fun b=>if b=a then some o else J b
theorem av {J:Hq} {a:Addr} {o:HQ}:put J a o a=some o:=by unfold put;rw [if_pos rfl]
theorem au {J:Hq} {a b:Addr} {o:HQ} (h:b≠a):put J a o b=J b:=by unfold put;rw [if_neg h]
theorem dN {J:Hq} {a:Addr} {o u:HQ}:put (put J a o) a u=put J a u:=by
 funext b;unfold put;split <;> rfl
theorem yZ {J:Hq} {a b:Addr} {o u:HQ} (h:a≠b):put (put J a o) b u=put (put J b u) a o:=by
 funext c;unfold put
 by_cases h1:c=b <;> by_cases h2:c=a <;> simp [h1,h2]
 ·exact absurd (h2.symm.trans h1) h
 ·intro z;exact absurd z.symm h
 ·intro z;exact absurd z h
theorem so {J:Hq} {a:Addr} {o:HQ} (h:J a=some o):put J a o=J:=by
 funext b;unfold put
 by_cases e:b=a
 ·subst e;rw [if_pos rfl,h]
 ·rw [if_neg e]
def zM (K:PySem.W.Frag) (J:Hq) (H:Hp) (a:Addr) (vs:List V):Prop:=(J a=none∧Rd H a (.lst vs))∨∃ (o:Obj) (its:Array Value) (n:Nat),K.lookup a=some o∧o.cls=.type "list"∧o.dict=none∧o.data=.seq its n∧its.size≤sizeLine∧Vals vs its.toList
theorem zM.sq {K:PySem.W.Frag} {J:Hq} {H:Hp} {a:Addr} {vs:List V} (h:zM K J H a vs):cg K H a vs:=by
 rcases h with h | h
 ·exact .inl h.2
 ·exact .inr h
section
variable (K:PySem.W.Frag)
mutual
def bI (J:Hq) (H:Hp):PV→V→Prop
 | .non,v=>v=.non
 | .bl b,v=>v=.bl b
 | .int i,v=>v=.int i
 | .str x,v=>v=.str x
 | .ref a,v=>v=.ref a
 | .ty n,v=>v=.ty n
 | .tup xs,v=>∃ a vs,v=.ref a∧fA K H a vs∧aE J H xs vs
 | .fl xs,v=>∃ a vs,v=.ref a∧zM K J H a vs∧aE J H xs vs
def aE (J:Hq) (H:Hp):List PV→List V→Prop
 | [],vs=>vs=[]
 | x :: xs,vs=>∃ v us,vs=v :: us∧bI J H x v∧aE J H xs us
end
def iN {κ:Type} (J:Hq) (H:Hp) (fs:List (κ × PV)) (gs:List (κ × V)):Prop:=fs.map (·.1)=gs.map (·.1)∧aE K J H (fs.map (·.2)) (gs.map (·.2))
def xE (J:Hq) (H:Hp) (a:Addr):HQ→Prop
 | .lst xs=>∃ vs,H a=some (.lst vs)∧aE K J H xs vs
 | .ins C fs=>∃ dx gs,H a=some (.ins C dx gs)∧iN K J H fs gs
 | .dct kvs ep=>∃ gs,H a=some (.dE gs ep)∧iN K J H kvs gs
 | .tab=>H a=some (.ext (dm a))
def Rep (J:Hq) (H:Hp):Prop:=∀ a o,J a=some o→xE K J H a o
structure Ext (J:Hq) (H:Hp) (J':Hq) (H':Hp):Prop where
 tup:∀ a vs,fA K H a vs→fA K H' a vs
 ll:∀ a o,J a=none→H a=some o→((∃ vs,o=.lst vs)∨∃ ob vs,o=.m3 ob (.lst vs))→J' a=none∧H' a=some o
end
section
variable {K:PySem.W.Frag} {J J' J'':Hq} {H H' H'':Hp}
theorem Ext.fl (e:Ext K J H J' H') (a:Addr) (vs:List V) (n:J a=none) (h:Rd H a (.lst vs)):J' a=none∧Rd H' a (.lst vs):=by
 rcases h with h | ⟨o,h⟩
 ·obtain ⟨a,b⟩:=e.ll a _ n h (.inl ⟨_,rfl⟩);exact ⟨a,.inl b⟩
 ·obtain ⟨a,b⟩:=e.ll a _ n h (.inr ⟨_,_,rfl⟩);exact ⟨a,.inr ⟨o,b⟩⟩
theorem Ext.flat (e:Ext K J H J' H') {a:Addr} {vs:List V} (h:zM K J H a vs):zM K J' H' a vs:=by
 rcases h with h | h
 ·exact .inl (e.fl a vs h.1 h.2)
 ·exact .inr h
mutual
theorem Ext.rep (e:Ext K J H J' H'):∀ {x:PV} {v:V},bI K J H x v→bI K J' H' x v
 | .non,_,h=>h
 | .bl _,_,h=>h
 | .int _,_,h=>h
 | .str _,_,h=>h
 | .ref _,_,h=>h
 | .ty _,_,h=>h
 | .tup xs,_,⟨a,vs,e1,h,k⟩=>⟨a,vs,e1,e.tup _ _ h,Ext.gf e k⟩
 | .fl xs,_,⟨a,vs,e1,h,k⟩=>⟨a,vs,e1,e.flat h,Ext.gf e k⟩
theorem Ext.gf (e:Ext K J H J' H'):∀ {xs:List PV} {vs:List V},aE K J H xs vs→aE K J' H' xs vs
 | [],_,h=>h
 | _ :: _,_,⟨v,us,e1,h,k⟩=>⟨v,us,e1,Ext.rep e h,Ext.gf e k⟩
end
theorem Ext.refl:Ext K J H J H:=⟨fun _ _ h=>h,fun _ _ n h _=>⟨n,h⟩⟩
theorem Ext.trans (a:Ext K J H J' H') (b:Ext K J' H' J'' H''):Ext K J H J'' H'' :=
 ⟨fun c vs h=>b.tup c vs (a.tup c vs h),fun c o n h z=>b.ll c o (a.ll c o n h z).1 (a.ll c o n h z).2 z⟩
theorem Ext.p8 {κ:Type} (e:Ext K J H J' H') {fs:List (κ × PV)} {gs:List (κ × V)} (h:iN K J H fs gs):iN K J' H' fs gs:=⟨h.1,e.gf h.2⟩
theorem Rd.same {a:Addr} {u:HO} (s:aZ H H') (h:Rd H a u):Rd H' a u:=by
 rcases h with h | ⟨o,h⟩
 ·exact .inl (s _ _ h)
 ·exact .inr ⟨o,s _ _ h⟩
theorem Ext.same (s:aZ H H'):Ext K J H J H':=⟨fun a vs h=>s.tup h,fun a o n h _=>⟨n,s _ _ h⟩⟩
theorem xE.same (s:aZ H H') {a:Addr} {o:HQ} (h:xE K J H a o):xE K J H' a o:=by
 have e:=Ext.same (K:=K) (J:=J) s
 cases o with
 | lst xs=>obtain ⟨vs,h1,h2⟩:=h;exact ⟨vs,s _ _ h1,e.gf h2⟩
 | ins C fs=>obtain ⟨dx,gs,h1,h2⟩:=h;exact ⟨dx,gs,s _ _ h1,e.p8 h2⟩
 | dct kvs ep=>obtain ⟨gs,h1,h2⟩:=h;exact ⟨gs,s _ _ h1,e.p8 h2⟩
 | tab=>exact s _ _ (show H a=some (.ext (dm a)) from h)
theorem Rep.same (s:aZ H H') (h:Rep K J H):Rep K J H':=fun a o q=>(h a o q).same s
theorem Ext.less (h:∀ a,J' a=J a∨J' a=none):Ext K J H J' H:=⟨fun _ _ h=>h,fun a o n z _=>⟨(h a).elim (fun e=>e.trans n) (fun e=>e),z⟩⟩
theorem Rep.less (h:∀ a,J' a=J a∨J' a=none) (r:Rep K J H):Rep K J' H:=fun a o q=>by
 have e:J a=some o:=by
  rcases h a with e | e
  ·rw [← e];exact q
  ·rw [e] at q;cases q
 have x:=Ext.less (K:=K) (H:=H) h
 have z:=r a o e
 cases o with
 | lst xs=>obtain ⟨vs,h1,h2⟩:=z;exact ⟨vs,h1,x.gf h2⟩
 | ins C fs=>obtain ⟨dx,gs,h1,h2⟩:=z;exact ⟨dx,gs,h1,x.p8 h2⟩
 | dct kvs ep=>obtain ⟨gs,h1,h2⟩:=z;exact ⟨gs,h1,x.p8 h2⟩
 | tab=>exact z
theorem aE.length:∀ {xs:List PV} {vs:List V},aE K J H xs vs→xs.length=vs.length
 | [],_,h=>by cases h;rfl
 | _ :: xs,_,⟨v,us,e1,_,k⟩=>by subst e1;simp [aE.length k]
theorem aE.get:∀ {xs:List PV} {vs:List V} {i:Nat} {x:PV},aE K J H xs vs→xs[i]?=some x→∃ v,vs[i]?=some v∧bI K J H x v
 | [],_,i,x,h,e=>by simp at e
 | y :: xs,_,0,x,⟨v,us,e1,h,k⟩,e=>by subst e1;simp at e;subst e;exact ⟨v,rfl,h⟩
 | y :: xs,_,i + 1,x,⟨v,us,e1,h,k⟩,e=>by
  subst e1
  obtain ⟨w,h1,h2⟩:=aE.get (i:=i) (x:=x) k (by simpa using e)
  exact ⟨w,by simpa using h1,h2⟩
theorem aE.get':∀ {xs:List PV} {vs:List V} {i:Nat} {v:V},aE K J H xs vs→vs[i]?=some v→∃ x,xs[i]?=some x∧bI K J H x v
 | [],_,i,x,h,e=>by cases h;simp at e
 | y :: xs,_,0,x,⟨v,us,e1,h,k⟩,e=>by subst e1;simp at e;subst e;exact ⟨y,rfl,h⟩
 | y :: xs,_,i + 1,x,⟨v,us,e1,h,k⟩,e=>by
  subst e1
  obtain ⟨w,h1,h2⟩:=aE.get' (i:=i) (v:=x) k (by simpa using e)
  exact ⟨w,by simpa using h1,h2⟩
theorem aE.append:∀ {xs ys:List PV} {vs us:List V},aE K J H xs vs→aE K J H ys us→aE K J H (xs ++ ys) (vs ++ us)
 | [],_,_,_,h,k=>by cases h;exact k
 | x :: xs,ys,_,us,⟨v,ws,e1,h,h'⟩,k=>by subst e1;exact ⟨v,ws ++ us,rfl,h,aE.append h' k⟩
theorem aE.drop:∀ (n:Nat) {xs:List PV} {vs:List V},aE K J H xs vs→aE K J H (xs.drop n) (vs.drop n)
 | 0,_,_,h=>h
 | n + 1,[],_,h=>by cases h;rfl
 | n + 1,x :: xs,_,⟨v,ws,e1,h,h'⟩=>by subst e1;exact aE.drop n h'
theorem aE.take:∀ (n:Nat) {xs:List PV} {vs:List V},aE K J H xs vs→aE K J H (xs.take n) (vs.take n)
 | 0,_,_,h=>rfl
 | n + 1,[],_,h=>by cases h;rfl
 | n + 1,x :: xs,_,⟨v,ws,e1,h,h'⟩=>by subst e1;exact ⟨v,_,rfl,h,aE.take n h'⟩
theorem aE.set {x:PV} {v:V} (r:bI K J H x v):∀ (n:Nat) {xs:List PV} {vs:List V},aE K J H xs vs→aE K J H (xs.set n x) (vs.set n v)
 | n,[],_,h=>by cases h;rfl
 | 0,y :: xs,_,⟨w,ws,e1,h,h'⟩=>by subst e1;exact ⟨v,ws,rfl,r,h'⟩
 | n + 1,y :: xs,_,⟨w,ws,e1,h,h'⟩=>by subst e1;exact ⟨w,_,rfl,h,aE.set r n h'⟩
theorem iN.look {κ:Type} [BEq κ] [LawfulBEq κ] {f:κ}:∀ {fs:List (κ × PV)} {gs:List (κ × V)} {x:PV},iN K J H fs gs→fs.lookup f=some x→∃ v,gs.lookup f=some v∧bI K J H x v
 | [],_,_,_,e=>by cases e
 | (k,y) :: fs,[],x,h,e=>by cases h.1
 | (k,y) :: fs,(k',w) :: gs,x,h,e=>by
  obtain ⟨h1,v,us,h2,h3,h4⟩:=h
  simp only [List.map_cons,List.cons.injEq] at h1 h2
  obtain ⟨rfl,h1⟩:=h1
  obtain ⟨rfl,rfl⟩:=h2
  rw [List.lookup_cons] at e ⊢
  cases hk:f == k with
  | true=>rw [hk] at e;cases e;exact ⟨w,rfl,h3⟩
  | false=>rw [hk] at e;exact iN.look ⟨h1,h4⟩ e
theorem iN.none {κ:Type} [BEq κ] [LawfulBEq κ] {f:κ}:∀ {fs:List (κ × PV)} {gs:List (κ × V)},iN K J H fs gs→fs.lookup f=none→gs.lookup f=none
 | [],[],_,_=>rfl
 | [],_ :: _,h,e=>by cases h.1
 | (k,y) :: fs,[],h,e=>by cases h.1
 | (k,y) :: fs,(k',w) :: gs,h,e=>by
  obtain ⟨h1,v,us,h2,h3,h4⟩:=h
  simp only [List.map_cons,List.cons.injEq] at h1 h2
  obtain ⟨rfl,h1⟩:=h1
  obtain ⟨rfl,rfl⟩:=h2
  rw [List.lookup_cons] at e ⊢
  cases hk:f == k with
  | true=>rw [hk] at e;cases e
  | false=>rw [hk] at e;exact iN.none ⟨h1,h4⟩ e
end
section
variable {K:PySem.W.Frag} {J J':Hq} {H H':Hp} {p:Addr}
theorem BA {a p:Addr} {o:HQ} (r:Rep K J H) (h:J a=some o) (n:H p=none):a≠p:=by
 intro e;subst e
 have:=r _ _ h
 cases o with
 | lst xs=>obtain ⟨vs,h1,_⟩:=this;rw [n] at h1;cases h1
 | ins C fs=>obtain ⟨dx,gs,h1,_⟩:=this;rw [n] at h1;cases h1
 | dct kvs ep=>obtain ⟨gs,h1,_⟩:=this;rw [n] at h1;cases h1
 | tab=>have h1:H a=some (.ext (dm a)):=this;rw [n] at h1;cases h1
theorem Rep.free (r:Rep K J H) (n:H p=none):J p=none:=by
 cases e:J p with
 | none=>rfl
 | some o=>exact absurd rfl (BA r e n)
theorem Ext.laid {o:HO} {u:HQ} (n:H p=none):Ext K J H (put J p u) (upd H p o):=by
 refine ⟨fun a vs h=>(aZ.new n o).tup h,fun a o' z h _=>⟨?_,aZ.new n o _ _ h⟩⟩
 have ne:a≠p:=by intro e;subst e;rw [n] at h;cases h
 rw [au ne];exact z
theorem Rep.wW {J':Hq} {H':Hp} (e:Ext K J H J' H') (r:Rep K J H) (p:Addr) (q:∀ a,a≠p→J' a=J a) (s:∀ a o,a≠p→J a≠none→H a=some o→H' a=some o) (h:∀ u,J' p=some u→xE K J' H' p u):Rep K J' H':=fun a o z=>by
 by_cases ep:a=p
 ·subst ep;exact h o z
 ·rw [q a ep] at z
  have t:=r a o z
  have jn:J a≠none:=by rw [z];exact fun y=>nomatch y
  cases o with
  | lst xs=>obtain ⟨vs,h1,h2⟩:=t;exact ⟨vs,s _ _ ep jn h1,e.gf h2⟩
  | ins C fs=>obtain ⟨dx,gs,h1,h2⟩:=t;exact ⟨dx,gs,s _ _ ep jn h1,e.p8 h2⟩
  | dct kvs eq=>obtain ⟨gs,h1,h2⟩:=t;exact ⟨gs,s _ _ ep jn h1,e.p8 h2⟩
  | tab=>exact s _ _ ep jn (show H a=some (.ext (dm a)) from t)
theorem Rep.x6 {xs:List PV} {vs:List V} (r:Rep K J H) (n:H p=none) (h:aE K J H xs vs):Rep K (put J p (.lst xs)) (upd H p (.lst vs)):=by
 have e:=Ext.laid (K:=K) (J:=J) (o:=.lst vs) (u:=.lst xs) n
 refine r.wW e p (fun a ne=>au ne) (fun a o ne _ z=>by rw [aH ne];exact z) fun u z=>?_
 rw [av] at z;cases z
 exact ⟨vs,ay,e.gf h⟩
theorem Ext.wrote {xs ys:List PV} {ws vs:List V} (h:J p=some (.lst xs)) (k:H p=some (.lst ws)):Ext K J H (put J p (.lst ys)) (upd H p (.lst vs)):=by
 have sm:∀ a u,(∀ l,u≠HO.lst l)∨a≠p→Rd H a u→Rd (upd H p (.lst vs)) a u:=fun a u d z=>by
  have ne:a≠p:=by
   rcases d with d | d
   ·intro e;subst e
    rcases z with z | ⟨o,z⟩
    ·rw [k] at z;cases z;exact d _ rfl
    ·rw [k] at z;cases z
   ·exact d
  rcases z with z | ⟨o,z⟩
  ·exact .inl (by rw [aH ne];exact z)
  ·exact .inr ⟨o,by rw [aH ne];exact z⟩
 refine ⟨fun a vs' z=>?_,fun a o z q _=>?_⟩
 ·rcases z with z | z
  ·exact .inl (sm a _ (.inl fun l e=>nomatch e) z)
  ·exact .inr z
 ·have ne:a≠p:=by intro e;subst e;rw [h] at z;cases z
  exact ⟨by rw [au ne];exact z,by rw [aH ne];exact q⟩
theorem Rep.wrote {xs ys:List PV} {ws vs:List V} (r:Rep K J H) (h:J p=some (.lst xs)) (k:H p=some (.lst ws)) (q:aE K J H ys vs):Rep K (put J p (.lst ys)) (upd H p (.lst vs)):=by
 have e:=Ext.wrote (K:=K) (ys:=ys) (vs:=vs) h k
 refine r.wW e p (fun a ne=>au ne) (fun a o ne _ z=>by rw [aH ne];exact z) fun u z=>?_
 rw [av] at z;cases z
 exact ⟨vs,ay,e.gf q⟩
end
abbrev Sr:=List (Option PV)
abbrev cE:=Sr→Hq→(PV→Hq→Prop)→Prop
abbrev iF:=Sr→Hq→(Bool→Hq→Prop)→Prop
abbrev jT:=Sr→Hq→(List PV→Hq→Prop)→Prop
structure En where
 nx:Sr→Hq→Prop
 rt:PV→Hq→Prop
 bk:Sr→Hq→Prop:=fun _ _=>False
 ct:Sr→Hq→Prop:=fun _ _=>False
abbrev gw:=En→Sr→Hq→Prop
structure iO (K:PySem.W.Frag) (J:Hq) (H:Hp) (τ:Sr) (σ:L2.St):Prop where
 len:τ.length=σ.length
 get:∀ (i:Nat) (x:PV),τ[i]?=some (some x)→∃ v,σ[i]?=some (some v)∧bI K J H x v
theorem iO.ext {K:PySem.W.Frag} {J J':Hq} {H H':Hp} {τ:Sr} {σ:L2.St} (r:iO K J H τ σ) (e:Ext K J H J' H'):iO K J' H' τ σ :=
 ⟨r.len,fun i x h=>let ⟨v,a,b⟩:=r.get i x h;⟨v,a,e.rep b⟩⟩
theorem iO.set {K:PySem.W.Frag} {J:Hq} {H:Hp} {τ:Sr} {σ:L2.St} (r:iO K J H τ σ) {x:PV} {v:V} (i:Nat) (h:bI K J H x v):iO K J H (τ.set i (some x)) (σ.set i (some v)):=by
 refine ⟨by rw [List.length_set,List.length_set,r.len],fun j y e=>?_⟩
 by_cases hj:i=j
 ·subst hj
  by_cases hl:i < τ.length
  ·rw [List.getElem?_set_self hl] at e
   cases e
   exact ⟨v,List.getElem?_set_self (by rw [← r.len];exact hl),h⟩
  ·rw [List.getElem?_eq_none (by rw [List.length_set];omega)] at e
   cases e
 ·rw [List.getElem?_set_ne hj] at e ⊢
  exact r.get j y e
abbrev G2:=Hq × Hp
structure pT (K:PySem.W.Frag) (G:G2) (τ:Sr) (J:Hq) (σ:L2.St) (H:Hp):Prop where
 sl:iO K J H τ σ
 hp:Rep K J H
 ext:Ext K G.1 G.2 J H
section
variable (K:PySem.W.Frag) (G:G2)
def LE (t:cE):TE:=fun σ H Q=>∃ τ J Q2,pT K G τ J σ H∧t τ J Q2∧∀ x J' v H',bI K J' H' x v→Rep K J' H'→Ext K J H J' H'→Q2 x J'→Q v H'
def LT (t:iF):TT:=fun σ H Q=>∃ τ J Q2,pT K G τ J σ H∧t τ J Q2∧∀ b J' H',Rep K J' H'→Ext K J H J' H'→Q2 b J'→Q b H'
def LA (t:jT):TA:=fun σ H Q=>∃ τ J Q2,pT K G τ J σ H∧t τ J Q2∧∀ xs J' vs H',aE K J' H' xs vs→Rep K J' H'→Ext K J H J' H'→Q2 xs J'→Q vs H'
structure Goes (J:Hq) (H:Hp) (D2:En) (D:Ends):Prop where
 nx:∀ τ J' σ H',iO K J' H' τ σ→Rep K J' H'→Ext K J H J' H'→D2.nx τ J'→D.nx σ H'
 rt:∀ x J' v H',bI K J' H' x v→Rep K J' H'→Ext K J H J' H'→D2.rt x J'→D.rt v H'
 bk:∀ τ J' σ H',iO K J' H' τ σ→Rep K J' H'→Ext K J H J' H'→D2.bk τ J'→D.bk σ H'
 ct:∀ τ J' σ H',iO K J' H' τ σ→Rep K J' H'→Ext K J H J' H'→D2.ct τ J'→D.ct σ H'
def LS (t:gw):TS:=fun D σ H=>∃ τ J D2,pT K G τ J σ H∧t D2 τ J∧Goes K J H D2 D
end
theorem Goes.ext {K:PySem.W.Frag} {J J':Hq} {H H':Hp} {D2:En} {D:Ends} (g:Goes K J H D2 D) (e:Ext K J H J' H'):Goes K J' H' D2 D :=
 ⟨fun τ J1 σ H1 a b c=>g.nx τ J1 σ H1 a b (e.trans c),fun x J1 v H1 a b c=>g.rt x J1 v H1 a b (e.trans c),fun τ J1 σ H1 a b c=>g.bk τ J1 σ H1 a b (e.trans c),fun τ J1 σ H1 a b c=>g.ct τ J1 σ H1 a b (e.trans c)⟩
theorem pT.go {K:PySem.W.Frag} {G:G2} {τ:Sr} {J J':Hq} {σ:L2.St} {H H':Hp} (a:pT K G τ J σ H) (r:Rep K J' H') (e:Ext K J H J' H'):pT K G τ J' σ H':=⟨a.sl.ext e,r,a.ext.trans e⟩
structure RE (X:Cx) (G:G2) (e:Expr) (t:cE):Prop where
 run:L2.PE X e (LE X.K G t)
structure RT (X:Cx) (G:G2) (e:Expr) (t:iF):Prop where
 run:L2.PT X e (LT X.K G t)
structure RW (X:Cx) (G:G2) (e:Expr) (t:iF):Prop where
 run:L2.PW X e (LT X.K G t)
structure RA (X:Cx) (G:G2) (es:List Expr) (t:jT):Prop where
 run:L2.PA X es (LA X.K G t)
structure RS (X:Cx) (G:G2) (st:Stmt) (t:gw):Prop where
 run:L2.PS X st (LS X.K G t)
structure RB (X:Cx) (G:G2) (st:List Stmt) (t:gw):Prop where
 run:L2.n8 X st (LS X.K G t)
theorem il {X:Cx} {e:Expr} {t t':TE} (h:L2.PE X e t) (k:∀ σ H Q,t' σ H Q→t σ H Q):L2.PE X e t':=fun pins s σ H Q I q=>h pins s σ H Q I (k _ _ _ q)
theorem G7 {X:Cx} {e:Expr} {t t':TT} (h:L2.PT X e t) (k:∀ σ H Q,t' σ H Q→t σ H Q):L2.PT X e t':=fun pins s σ H Q I q=>h pins s σ H Q I (k _ _ _ q)
theorem IZ {X:Cx} {e:Expr} {t t':TT} (h:L2.PW X e t) (k:∀ σ H Q,t' σ H Q→t σ H Q):L2.PW X e t':=fun wh pins s σ H Q I q=>h wh pins s σ H Q I (k _ _ _ q)
theorem Ih {X:Cx} {e:List Expr} {t t':TA} (h:L2.PA X e t) (k:∀ σ H Q,t' σ H Q→t σ H Q):L2.PA X e t':=fun pos pins s σ H Q I q=>h pos pins s σ H Q I (k _ _ _ q)
theorem tQ {X:Cx} {e:Stmt} {t t':TS} (h:L2.PS X e t) (k:∀ D σ H,t' D σ H→t D σ H):L2.PS X e t':=fun pins s σ H D I q=>h pins s σ H D I (k _ _ _ q)
theorem HP {X:Cx} {e:List Stmt} {t t':TS} (h:L2.n8 X e t) (k:∀ D σ H,t' D σ H→t D σ H):L2.n8 X e t':=fun pins s σ H D I q=>h pins s σ H D I (k _ _ _ q)
end Ov
namespace Ov
open PySem PySem.Spec PyProof.Rows
open L2 (V HO Hp Inv Cx VK XK TE TT TA TS TG mr TI TO ik Ends p7 Loc Gl Rd RelV Vals eX rY cf l_ rX o5 ip R2 upd ay aH cg fA Sp mz It aZ cQ bj Passes lA az Meth Mk Binds aI bX aw cH fb)
section
variable {X:Cx} {G:G2} {a b c e o:Expr} {es rest:List Expr} {ta tb te tc to:cE} {tA tB':iF} {t:jT} {pos px p p2 apos cpos:Pos} {x:Str} {i j:Nat}
def yj (i:Nat):cE:=fun τ J Q=>∃ x,τ[i]?=some (some x)∧Q x J
theorem rv (i:Nat) {x:Str} {pos:Pos} (hN:X.N[i]?=some x:=by rfl) (hv:p7 X.env.scope x:=by first | exact Or.inl rfl | exact Or.inr (Or.inl rfl) | exact Or.inr (Or.inr rfl)) (hd:(x == ("__debug__":Str))=false:=by decide)
  (hcd:(x == ("__classdict__":Str))=false:=by decide):RE X G (.Name x pos) (yj i) :=
 ⟨il (L2.tE hN hv hd hcd) fun σ H Q ⟨τ,J,Q2,a2,⟨y,ey,q⟩,k⟩=>let ⟨v,e1,r⟩:=a2.sl.get i y ey;⟨v,e1,k y J v H r a2.hp .refl q⟩⟩
def rC (x:PV):cE:=fun _ J Q=>Q x J
theorem ag {i:Int} {j pos}:RE X G (.Constant (.int i) j pos) (rC (.int i)):=⟨il L2.aF fun σ H Q ⟨τ,J,Q2,a2,q,k⟩=>k (.int i) J _ H rfl a2.hp .refl q⟩
theorem kA {b:Bool} {j pos}:RE X G (.Constant (.bool b) j pos) (rC (.bl b)):=⟨il L2.qV fun σ H Q ⟨τ,J,Q2,a2,q,k⟩=>k (.bl b) J _ H rfl a2.hp .refl q⟩
theorem fY {j pos}:RE X G (.Constant .none j pos) (rC .non):=⟨il L2.sP fun σ H Q ⟨τ,J,Q2,a2,q,k⟩=>k .non J _ H rfl a2.hp .refl q⟩
theorem bz {x:Str} {j pos}:RE X G (.Constant (.str x) j pos) (rC (.str x)):=⟨il L2.jS fun σ H Q ⟨τ,J,Q2,a2,q,k⟩=>k (.str x) J _ H rfl a2.hp .refl q⟩
theorem er {v:V} {u:Value} (y:PV) (hg:Gl X x) (hm:X.mg x=some u) (r:RelV v u) (hr:∀ J H,bI X.K J H y v) (hd:(x == ("__debug__":Str))=false:=by decide):RE X G (.Name x pos) (rC y) :=
 ⟨il (L2.lz hg hm r hd) fun σ H Q ⟨τ,J,Q2,a2,q,k⟩=>k y J v H (hr J H) a2.hp .refl q⟩
theorem nF {n:String} (hg:Gl X x) (hm:X.mg x=none) (hv:bootBuiltins x=some (.type n)) (hn:x≠"__name__":=by decide) (hd:(x == ("__debug__":Str))=false:=by decide):RE X G (.Name x pos) (rC (.ty n)) :=
 ⟨il (L2.pD (v:=.ty n) hg hm hv rfl hn hd) fun σ H Q ⟨τ,J,Q2,a2,q,k⟩=>k (.ty n) J _ H rfl a2.hp .refl q⟩
abbrev jq:=PV→PV→Hq→(PV→Hq→Prop)→Prop
abbrev F_:=PV→Hq→(PV→Hq→Prop)→Prop
abbrev uT:=List PV→Hq→(PV→Hq→Prop)→Prop
def Kn (K:PySem.W.Frag) (J:Hq) (H:Hp) (Q2:PV→Hq→Prop) (Q:VK):Prop:=∀ z J' u H',bI K J' H' z u→Rep K J' H'→Ext K J H J' H'→Q2 z J'→Q u H'
def LR (K:PySem.W.Frag) (r:R2) (q:jq):Prop:=∀ J H x y v w Q2 Q,bI K J H x v→bI K J H y w→Rep K J H→q x y J Q2→Kn K J H Q2 Q→r v w H Q
def JP (K:PySem.W.Frag) (r:V→Hp→VK→Prop) (q:F_):Prop:=∀ J H x v Q2 Q,bI K J H x v→Rep K J H→q x J Q2→Kn K J H Q2 Q→r v H Q
def Ju (K:PySem.W.Frag) (r:List V→Hp→VK→Prop) (q:uT):Prop:=∀ J H xs vs Q2 Q,aE K J H xs vs→Rep K J H→q xs J Q2→Kn K J H Q2 Q→r vs H Q
def jG (X:Cx) (f:Value→Value→Sem Value) (q:jq):Prop:=∃ r,eX X f r∧LR X.K r q
def I_ (X:Cx) (f:Value→Sem Value) (q:F_):Prop:=∃ r,rY X f r∧JP X.K r q
def Im (X:Cx) (q:jq):Prop:=∃ r,l_ X r∧LR X.K r q
def DX (X:Cx) (f:Value) (q:uT):Prop:=∃ r,cf X f r∧Ju X.K r q
def xb (q:jq) (ta tb:cE):cE:=fun τ J Q=>ta τ J fun x J1=>tb τ J1 fun y J2=>q x y J2 Q
def Jx (q:F_) (ta:cE):cE:=fun τ J Q=>ta τ J fun x J1=>q x J1 Q
theorem kU {r:R2} {q:jq} (lr:LR X.K r q):∀ σ H Q,LE X.K G (xb q ta tb) σ H Q→L2.zI r (LE X.K G ta) (LE X.K G tb) σ H Q:=fun σ H Q ⟨τ,J,Q2,a2,h,k⟩ =>
 ⟨τ,J,_,a2,h,fun x J1 v H1 rx r1 e1 q1=>⟨τ,J1,_,a2.go r1 e1,q1,fun y J2 w H2 ry r2 e2 q2 =>
  lr J2 H2 x y v w Q2 Q (e2.rep rx) ry r2 q2 fun z J' u H' rz rr ee qq=>k z J' u H' rz rr ((e1.trans e2).trans ee) qq⟩⟩
theorem aK {op:Operator} {q:jq} (ho:jG X (binaryOp op) q) (ha:RE X G a ta) (hb:RE X G b tb):RE X G (.BinOp a op b pos) (xb q ta tb):=by
 obtain ⟨r,h,lr⟩:=ho
 exact ⟨il (L2.aY h ha.run hb.run) (kU lr)⟩
theorem nY {op:UnaryOp} {q:F_} (ho:I_ X (unaryOp op) q) (ha:RE X G a ta):RE X G (.UnaryOp op a pos) (Jx q ta):=by
 obtain ⟨r,h,lr⟩:=ho
 exact ⟨il (L2.uU h ha.run) fun σ H Q ⟨τ,J,Q2,a2,h,k⟩=>⟨τ,J,_,a2,h,fun x J1 v H1 rx r1 e1 q1 =>
  lr J1 H1 x v Q2 Q rx r1 q1 fun z J' u H' rz rr ee qq=>k z J' u H' rz rr (e1.trans ee) qq⟩⟩
theorem ak {q:jq} (hr:Im X q) (ha:RE X G a ta) (hb:RE X G b tb) (hs:cQ b):RE X G (.Subscript a b pos) (xb q ta tb):=by
 obtain ⟨r,h,lr⟩:=hr
 exact ⟨il (L2.bG h ha.run hb.run hs) (kU lr)⟩
theorem d3 {op:CmpOp} {q:jq} (ho:jG X (compareOp op) q) (ha:RE X G a ta) (hb:RE X G b tb) (hm:behindInMarks op b=false):RE X G (.Compare a [op] [b] pos) (xb q ta tb):=by
 obtain ⟨r,h,lr⟩:=ho
 exact ⟨il (L2.k6 h ha.run hb.run hm) (kU lr)⟩
def rB (t:cE):iF:=fun τ J Q=>t τ J fun x J1=>∃ k,x=.bl k∧Q k J1
theorem aD {op:CmpOp} {q:jq} (ho:jG X (compareOp op) q) (ha:RE X G a ta) (hb:RE X G b tb) (hm:behindInMarks op b=false):RT X G (.Compare a [op] [b] pos) (rB (xb q ta tb)):=by
 obtain ⟨r,h,lr⟩:=ho
 refine ⟨G7 (L2.cK h ha.run hb.run hm) fun σ H Q ⟨τ,J,Q2,a2,h,k⟩=>?_⟩
 refine kU lr σ H _ ⟨τ,J,_,a2,h,fun z J' u H' rz rr ee qq=>?_⟩
 obtain ⟨b,rfl,q⟩:=qq
 exact ⟨b,rz,k b J' H' rr ee q⟩
theorem bV (h:RE X G e te) (he:∀ whole,isTrue e X.env whole=(do let v ← whole;standAt e.pos;holding [v] (truthy v)):=by intro _;rfl):RT X G e (rB te) :=
 ⟨G7 (L2.tw h.run he) fun σ H Q ⟨τ,J,Q2,a2,h,k⟩=>⟨τ,J,_,a2,h,fun z J' u H' rz rr ee ⟨b,eb,q⟩=>by subst eb;exact ⟨b,rz,k b J' H' rr ee q⟩⟩⟩
def pK (J:Hq):PV→Option Bool
 | .non=>some false
 | .bl b=>some b
 | .int i=>some (i != 0)
 | .tup xs=>some (!xs.isEmpty)
 | .fl xs=>some (!xs.isEmpty)
 | .ref a=>match J a with
  | some (.lst xs)=>some (!xs.isEmpty)
  | some (.dct kvs _)=>some (!kvs.isEmpty)
  | _=>none
 | _=>none
theorem fk {α β:Type} {xs:List α} {ys:List β} (h:xs.length=ys.length):xs.isEmpty=ys.isEmpty:=by cases xs <;> cases ys <;> simp_all
theorem BG {K:PySem.W.Frag} {J:Hq} {H:Hp} {x:PV} {v:V} {k:Bool} (r:bI K J H x v) (hp:Rep K J H) (h:pK J x=some k):L2.C7 K v H k:=by
 cases x with
 | non=>cases r;cases h;rfl
 | bl b=>cases r;cases h;rfl
 | int i=>cases r;cases h;rfl
 | str s=>cases h
 | ty n=>cases h
 | tup xs=>obtain ⟨a,vs,rfl,h1,h2⟩:=r;cases h;exact .inr (.inl ⟨vs,h1,by rw [fk h2.length]⟩)
 | fl xs=>obtain ⟨a,vs,rfl,h1,h2⟩:=r;cases h;exact .inl ⟨vs,h1.sq,by rw [fk h2.length]⟩
 | ref a =>
  cases r
  unfold pK at h
  dsimp only at h
  cases e:J a with
  | none=>rw [e] at h;cases h
  | some o =>
   rw [e] at h
   have z:=hp a o e
   cases o with
   | lst xs=>obtain ⟨vs,h1,h2⟩:=z;cases h;exact .inl ⟨vs,.inl (.inl h1),by rw [fk h2.length]⟩
   | ins C fs=>cases h
   | tab=>cases h
   | dct kvs ep =>
    obtain ⟨gs,h1,h2⟩:=z;cases h
    refine .inr (.inr ⟨gs,ep,h1,?_⟩)
    have:=congrArg List.length h2.1
    simp only [List.length_map] at this
    rw [fk this]
def GU (te:cE):iF:=fun τ J Q=>te τ J fun x J1=>∃ k,pK J1 x=some k∧Q k J1
theorem Ez (h:RE X G e te) (he:∀ whole,isTrue e X.env whole=(do let v ← whole;standAt e.pos;holding [v] (truthy v)):=by intro _;rfl):RT X G e (GU te) :=
 ⟨G7 (L2.xS h.run he) fun σ H Q ⟨τ,J,Q2,a2,h,k⟩=>⟨τ,J,_,a2,h,fun z J' u H' rz rr ee ⟨b,eb,q⟩=>⟨b,BG rz rr eb,k b J' H' rr ee q⟩⟩⟩
def EA (t u:iF):iF:=fun τ J Q=>t τ J fun c J1=>if c=true then u τ J1 Q else Q false J1
def Ib (t u:iF):iF:=fun τ J Q=>t τ J fun c J1=>if c=true then Q true J1 else u τ J1 Q
def E9 (t:iF):iF:=fun τ J Q=>t τ J fun c J1=>Q (!c) J1
theorem dZ (ha:RT X G a tA):RT X G (.UnaryOp .Not a pos) (E9 tA):=⟨G7 (L2.se ha.run) fun σ H Q ⟨τ,J,Q2,a2,h,k⟩=>⟨τ,J,_,a2,h,fun b J' H' rr ee q=>k _ J' H' rr ee q⟩⟩
theorem dn (ha:RT X G a tA):RW X G (.BoolOp .And [a] pos) tA:=⟨L2.ly ha.run⟩
theorem gY (ha:RT X G a tA):RW X G (.BoolOp .Or [a] pos) tA:=⟨L2.oX ha.run⟩
theorem yX {σ:L2.St} {H:Hp} {Q:Bool→Hp→Prop}:LT X.K G (EA tA tB') σ H Q→L2.yz (LT X.K G tA) (LT X.K G tB') σ H Q:=fun ⟨τ,J,Q2,a2,h,k⟩ =>
 ⟨τ,J,_,a2,h,fun b J' H' rr ee q=>by
  cases b with
  | true=>simp only [if_true] at q ⊢;exact ⟨τ,J',Q2,a2.go rr ee,q,fun b J2 H2 r2 e2 q2=>k b J2 H2 r2 (ee.trans e2) q2⟩
  | false=>simp only [Bool.false_eq_true,if_false] at q ⊢;exact k _ J' H' rr ee q⟩
theorem Bb {σ:L2.St} {H:Hp} {Q:Bool→Hp→Prop}:LT X.K G (Ib tA tB') σ H Q→L2.GI (LT X.K G tA) (LT X.K G tB') σ H Q:=fun ⟨τ,J,Q2,a2,h,k⟩ =>
 ⟨τ,J,_,a2,h,fun b J' H' rr ee q=>by
  cases b with
  | false=>simp only [Bool.false_eq_true,if_false] at q ⊢;exact ⟨τ,J',Q2,a2.go rr ee,q,fun b J2 H2 r2 e2 q2=>k b J2 H2 r2 (ee.trans e2) q2⟩
  | true=>simp only [if_true] at q ⊢;exact k _ J' H' rr ee q⟩
theorem d4 (ha:RT X G a tA) (hb:RW X G (.BoolOp .And (b :: rest) pos) tB'):RW X G (.BoolOp .And (a :: b :: rest) pos) (EA tA tB'):=⟨IZ (L2.oH ha.run hb.run) fun σ H Q h=>yX h⟩
theorem iw (ha:RT X G a tA) (hb:RW X G (.BoolOp .Or (b :: rest) pos) tB'):RW X G (.BoolOp .Or (a :: b :: rest) pos) (Ib tA tB'):=⟨IZ (L2.tU ha.run hb.run) fun σ H Q h=>Bb h⟩
theorem dw (h:RW X G e tA):RT X G e tA:=⟨h.run.pt⟩
def B7 (ta tb:cE):cE:=fun τ J Q=>ta τ J fun x J1=>∃ c,x=.bl c∧if c=true then tb τ J1 Q else Q (.bl false) J1
def E1 (ta tb:cE):cE:=fun τ J Q=>ta τ J fun x J1=>∃ c,x=.bl c∧if c=true then Q (.bl true) J1 else tb τ J1 Q
def Cj (ta:cE):cE:=fun τ J Q=>ta τ J fun x J1=>∃ c,x=.bl c∧Q (.bl (!c)) J1
theorem tH {op} (h:RE X G a ta):RE X G (.BoolOp op [a] pos) ta:=⟨L2.sf h.run⟩
theorem zi (ha:RE X G a ta) (hb:RE X G (.BoolOp .And (b :: rest) pos) tb):RE X G (.BoolOp .And (a :: b :: rest) pos) (B7 ta tb):=⟨il (L2.sG ha.run hb.run) fun σ H Q ⟨τ,J,Q2,a2,h,k⟩ =>
 ⟨τ,J,_,a2,h,fun x J' v H' rx rr ee ⟨c,ec,q⟩=>by
  subst ec
  refine ⟨c,rx,?_⟩
  cases c with
  | true=>simp only [if_true] at q ⊢;exact ⟨τ,J',Q2,a2.go rr ee,q,fun z J2 u H2 rz r2 e2 q2=>k z J2 u H2 rz r2 (ee.trans e2) q2⟩
  | false=>simp only [Bool.false_eq_true,if_false] at q ⊢;exact k (.bl false) J' _ H' rfl rr ee q⟩⟩
theorem Fx (ha:RE X G a ta) (hb:RE X G (.BoolOp .Or (b :: rest) pos) tb):RE X G (.BoolOp .Or (a :: b :: rest) pos) (E1 ta tb):=⟨il (L2.yv ha.run hb.run) fun σ H Q ⟨τ,J,Q2,a2,h,k⟩ =>
 ⟨τ,J,_,a2,h,fun x J' v H' rx rr ee ⟨c,ec,q⟩=>by
  subst ec
  refine ⟨c,rx,?_⟩
  cases c with
  | false=>simp only [Bool.false_eq_true,if_false] at q ⊢;exact ⟨τ,J',Q2,a2.go rr ee,q,fun z J2 u H2 rz r2 e2 q2=>k z J2 u H2 rz r2 (ee.trans e2) q2⟩
  | true=>simp only [if_true] at q ⊢;exact k (.bl true) J' _ H' rfl rr ee q⟩⟩
theorem DJ (ha:RE X G a ta):RE X G (.UnaryOp .Not a pos) (Cj ta):=⟨il (L2.sL ha.run) fun σ H Q ⟨τ,J,Q2,a2,h,k⟩ =>
 ⟨τ,J,_,a2,h,fun x J' v H' rx rr ee ⟨c,ec,q⟩=>by subst ec;exact ⟨c,rx,k (.bl (!c)) J' _ H' rfl rr ee q⟩⟩⟩
def Jo (t:iF) (ta tb:cE):cE:=fun τ J Q=>t τ J fun c J1=>if c=true then ta τ J1 Q else tb τ J1 Q
theorem Fw (hc:RT X G c tA) (ha:RE X G a ta) (hb:RE X G b tb):RE X G (.IfExp c a b pos) (Jo tA ta tb):=⟨il (L2.lG hc.run ha.run hb.run) fun σ H Q ⟨τ,J,Q2,a2,h,k⟩ =>
 ⟨τ,J,_,a2,h,fun c J' H' rr ee q=>by
  cases c with
  | true=>simp only [if_true] at q ⊢;exact ⟨τ,J',Q2,a2.go rr ee,q,fun z J2 u H2 rz r2 e2 q2=>k z J2 u H2 rz r2 (ee.trans e2) q2⟩
  | false=>simp only [Bool.false_eq_true,if_false] at q ⊢;exact ⟨τ,J',Q2,a2.go rr ee,q,fun z J2 u H2 rz r2 e2 q2=>k z J2 u H2 rz r2 (ee.trans e2) q2⟩⟩⟩
def x4:jT:=fun _ J Q=>Q [] J
def Cy (ta:cE) (tr:jT):jT:=fun τ J Q=>ta τ J fun x J1=>tr τ J1 fun xs J2=>Q (x :: xs) J2
theorem ah:RA X G [] x4:=⟨Ih L2.bc fun σ H Q ⟨τ,J,Q2,a2,h,k⟩=>k [] J [] H rfl a2.hp .refl h⟩
theorem af (ha:RE X G e te) (hr:RA X G es t) (hs:starEach (e :: es) X.env=(false,eval e X.env) :: starEach es X.env:=by rfl):RA X G (e :: es) (Cy te t) :=
 ⟨Ih (L2.aL ha.run hr.run hs) fun σ H Q ⟨τ,J,Q2,a2,h,k⟩=>⟨τ,J,_,a2,h,fun x J' v H' rx rr ee q=>⟨τ,J',_,a2.go rr ee,q,fun xs J2 vs H2 rs r2 e2 q2=>k (x :: xs) J2 (v :: vs) H2 ⟨v,vs,rfl,e2.rep rx,rs⟩ r2 (ee.trans e2) q2⟩⟩⟩
def vP:V→PV
 | .non=>.non | .bl b=>.bl b | .int i=>.int i | .str x=>.str x | _=>.non
theorem lI {K:PySem.W.Frag} {J:Hq} {H:Hp}:∀ {es:List Expr} {vs:List V},es.map oN=vs.map some→aE K J H (vs.map vP) vs
 | [],[],_=>rfl
 | [],_ :: _,h=>by cases h
 | _ :: _,[],h=>by cases h
 | e :: es,v :: vs,h=>by
  rw [List.map_cons,List.map_cons] at h
  injection h with h1 h2
  refine ⟨v,vs,rfl,?_,lI h2⟩
  cases e with
  | Constant c j pos =>
   cases c with
   | int i=>cases h1;rfl
   | str x=>cases h1;rfl
   | bool b=>cases h1;rfl
   | _=>cases h1
  | _=>cases h1
theorem y4 {es:List Expr} (vs:List V) (h:es.map oN=vs.map some) (xs:List PV) (hx:vs.map vP=xs):RA X G es (fun _ J Q=>Q xs J) :=
 ⟨Ih (lB vs h) fun σ H Q ⟨τ,J,Q2,a2,q,k⟩=>k _ J _ H (by rw [← hx];exact lI h) a2.hp .refl q⟩
def GD (t:jT):cE:=fun τ J Q=>t τ J fun xs J1=>xs.length≤sizeLine∧Q (.tup xs) J1
theorem bS {x1} (h:RA X G es t):RE X G (.Tuple es x1 pos) (GD t):=⟨il (L2.lO h.run) fun σ H Q ⟨τ,J,Q2,a2,h,k⟩=>⟨τ,J,_,a2,h,fun xs J' vs H' rs rr ee ⟨hl,q⟩ =>
 ⟨by rw [← rs.length];exact hl,fun p hp=>by
  have sm:=aZ.new hp (.tup vs)
  have e2:=Ext.same (K:=X.K) (J:=J') sm
  exact k (.tup xs) J' (.ref p) _ ⟨p,vs,rfl,.inl (.inl ay),e2.gf rs⟩ (rr.same sm) (ee.trans e2) q⟩⟩⟩
def FA (t:jT):cE:=fun τ J Q=>t τ J fun xs J1=>xs.length≤sizeLine∧∀ p,J1 p=none→Q (.ref p) (put J1 p (.lst xs))
theorem jJ (h:RA X G es t):RE X G (.List es pos) (FA t):=⟨il (L2.gJ h.run) fun σ H Q ⟨τ,J,Q2,a2,h,k⟩=>⟨τ,J,_,a2,h,fun xs J' vs H' rs rr ee ⟨hl,q⟩ =>
 ⟨by rw [← rs.length];exact hl,fun p hp=>k (.ref p) _ (.ref p) _ rfl (rr.x6 hp rs) (ee.trans (.laid hp)) (q p (rr.free hp))⟩⟩⟩
def Jl (t:jT):cE:=fun τ J Q=>t τ J fun xs J1=>xs.length≤sizeLine∧Q (.fl xs) J1
theorem sZ {K:PySem.W.Frag} {J:Hq} {H:Hp} {xs:List PV} {vs:List V} {p:Addr} (rr:Rep K J H) (rs:aE K J H xs vs) (hp:H p=none):bI K J (upd H p (.lst vs)) (.fl xs) (.ref p)∧Rep K J (upd H p (.lst vs))∧Ext K J H J (upd H p (.lst vs)):=by
 have sm:=aZ.new hp (.lst vs)
 have e2:=Ext.same (K:=K) (J:=J) sm
 exact ⟨⟨p,vs,rfl,.inl ⟨rr.free hp,.inl ay⟩,e2.gf rs⟩,rr.same sm,e2⟩
theorem vw (h:RA X G es t):RE X G (.List es pos) (Jl t):=⟨il (L2.gJ h.run) fun σ H Q ⟨τ,J,Q2,a2,h,k⟩=>⟨τ,J,_,a2,h,fun xs J' vs H' rs rr ee ⟨hl,q⟩ =>
 ⟨by rw [← rs.length];exact hl,fun p hp=>let ⟨x1,x2,x3⟩:=sZ rr rs hp;k (.fl xs) _ (.ref p) _ x1 x2 (ee.trans x3) q⟩⟩⟩
abbrev EE:=Sr→Hq→(Option Int→Hq→Prop)→Prop
def LO (K:PySem.W.Frag) (G:G2) (t:EE):TO:=fun σ H Q=>∃ τ J Q2,pT K G τ J σ H∧t τ J Q2∧∀ b J' H',Rep K J' H'→Ext K J H J' H'→Q2 b J'→Q b H'
structure RO (X:Cx) (G:G2) (e:Option Expr) (t:EE):Prop where
 run:L2.PO X e (LO X.K G t)
theorem Jd {X:Cx} {e:Option Expr} {t t':TO} (h:L2.PO X e t) (k:∀ σ H Q,t' σ H Q→t σ H Q):L2.PO X e t':=fun pins s σ H Q I q=>h pins s σ H Q I (k _ _ _ q)
def tW:EE:=fun _ J Q=>Q none J
def Cs (t:cE):EE:=fun τ J Q=>t τ J fun x J1=>∃ i,x=.int i∧Q (some i) J1
theorem g9:RO X G none tW:=⟨Jd L2.k7 fun σ H Q ⟨τ,J,Q2,a2,h,k⟩=>k none J H a2.hp .refl h⟩
theorem hV (h:RE X G e te):RO X G (some e) (Cs te):=⟨Jd (L2.g_ h.run) fun σ H Q ⟨τ,J,Q2,a2,h,k⟩=>⟨τ,J,_,a2,h,fun x J' v H' rx rr ee ⟨i,ei,q⟩=>by subst ei;exact ⟨i,rx,k _ J' H' rr ee q⟩⟩⟩
abbrev wX:=PV→Option Int→Option Int→Hq→(PV→Hq→Prop)→Prop
def HW (X:Cx) (q:wX):Prop:=∃ r,rX X r∧∀ J H x lo hi v Q2 Q,bI X.K J H x v→Rep X.K J H→q x lo hi J Q2→Kn X.K J H Q2 Q→r v lo hi H Q
def Jv (q:wX) (te:cE) (tl th:EE):cE:=fun τ J Q=>te τ J fun x J1=>tl τ J1 fun l J2=>th τ J2 fun u J3=>q x l u J3 Q
theorem fK {lo hi:Option Expr} {tl th:EE} {q:wX} (hr:HW X q) (he:RE X G e te) (hl:RO X G lo tl) (hu:RO X G hi th):RE X G (.Subscript e (.Slice lo hi none p2) pos) (Jv q te tl th):=by
 obtain ⟨r,h,lr⟩:=hr
 exact ⟨il (L2.gE h he.run hl.run hu.run) fun σ H Q ⟨τ,J,Q2,a2,h,k⟩=>⟨τ,J,_,a2,h,fun x J' v H' rx rr ee q1=>⟨τ,J',_,a2.go rr ee,q1,fun l J2 H2 r2 e2 q2 =>
  ⟨τ,J2,_,a2.go r2 (ee.trans e2),q2,fun u J3 H3 r3 e3 q3=>lr J3 H3 x l u v Q2 Q ((e2.trans e3).rep rx) r3 q3 fun z J4 w H4 rz r4 e4 q4=>k z J4 w H4 rz r4 (((ee.trans e2).trans e3).trans e4) q4⟩⟩⟩⟩
def Hi (q:uT) (t:jT):cE:=fun τ J Q=>t τ J fun xs J1=>q xs J1 Q
theorem uF {r:List V→Hp→VK→Prop} {q:uT} (lr:Ju X.K r q):∀ σ H Q,LE X.K G (Hi q t) σ H Q→L2.Cn r (LA X.K G t) σ H Q:=fun σ H Q ⟨τ,J,Q2,a2,h,k⟩ =>
 ⟨τ,J,_,a2,h,fun xs J1 vs H1 rs r1 e1 q1=>lr J1 H1 xs vs Q2 Q rs r1 q1 fun z J' u H' rz rr ee qq=>k z J' u H' rz rr (e1.trans ee) qq⟩
theorem aO {id:String} {q:uT} (hc:DX X (.builtin id) q) (hg:Gl X x) (hm:X.mg x=none) (hv:bootBuiltins x=some (.builtin id)) (ha:RA X G (e :: es) t) (hn:x≠"__name__":=by decide) (hdb:(x == ("__debug__":Str))=false:=by decide)
  (he:starEach (e :: es) X.env=(false,eval e X.env) :: starEach es X.env:=by rfl) (hpl:(backTo pos (starEach es X.env)).any (·.1)=false:=by rfl):RE X G (.Call (.Name x p) (e :: es) [] pos) (Hi q t):=by
 obtain ⟨r,h,lr⟩:=hc
 exact ⟨il (L2.cV h hg hm hv ha.run hn hdb he hpl) (uF lr)⟩
theorem jV {T:String} {q:uT} (hc:DX X (.type T) q) (hg:Gl X x) (hm:X.mg x=none) (hv:bootBuiltins x=some (.type T)) (ha:RA X G (e :: es) t) (hn:x≠"__name__":=by decide) (hdb:(x == ("__debug__":Str))=false:=by decide)
  (he:starEach (e :: es) X.env=(false,eval e X.env) :: starEach es X.env:=by rfl) (hpl:(backTo pos (starEach es X.env)).any (·.1)=false:=by rfl):RE X G (.Call (.Name x p) (e :: es) [] pos) (Hi q t):=by
 obtain ⟨r,h,lr⟩:=hc
 exact ⟨il (L2.j_ h hg hm hv ha.run hn hdb he hpl) (uF lr)⟩
abbrev xf:=PV→List PV→Hq→(PV→Hq→Prop)→Prop
def Dx (X:Cx) (T id:String) (q:xf):Prop:=∃ r,o5 X id r∧∀ J H x xs v vs Q2 Q,bI X.K J H x v→aE X.K J H xs vs→Rep X.K J H→q x xs J Q2→Kn X.K J H Q2 Q→r v vs H Q
def EH (T:String) (J:Hq):PV→Prop
 | .str _=>T="str"
 | .fl _=>T="list"
 | .ref a=>(T="list"∧∃ xs,J a=some (.lst xs))∨(T="dict"∧∃ kvs ep,J a=some (.dct kvs ep))
 | _=>False
theorem uJ {K:PySem.W.Frag} {T:String} {J:Hq} {H:Hp} {x:PV} {v:V} (r:bI K J H x v) (hp:Rep K J H) (h:EH T J x):L2.Ha K T v H:=by
 cases x with
 | str s=>cases r;exact h
 | fl xs=>obtain ⟨a,vs,rfl,h1,h2⟩:=r;exact .inl ⟨h,vs,h1.sq⟩
 | ref a =>
  cases r
  rcases h with ⟨h,xs,e⟩ | ⟨h,kvs,ep,e⟩
  ·obtain ⟨vs,h1,_⟩:=hp _ _ e;exact .inl ⟨h,vs,.inl (.inl h1)⟩
  ·obtain ⟨gs,h1,_⟩:=hp _ _ e;exact .inr (.inr (.inl ⟨h,.inr ⟨gs,ep,h1⟩⟩))
 | _=>cases h
def Jy (T:String) (q:xf) (to:cE) (t:jT):cE:=fun τ J Q=>to τ J fun x J1=>EH T J1 x∧t τ J1 fun xs J2=>q x xs J2 Q
def Fj (T:String) (q:xf) (to:cE):cE:=fun τ J Q=>to τ J fun x J1=>EH T J1 x∧q x [] J1 Q
theorem kD {name:Str} {T id:String} {q:xf} (pa:PlainAttrs T) (slot:Slot T name id) (hty:typeOf (.builtin id)=pure (.type "method_descriptor")) (hm:Dx X T id q) (ho:RE X G o to) (ha:RA X G (e :: es) t)
  (hbase:attributeBase o name X.env (eval o X.env)=eval o X.env:=by rfl)
  (hfew:((backTo cpos (starEach (e :: es) X.env)).all (fun x=>!x.1) && (backToKw cpos (keywordEach [] X.env)).all (fun x=>x.1.isSome)
   && decide ((e :: es).length + ([]:List Keyword).length + (if ([]:List Keyword).isEmpty then 0 else 1) < 30))=true:=by rfl)
  (hline:(apos.endLine == cpos.line)=true:=by rfl) (hs:starEach (e :: es) X.env=(false,eval e X.env) :: starEach es X.env:=by rfl) (hplain:(backTo cpos (starEach es X.env)).any (·.1)=false:=by rfl) :
  RE X G (.Call (.Attribute o name apos) (e :: es) [] cpos) (Jy T q to t):=by
 obtain ⟨r,h,lr⟩:=hm
 exact ⟨il (L2.l3 pa slot hty h ho.run ha.run hbase hfew hline hs hplain) fun σ H Q ⟨τ,J,Q2,a2,h,k⟩=>⟨τ,J,_,a2,h,fun x J1 v H1 rx r1 e1 ⟨ty,q1⟩=>⟨uJ rx r1 ty,τ,J1,_,a2.go r1 e1,q1,fun xs J2 vs H2 rs r2 e2 q2 =>
  lr J2 H2 x xs v vs Q2 Q (e2.rep rx) rs r2 q2 fun z J' u H' rz rr ee qq=>k z J' u H' rz rr ((e1.trans e2).trans ee) qq⟩⟩⟩
theorem Ew {name:Str} {T id:String} {q:xf} (pa:PlainAttrs T) (slot:Slot T name id) (hty:typeOf (.builtin id)=pure (.type "method_descriptor")) (hm:Dx X T id q) (ho:RE X G o to)
  (hbase:attributeBase o name X.env (eval o X.env)=eval o X.env:=by rfl) (hline:(apos.endLine == cpos.line)=true:=by rfl):RE X G (.Call (.Attribute o name apos) [] [] cpos) (Fj T q to):=by
 obtain ⟨r,h,lr⟩:=hm
 exact ⟨il (L2.Ef pa slot hty h ho.run hbase hline) fun σ H Q ⟨τ,J,Q2,a2,h,k⟩=>⟨τ,J,_,a2,h,fun x J1 v H1 rx r1 e1 ⟨ty,q1⟩=>⟨uJ rx r1 ty,
  lr J1 H1 x [] v [] Q2 Q rx rfl r1 q1 fun z J' u H' rz rr ee qq=>k z J' u H' rz rr (e1.trans ee) qq⟩⟩⟩
end
end Ov
namespace Ov
open PySem PySem.Spec PyProof.Rows
open L2 (V HO Hp Inv Cx VK XK TE TT TA TS TG mr TI TO ik Ends p7 Loc Gl Rd RelV Vals eX rY cf l_ rX o5 ip R2 upd ay aH cg fA Sp mz It aZ cQ bj Passes lA az Meth Mk Binds aI bX aw cH fb dI)
abbrev cj:=List PV→Hq→(PV→Hq→Prop)→(Addr→Hq→Prop)→Prop
def ES (K:PySem.W.Frag) (J:Hq) (H:Hp) (E2:Addr→Hq→Prop) (E:XK):Prop:=∀ c J' H',Rep K J' H'→Ext K J H J' H'→E2 c J'→E (.ref c) none H'
def dz (K:PySem.W.Frag) (sp:cj):Sp:=fun vs H Q E=>∃ xs J Q2 E2,aE K J H xs vs∧Rep K J H∧sp xs J Q2 E2∧Kn K J H Q2 Q∧ES K J H E2 E
theorem ES.ext {K:PySem.W.Frag} {J J':Hq} {H H':Hp} {E2:Addr→Hq→Prop} {E:XK} (k:ES K J H E2 E) (e:Ext K J H J' H'):ES K J' H' E2 E:=fun c J1 H1 r x q=>k c J1 H1 r (e.trans x) q
theorem _root_.L2.aI.JR {P:Program} {w:World} {K:PySem.W.Frag} {mg:Str→Option Value} {base:Heap} {k:Nat} {f:Addr} {fd:FuncData} {ps:List Str} {sp:Sp} (F:aI P w K mg base L2.ml k f fd ps sp):aI P w K mg base (cU P w) k f fd ps sp :=
 ⟨F.len,fun A outer s H args us vs Q E hr he hb hv hs=>codeAny_mono (F.run A outer s H args us vs Q E hr he hb hv hs) fun r s' q=>by
  cases r with
  | error e=>exact False.elim q
  | ok fl=>cases fl <;> exact q⟩
theorem _root_.L2.aI.Gb {P:Program} {w:World} {K:PySem.W.Frag} {mg:Str→Option Value} {base:Heap} {k:Nat} {f:Addr} {fd:FuncData} {ps:List Str} {sp:Sp} (F:aI P w K mg base (cU P w) k f fd ps sp):aI P w K mg base L2.ml k f fd ps (fun vs H Q _=>sp vs H Q L2.E0) :=
 ⟨fun vs H Q E q=>F.len vs H Q _ q,fun A outer s H args us vs Q E hr he hb hv hs=>codeAny_mono (F.run A outer s H args us vs Q _ hr he hb hv hs) fun r s' q=>by
  cases r with
  | error e=>obtain ⟨_,_,_,_,_,z⟩:=q;exact z.elim
  | ok fl=>cases fl <;> exact q⟩
def a9 (P:Program) (w:World) (K:PySem.W.Frag) (mg:Str→Option Value) (base:Heap) (k:Nat) (x:Str) (ps:List Str) (sp:cj):Prop:=Ej P w K mg base k x ps (dz K sp)
theorem a9.imp {P:Program} {w:World} {K:PySem.W.Frag} {mg:Str→Option Value} {base:Heap} {k:Nat} {x:Str} {ps:List Str} {sp sp':cj} (C:a9 P w K mg base k x ps sp) (h:∀ xs J Q E,sp' xs J Q E→sp xs J Q E):a9 P w K mg base k x ps sp':=by
 obtain ⟨f,fd,F,r⟩:=C
 exact ⟨f,fd,F.imp fun vs H Q E ⟨xs,J,Q2,E2,a,b,c,d⟩=>⟨xs,J,Q2,E2,a,b,h _ _ _ _ c,d⟩,r⟩
theorem _root_.Ov.mB.lift {P:Program} {w:World} {K:PySem.W.Frag} {mg:Str→Option Value} {base:Heap} {k:Nat} {x:Str} {ps:List Str} {sp:Sp} (C:mB P w K mg base k x ps sp) {sp':cj}
  (h:∀ xs J vs H Q2 E2 Q E,aE K J H xs vs→Rep K J H→sp' xs J Q2 E2→Kn K J H Q2 Q→sp vs H Q E):a9 P w K mg base k x ps sp':=by
 obtain ⟨f,fd,F,r⟩:=C
 exact ⟨f,fd,(F.JR).imp fun vs H Q E ⟨xs,J,Q2,E2,a,b,c,d,_⟩=>h xs J vs H Q2 E2 Q E a b c d,r⟩
section
variable {X:Cx} {G:G2} {a b c e o value:Expr} {es rest:List Expr} {ta tb te tc to tv:cE} {tA tB':iF} {t:jT} {pos px p p2 apos cpos pos':Pos} {x:Str} {i j:Nat} {E:XK} {E2:Addr→Hq→Prop}
structure zV (X:Cx) (G:G2) (E2:Addr→Hq→Prop) (E:XK):Prop where
 pass:Passes (cU X.prog X.w) X E
 kn:ES X.K G.1 G.2 E2 E
def CA (sp:cj) (E2:Addr→Hq→Prop) (t:jT):cE:=fun τ J Q=>t τ J fun xs J1=>sp xs J1 Q E2
theorem aP {k k':Nat} {ps:List Str} {sp:cj} (C:a9 X.prog X.w X.K X.mg X.base k x ps sp) (B:zV X G E2 E) (hr:bj k' X.A) (hk:k≤k') (hg:Gl X x) (ha:RA X G (e :: es) t)
  (hdb:(x == ("__debug__":Str))=false:=by decide) (he:starEach (e :: es) X.env=(false,eval e X.env) :: starEach es X.env:=by rfl) (hpl:(backTo pos (starEach es X.env)).any (·.1)=false:=by rfl) :
  RE X G (.Call (.Name x p) (e :: es) [] pos) (CA sp E2 t) :=
 ⟨il (AH C B.pass hr hk hg ha.run hdb he hpl) fun σ H Q ⟨τ,J,Q2,a2,h,k⟩=>⟨τ,J,_,a2,h,fun xs J1 vs H1 rs r1 e1 q1=>by
  simp only [List.append_nil]
  exact ⟨xs,J1,Q2,E2,rs,r1,q1,fun z J' u H' rz rr ee qq=>k z J' u H' rz rr (e1.trans ee) qq,B.kn.ext (a2.ext.trans e1)⟩⟩⟩
def G1 (C:Addr) (ta:cE) (f:Str):cE:=fun τ J Q=>ta τ J fun x J1=>∃ a fs v,x=.ref a∧J1 a=some (.ins C fs)∧fs.lookup f=some v∧Q v J1
theorem aR {C:Addr} {f:Str} (cl:lA X.K C) (na:az X.K C f) (he:RE X G e ta) (hb:attributeBase e f X.env (eval e X.env)=eval e X.env:=by rfl):RE X G (.Attribute e f pos) (G1 C ta f) :=
 ⟨il (L2.Ey he.run hb) fun σ H Q ⟨τ,J,Q2,a2,h,k⟩=>⟨τ,J,_,a2,h,fun x J1 v H1 rx r1 e1 ⟨a,fs,y,ex,ja,lk,q⟩=>by
  subst ex;cases rx
  obtain ⟨dx,gs,ha,rf⟩:=r1 _ _ ja
  obtain ⟨w,lw,rw'⟩:=rf.look lk
  exact ⟨a,C,dx,gs,w,rfl,ha,cl,na,lw,k y J1 w H1 rw' r1 e1 q⟩⟩⟩
structure cP (P:Program) (w:World) (K:PySem.W.Frag) (mg:Str→Option Value) (base:Heap) (C:Addr) (k:Nat) (m:Str) (ps:List Str) (sp:cj):Prop where
 cl:lA K C
 ex:∃ f fd,Meth K C m f∧aI P w K mg base (cU P w) k f fd ps (dz K sp)∧Binds K fd ps []
theorem cP.imp {P:Program} {w:World} {K:PySem.W.Frag} {mg:Str→Option Value} {base:Heap} {C:Addr} {k:Nat} {m:Str} {ps:List Str} {sp sp':cj} (M:cP P w K mg base C k m ps sp) (h:∀ xs J Q E,sp' xs J Q E→sp xs J Q E):cP P w K mg base C k m ps sp':=by
 obtain ⟨cl,f,fd,hm,F,r⟩:=M
 exact ⟨cl,f,fd,hm,F.imp fun vs H Q E ⟨xs,J,Q2,E2,a,b,c,d⟩=>⟨xs,J,Q2,E2,a,b,h _ _ _ _ c,d⟩,r⟩
def Bw (C:Addr) (m:Str) (sp:cj) (E2:Addr→Hq→Prop) (ta:cE) (t:jT):cE:=fun τ J Q=>ta τ J fun x J1=>∃ a fs,x=.ref a∧J1 a=some (.ins C fs)∧fs.lookup m=none∧t τ J1 fun xs J2=>sp (x :: xs) J2 Q E2
theorem qF {C:Addr} {m:Str} {sp:cj} (B:zV X G E2 E):∀ σ H Q,LE X.K G (Bw C m sp E2 to t) σ H Q→L2.zy C m (dz X.K sp) [] E (LE X.K G to) (LA X.K G t) σ H Q:=fun σ H Q ⟨τ,J,Q2,a2,h,k⟩ =>
 ⟨τ,J,_,a2,h,fun x J1 v H1 rx r1 e1 ⟨a,fs,ex,ja,lk,q⟩=>by
  subst ex;cases rx
  obtain ⟨dx,gs,ha,rf⟩:=r1 _ _ ja
  refine ⟨a,dx,gs,rfl,ha,rf.none lk,τ,J1,_,a2.go r1 e1,q,fun xs J2 vs H2 rs r2 e2 q2=>?_⟩
  simp only [List.append_nil]
  exact ⟨.ref a :: xs,J2,Q2,E2,⟨.ref a,vs,rfl,rfl,rs⟩,r2,q2,fun z J' u H' rz rr ee qq=>k z J' u H' rz rr ((e1.trans e2).trans ee) qq,B.kn.ext ((a2.ext.trans e1).trans e2)⟩⟩
theorem ba {C:Addr} {m:Str} {k k':Nat} {ps:List Str} {sp:cj} {pl:Sem Bool} (M:cP X.prog X.w X.K X.mg X.base C k m ps sp) (B:zV X G E2 E) (hr:bj k' X.A) (hk:k≤k') (ho:RE X G o to) (ha:RA X G (e :: es) t)
  (hst:starEach (e :: es) X.env=(false,eval e X.env) :: starEach es X.env:=by rfl) (hpl:(backTo pos (starEach es X.env)).any (·.1)=false:=by rfl)
  (ht:eval (.Call (.Attribute o m apos) (e :: es) [] pos) X.env=(do
   let ov ← eval o X.env
   standAt apos.atName
   let (f,first) ← holding [ov] (getMethod ov m pl)
   callWith pos f first (backTo pos (starEach (e :: es) X.env)) (backToKw pos (keywordEach [] X.env))):=by rfl) :
  RE X G (.Call (.Attribute o m apos) (e :: es) [] pos) (Bw C m sp E2 to t):=by
 obtain ⟨cl,f,fd,hm,F,b⟩:=M
 exact ⟨il (L2.AN (pl:=pl) ho.run cl hm F (hr.mono hk) b .nil B.pass ha.run hst hpl ht) (qF B)⟩
theorem eZ {C:Addr} {m:Str} {k k':Nat} {ps:List Str} {sp:cj} {pl:Sem Bool} (M:cP X.prog X.w X.K X.mg X.base C k m ps sp) (B:zV X G E2 E) (hr:bj k' X.A) (hk:k≤k') (ho:RE X G o to)
  (ht:eval (.Call (.Attribute o m apos) [] [] pos) X.env=(do
   let ov ← eval o X.env
   standAt apos.atName
   let (f,first) ← holding [ov] (getMethod ov m pl)
   callWith pos f first (backTo pos (starEach [] X.env)) (backToKw pos (keywordEach [] X.env))):=by rfl) :
  RE X G (.Call (.Attribute o m apos) [] [] pos) (Bw C m sp E2 to x4):=by
 obtain ⟨cl,f,fd,hm,F,b⟩:=M
 refine ⟨il (L2.x9 (pl:=pl) ho.run cl hm F (hr.mono hk) b .nil B.pass ht) fun σ H Q h=>?_⟩
 have z:=qF B σ H Q h
 obtain ⟨τ,J,Q2,a2,h1,k1⟩:=z
 refine ⟨τ,J,Q2,a2,h1,fun x J1 v H1 rx r1 e1 q1=>?_⟩
 obtain ⟨a,dx,fs,h2,h3,h4,τ',J',Q',a2',h5,k5⟩:=k1 x J1 v H1 rx r1 e1 q1
 exact ⟨a,dx,fs,h2,h3,h4,k5 [] J' [] H1 rfl a2'.hp .refl h5⟩
structure wY (P:Program) (w:World) (K:PySem.W.Frag) (mg:Str→Option Value) (base:Heap) (C:Addr) (k:Nat) (x:Str) (ps:List Str) (sp:cj):Prop where
 m:mg x=some (.ref C)
 ex:∃ f fd,Mk K C f∧aI P w K mg base (cU P w) k f fd ps (dz K sp)∧Binds K fd ps []
def AW (C:Addr) (sp:cj) (E2:Addr→Hq→Prop) (t:jT):cE:=fun τ J Q=>t τ J fun xs J1=>∀ a,J1 a=none→sp (.ref a :: xs) (put J1 a (.ins C [])) (fun v J2=>v=.non∧Q (.ref a) J2) E2
theorem rq {C:Addr} {sp:cj} (B:zV X G E2 E):∀ σ H Q,LE X.K G (AW C sp E2 t) σ H Q→L2.zC C (dz X.K sp) [] E (LA X.K G t) σ H Q:=fun σ H Q ⟨τ,J,Q2,a2,h,k⟩ =>
 ⟨τ,J,_,a2,h,fun xs J1 vs H1 rs r1 e1 q1 x dx hx hdx ne=>by
  have s1:=aZ.new hdx (.own x)
  have hx':upd H1 dx (.own x) x=none:=by rw [aH (Ne.symm ne)];exact hx
  have r2:=r1.same s1
  have e2:Ext X.K J1 H1 (put J1 x (.ins C [])) (upd (upd H1 dx (.own x)) x (.ins C dx [])):=(Ext.same s1).trans (.laid hx')
  have r3:Rep X.K (put J1 x (.ins C [])) (upd (upd H1 dx (.own x)) x (.ins C dx [])):=r2.wW (.laid hx') x (fun a ne=>au ne) (fun a o ne _ z=>by rw [aH ne];exact z) fun u z=>by
   rw [av] at z;cases z
   exact ⟨dx,[],ay,rfl,rfl⟩
  simp only [List.append_nil]
  refine ⟨.ref x :: xs,_,_,E2,⟨.ref x,vs,rfl,rfl,e2.gf rs⟩,r3,q1 x (r1.free hx),fun z J' u H' rz rr ee ⟨ez,qq⟩=>?_,B.kn.ext ((a2.ext.trans e1).trans e2)⟩
  subst ez
  exact ⟨rz,k (.ref x) J' (.ref x) H' rfl rr ((e1.trans e2).trans ee) qq⟩⟩
theorem Aw {C:Addr} {k k':Nat} {ps:List Str} {sp:cj} (M:wY X.prog X.w X.K X.mg X.base C k x ps sp) (B:zV X G E2 E) (hr:bj k' X.A) (hk:k + 1≤k') (hg:Gl X x) (ha:RA X G (e :: es) t)
  (hdb:(x == ("__debug__":Str))=false:=by decide) (he:starEach (e :: es) X.env=(false,eval e X.env) :: starEach es X.env:=by rfl) (hpl:(backTo pos (starEach es X.env)).any (·.1)=false:=by rfl) :
  RE X G (.Call (.Name x p) (e :: es) [] pos) (AW C sp E2 t):=by
 obtain ⟨hm,f,fd,mk,F,b⟩:=M
 exact ⟨il (L2.AE mk F (hr.mono hk) hg hm b .nil B.pass ha.run hdb he hpl) (rq B)⟩
theorem qj {C:Addr} {k k':Nat} {ps:List Str} {sp:cj} (M:wY X.prog X.w X.K X.mg X.base C k x ps sp) (B:zV X G E2 E) (hr:bj k' X.A) (hk:k + 1≤k') (hg:Gl X x)
  (hdb:(x == ("__debug__":Str))=false:=by decide):RE X G (.Call (.Name x p) [] [] pos) (AW C sp E2 x4):=by
 obtain ⟨hm,f,fd,mk,F,b⟩:=M
 refine ⟨il (L2.zh mk F (hr.mono hk) hg hm b .nil B.pass hdb) fun σ H Q h=>?_⟩
 obtain ⟨τ,J,Q2,a2,h1,k1⟩:=rq (t:=x4) B σ H Q h
 exact k1 [] J [] H rfl a2.hp .refl h1
end
section
variable {X:Cx} {G:G2} {st:Stmt} {rest:List Stmt} {t u:gw} {e tg o value:Expr} {es:List Expr} {te ta tv:cE} {tc:iF} {pos pos':Pos}
def nH:gw:=fun D τ J=>D.nx τ J
def cm (t u:gw):gw:=fun D τ J=>t { D with nx:=u D } τ J
theorem aJ:RB X G [] nH:=⟨HP L2.d_ fun D σ H ⟨τ,J,D2,a2,h,g⟩=>g.nx τ J σ H a2.sl a2.hp .refl h⟩
theorem ai (h1:RS X G st t) (h2:RB X G rest u):RB X G (st :: rest) (cm t u):=⟨HP (L2.aM h1.run h2.run) fun D σ H ⟨τ,J,D2,a2,h,g⟩=>⟨τ,J,{ D2 with nx:=u D2 },a2,h,
 { nx:=fun τ' J' σ' H' rs rr ee q=>⟨τ',J',D2,⟨rs,rr,a2.ext.trans ee⟩,q,g.ext ee⟩,rt:=g.rt,bk:=g.bk,ct:=g.ct }⟩⟩
theorem aq (h1:RS X G st t):RB X G [st] t:=⟨L2.bh h1.run⟩
def AY (t u:gw):gw:=fun D τ J=>∃ M:Sr→Hq→Prop,t { D with nx:=M } τ J∧∀ τ' J',M τ' J'→u D τ' J'
theorem dk (h1:RS X G st t) (h2:RB X G rest u):RB X G (st :: rest) (AY t u):=⟨HP (L2.aM h1.run h2.run) fun D σ H ⟨τ,J,D2,a2,⟨M,h,hm⟩,g⟩=>⟨τ,J,{ D2 with nx:=M },a2,h,
 { nx:=fun τ' J' σ' H' rs rr ee q=>⟨τ',J',D2,⟨rs,rr,a2.ext.trans ee⟩,hm _ _ q,g.ext ee⟩,rt:=g.rt,bk:=g.bk,ct:=g.ct }⟩⟩
def Ig:gw:=fun D τ J=>D.bk τ J
def IP:gw:=fun D τ J=>D.ct τ J
def Cd (te:cE):gw:=fun D τ J=>te τ J fun _ J1=>D.nx τ J1
theorem a8 (he:RE X G e te) (hs:swapsWith e none pos.line X.env=pure false:=by rfl):RS X G (.Expr e pos) (Cd te):=⟨tQ (L2.g7 he.run hs) fun D σ H ⟨τ,J,D2,a2,h,g⟩ =>
 ⟨τ,J,_,a2,h,fun x J' v H' rx rr ee q=>g.nx τ J' σ H' (a2.sl.ext ee) rr ee q⟩⟩
def F1 (te:cE):gw:=fun D τ J=>te τ J D.rt
theorem aB (he:RE X G e te):RS X G (.Return (some e) pos) (F1 te):=⟨tQ (L2.cT he.run) fun D σ H ⟨τ,J,D2,a2,h,g⟩=>⟨τ,J,_,a2,h,fun x J' v H' rx rr ee q=>g.rt x J' v H' rx rr ee q⟩⟩
def Ck:gw:=fun D _ J=>D.rt .non J
theorem AS:RS X G (.Return none pos) Ck:=⟨tQ L2.pE fun D σ H ⟨τ,J,D2,a2,h,g⟩=>g.rt .non J .non H rfl a2.hp .refl h⟩
def wu (c:iF) (t u:gw):gw:=fun D τ J=>c τ J fun b J1=>if b=true then t D τ J1 else u D τ J1
theorem aU {c:Expr} {a b:List Stmt} (hc:RT X G c tc) (ha:RB X G a t) (hb:RB X G b u):RS X G (.If c a b pos) (wu tc t u):=⟨tQ (L2.jg hc.run ha.run hb.run) fun D σ H ⟨τ,J,D2,a2,h,g⟩ =>
 ⟨τ,J,_,a2,h,fun c J' H' rr ee q=>by
  cases c with
  | true=>simp only [if_true] at q ⊢;exact ⟨τ,J',D2,a2.go rr ee,q,g.ext ee⟩
  | false=>simp only [Bool.false_eq_true,if_false] at q ⊢;exact ⟨τ,J',D2,a2.go rr ee,q,g.ext ee⟩⟩⟩
abbrev sH:=PV→Sr→Hq→(Sr→Hq→Prop)→Prop
abbrev qO:=List PV→Sr→Hq→(Sr→Hq→Prop)→Prop
def LG (K:PySem.W.Frag) (G:G2) (t:sH):TG:=fun v σ H Q=>∃ x τ J Q2,bI K J H x v∧pT K G τ J σ H∧t x τ J Q2∧∀ τ' J' σ' H',iO K J' H' τ' σ'→Rep K J' H'→Ext K J H J' H'→Q2 τ' J'→Q σ' H'
def JJ (K:PySem.W.Frag) (G:G2) (t:qO):mr:=fun vs σ H Q=>∃ xs τ J Q2,aE K J H xs vs∧pT K G τ J σ H∧t xs τ J Q2∧∀ τ' J' σ' H',iO K J' H' τ' σ'→Rep K J' H'→Ext K J H J' H'→Q2 τ' J'→Q σ' H'
structure RG (X:Cx) (G:G2) (e:Expr) (t:sH):Prop where
 run:L2.PG X e (LG X.K G t)
structure G_ (X:Cx) (G:G2) (es:List Expr) (t:qO):Prop where
 run:L2.CS X es (JJ X.K G t)
theorem Hk {X:Cx} {e:Expr} {t t':TG} (h:L2.PG X e t) (k:∀ v σ H Q,t' v σ H Q→t v σ H Q):L2.PG X e t':=fun pins s σ H v u Q I r q=>h pins s σ H v u Q I r (k _ _ _ _ q)
theorem FG {X:Cx} {e:List Expr} {t t':mr} (h:L2.CS X e t) (k:∀ v σ H Q,t' v σ H Q→t v σ H Q):L2.CS X e t':=fun pins s σ H v u Q I r q=>h pins s σ H v u Q I r (k _ _ _ _ q)
def D7 (i:Nat):sH:=fun x τ J Q=>Q (τ.set i (some x)) J
theorem bt {i:Nat} {x:Str} (hN:X.N.Nodup) (hi:X.N[i]?=some x) (hx:Loc X.env.scope x) (hf:X.fn x=true∨X.env.scope.names.lookup x=some .local:=by first | exact .inl rfl | exact .inr rfl | assumption):RG X G (.Name x pos) (D7 i) :=
 ⟨Hk (L2.g6 hN hi hx hf) fun v σ H Q ⟨x,τ,J,Q2,rx,a2,q,k⟩=>k _ J _ H (a2.sl.set i rx) a2.hp .refl q⟩
def Jt:qO:=fun vs τ J Q=>vs=[]∧Q τ J
def IT (t:sH) (u:qO):qO:=fun vs τ J Q=>∃ v r,vs=v :: r∧t v τ J fun τ' J'=>u r τ' J' Q
theorem jA:G_ X G [] Jt:=⟨FG L2.o4 fun vs σ H Q ⟨xs,τ,J,Q2,rs,a2,⟨e,q⟩,k⟩=>by subst e;exact ⟨rs,k τ J σ H a2.sl a2.hp .refl q⟩⟩
theorem cb {e:Expr} {es:List Expr} {t:sH} {u:qO} (h1:RG X G e t) (h2:G_ X G es u)
  (hs:(assignEach (e :: es) X.env).map (·.2)=assign e X.env :: (assignEach es X.env).map (·.2):=by rfl):G_ X G (e :: es) (IT t u):=⟨FG (L2.lH h1.run h2.run hs) fun vs σ H Q ⟨xs,τ,J,Q2,rs,a2,⟨y,r,e,q⟩,k⟩=>by
 subst e
 obtain ⟨v,us,rfl,rv,ru⟩:=rs
 exact ⟨v,us,rfl,y,τ,J,_,rv,a2,q,fun τ' J' σ' H' rs' rr ee q'=>⟨r,τ',J',Q2,ee.gf ru,⟨rs',rr,a2.ext.trans ee⟩,q',fun τ2 J2 σ2 H2 rs2 rr2 ee2 q2=>k τ2 J2 σ2 H2 rs2 rr2 (ee.trans ee2) q2⟩⟩⟩
def IV (n:Nat) (t:qO):sH:=fun x τ J Q=>∃ xs,x=.tup xs∧xs.length=n∧t xs τ J Q
theorem lX {k:Nat} {t:qO} {n:Nat} (hc:X.calm=true) (h:G_ X G es t)
  (hn:(assignEach es X.env).length=n:=by rfl) (hst:(assignEach es X.env).findIdx? (·.1)=none:=by rfl):RG X G (.Tuple es k pos) (IV n t):=⟨Hk (L2.tG hc h.run hn hst) fun v σ H Q ⟨x,τ,J,Q2,rx,a2,⟨xs,e,l,q⟩,k⟩=>by
 subst e
 obtain ⟨a,vs,rfl,h1,h2⟩:=rx
 exact ⟨a,vs,rfl,h1,by rw [← h2.length];exact l,xs,τ,J,Q2,h2,a2,q,k⟩⟩
def p6 (te:cE) (g:sH):gw:=fun D τ J=>te τ J fun x J1=>g x τ J1 D.nx
theorem o_ {tg e:Expr} {g:sH} (he:RE X G e te) (hg:RG X G tg g) (hs:swapsWithSole [tg] e pos.line X.env=pure false:=by rfl) (hw:swappedStores [tg] e X.env=pure none:=by rfl)
  (h1:(assignEach [tg] X.env).map (·.2)=[assign tg X.env]:=by rfl):RS X G (.Assign [tg] e pos) (p6 te g):=⟨tQ (L2.ou he.run hg.run hs hw h1) fun D σ H ⟨τ,J,D2,a2,h,g⟩ =>
 ⟨τ,J,_,a2,h,fun x J' v H' rx rr ee q=>⟨x,τ,J',_,rx,a2.go rr ee,q,fun τ' J2 σ' H2 rs r2 e2 q2=>g.nx τ' J2 σ' H2 rs r2 (ee.trans e2) q2⟩⟩⟩
theorem aG {i:Nat} {x:Str} {pos':Pos} (hN:X.N.Nodup) (hi:X.N[i]?=some x) (hx:Loc X.env.scope x) (he:RE X G e te) (hs:swapsWith e (some (.Name x pos')) pos.line X.env=pure false:=by rfl) (hf:X.fn x=true∨X.env.scope.names.lookup x=some .local:=by first | exact .inl rfl | exact .inr rfl | assumption) :
  RS X G (.Assign [.Name x pos'] e pos) (p6 te (D7 i)):=⟨tQ (L2.b7 hN hi hx he.run hs hf) fun D σ H ⟨τ,J,D2,a2,h,g⟩ =>
 ⟨τ,J,_,a2,h,fun x J' v H' rx rr ee q=>g.nx _ J' _ H' ((a2.sl.ext ee).set i rx) rr ee q⟩⟩
def Gn (i j:Nat) (ta:jT):gw:=fun D τ J=>ta τ J fun vs J1=>∃ v w,vs=[v,w]∧D.nx ((τ.set i (some v)).set j (some w)) J1
theorem Ea {i j:Nat} {x y:Str} {a b:Expr} {ta:jT} {px py pt:Pos} {kt k2 pt2} (hc:X.calm=true) (hN:X.N.Nodup) (hi:X.N[i]?=some x) (hj:X.N[j]?=some y) (hij:i≠j)
  (hx:X.env.scope.names.lookup x=some .local) (hy:X.env.scope.names.lookup y=some .local) (ha:RA X G [a,b] ta)
  (hw:swappedStores [.Tuple [.Name x px,.Name y py] kt pt] (.Tuple [a,b] k2 pt2) X.env=pure (some [x,y]))
  (hs:swapsWithSole [.Tuple [.Name x px,.Name y py] kt pt] (.Tuple [a,b] k2 pt2) pos.line X.env=pure false:=by rfl) :
  RS X G (.Assign [.Tuple [.Name x px,.Name y py] kt pt] (.Tuple [a,b] k2 pt2) pos) (Gn i j ta):=⟨tQ (L2.j1 hc hN hi hj hij hx hy ha.run hw hs) fun D σ H ⟨τ,J,D2,a2,h,g⟩ =>
 ⟨τ,J,_,a2,h,fun xs J' vs H' rs rr ee ⟨v,w,e,q⟩=>by
  subst e
  obtain ⟨v',us,rfl,rv,w',us',rfl,rw',e'⟩:=rs
  cases e'
  exact ⟨v',w',rfl,g.nx _ J' _ H' (((a2.sl.ext ee).set i rv).set j rw') rr ee q⟩⟩⟩
def jW (f:Str) (v:PV):List (Str × PV)→List (Str × PV)
 | []=>[(f,v)]
 | (g,w) :: r=>if g=f then (g,v) :: r else (g,w) :: jW f v r
theorem qJ {K:PySem.W.Frag} {J:Hq} {H:Hp} {f:Str} {y:PV} {v:V} (r:bI K J H y v):∀ {fs:List (Str × PV)} {gs:List (Str × V)},iN K J H fs gs→iN K J H (jW f y fs) (dI f v gs)
 | [],[],_=>⟨rfl,v,[],rfl,r,rfl⟩
 | [],_ :: _,h=>by cases h.1
 | _ :: _,[],h=>by cases h.1
 | (k,y') :: fs,(k',w) :: gs,h=>by
  obtain ⟨h1,v',us,h2,h3,h4⟩:=h
  simp only [List.map_cons,List.cons.injEq] at h1 h2
  obtain ⟨rfl,h1⟩:=h1
  obtain ⟨rfl,rfl⟩:=h2
  unfold jW L2.dI
  by_cases hk:k=f
  ·rw [if_pos hk,if_pos hk]
   exact ⟨by simp only [List.map_cons,h1],v,_,rfl,r,h4⟩
  ·rw [if_neg hk,if_neg hk]
   obtain ⟨z1,z2⟩:=qJ (f:=f) r (⟨h1,h4⟩:iN K J H fs gs)
   exact ⟨by simp only [List.map_cons,z1],w,_,rfl,h3,z2⟩
def CH (C:Addr) (ta tv:cE) (f:Str):gw:=fun D τ J=>tv τ J fun y J1=>ta τ J1 fun x J2=>∃ a fs,x=.ref a∧J2 a=some (.ins C fs)∧fs.length < 1000∧D.nx τ (put J2 a (.ins C (jW f y fs)))
theorem Ext.Ep {K:PySem.W.Frag} {J:Hq} {H:Hp} {p C dx:Addr} {fs gs:List (Str × PV)} {fs' gs':List (Str × V)} (h:J p=some (.ins C fs)) (k:H p=some (.ins C dx fs')):Ext K J H (put J p (.ins C gs)) (upd H p (.ins C dx gs')):=by
 have sm:∀ a u,a≠p→Rd H a u→Rd (upd H p (.ins C dx gs')) a u:=fun a u ne z=>by
  rcases z with z | ⟨o,z⟩
  ·exact .inl (by rw [aH ne];exact z)
  ·exact .inr ⟨o,by rw [aH ne];exact z⟩
 have nn:∀ a u,(∀ c d l,u≠HO.ins c d l)→Rd H a u→a≠p:=fun a u d z e=>by
  subst e
  rcases z with z | ⟨o,z⟩
  ·rw [k] at z;cases z;exact d _ _ _ rfl
  ·rw [k] at z;cases z
 refine ⟨fun a vs' z=>?_,fun a o z q _=>?_⟩
 ·rcases z with z | z
  ·exact .inl (sm a _ (nn a (.tup vs') (fun _ _ _ e=>nomatch e) z) z)
  ·exact .inr z
 ·have ne:a≠p:=by intro e;subst e;rw [h] at z;cases z
  exact ⟨by rw [au ne];exact z,by rw [aH ne];exact q⟩
theorem fB {C:Addr} {f:Str} (cl:lA X.K C) (na:az X.K C f) (ha:RE X G o ta) (hv:RE X G value tv) (hs:swapsWith value (some (.Attribute o f pos')) pos.line X.env=pure false:=by rfl):RS X G (.Assign [.Attribute o f pos'] value pos) (CH C ta tv f) :=
 ⟨tQ (L2.EC ha.run hv.run hs) fun D σ H ⟨τ,J,D2,a2,h,g⟩=>⟨τ,J,_,a2,h,fun y J1 v H1 ry r1 e1 q1=>⟨τ,J1,_,a2.go r1 e1,q1,fun x J2 w H2 rx r2 e2 ⟨a,fs,ex,ja,hl,q2⟩=>by
  subst ex;cases rx
  obtain ⟨dx,gs,h2,rf⟩:=r2 _ _ ja
  have ll:gs.length=fs.length:=by have:=congrArg List.length rf.1;simpa using this.symm
  have e3:=Ext.Ep (K:=X.K) (gs:=jW f y fs) (gs':=dI f v gs) ja h2
  refine ⟨a,C,dx,gs,rfl,h2,cl,na,by omega,g.nx τ _ σ _ (((a2.sl.ext e1).ext e2).ext e3) ?_ ((e1.trans e2).trans e3) q2⟩
  refine r2.wW e3 a (fun b ne=>au ne) (fun b o ne _ z=>by rw [aH ne];exact z) fun u z=>?_
  rw [av] at z;cases z
  exact ⟨dx,_,ay,e3.p8 (qJ (e2.rep ry) rf)⟩⟩⟩⟩
def DR (c:iF) (tb:gw):gw:=fun D τ J=>∃ W:Nat→Sr→Hq→Prop,(∃ m,W m τ J)∧∀ m τ J,W m τ J →
 c τ J fun b J1=>if b=true then ∃ N:Sr→Hq→Prop,(∀ τ' J',N τ' J'→∃ m',m' < m∧W m' τ' J')∧tb { D with nx:=N,ct:=N,bk:=D.nx } τ J1 else D.nx τ J1
theorem i6 {c:Expr} {body:List Stmt} {tb:gw} (hp:PassesOwn (model X.prog X.w) X.A X.env X.xe) (hc:RT X G c tc) (hb:RB X G body tb):RS X G (.While c body [] pos) (DR tc tb):=⟨tQ (L2.gC hp hc.run hb.run) fun D σ H ⟨τ,J,D2,a2,⟨W,⟨m0,w0⟩,h⟩,g⟩=>by
 refine ⟨fun m σ' H'=>∃ τ' J',pT X.K G τ' J' σ' H'∧Ext X.K J H J' H'∧W m τ' J',⟨m0,τ,J,a2,.refl,w0⟩,fun m σ1 H1 ⟨τ1,J1,a1,e1,w1⟩=>?_⟩
 refine ⟨τ1,J1,_,a1,h m τ1 J1 w1,fun b J2 H2 r2 e2 q=>?_⟩
 cases b with
 | false=>simp only [Bool.false_eq_true,if_false] at q ⊢;exact g.nx τ1 J2 σ1 H2 (a1.sl.ext e2) r2 (e1.trans e2) q
 | true =>
  simp only [if_true] at q ⊢
  obtain ⟨N,hN,q⟩:=q
  refine ⟨fun σ' H'=>∃ τ' J',pT X.K G τ' J' σ' H'∧Ext X.K J H J' H'∧N τ' J',fun σ' H' ⟨τ',J',a',e',n'⟩=>let ⟨m',lt,w'⟩:=hN τ' J' n';⟨m',lt,τ',J',a',e',w'⟩,τ1,J2,{ D2 with nx:=N,ct:=N,bk:=D2.nx },a1.go r2 e2,q,?_⟩
  have ge:=g.ext (e1.trans e2)
  exact { nx:=fun τ' J' σ' H' rs rr ee q=>⟨τ',J',⟨rs,rr,(a1.ext.trans e2).trans ee⟩,(e1.trans e2).trans ee,q⟩,rt:=ge.rt,bk:=ge.nx,ct:=fun τ' J' σ' H' rs rr ee q=>⟨τ',J',⟨rs,rr,(a1.ext.trans e2).trans ee⟩,(e1.trans e2).trans ee,q⟩ }⟩
structure sJ where
 xs:List PV
 ok:Hq→Prop
structure nO (K:PySem.W.Frag) (it:sJ) (I:It) (J:Hq) (H:Hp):Prop where
 go:∀ J' H',Ext K J H J' H'→Rep K J' H'→it.ok J'→∀ i,i < it.xs.length→I.go i H'
 yl:∀ J' H',Ext K J H J' H'→Rep K J' H'→it.ok J'→∀ i,i < it.xs.length→∀ v H2,I.yld i H' v H2→∃ x,it.xs[i]?=some x∧bI K J' H2 x v∧Rep K J' H2∧Ext K J' H' J' H2
 stop:∀ J' H',Ext K J H J' H'→Rep K J' H'→it.ok J'→I.stop it.xs.length H'
abbrev mO:=Sr→Hq→(sJ→Hq→Prop)→Prop
def LI (K:PySem.W.Frag) (G:G2) (t:mO):TI:=fun σ H R=>∃ τ J R2,pT K G τ J σ H∧t τ J R2∧∀ it J' I H',nO K it I J' H'→Rep K J' H'→Ext K J H J' H'→R2 it J'→R I H'
structure RI (X:Cx) (G:G2) (tg e:Expr) (t:mO):Prop where
 run:L2.PI X tg e (LI X.K G t)
theorem EO {X:Cx} {tg e:Expr} {t t':TI} (h:L2.PI X tg e t) (k:∀ σ H Q,t' σ H Q→t σ H Q):L2.PI X tg e t':=fun pins s σ H Q I q=>h pins s σ H Q I (k _ _ _ q)
def FJ (wi:mO) (g:sH) (tb:gw):gw:=fun D τ J=>wi τ J fun it J1=>∃ Pv:Nat→Sr→Hq→Prop,Pv 0 τ J1∧(∀ i τ J,Pv i τ J→it.ok J) ∧
 (∀ i x τ J,it.xs[i]?=some x→Pv i τ J→g x τ J fun τ2 J2=>tb { D with nx:=Pv (i + 1),ct:=Pv (i + 1),bk:=D.nx } τ2 J2)∧∀ τ J,Pv it.xs.length τ J→D.nx τ J
theorem eL {iter:Expr} {body:List Stmt} {wi:mO} {g:sH} {tb:gw} {pos:Pos} (hp:PassesOwn (model X.prog X.w) X.A X.env X.xe) (hc:X.calm=true) (hi:RI X G tg iter wi) (hg:RG X G tg g) (hb:RB X G body tb)
  (hs:∀ x,foldedSetIterable iter X.env x=pure x:=by intro _;rfl):RS X G (.For tg iter body [] pos) (FJ wi g tb):=⟨tQ (L2.j5 hp hc hi.run hg.run hb.run hs) fun D σ H ⟨τ,J,D2,a2,h,g⟩=>by
 refine ⟨τ,J,_,a2,h,fun it J1 I H1 ir r1 e1 ⟨Pv,p0,pok,step,fin⟩=>?_⟩
 refine ⟨fun i m σ' H'=>m=it.xs.length - i∧i≤it.xs.length∧∃ τ' J',pT X.K G τ' J' σ' H'∧Ext X.K J1 H1 J' H'∧Pv i τ' J',⟨_,rfl,Nat.zero_le _,τ,J1,a2.go r1 e1,.refl,p0⟩,?_⟩
 rintro i m σ2 H2 ⟨rfl,hil,τ2,J2,a3,e3,p3⟩
 by_cases hlt:i < it.xs.length
 ·refine .inr ⟨ir.go J2 H2 e3 a3.hp (pok _ _ _ p3) i hlt,fun σ' H'=>∃ τ' J',pT X.K G τ' J' σ' H'∧Ext X.K J1 H1 J' H'∧Pv (i + 1) τ' J',fun σ' H' z=>⟨_,by omega,rfl,hlt,z⟩,fun v H4 y=>?_⟩
  obtain ⟨x,ex,rx,r4,e4⟩:=ir.yl J2 H2 e3 a3.hp (pok _ _ _ p3) i hlt v H4 y
  refine ⟨x,τ2,J2,_,rx,a3.go r4 e4,step i x τ2 J2 ex p3,fun τ5 J5 σ5 H5 rs5 r5 e5 q5=>?_⟩
  have ae:=(a3.ext.trans e4).trans e5
  have ge:=g.ext (((e1.trans e3).trans e4).trans e5)
  refine ⟨τ5,J5,{ D2 with nx:=Pv (i + 1),ct:=Pv (i + 1),bk:=D2.nx },⟨rs5,r5,ae⟩,q5,?_⟩
  exact { nx:=fun τ' J' σ' H' rs rr ee q=>⟨τ',J',⟨rs,rr,ae.trans ee⟩,((e3.trans e4).trans e5).trans ee,q⟩,rt:=ge.rt,bk:=ge.nx,ct:=fun τ' J' σ' H' rs rr ee q=>⟨τ',J',⟨rs,rr,ae.trans ee⟩,((e3.trans e4).trans e5).trans ee,q⟩ }
 ·have ei:i=it.xs.length:=by omega
  subst ei
  exact .inl ⟨ir.stop J2 H2 e3 a3.hp (pok _ _ _ p3),g.nx τ2 J2 σ2 H2 a3.sl a3.hp (e1.trans e3) (fin _ _ p3)⟩⟩
def Hd (J:Hq):PV→Option sJ
 | .fl xs=>some ⟨xs,fun _=>True⟩
 | .ref a=>match J a with
  | some (.lst xs)=>some ⟨xs,fun J'=>J' a=some (.lst xs)⟩
  | _=>none
 | _=>none
def IX (te:cE):mO:=fun τ J R=>te τ J fun x J1=>∃ it,Hd J1 x=some it∧R it J1
theorem nO.list {K:PySem.W.Frag} {it:sJ} {a:Addr} {J:Hq} {H:Hp} (h:∀ J' H',Ext K J H J' H'→Rep K J' H'→it.ok J'→∃ vs,cg K H' a vs∧aE K J' H' it.xs vs):nO K it (L2.Bf K a) J H where
 go:=fun J' H' e r o i hi=>by
  obtain ⟨vs,s,rs⟩:=h J' H' e r o
  exact ⟨vs,vs[i]'(by rw [← rs.length];exact hi),s,by simp⟩
 yl:=fun J' H' e r o i hi v H2 y=>by
  obtain ⟨vs,s,rs⟩:=h J' H' e r o
  obtain ⟨e1,y⟩:=y
  subst e1
  obtain ⟨x,ex,rx⟩:=rs.get' (y vs s)
  exact ⟨x,ex,rx,r,.refl⟩
 stop:=fun J' H' e r o=>by
  obtain ⟨vs,s,rs⟩:=h J' H' e r o
  exact ⟨vs,s,by rw [rs.length];exact Nat.le_refl _⟩
theorem fq {l:Expr} {tl:cE} (hl:RE X G l tl):RI X G tg l (IX tl):=⟨EO (L2.iY hl.run) fun σ H R ⟨τ,J,R2,a2,h,k⟩=>⟨τ,J,_,a2,h,fun x J1 v H1 rx r1 e1 ⟨it,ei,q⟩=>by
 cases x with
 | fl xs =>
  obtain ⟨a,vs,rfl,h1,h2⟩:=rx
  cases ei
  refine ⟨a,rfl,⟨vs,h1.sq⟩,k _ J1 _ H1 (.list fun J' H' e r _=>⟨vs,(e.flat h1).sq,e.gf h2⟩) r1 e1 q⟩
 | ref a =>
  cases rx
  unfold Hd at ei
  dsimp only at ei
  cases ej:J1 a with
  | none=>rw [ej] at ei;cases ei
  | some o =>
   rw [ej] at ei
   cases o with
   | lst xs =>
    cases ei
    obtain ⟨vs,h1,h2⟩:=r1 _ _ ej
    refine ⟨a,rfl,⟨vs,.inl (.inl h1)⟩,k _ J1 _ H1 (.list fun J' H' e r o=>?_) r1 e1 q⟩
    obtain ⟨vs',h1',h2'⟩:=r _ _ o
    exact ⟨vs',.inl (.inl h1'),h2'⟩
   | _=>cases ei
 | _=>cases ei⟩⟩
def JG (te:cE):mO:=fun τ J R=>te τ J fun x J1=>∃ xs,x=.tup xs∧R ⟨xs,fun _=>True⟩ J1
def lK (lo:Int) (n:Nat):List PV:=(List.range n).map fun (i:Nat)=>PV.int (lo + (i:Int))
theorem fI (lo:Int) (n:Nat):(lK lo n).length=n:=by simp [lK]
theorem mh (lo:Int) (n i:Nat) (x:PV):(lK lo n)[i]?=some x↔i < n∧x=.int (lo + i):=by
 unfold lK
 rw [List.getElem?_map]
 by_cases h:i < n
 ·rw [List.getElem?_range h];simp [h,eq_comm]
 ·rw [List.getElem?_eq_none (by simpa using h)];simp [h]
theorem nO.DK {K:PySem.W.Frag} {J:Hq} {H:Hp} (lo:Int) (n:Nat):nO K ⟨lK lo n,fun _=>True⟩ (L2.yF lo n) J H where
 go:=fun J' H' e r o i hi=>by
  show i < n
  simpa [fI] using hi
 yl:=fun J' H' e r o i hi v H2 y=>by
  obtain ⟨e1,y⟩:=y
  subst e1 y
  exact ⟨.int (lo + i),(mh lo n i _).mpr ⟨by simpa [fI] using hi,rfl⟩,rfl,r,.refl⟩
 stop:=fun J' H' e r o=>by
  show n≤(lK lo n).length
  rw [fI];exact Nat.le_refl _
def Jg (ta:jT):mO:=fun τ J R=>ta τ J fun vs J1=>∃ j:Int,vs=[.int j]∧-(2 ^ 62)≤j∧j < 2 ^ 62∧R ⟨lK 0 j.toNat,fun _=>True⟩ J1
def Jj (ta:jT):mO:=fun τ J R=>ta τ J fun vs J1=>∃ i j:Int,vs=[.int i,.int j]∧(-(2 ^ 62)≤i∧i < 2 ^ 62∧-(2 ^ 62)≤j∧j < 2 ^ 62)∧R ⟨lK i (j - i).toNat,fun _=>True⟩ J1
theorem v3 {a:Expr} {ta:jT} {p pos:Pos} (hg:Gl X "range") (hm:X.mg "range"=none) (ha:RA X G [a] ta) (hs:starEach [a] X.env=[(false,eval a X.env)]:=by rfl):RI X G tg (.Call (.Name "range" p) [a] [] pos) (Jg ta) :=
 ⟨EO (L2.eG hg hm ha.run hs) fun σ H R ⟨τ,J,R2,a2,h,k⟩=>⟨τ,J,_,a2,h,fun xs J1 vs H1 rs r1 e1 ⟨j,ej,l1,l2,q⟩=>by
  subst ej
  obtain ⟨v,us,rfl,rv,e'⟩:=rs
  cases rv;cases e'
  exact ⟨j,rfl,l1,l2,k _ J1 _ H1 (.DK 0 _) r1 e1 q⟩⟩⟩
theorem vS {a b:Expr} {ta:jT} {p pos:Pos} (hg:Gl X "range") (hm:X.mg "range"=none) (ha:RA X G [a,b] ta) (hs:starEach [a,b] X.env=[(false,eval a X.env),(false,eval b X.env)]:=by rfl) (hs2:starEach [b] X.env=[(false,eval b X.env)]:=by rfl) :
  RI X G tg (.Call (.Name "range" p) [a,b] [] pos) (Jj ta) :=
 ⟨EO (L2.j3 hg hm ha.run hs hs2) fun σ H R ⟨τ,J,R2,a2,h,k⟩=>⟨τ,J,_,a2,h,fun xs J1 vs H1 rs r1 e1 ⟨i,j,ej,l1,q⟩=>by
  subst ej
  obtain ⟨v,us,rfl,rv,w,us',rfl,rw',e'⟩:=rs
  cases rv;cases rw';cases e'
  exact ⟨i,j,rfl,l1,k _ J1 _ H1 (.DK i _) r1 e1 q⟩⟩⟩
def eW (C:Addr) (E2:Addr→Hq→Prop) (t:jT):gw:=fun _ τ J=>t τ J fun xs J1=>xs.length≤sizeLine∧E2 C J1
theorem de {E:XK} {E2:Addr→Hq→Prop} {C:Addr} {x:Str} {t:jT} {np cpos:Pos} (O:Own X.K X.mg x C) (hc:X.calm=true) (hx:Throws X E) (kn:ES X.K G.1 G.2 E2 E) (hg:Gl X x) (ha:RA X G (e :: es) t)
  (hd:(x == ("__debug__":Str))=false:=by decide) (he:starEach (e :: es) X.env=(false,eval e X.env) :: starEach es X.env:=by rfl) (hpl:(backTo cpos (starEach es X.env)).any (·.1)=false:=by rfl) :
  RS X G (.Raise (some (.Call (.Name x np) (e :: es) [] cpos)) none pos) (eW C E2 t):=⟨tQ (wJ O hc hx hg ha.run hd he hpl) fun D σ H ⟨τ,J,D2,a2,h,g⟩ =>
 ⟨τ,J,_,a2,h,fun xs J1 vs H1 rs r1 e1 ⟨hl,q⟩=>⟨by rw [← rs.length];exact hl,kn C J1 H1 r1 (a2.ext.trans e1) q⟩⟩⟩
end
section
variable {P:Program} {w:World} {K:PySem.W.Frag} {mg:Str→Option Value} {base:Heap}
def sO (N:List Str) (xs:List PV):Sr:=xs.map some ++ List.replicate (N.length - xs.length) none
theorem zG {J:Hq} {H:Hp} {N:List Str} {xs:List PV} {vs:List V} (r:aE K J H xs vs):iO K J H (sO N xs) (L2.start N vs):=by
 refine ⟨by simp [sO,L2.start,r.length],fun i x e=>?_⟩
 unfold sO at e
 unfold L2.start
 by_cases hi:i < xs.length
 ·rw [List.getElem?_append_left (by simpa using hi),List.getElem?_map] at e
  cases ex:xs[i]? with
  | none=>rw [ex] at e;cases e
  | some y =>
   rw [ex] at e
   cases e
   obtain ⟨v,h1,h2⟩:=r.get ex
   exact ⟨v,by rw [List.getElem?_append_left (by rw [List.length_map,← r.length];exact hi),List.getElem?_map,h1];rfl,h2⟩
 ·rw [List.getElem?_append_right (by simpa using hi)] at e
  have:=List.mem_of_getElem? e
  rw [List.mem_replicate] at this
  cases this.2
theorem Jp {x qual:Str} {st:Stmt} {f:Addr} {fd:FuncData} {N ps:List Str} {k:Nat} {sp:cj} (F:bX K x qual st f fd) (S:aw N ps (L2.aj st)) (len:∀ xs J Q E,sp xs J Q E→xs.length=ps.length)
  (hbody:∀ (cdv:Value) (A:Around) (outer:List Env) (s:Shared) (H:Hp) (E:XK) (G:G2) (xs:List PV) (J:Hq) (Q:PV→Hq→Prop) (E2:Addr→Hq→Prop),bj k (A.deeper (envOfC qual (L2.aj st) s.heap.objs.size f cdv))→sp xs J Q E2 →
   zV (xg P w K mg base N qual (L2.aj st) f cdv A outer s H E) G E2 E →
   ∃ t,RB (xg P w K mg base N qual (L2.aj st) f cdv A outer s H E) G (L2.bE st) t∧t { nx:=fun _ J'=>Q .non J',rt:=Q } (sO N xs) J):aI P w K mg base (cU P w) (k + 1) f fd ps (dz K sp):=by
 refine JO F S (fun vs H Q E ⟨xs,J,Q2,E2,a,_,b,_⟩=>by rw [← a.length];exact len _ _ _ _ b) fun cdv A outer s H vs Q E hr ⟨xs,J,Q2,E2,rs,rr,hs,kn,ke⟩=>?_
 obtain ⟨t,hb,q⟩:=hbody cdv A outer s H E (J,H) xs J Q2 E2 hr hs ⟨tO,ke⟩
 refine ⟨_,⟨hb.run⟩,sO N xs,J,_,⟨zG rs,rr,.refl⟩,q,?_⟩
 exact { nx:=fun τ J' σ H' _ r e q=>kn .non J' .non H' rfl r e q,rt:=fun x J' v H' rx r e q=>kn x J' v H' rx r e q,bk:=fun _ _ _ _ _ _ _ q=>q.elim,ct:=fun _ _ _ _ _ _ _ q=>q.elim }
theorem _root_.Ov.Def.e_ {x:Str} {st:Stmt} {k:Nat} {ps:List Str} {sp:cj} (D:Def K mg x st)
  (h:∀ f fd,bX K x x st f fd→aI P w K mg base (cU P w) k f fd ps (dz K sp))
  (hb:∀ (kV doc pm:Value) (an:Option Addr) (cdv ct:Value) (us:List Value),us.length=ps.length→bindArgs (PySem.W.fnOf x x (L2.cv st) (L2.bE st) (L2.aj st) .none kV doc pm an cdv ct) ⟨us,[]⟩=pure (ps.zip us)) :
  a9 P w K mg base k x ps sp:=D.IG h hb
end
section
variable {X:Cx} {K:PySem.W.Frag}
def B1 (g:Int→Int→PV):jq:=fun x y J Q=>∃ i j,x=.int i∧y=.int j∧Q (g i j) J
def qI (C:Int→Int→Prop) (g:Int→Int→PV):jq:=fun x y J Q=>∃ i j,x=.int i∧y=.int j∧C i j∧Q (g i j) J
theorem m_ {g:Int→Int→V} {g':Int→Int→PV} (hg:∀ J H i j,bI K J H (g' i j) (g i j)):LR K (L2.zY g) (B1 g'):=fun J H x y v w Q2 Q rx ry r ⟨i,j,ex,ey,q⟩ k=>by
 subst ex ey;exact ⟨i,j,rx,ry,k _ J _ H (hg _ _ _ _) r .refl q⟩
theorem DG {C:Int→Int→Prop} {g:Int→Int→V} {g':Int→Int→PV} (hg:∀ J H i j,bI K J H (g' i j) (g i j)):LR K (L2.rI C g) (qI C g'):=fun J H x y v w Q2 Q rx ry r ⟨i,j,ex,ey,c,q⟩ k=>by
 subst ex ey;exact ⟨i,j,rx,ry,c,k _ J _ H (hg _ _ _ _) r .refl q⟩
theorem dj:jG X (binaryOp .Add) (B1 fun i j=>.int (i + j)):=⟨_,L2.f',m_ fun _ _ _ _=>rfl⟩
theorem dF:jG X (binaryOp .Sub) (B1 fun i j=>.int (i - j)):=⟨_,L2.sQ,m_ fun _ _ _ _=>rfl⟩
theorem bK:jG X (binaryOp .Mult) (qI CM fun i j=>.int (i * j)):=⟨_,bT,DG fun _ _ _ _=>rfl⟩
theorem k_:jG X (binaryOp .FloorDiv) (qI CQ fun i j=>.int (i.fdiv j)):=⟨_,eJ,DG fun _ _ _ _=>rfl⟩
theorem dG:jG X (binaryOp .Mod) (qI (fun _ j=>0 < j) fun i j=>.int (i % j)):=⟨_,L2.eR,DG fun _ _ _ _=>rfl⟩
theorem d6:jG X (compareOp .Lt) (B1 fun i j=>.bl (decide (i < j))):=⟨_,L2.vj,m_ fun _ _ _ _=>rfl⟩
theorem B9:jG X (compareOp .LtE) (B1 fun i j=>.bl (decide (i≤j))):=⟨_,L2.CO,m_ fun _ _ _ _=>rfl⟩
theorem kE:jG X (compareOp .Gt) (B1 fun i j=>.bl (decide (j < i))):=⟨_,L2.CF,m_ fun _ _ _ _=>rfl⟩
theorem zq:jG X (compareOp .GtE) (B1 fun i j=>.bl (decide (j≤i))):=⟨_,L2.CK,m_ fun _ _ _ _=>rfl⟩
def qU (g:Int→PV):F_:=fun x J Q=>∃ i,x=.int i∧Q (g i) J
theorem j2:I_ X (unaryOp .USub) (qU fun i=>.int (-i)):=⟨_,L2.za,fun J H x v Q2 Q rx r ⟨i,ex,q⟩ k=>by subst ex;exact ⟨i,rx,k (.int (-i)) J _ H rfl r .refl q⟩⟩
def EY:jq:=fun x y J Q=>∃ i j,x=.str i∧y=.str j∧Q (.bl (decide (i.cps.toList < j.cps.toList))) J
theorem r_:jG X (compareOp .Lt) EY:=⟨_,L2.wo,fun J H x y v w Q2 Q rx ry r ⟨i,j,ex,ey,q⟩ k=>by subst ex ey;exact ⟨i,j,rx,ry,k (.bl _) J _ H rfl r .refl q⟩⟩
def zu:PV→Bool
 | .non=>true
 | _=>false
theorem ua {J:Hq} {H:Hp} {x:PV} {v:V} (r:bI K J H x v):decide (v=.non)=zu x:=by
 cases x with
 | non=>cases r;rfl
 | tup xs=>obtain ⟨a,vs,rfl,_⟩:=r;rfl
 | fl xs=>obtain ⟨a,vs,rfl,_⟩:=r;rfl
 | _=>cases r;rfl
def IU:jq:=fun x y J Q=>y=.non∧Q (.bl (zu x)) J
def yt:jq:=fun x y J Q=>y=.non∧Q (.bl (!zu x)) J
theorem xp:jG X (compareOp .Is) IU:=⟨_,L2.Em,fun J H x y v w Q2 Q rx ry r ⟨ey,q⟩ k=>by subst ey;cases ry;exact ⟨rfl,by rw [ua rx];exact k (.bl _) J _ H rfl r .refl q⟩⟩
theorem rO:jG X (compareOp .IsNot) yt:=⟨_,L2.BJ,fun J H x y v w Q2 Q rx ry r ⟨ey,q⟩ k=>by subst ey;cases ry;exact ⟨rfl,by rw [ua rx];exact k (.bl _) J _ H rfl r .refl q⟩⟩
mutual
def fF:PV→Py
 | .non=>.non | .bl b=>.bl b | .int i=>.int i | .str x=>.str x | .ref _=>.non | .ty _=>.non | .tup xs=>.tup (gK xs) | .fl xs=>.lst (gK xs)
def gK:List PV→List Py
 | []=>[]
 | x :: xs=>fF x :: gK xs
end
mutual
def jO:PV→Bool
 | .ref _=>false | .ty _=>false | .tup xs=>iP xs | .fl xs=>iP xs | _=>true
def iP:List PV→Bool
 | []=>true
 | x :: xs=>jO x && iP xs
end
mutual
theorem pw {J:Hq} {H:Hp}:∀ {x:PV} {v:V},jO x=true→bI K J H x v→At K H (fF x) v
 | .non,_,_,h=>h
 | .bl _,_,_,h=>h
 | .int _,_,_,h=>h
 | .str _,_,_,h=>h
 | .tup xs,_,p,⟨a,vs,e,h,k⟩=>⟨a,vs,e,h,l9 (by simpa [jO] using p) k⟩
 | .fl xs,_,p,⟨a,vs,e,h,k⟩=>⟨a,vs,e,h.sq,l9 (by simpa [jO] using p) k⟩
theorem l9 {J:Hq} {H:Hp}:∀ {xs:List PV} {vs:List V},iP xs=true→aE K J H xs vs→mT K H (gK xs) vs
 | [],_,_,h=>h
 | x :: xs,_,p,⟨v,us,e,h,k⟩=>by
  have p':jO x=true∧iP xs=true:=by simpa [iP] using p
  exact ⟨v,us,e,pw p'.1 h,l9 p'.2 k⟩
end
def eqQ (x y:PV):Bool:=gZ (fF x) (fF y)
def C6 (x:PV):Prop:=jO x=true∧dep (fF x)≤60
def C2 (f:Bool→Bool):jq:=fun x y J Q=>C6 x∧jO y=true∧Q (.bl (f (eqQ x y))) J
theorem Cw (f:Bool→Bool):LR K (rP K f) (C2 f):=fun J H x y v w Q2 Q rx ry r ⟨⟨px,d⟩,py,q⟩ k=>⟨fF x,fF y,pw px rx,pw py ry,d,k (.bl _) J _ H rfl r .refl q⟩
theorem cR (hu:X.A.units + 61 < cLine):jG X (compareOp .Eq) (C2 id):=⟨_,Dg hu,Cw id⟩
theorem iu (hu:X.A.units + 61 < cLine):jG X (compareOp .NotEq) (C2 not):=⟨_,Ei hu,Cw not⟩
def dY (J:Hq):PV→PV→Option PV
 | .tup xs,.int i=>cH xs i
 | .fl xs,.int i=>cH xs i
 | .ref a,.int i=>match J a with
  | some (.lst xs)=>cH xs i
  | _=>none
 | _,_=>none
theorem aE.cH {J:Hq} {H:Hp} {xs:List PV} {vs:List V} {i:Int} {x:PV} (r:aE K J H xs vs) (h:L2.cH xs i=some x):∃ v,L2.cH vs i=some v∧bI K J H x v:=by
 unfold L2.cH at h ⊢
 rw [← r.length]
 cases e:L2.w_ xs.length i with
 | none=>rw [e] at h;cases h
 | some j =>
  rw [e] at h
  obtain ⟨v,h1,h2⟩:=r.get h
  exact ⟨v,h1,h2⟩
def F7:jq:=fun x y J Q=>∃ v,dY J x y=some v∧Q v J
theorem ar:Im X F7:=⟨_,L2.oe.or L2.bZ,fun J H x y v w Q2 Q rx ry r ⟨z,ez,q⟩ k=>by
 cases y with
 | int i =>
  cases ry
  cases x with
  | tup xs =>
   obtain ⟨a,vs,rfl,h1,h2⟩:=rx
   obtain ⟨u,e1,e2⟩:=h2.cH (show L2.cH xs i=some z from ez)
   exact .inr ⟨a,vs,i,u,rfl,rfl,h1,e1,k z J u H e2 r .refl q⟩
  | fl xs =>
   obtain ⟨a,vs,rfl,h1,h2⟩:=rx
   obtain ⟨u,e1,e2⟩:=h2.cH (show L2.cH xs i=some z from ez)
   exact .inl ⟨a,vs,i,u,rfl,rfl,h1.sq,e1,k z J u H e2 r .refl q⟩
  | ref a =>
   cases rx
   unfold dY at ez
   dsimp only at ez
   cases ej:J a with
   | none=>rw [ej] at ez;cases ez
   | some o =>
    rw [ej] at ez
    cases o with
    | lst xs =>
     obtain ⟨vs,h1,h2⟩:=r _ _ ej
     obtain ⟨u,e1,e2⟩:=h2.cH (show L2.cH xs i=some z from ez)
     exact .inl ⟨a,vs,i,u,rfl,rfl,.inl (.inl h1),e1,k z J u H e2 r .refl q⟩
    | _=>cases ez
  | _=>cases ez
 | _=>cases x <;> cases ez⟩
def iD (xs:List PV) (lo hi:Option Int):List PV:=(xs.drop (HT.c8 xs.length 0 lo)).take (HT.c8 xs.length xs.length hi - HT.c8 xs.length 0 lo)
theorem ur {J:Hq} {H:Hp} {xs:List PV} {vs:List V} {lo hi:Option Int} (r:aE K J H xs vs):aE K J H (iD xs lo hi) (L2.me vs lo hi):=by
 unfold iD L2.me
 rw [← r.length]
 exact (r.drop _).take _
def F9:wX:=fun x lo hi J Q=>∃ xs,x=.tup xs∧¬ (HT.c8 xs.length 0 lo=0∧HT.c8 xs.length xs.length hi=xs.length)∧Q (.tup (iD xs lo hi)) J
theorem tj:HW X F9:=⟨_,L2.Dc,fun J H x lo hi v Q2 Q rx r ⟨xs,ex,hn,q⟩ k=>by
 subst ex
 obtain ⟨a,vs,rfl,h1,h2⟩:=rx
 refine ⟨a,vs,rfl,h1,by rw [← h2.length];exact hn,fun p hp=>?_⟩
 have sm:=aZ.new hp (.tup (L2.me vs lo hi))
 have e2:=Ext.same (K:=X.K) (J:=J) sm
 exact k (.tup (iD xs lo hi)) J (.ref p) _ ⟨p,_,rfl,.inl (.inl ay),e2.gf (ur h2)⟩ (r.same sm) e2 q⟩
def jH (J:Hq):PV→Option (List PV)
 | .fl xs=>some xs
 | .ref a=>match J a with
  | some (.lst xs)=>some xs
  | _=>none
 | _=>none
theorem oW {J:Hq} {H:Hp} {x:PV} {v:V} {xs:List PV} (rx:bI K J H x v) (r:Rep K J H) (h:jH J x=some xs):∃ a vs,v=.ref a∧cg K H a vs∧aE K J H xs vs:=by
 cases x with
 | fl ys=>obtain ⟨a,vs,rfl,h1,h2⟩:=rx;cases h;exact ⟨a,vs,rfl,h1.sq,h2⟩
 | ref a =>
  cases rx
  unfold jH at h
  dsimp only at h
  cases ej:J a with
  | none=>rw [ej] at h;cases h
  | some o =>
   rw [ej] at h
   cases o with
   | lst ys=>cases h;obtain ⟨vs,h1,h2⟩:=r _ _ ej;exact ⟨a,vs,rfl,.inl (.inl h1),h2⟩
   | _=>cases h
 | _=>cases h
def Fm:wX:=fun x lo hi J Q=>∃ xs,jH J x=some xs∧Q (.fl (iD xs lo hi)) J
theorem xG:HW X Fm:=⟨_,L2.o7,fun J H x lo hi v Q2 Q rx r ⟨xs,ex,q⟩ k=>by
 obtain ⟨a,vs,rfl,h1,h2⟩:=oW rx r ex
 refine ⟨a,vs,rfl,h1,fun p hp=>?_⟩
 obtain ⟨x1,x2,x3⟩:=sZ r (ur (lo:=lo) (hi:=hi) h2) hp
 exact k _ J _ _ x1 x2 x3 q⟩
def Hx:wX:=fun x lo hi J Q=>∃ xs,jH J x=some xs∧∀ p,J p=none→Q (.ref p) (put J p (.lst (iD xs lo hi)))
def FT:uT:=fun xs J Q=>∃ i,xs=[.int i]∧Q (.int (if i < 0 then -i else i)) J
theorem oF:DX X (.builtin "abs") FT:=⟨_,L2.jf,fun J H xs vs Q2 Q rs r ⟨i,ex,q⟩ k=>by
 subst ex;obtain ⟨v,us,rfl,rv,e⟩:=rs;cases rv;cases e
 exact ⟨i,rfl,k (.int _) J _ H rfl r .refl q⟩⟩
def pU (J:Hq):PV→Option Nat
 | .tup xs=>some xs.length
 | x=>(jH J x).map List.length
def Gj:uT:=fun xs J Q=>∃ x n,xs=[x]∧pU J x=some n∧Q (.int n) J
theorem bW:DX X (.builtin "len") Gj:=⟨_,L2.f_,fun J H xs vs Q2 Q rs r ⟨x,n,ex,en,q⟩ k=>by
 subst ex;obtain ⟨v,us,rfl,rv,e⟩:=rs;cases e
 have go:∀ ys,jH J x=some ys→ys.length=n→∃ p ws,([v]:List V)=[.ref p]∧(cg X.K H p ws∨fA X.K H p ws)∧Q (.int ws.length) H:=fun ys h1 h2=>by
  obtain ⟨a,ws,rfl,h3,h4⟩:=oW rv r h1
  exact ⟨a,ws,rfl,.inl h3,by rw [← h4.length,h2];exact k (.int _) J _ H rfl r .refl q⟩
 cases x with
 | tup ys =>
  obtain ⟨a,ws,rfl,h1,h2⟩:=rv
  cases en
  exact ⟨a,ws,rfl,.inr h1,by rw [← h2.length];exact k (.int _) J _ H rfl r .refl q⟩
 | fl ys=>cases en;exact go _ rfl rfl
 | ref a =>
  unfold pU at en
  cases el:jH J (.ref a) with
  | none=>simp [el] at en
  | some ys=>simp [el] at en;exact go _ el en
 | _=>cases en⟩
def wc (J:Hq):PV→Option String
 | .non=>some "NoneType" | .bl _=>some "bool" | .int _=>some "int" | .str _=>some "str" | .tup _=>some "tuple" | .fl _=>some "list"
 | .ref a=>match J a with
  | some (.lst _)=>some "list"
  | some (.dct _ _)=>some "dict"
  | _=>none
 | _=>none
def iK (t n:String):Option Bool :=
 if n∈["int","bool","str","tuple","list"] then some (t == n || (t == "bool" && n == "int")) else none
theorem Ar (K:PySem.W.Frag) {t n:String} {b:Bool} (ht:t∈["NoneType","bool","int","str","tuple","list","dict"]) (h:iK t n=some b):PySem.W.kitOne K (.type t) (.type n)=some b:=by
 unfold iK at h
 by_cases hn:n∈["int","bool","str","tuple","list"]
 ·rw [if_pos hn] at h
  simp only [List.mem_cons,List.not_mem_nil,or_false] at ht hn
  rcases ht with rfl | rfl | rfl | rfl | rfl | rfl | rfl <;> rcases hn with rfl | rfl | rfl | rfl | rfl <;> cases h <;> with_unfolding_all rfl
 ·rw [if_neg hn] at h;cases h
theorem Aj {J:Hq} {x:PV} {t:String} (h:wc J x=some t):t∈["NoneType","bool","int","str","tuple","list","dict"]:=by
 cases x with
 | ref a =>
  unfold wc at h
  dsimp only at h
  cases ej:J a with
  | none=>rw [ej] at h;cases h
  | some o=>rw [ej] at h;cases o <;> cases h <;> simp
 | ty n=>cases h
 | _=>cases h;simp
def Gk:uT:=fun xs J Q=>∃ x n t b,xs=[x,.ty n]∧wc J x=some t∧iK t n=some b∧Q (.bl b) J
theorem wm:cf X (.builtin "isinstance") (fun xs H Q=>∃ x n t b,xs=[x,.ty n]∧(fb X.K H x (.type t)∨(t="tuple"∧∃ a vs,x=.ref a∧fA X.K H a vs)∨(t="list"∧∃ a vs,x=.ref a∧cg X.K H a vs))∧PySem.W.kitOne X.K (.type t) (.type n)=some b∧Q (.bl b) H):=by
 intro pins s σ H xs us Q I r h
 obtain ⟨x,n,t,b,rfl,ty,e,q⟩:=h
 obtain ⟨u,w',rfl,rx,ry⟩:=L2.vals2 r
 cases (show w'=Value.type n from ry)
 rcases ty with ty | ⟨rfl,a,vs,rfl,hs⟩ | ⟨rfl,a,vs,rfl,hs⟩
 ·exact L2.vQ I rx ty e fun tk=>⟨.bl b,H,I.tok _,rfl,q⟩
 ·cases rx
  obtain ⟨its,_,⟨o,h1,h2,_⟩,_⟩:=I.tuple hs
  exact PySem.W.kia_one PySem.W.kitx_tuple I.jl ⟨o,h1,h2⟩ e (fun z=>nomatch z) fun tk=>⟨.bl b,H,I.tok _,rfl,q⟩
 ·cases rx
  obtain ⟨its,_,⟨o,_,h1,h2,_⟩,_⟩:=I.list hs
  exact PySem.W.kia_one PySem.W.kitx_list I.jl ⟨o,h1,h2⟩ e (fun z=>nomatch z) fun tk=>⟨.bl b,H,I.tok _,rfl,q⟩
theorem j7:DX X (.builtin "isinstance") Gk:=⟨_,wm,fun J H xs vs Q2 Q rs r ⟨x,n,t,b,ex,et,es,q⟩ k=>by
 subst ex
 obtain ⟨v,us,rfl,rv,w,us',rfl,rw',e⟩:=rs
 cases rw';cases e
 refine ⟨v,n,t,b,rfl,?_,Ar X.K (Aj et) es,k (.bl _) J _ H rfl r .refl q⟩
 cases x with
 | non=>cases rv;cases et;exact .inl .non
 | bl i=>cases rv;cases et;exact .inl (.bl i)
 | int i=>cases rv;cases et;exact .inl (.int i)
 | str i=>cases rv;cases et;exact .inl (.str i)
 | tup xs=>obtain ⟨a,ws,rfl,h1,_⟩:=rv;cases et;exact .inr (.inl ⟨rfl,a,ws,rfl,h1⟩)
 | fl xs =>
  obtain ⟨a,ws,rfl,h1,_⟩:=rv;cases et
  exact .inr (.inr ⟨rfl,a,ws,rfl,h1.sq⟩)
 | ty n=>cases et
 | ref a =>
  cases rv
  unfold wc at et
  dsimp only at et
  cases ej:J a with
  | none=>rw [ej] at et;cases et
  | some o =>
   rw [ej] at et
   have z:=r _ _ ej
   cases o with
   | lst xs=>obtain ⟨ws,h1,_⟩:=z;cases et;exact .inl (.lst h1)
   | dct kvs ep=>obtain ⟨gs,h1,_⟩:=z;cases et;exact .inl (.dE h1)
   | tab=>cases et
   | ins C fs=>cases et⟩
def D6:uT:=fun xs J Q=>∃ x ys,xs=[x]∧jH J x=some ys∧Q (.fl ys) J
def zD:uT:=fun xs J Q=>∃ x ys,xs=[x]∧jH J x=some ys∧∀ p,J p=none→Q (.ref p) (put J p (.lst ys))
theorem yE:DX X (.type "list") zD:=⟨_,L2.oV,fun J H xs vs Q2 Q rs r ⟨x,ys,ex,el,q⟩ k=>by
 subst ex;obtain ⟨v,us,rfl,rv,e⟩:=rs;cases e
 obtain ⟨a,ws,rfl,h3,h4⟩:=oW rv r el
 exact ⟨a,ws,rfl,.inl h3,fun p hp=>k (.ref p) _ _ _ rfl (r.x6 hp h4) (.laid hp) (q p (r.free hp))⟩⟩
def II:uT:=fun xs J Q=>∃ i j,xs=[.int i,.int j]∧Q (.int (if j > i then j else i)) J
def um:xf:=fun x xs J Q=>∃ a ys y,x=.ref a∧xs=[y]∧J a=some (.lst ys)∧ys.length < sizeLine∧Q .non (put J a (.lst (ys ++ [y])))
theorem kg:Dx X "list" "list.append" um:=⟨_,L2.eI,fun J H x xs v vs Q2 Q rx rs r ⟨a,ys,y,ex,exs,ja,hl,q⟩ k=>by
 subst ex exs;cases rx;obtain ⟨w,us,rfl,rw',e⟩:=rs;cases e
 obtain ⟨ws,h1,h2⟩:=r _ _ ja
 exact ⟨a,ws,w,rfl,rfl,h1,by rw [← h2.length];exact hl,k .non _ _ _ rfl (r.wrote (ys:=ys ++ [y]) ja h1 (h2.append (show aE X.K J H [y] [w] from ⟨w,[],rfl,rw',rfl⟩))) (.wrote ja h1) q⟩⟩
def Fe:xf:=fun x xs J Q=>∃ a ys y,x=.ref a∧xs=[]∧J a=some (.lst ys)∧ys[ys.length - 1]?=some y∧Q y (put J a (.lst ys.dropLast))
theorem aE.dropLast {J:Hq} {H:Hp} {xs:List PV} {vs:List V} (r:aE K J H xs vs):aE K J H xs.dropLast vs.dropLast:=by
 rw [List.dropLast_eq_take,List.dropLast_eq_take,← r.length]
 exact r.take _
theorem Dr:Dx X "list" "list.pop" Fe:=⟨_,L2.C8,fun J H x xs v vs Q2 Q rx rs r ⟨a,ys,y,ex,exs,ja,hy,q⟩ k=>by
 subst ex exs;cases rx;cases rs
 obtain ⟨ws,h1,h2⟩:=r _ _ ja
 obtain ⟨w,e1,e2⟩:=h2.get hy
 have ex:=Ext.wrote (K:=X.K) (ys:=ys.dropLast) (vs:=ws.dropLast) ja h1
 exact ⟨a,ws,w,rfl,rfl,h1,by rw [← h2.length];exact e1,k y _ w _ (ex.rep e2) (r.wrote ja h1 h2.dropLast) ex q⟩⟩
def D_:xf:=fun x xs J Q=>∃ a ys,x=.ref a∧xs=[]∧J a=some (.lst ys)∧Q .non (put J a (.lst []))
def Bx:V→List V→Hp→VK→Prop:=fun x vs H Q=>∃ l xs i y,x=.ref l∧vs=[.int (i:Nat),y]∧H l=some (.lst xs)∧i≤xs.length∧xs.length < sizeLine∧i < 2 ^ 62∧Q .non (upd H l (.lst (xs.take i ++ y :: xs.drop i)))
theorem sF (its:List Value) (i:Nat) (u:Value) (h:i≤its.length):((its.toArray.extract 0 (min ((i:Int)).toNat its.toArray.size)).push u ++ its.toArray.extract (min ((i:Int)).toNat its.toArray.size))=(its.take i ++ u :: its.drop i).toArray:=by
 have e:min ((i:Int)).toNat its.toArray.size=i:=by simp;omega
 rw [e]
 apply Array.ext'
 simp
 exact List.take_of_length_le (by simp)
theorem wF:o5 X "list.insert" Bx:=by
 intro pins s σ H x vs v us Q I rx rv h
 obtain ⟨l,xs,i,y,rfl,rfl,hH,hi,hz,hb,q⟩:=h
 cases rx
 obtain ⟨u,w,rfl,ru,rw'⟩:=L2.vals2 rv
 obtain ⟨t,rfl⟩:=ru
 obtain ⟨z,its,n,r,hl,e⟩:=I.A5 hH
 have h63:((i:Nat):Int) < 2 ^ 63:=by
  have:((i:Nat):Int) < ((2 ^ 62:Nat):Int):=Int.ofNat_lt.mpr hb
  exact Int.lt_trans this (by decide)
 have hf:Builtin.List.listFitsIndex ((i:Nat):Int)=true:=fitsIndex_both (Int.le_trans (by decide) (Int.natCast_nonneg i)) h63
 have hs:its.toArray.size≤sizeLine:=by rw [List.size_toArray,← hl];exact z
 have hn:¬(!Builtin.List.listFitsIndex ((i:Nat):Int))=true:=by rw [hf];exact fun z=>nomatch z
 have hneg:¬ (((i:Nat):Int) < 0):=by omega
 have hins:=sF its i w (by omega)
 clear hb h63 hf
 generalize ((i:Nat):Int)=ii at *
 have mm:=PySem.AutoSeq1.list_insert_list_int_val_1 l its.toArray n ii t w hn hs
 refine call_meets PySem.F.slot_list_insert ⟨_,e,rfl⟩ PySem.F.entry_list_insert (PySem.F.args_list_insert_3 _ _ _) mm ⟨e,?_⟩
 refine ⟨.non,_,I.BK (its':=its.take i ++ w :: its.drop i) hH e ?_ ((r.take i).append (.cons rw' (r.drop i))) ?_,rfl,q⟩
 ·simp only [if_neg hneg]
  exact hins
 ·rw [List.length_append,List.length_cons,List.length_take,List.length_drop];omega
def tY:xf:=fun x xs J Q=>∃ a ys i y,x=.ref a∧xs=[.int (i:Nat),y]∧J a=some (.lst ys)∧i≤ys.length∧ys.length < sizeLine∧i < 2 ^ 62∧Q .non (put J a (.lst (ys.take i ++ y :: ys.drop i)))
theorem jK:Dx X "list" "list.insert" tY:=⟨_,wF,fun J H x xs v vs Q2 Q rx rs r ⟨a,ys,i,y,ex,exs,ja,hi,hl,hb,q⟩ k=>by
 subst ex exs;cases rx;obtain ⟨w0,us,rfl,rw0,w,us',rfl,rw',e⟩:=rs;cases e;cases rw0
 obtain ⟨ws,h1,h2⟩:=r _ _ ja
 exact ⟨a,ws,i,w,rfl,rfl,h1,by rw [← h2.length];exact hi,by rw [← h2.length];exact hl,hb,k .non _ _ _ rfl (r.wrote (ys:=ys.take i ++ y :: ys.drop i) ja h1 ((h2.take i).append (show aE X.K J H (y :: ys.drop i) (w :: ws.drop i) from ⟨w,_,rfl,rw',h2.drop i⟩))) (.wrote ja h1) q⟩⟩
end
def kL (ks:List (Str × Nat)) (τ:Sr):Sr:=ks.map fun p=>(τ[p.2]?).getD none
theorem vc {K:PySem.W.Frag} {J:Hq} {H:Hp} {τ:Sr} {σ:L2.St} (r:iO K J H τ σ) {x:PV} {v:V} (rx:bI K J H x v) (ks:List (Str × Nat)):iO K J H (some x :: kL ks τ) (some v :: cD ks σ):=by
 refine ⟨by simp [kL,cD],fun i y e=>?_⟩
 cases i with
 | zero=>rw [List.getElem?_cons_zero] at e ⊢;cases e;exact ⟨v,rfl,rx⟩
 | succ i =>
  rw [List.getElem?_cons_succ] at e ⊢
  unfold kL at e
  unfold cD
  rw [List.getElem?_map] at e ⊢
  cases ep:ks[i]? with
  | none=>rw [ep] at e;cases e
  | some p =>
   rw [ep] at e
   have e':(τ[p.2]?).getD none=some y:=Option.some.inj e
   have e2:τ[p.2]?=some (some y):=by
    cases q:τ[p.2]? with
    | none=>rw [q] at e';cases e'
    | some w=>rw [q] at e';exact congrArg some e'
   obtain ⟨v',h1,h2⟩:=r.get _ _ e2
   exact ⟨v',by show some ((σ[p.2]?).getD none)=_;rw [h1];rfl,h2⟩
def Sub (J J':Hq):Prop:=∀ a o,J a=some o→J' a=some o
theorem Sub.refl (J:Hq):Sub J J:=fun _ _ h=>h
theorem Sub.put {J:Hq} {D:Addr} {o:HQ} (h:J D=none):Sub J (put J D o):=fun a u e=>by
 have ne:a≠D:=by intro z;subst z;rw [h] at e;cases e
 rw [au ne];exact e
def HR (it:sJ) (J1:Hq) (ks:List (Str × Nat)) (τ:Sr) (tc:iF) (te:cE) (c:PV→Bool) (g:PV→PV):Prop:=it.xs.length < sizeLine∧∀ J',Sub J1 J'→it.ok J' ∧
 ∀ x∈it.xs,tc (some x :: kL ks τ) J' (fun b J2=>b=c x∧J2=J')∧(c x=true→te (some x :: kL ks τ) J' fun y J2=>y=g x∧J2=J')
def qX (wi:mO) (ks:List (Str × Nat)) (tc:iF) (te:cE):cE:=fun τ J Q=>wi τ J fun it J1=>∃ (c:PV→Bool) (g:PV→PV),HR it J1 ks τ tc te c g∧Q (.fl ((it.xs.filter c).map g)) J1
def Eg (wi:mO) (ks:List (Str × Nat)) (tc:iF) (te:cE):cE:=fun τ J Q=>wi τ J fun it J1=>∃ (c:PV→Bool) (g:PV→PV),HR it J1 ks τ tc te c g∧∀ p,J1 p=none→Q (.ref p) (put J1 p (.lst ((it.xs.filter c).map g)))
def rb:iF:=fun _ J Q=>Q true J
section
variable {X:Cx} {G:G2}
theorem ku {α:Type} (c:α→Bool) {xs:List α} {i:Nat} {x:α} (h:xs[i]?=some x):(xs.take (i + 1)).filter c=(xs.take i).filter c ++ (if c x=true then [x] else []):=by
 rw [List.take_add_one,h,List.filter_append]
 congr 1
 simp only [Option.toList_some,List.filter_cons,List.filter_nil]
theorem oy {K:PySem.W.Frag} {ks:List (Str × Nat)} {tc:iF} {te:cE} {σ:L2.St} {H:Hp} {Q:VK} {τ:Sr} {J:Hq} (a2:pT K G τ J σ H) {it:sJ} {J1:Hq} {I:It} {H1:Hp} (ir:nO K it I J1 H1) (r1:Rep K J1 H1) (e1:Ext K J H J1 H1) {c:PV→Bool} {g:PV→PV}
  (w:HR it J1 ks τ tc te c g)
  (q:∀ D H2,H1 D=none→J1 D=none→Rep K (put J1 D (.lst ((it.xs.filter c).map g))) H2→Ext K J1 H1 (put J1 D (.lst ((it.xs.filter c).map g))) H2→Q (.ref D) H2) :
  ∀ D,H1 D=none→∃ W:Nat→Nat→Hp→Prop,(∃ m,W 0 m (upd H1 D (.lst [])))∧∀ i m H2,W i m H2→(I.stop i H2∧Q (.ref D) H2) ∨
   (I.go i H2∧∀ v H3,I.yld i H2 v H3→LT K G tc (some v :: cD ks σ) H3 fun b H4=>if b=true then LE K G te (some v :: cD ks σ) H4 fun y H5=>∃ ys,H5 D=some (.lst ys)∧ys.length < sizeLine∧∃ m',m' < m∧W (i + 1) m' (upd H5 D (.lst (ys ++ [y]))) else ∃ m',m' < m∧W (i + 1) m' H4):=by
 intro D hD
 obtain ⟨hlen,w⟩:=w
 have jD:J1 D=none:=r1.free hD
 refine ⟨fun i m H2=>m=it.xs.length - i∧i≤it.xs.length∧Rep K (put J1 D (.lst (((it.xs.take i).filter c).map g))) H2∧Ext K J1 H1 (put J1 D (.lst (((it.xs.take i).filter c).map g))) H2,⟨_,rfl,Nat.zero_le _,r1.x6 (xs:=[]) (vs:=[]) hD rfl,.laid hD⟩,?_⟩
 rintro i m H2 ⟨rfl,hi,r2,e2⟩
 obtain ⟨ok,ww⟩:=w _ (Sub.put (o:=.lst (((it.xs.take i).filter c).map g)) jD)
 by_cases hlt:i < it.xs.length
 ·refine .inr ⟨ir.go _ H2 e2 r2 ok i hlt,fun v H3 y=>?_⟩
  obtain ⟨x,ex,rx,r3,e3⟩:=ir.yl _ H2 e2 r2 ok i hlt v H3 y
  obtain ⟨hc,he⟩:=ww x (List.mem_of_getElem? ex)
  have a3:pT K G (some x :: kL ks τ) _ (some v :: cD ks σ) H3:=⟨vc (a2.sl.ext ((e1.trans e2).trans e3)) rx ks,r3,((a2.ext.trans e1).trans e2).trans e3⟩
  refine ⟨_,_,_,a3,hc,fun b J4 H4 r4 e4 ⟨eb,ej⟩=>?_⟩
  subst ej
  cases hb:c x with
  | false =>
   rw [eb,hb]
   simp only [Bool.false_eq_true,if_false]
   refine ⟨_,by omega,rfl,hlt,?_⟩
   rw [ku c ex,hb]
   simp only [Bool.false_eq_true,if_false,List.append_nil]
   exact ⟨r4,(e2.trans e3).trans e4⟩
  | true =>
   rw [eb,hb]
   simp only [if_true]
   refine ⟨_,_,_,a3.go r4 e4,he hb,fun z J5 u H5 rz r5 e5 ⟨ez,ej⟩=>?_⟩
   subst ej ez
   obtain ⟨ys,h5,ry⟩:=r5 D _ av
   have ll:ys.length≤i:=by
    rw [← ry.length,List.length_map]
    exact Nat.le_trans (List.length_filter_le _ _) (by rw [List.length_take];omega)
   have r6:=r5.wrote (ys:=((it.xs.take i).filter c).map g ++ [g x]) (vs:=ys ++ [u]) av h5 (ry.append (show aE K _ H5 [g x] [u] from ⟨u,[],rfl,rz,rfl⟩))
   have e6:=Ext.wrote (K:=K) (ys:=((it.xs.take i).filter c).map g ++ [g x]) (vs:=ys ++ [u]) (J:=put J1 D (.lst (((it.xs.take i).filter c).map g))) av h5
   rw [dN] at r6 e6
   refine ⟨ys,h5,by omega,_,by omega,rfl,hlt,?_⟩
   rw [ku c ex,hb,if_pos rfl,List.map_append]
   exact ⟨r6,(((e2.trans e3).trans e4).trans e5).trans e6⟩
 ·have ei:i=it.xs.length:=by omega
  subst ei
  rw [List.take_length] at r2 e2 ok
  exact .inl ⟨ir.stop _ H2 e2 r2 ok,q D H2 hD jD r2 e2⟩
theorem freeze {K:PySem.W.Frag} {J1:Hq} {H2:Hp} {D:Addr} {xs:List PV} (jD:J1 D=none) (r:Rep K (put J1 D (.lst xs)) H2):bI K J1 H2 (.fl xs) (.ref D)∧Rep K J1 H2∧Ext K (put J1 D (.lst xs)) H2 J1 H2:=by
 obtain ⟨ys,h,ry⟩:=r D _ av
 have less:∀ a,J1 a=put J1 D (.lst xs) a∨J1 a=none:=fun a=>by
  by_cases e:a=D
  ·subst e;exact .inr jD
  ·rw [au e];exact .inl rfl
 have e:=Ext.less (K:=K) (H:=H2) less
 exact ⟨⟨D,ys,rfl,.inl ⟨jD,.inl h⟩,e.gf ry⟩,r.less less,e⟩
theorem yU {wi:mO} {ks:List (Str × Nat)} {tc:iF} {te:cE}:∀ σ H Q,LE X.K G (qX wi ks tc te) σ H Q→C0 (LI X.K G wi) ks (LT X.K G tc) (LE X.K G te) σ H Q:=fun σ H Q ⟨τ,J,Q2,a2,h,k⟩ =>
 ⟨τ,J,_,a2,h,fun it J1 I H1 ir r1 e1 ⟨c,g,w,q⟩=>oy (Q:=Q) a2 ir r1 e1 w fun D H2 hD jD r2 e2=>let ⟨x1,x2,x3⟩:=freeze jD r2;k _ J1 _ H2 x1 x2 ((e1.trans e2).trans x3) q⟩
theorem xD {wi:mO} {ks:List (Str × Nat)} {tc:iF} {te:cE}:∀ σ H Q,LE X.K G (Eg wi ks tc te) σ H Q→C0 (LI X.K G wi) ks (LT X.K G tc) (LE X.K G te) σ H Q:=fun σ H Q ⟨τ,J,Q2,a2,h,k⟩ =>
 ⟨τ,J,_,a2,h,fun it J1 I H1 ir r1 e1 ⟨c,g,w,q⟩=>oy (Q:=Q) a2 ir r1 e1 w fun D H2 hD jD r2 e2=>k (.ref D) _ _ H2 rfl r2 (e1.trans e2) (q D jD)⟩
theorem rD {wi:mO} {ks:List (Str × Nat)} {te:cE}:∀ σ H Q,LE X.K G (qX wi ks rb te) σ H Q→G6 (LI X.K G wi) ks (LE X.K G te) σ H Q:=fun σ H Q ⟨τ,J,Q2,a2,h,k⟩ =>
 ⟨τ,J,_,a2,h,fun it J1 I H1 ir r1 e1 ⟨c,g,w,q⟩ D hD=>by
  obtain ⟨W,w0,turn⟩:=oy (Q:=Q) a2 ir r1 e1 w (fun D H2 hD jD r2 e2=>let ⟨x1,x2,x3⟩:=freeze jD r2;k _ J1 _ H2 x1 x2 ((e1.trans e2).trans x3) q) D hD
  refine ⟨W,w0,fun i m H2 hw=>?_⟩
  rcases turn i m H2 hw with z | ⟨go,z⟩
  ·exact .inl z
  ·refine .inr ⟨go,fun v H3 y=>?_⟩
   obtain ⟨τ',J',Q',a',t',k'⟩:=z v H3 y
   have:=k' true J' H3 a'.hp .refl t'
   simpa using this⟩
variable {elt iter cnd:Expr} {x y:Str} {px py:Pos} {sc:Scope} {pos spos:Pos} {wi:mO} {te:cE} {tc:iF} {i:Nat}
theorem FO (osc:Scope) (N:List Str) (ks:List (Str × Nat)) (hc:X.calm=true) (ho:X.env.scope=osc) (hN:X.N=N) (hi:RI X G (.Name x px) iter wi) (he:∀ cl C s₀ H₀ fp pins,RE (dH X sc cl C x ks s₀ H₀ fp pins) G elt te)
  (ok:bU sc osc N x ks:=by decide +kernel) (hs:∀ x,foldedSetIterable iter X.env x=pure x:=by intro _;rfl):RE X G (.ListComp elt [⟨.Name x px,iter,[],0⟩] sc pos) (qX wi ks rb te) :=
 ⟨il (B5 osc N ks hc ho hN hi.run (fun cl C s₀ H₀ fp pins=>(he cl C s₀ H₀ fp pins).run) ok hs) rD⟩
theorem lM {t:cE} {u:TE} (h:∀ σ H Q,LE X.K G t σ H Q→u σ H Q):∀ D σ H,LS X.K G (p6 t (D7 i)) D σ H→u σ H fun v H1=>D.nx (σ.set i (some v)) H1:=fun D σ H ⟨τ,J,D2,a2,q,g⟩ =>
 h σ H _ ⟨τ,J,_,a2,q,fun x J' v H' rx rr ee q=>g.nx _ J' _ H' ((a2.sl.ext ee).set i rx) rr ee q⟩
theorem Dp (osc:Scope) (N:List Str) (ks:List (Str × Nat)) (hc:X.calm=true) (ho:X.env.scope=osc) (hN:X.N=N) (hnd:X.N.Nodup) (hy:X.N[i]?=some y) (hl:Loc X.env.scope y) (hi:RI X G (.Name x px) iter wi) (he:∀ cl C s₀ H₀ fp pins,RE (dH X sc cl C x ks s₀ H₀ fp pins) G elt te) (hcn:∀ cl C s₀ H₀ fp pins,RT (dH X sc cl C x ks s₀ H₀ fp pins) G cnd tc)
  (ok:bU sc osc N x ks:=by decide +kernel) (hs:∀ x,foldedSetIterable iter X.env x=pure x:=by intro _;rfl) (hsw:swapsWith (.ListComp elt [⟨.Name x px,iter,[cnd],0⟩] sc pos) (some (.Name y py)) spos.line X.env=pure true:=by rfl) (hf:X.fn y=true∨X.env.scope.names.lookup y=some .local:=by first | exact .inl rfl | exact .inr rfl | assumption) :
  RS X G (.Assign [.Name y py] (.ListComp elt [⟨.Name x px,iter,[cnd],0⟩] sc pos) spos) (p6 (qX wi ks tc te) (D7 i)) :=
 ⟨tQ (xy osc N ks hc ho hN hnd hy hl hi.run (fun cl C s₀ H₀ fp pins=>(he cl C s₀ H₀ fp pins).run) (fun cl C s₀ H₀ fp pins=>(hcn cl C s₀ H₀ fp pins).run) ok hs hsw hf) (lM yU)⟩
theorem Bs (osc:Scope) (N:List Str) (ks:List (Str × Nat)) (hc:X.calm=true) (ho:X.env.scope=osc) (hN:X.N=N) (hnd:X.N.Nodup) (hy:X.N[i]?=some y) (hl:Loc X.env.scope y) (hi:RI X G (.Name x px) iter wi) (he:∀ cl C s₀ H₀ fp pins,RE (dH X sc cl C x ks s₀ H₀ fp pins) G elt te) (hcn:∀ cl C s₀ H₀ fp pins,RT (dH X sc cl C x ks s₀ H₀ fp pins) G cnd tc)
  (ok:bU sc osc N x ks:=by decide +kernel) (hs:∀ x,foldedSetIterable iter X.env x=pure x:=by intro _;rfl) (hsw:swapsWith (.ListComp elt [⟨.Name x px,iter,[cnd],0⟩] sc pos) (some (.Name y py)) spos.line X.env=pure true:=by rfl) (hf:X.fn y=true∨X.env.scope.names.lookup y=some .local:=by first | exact .inl rfl | exact .inr rfl | assumption) :
  RS X G (.Assign [.Name y py] (.ListComp elt [⟨.Name x px,iter,[cnd],0⟩] sc pos) spos) (p6 (Eg wi ks tc te) (D7 i)) :=
 ⟨tQ (xy osc N ks hc ho hN hnd hy hl hi.run (fun cl C s₀ H₀ fp pins=>(he cl C s₀ H₀ fp pins).run) (fun cl C s₀ H₀ fp pins=>(hcn cl C s₀ H₀ fp pins).run) ok hs hsw hf) (lM xD)⟩
theorem GN (osc:Scope) (N:List Str) (ks:List (Str × Nat)) (hc:X.calm=true) (ho:X.env.scope=osc) (hN:X.N=N) (hnd:X.N.Nodup) (hy:X.N[i]?=some y) (hl:Loc X.env.scope y) (hi:RI X G (.Name x px) iter wi) (he:∀ cl C s₀ H₀ fp pins,RE (dH X sc cl C x ks s₀ H₀ fp pins) G elt te)
  (ok:bU sc osc N x ks:=by decide +kernel) (hs:∀ x,foldedSetIterable iter X.env x=pure x:=by intro _;rfl) (hsw:swapsWith (.ListComp elt [⟨.Name x px,iter,[],0⟩] sc pos) (some (.Name y py)) spos.line X.env=pure true:=by rfl) (hf:X.fn y=true∨X.env.scope.names.lookup y=some .local:=by first | exact .inl rfl | exact .inr rfl | assumption) :
  RS X G (.Assign [.Name y py] (.ListComp elt [⟨.Name x px,iter,[],0⟩] sc pos) spos) (p6 (qX wi ks rb te) (D7 i)) :=
 ⟨tQ (CG osc N ks hc ho hN hnd hy hl hi.run (fun cl C s₀ H₀ fp pins=>(he cl C s₀ H₀ fp pins).run) ok hs hsw hf) (lM rD)⟩
end
end Ov
namespace Ov
open PySem PySem.Spec PyProof.Rows
section
open HT (lexLt)
def iM:List Str→List Str→Bool
 | [],[]=>false
 | [],_ :: _=>true
 | _ :: _,[]=>false
 | x :: xs,y :: ys=>if x=y then iM xs ys else decide (x.cps.toList < y.cps.toList)
theorem j9 (x y:Str) (xs ys:List Str):iM (x :: xs) (y :: ys)=if x=y then iM xs ys else decide (x.cps.toList < y.cps.toList):=rfl
theorem ju:iM [] []=false:=rfl
theorem mU (y:Str) (ys:List Str):iM [] (y :: ys)=true:=rfl
theorem mM (x:Str) (xs:List Str):iM (x :: xs) []=false:=rfl
theorem xF (A:Around) (s:Shared) (a:Str) (t:Tok) (c:Str) (u:Tok):∃ e,SeqAt.EqAt A s (.str a t) (.str c u) e∧(e=true↔a=c) :=
 ⟨(a == c),SeqAt.EqAt.str_str a t c u,by simp⟩
theorem zt (A:Around) (s:Shared) (a:Str) (t:Tok) (c:Str) (u:Tok) (prog:Program) (w:World) (E:Value→Shared→Prop) (Q:Value→Shared→Prop) (h:Q (.bool (decide (a.cps.toList < c.cps.toList))) s) :
  wpAny (model prog w) A (richCompare .Lt (.str a t) (.str c u)) Q E s :=
 (PyProof.Rows.lt_str h:wpAny (model prog w) A (compareOp .Lt (.str a t) (.str c u)) Q E s)
open PySem.SeqAt
open PySem.AutoSeq1 (wpAny_loadPart')
open PySem.MeetsSeq PySem.MeetsSeq2 PySem.MeetsSeq3
theorem mJ (l b:Addr) (items items2:Array Value) (n n2:Nat) (dd dd2:Option Addr) (sl sl2:Array (Option Value)) (ns ms:List Str) (hi:StrsAre items.toList ns) (hj:StrsAre items2.toList ms) :
  Meets (Builtin.«tuple.__lt__» ⟨[.ref l,.ref b],[]⟩)
   (fun _ R s=>s.heap.get? l=some { cls:=.type "tuple",dict:=dd,data:=.seq items n,slots:=sl }∧s.heap.get? b=some { cls:=.type "tuple",dict:=dd2,data:=.seq items2 n2,slots:=sl2 } ∧
    R (.ok (.ret (.bool (iM ns ms)))) s) :=
 .of_wp fun prog w A R s h=>by
  obtain ⟨hp,g,d,tk,os⟩:=s;obtain ⟨hl,hb,h⟩:=h
  have f2:=AutoSeq1.sub_tuple_tuple
  have z1:items.size=ns.length:=by rw [← hi.length];simp
  have z2:items2.size=ms.length:=by rw [← hj.length];simp
  wp_walk using wpAny_loadPart' hl,wpAny_loadPart' hb,wpAny_forIn_list _ (fun rest b s'=>b.1=none∧s'=⟨hp,g,d,tk,os⟩∧∃ (vs ws:List Value) (ns' ms':List Str),rest=vs.zip ws ∧
   StrsAre vs ns'∧StrsAre ws ms'∧ns'.length + items2.size=ms'.length + items.size∧R (.ok (.ret (.bool (iM ns' ms')))) ⟨hp,g,d,tk,os⟩) _
  case turn =>
   rintro ⟨y,x⟩ rest b s' ⟨hb',rfl,vs,ws,ns',ms',hz,hvi,hwi,hlen,hR⟩
   cases hvi with
   | nil=>rw [List.zip_nil_left] at hz;cases hz
   | cons a t hvi' =>
    cases hwi with
    | nil=>rw [List.zip_nil_right] at hz;cases hz
    | cons c u hwi' =>
     rw [List.zip_cons_cons] at hz
     injection hz with hyx hrest
     injection hyx with hy hx
     subst hy hx
     rw [j9] at hR
     simp only [List.length_cons] at hlen
     obtain ⟨e,he,hiff⟩:=xF A.in1 ⟨hp,g,d,tk,os⟩ a t c u
     refine wpAny_bind (he prog w _ _ ?_)
     cases e with
     | true =>
      rw [if_pos (hiff.mp rfl)] at hR
      wp_walk
      exact ⟨rfl,rfl,_,_,_,_,hrest,hvi',hwi',by omega,hR⟩
     | false =>
      rw [if_neg (fun q=>absurd (hiff.mpr q) Bool.false_ne_true)] at hR
      have hri:=zt A.in1 ⟨hp,g,d,tk,os⟩ a t c u prog w
      wp_walk using hri
      exact ⟨_,rfl,by simpa using hR⟩
  case fin =>
   rintro ⟨b1,b2⟩ s' ⟨hb',rfl,vs,ws,ns',ms',hz,hvi,hwi,hlen,hR⟩
   simp only at hb'
   subst hb'
   have hv:iM ns' ms'=decide (items.size < items2.size):=by
    cases hvi with
    | nil =>
     cases hwi with
     | nil =>
      simp only [List.length_nil] at hlen
      rw [ju]
      exact (decide_eq_false (by omega)).symm
     | cons c u hw =>
      simp only [List.length_nil,List.length_cons] at hlen
      rw [mU]
      exact (decide_eq_true (by omega)).symm
    | cons a t hv =>
     cases hwi with
     | nil =>
      simp only [List.length_nil,List.length_cons] at hlen
      rw [mM]
      exact (decide_eq_false (by omega)).symm
     | cons c u hw =>
      rw [List.zip_cons_cons] at hz
      cases hz
   rw [hv] at hR
   wp_walk
   exact ⟨_,rfl,by simpa [Builtin.Tuple.tupleCompareSizes] using hR⟩
  case h =>
   exact ⟨rfl,rfl,items.toList,items2.toList,ns,ms,rfl,hi,hj,by omega,h⟩
section
variable {prog:Program} {w:World} {A:Around} {E:Value→Shared→Prop} {s:Shared}
theorem sS {l b:Addr} {items items2:Array Value} {ns ms:List Str} {Q:Value→Shared→Prop} (hl:IsTup s.heap l items) (hb:IsTup s.heap b items2) (hi:StrsAre items.toList ns) (hj:StrsAre items2.toList ms)
  (hu:A.units < cLine) (h:Q (.bool (iM ns ms)) s):wpAny (model prog w) A (compareOp .Lt (.ref l) (.ref b)) Q E s:=by
 obtain ⟨⟨cls,dd,data,sl⟩,ho,hc,n,hd⟩:=id hl
 obtain ⟨⟨cls2,dd2,data2,sl2⟩,ho2,hc2,n2,hd2⟩:=id hb
 simp only at hc hd hc2 hd2
 subst hc hd hc2 hd2
 exact richCompare_meets_room (op:=.Lt) ⟨_,ho,rfl⟩ ⟨_,ho2,rfl⟩ PySem.F.slot_tuple_lt PySem.F.entry_tuple_lt (PySem.F.args_tuple_lt_2 _ _) (mJ l b items items2 n n2 dd dd2 sl sl2 ns ms hi hj)
  ⟨ho,ho2,show Value.bool (iM ns ms)≠Value.notImplemented∧Q (.bool (iM ns ms)) s from ⟨(fun x=>nomatch x),h⟩⟩ hu
end
end
open L2 (V HO Hp Inv Cx VK XK TE TT TA TS TG mr TI TO ik Ends p7 Loc Gl Rd RelV Vals eX rY cf l_ rX o5 ip R2 upd ay aH cg fA Sp mz It aZ cQ bj Passes lA az Meth Mk Binds aI bX aw cH fb dI)
section
variable {X:Cx} {K:PySem.W.Frag}
theorem B2 (hu:X.A.units < cLine):eX X (compareOp .Lt) (fun x y H Q=>∃ a b ns ms,x=.ref a∧y=.ref b∧fA X.K H a (ns.map V.str)∧fA X.K H b (ms.map V.str)∧Q (.bl (iM ns ms)) H):=by
 intro pins s σ H x y v u Q I rx ry h
 obtain ⟨a,b,ns,ms,rfl,rfl,ha,hb,q⟩:=h
 cases rx;cases ry
 obtain ⟨is,r1,t1,_⟩:=I.tuple ha
 obtain ⟨js,r2,t2,_⟩:=I.tuple hb
 exact sS t1 t2 (by simpa using gh r1) (by simpa using gh r2) hu ⟨.bl _,H,I,rfl,q⟩
theorem mn {J:Hq} {H:Hp}:∀ {ns:List Str} {vs:List V},aE K J H (ns.map PV.str) vs→vs=ns.map V.str
 | [],_,h=>h
 | n :: ns,_,⟨v,us,e,h,k⟩=>by subst e;cases h;rw [mn k];rfl
def B6:jq:=fun x y J Q=>∃ ns ms,x=.tup (ns.map .str)∧y=.tup (ms.map .str)∧Q (.bl (iM ns ms)) J
theorem Ai (hu:X.A.units < cLine):jG X (compareOp .Lt) B6:=⟨_,B2 hu,fun J H x y v w Q2 Q rx ry r ⟨ns,ms,ex,ey,q⟩ k=>by
 subst ex ey
 obtain ⟨a,vs,rfl,h1,h2⟩:=rx
 obtain ⟨b,ws,rfl,h3,h4⟩:=ry
 cases mn h2;cases mn h4
 exact ⟨a,b,ns,ms,rfl,rfl,h1,h3,k (.bl _) J _ H rfl r .refl q⟩⟩
def Fs:jq:=fun x y J Q=>∃ xs ys,jH J x=some xs∧jH J y=some ys∧xs.length + ys.length≤sizeLine∧Q (.fl (xs ++ ys)) J
end
def bD (K:PySem.W.Frag) (C:Addr) (m qual:Str) (st:Stmt):Prop:=∃ f fd,Meth K C m f∧bX K m qual st f fd
structure c_ (K:PySem.W.Frag) (mg:Str→Option Value) (x:Str) (C:Addr):Prop where
 cl:lA K C
 m:mg x=some (.ref C)
 mkz:PySem.W.makesIn K C=true
 kp:PySem.W.keepIn K (.ref C)=true
theorem bq {K:PySem.W.Frag} {C f:Addr} {m qual:Str} {st:Stmt} {od an:Option Addr} {sl:Array (Option Value)} {oc kV dc pm cd ct:Value} (a:PySem.W.findIn K (.ref C) m=some (some (.ref f))) (i:PySem.W.isFn K (.ref f)=true)
  (l:K.lookup f=some ⟨oc,od,.func (PySem.W.fnOf m qual (L2.cv st) (L2.bE st) (L2.aj st) .none kV dc pm an cd ct),sl⟩) (c:PySem.W.codeIn K cd qual=true) (k:PySem.W.keepIn K (.ref f)=true):bD K C m qual st :=
 ⟨f,_,⟨a,i,k⟩,L2.sE l c k⟩
theorem pz {K:PySem.W.Frag} {h:Heap} {mg:Str→Option Value} {x:Str} {C:Addr} (X:K.In h) (G:h.Ns mainGlobals mg) (aC:PySem.W.nsIn K mainGlobals x=some (some (.ref C)))
  (pg:PySem.W.plainGet K C Str.empty=true) (hd:PySem.W.hasDictIn K C=true) (po:PySem.W.plainOver K C=true) (sa:PySem.W.findIn K (.ref C) "__setattr__"=some (some (.builtin "object.__setattr__"))) (mk:PySem.W.makesIn K C=true) (kc:PySem.W.keepIn K (.ref C)=true):c_ K mg x C :=
 ⟨⟨pg,hd,po,sa⟩,PySem.W.mg_of X G aC,mk,kc⟩
section
variable {P:Program} {w:World} {K:PySem.W.Frag} {mg:Str→Option Value} {base:Heap}
theorem bD.pJ {C:Addr} {m qual:Str} {st:Stmt} {k:Nat} {ps:List Str} {sp:cj} (D:bD K C m qual st) (cl:lA K C) (h:∀ f fd,bX K m qual st f fd→aI P w K mg base (cU P w) k f fd ps (dz K sp))
  (hb:∀ (kV doc pm:Value) (an:Option Addr) (cdv ct:Value) (us:List Value),us.length=ps.length→bindArgs (PySem.W.fnOf m qual (L2.cv st) (L2.bE st) (L2.aj st) .none kV doc pm an cdv ct) ⟨us,[]⟩=pure (ps.zip us)):cP P w K mg base C k m ps sp:=by
 obtain ⟨f,fd,hm,F⟩:=D
 exact ⟨cl,f,fd,hm,h f fd F,F.binds hb⟩
theorem bD.IL {x:Str} {C:Addr} {qual:Str} {st:Stmt} {k:Nat} {ps:List Str} {sp:cj} (D:bD K C "__init__" qual st) (kd:c_ K mg x C) (h:∀ f fd,bX K "__init__" qual st f fd→aI P w K mg base (cU P w) k f fd ps (dz K sp))
  (hb:∀ (kV doc pm:Value) (an:Option Addr) (cdv ct:Value) (us:List Value),us.length=ps.length→bindArgs (PySem.W.fnOf "__init__" qual (L2.cv st) (L2.bE st) (L2.aj st) .none kV doc pm an cdv ct) ⟨us,[]⟩=pure (ps.zip us)):wY P w K mg base C k x ps sp:=by
 obtain ⟨f,fd,hm,F⟩:=D
 exact ⟨kd.m,f,fd,⟨kd.mkz,hm.at_,hm.fn,kd.kp⟩,h f fd F,F.binds hb⟩
end
theorem zX {F:List Value→Prop} (h:∀ a,F [a]):∀ us:List Value,us.length=1→F us
 | [a],_=>h a
theorem iT {F:List Value→Prop} (h:∀ a b,F [a,b]):∀ us:List Value,us.length=2→F us
 | [a,b],_=>h a b
theorem GW {F:List Value→Prop} (h:∀ a b c,F [a,b,c]):∀ us:List Value,us.length=3→F us
 | [a,b,c],_=>h a b c
theorem EL {F:List Value→Prop} (h:∀ a b c d,F [a,b,c,d]):∀ us:List Value,us.length=4→F us
 | [a,b,c,d],_=>h a b c d
theorem JA {F:List Value→Prop} (h:∀ a b c d e,F [a,b,c,d,e]):∀ us:List Value,us.length=5→F us
 | [a,b,c,d,e],_=>h a b c d e
theorem JE {F:List Value→Prop} (h:∀ a b c d e f,F [a,b,c,d,e,f]):∀ us:List Value,us.length=6→F us
 | [a,b,c,d,e,f],_=>h a b c d e f
end Ov
namespace Ov
open PySem PySem.Spec PyProof.Rows
open L2 (V HO Hp Inv Cx VK XK Rd cg fA Sp aZ bj Passes aI bX aw cH upd ay aH)
def fr (q:Rat):PV:=.tup [.int q.num,.int (q.den:Int)]
theorem Ee (a b:Rat):(fr a=fr b)=(a=b):=by
 apply propext
 constructor
 ·intro h
  unfold fr at h
  simp only [PV.tup.injEq,List.cons.injEq,PV.int.injEq,and_true] at h
  exact Rat.ext h.1 (by have:=h.2;omega)
 ·intro h;rw [h]
theorem Cb (a:Rat):fr a=.tup [.int a.num,.int (a.den:Int)]:=rfl
theorem Ek (J:Hq) (q:Rat):dY J (fr q) (.int 0)=some (.int q.num):=cS _ _
theorem Dl (J:Hq) (q:Rat):dY J (fr q) (.int 1)=some (.int (q.den:Int)):=d7 _ _ _
theorem Fu (J:Hq) (q:Rat):wc J (fr q)=some "tuple":=rfl
theorem Df (J:Hq) (q:Rat):pU J (fr q)=some 2:=rfl
theorem tN (q:Rat):jO (fr q)=true:=by simp [fr,jO,iP]
theorem oa (q:Rat):zu (fr q)=false:=rfl
theorem D3 (q:Rat):dep (fF (fr q))=1:=by simp [fr,fF,gK,dep,dy]
theorem E7 (q:Rat):C6 (fr q)=True:=eq_true ⟨tN q,by rw [D3];decide⟩
theorem D' (i:Int):C6 (.int i)=True:=eq_true ⟨by simp [jO],by simp [fF,dep]⟩
theorem DD (i:Str):C6 (.str i)=True:=eq_true ⟨by simp [jO],by simp [fF,dep]⟩
theorem FI (i:Bool):C6 (.bl i)=True:=eq_true ⟨by simp [jO],by simp [fF,dep]⟩
theorem C5:C6 .non=True:=eq_true ⟨by simp [jO],by simp [fF,dep]⟩
theorem zZ (i:Int):jO (.int i)=true:=by simp [jO]
theorem uw (i:Str):jO (.str i)=true:=by simp [jO]
theorem DY (i:Bool):jO (.bl i)=true:=by simp [jO]
theorem A9:jO .non=true:=by simp [jO]
theorem Ay (xs:List PV):jO (.tup xs)=iP xs:=by simp [jO]
theorem vO (x:PV) (xs:List PV):iP (x :: xs)=(jO x && iP xs):=by simp [iP]
theorem yi:iP []=true:=by simp [iP]
theorem eq_int (a b:Int):eqQ (.int a) (.int b)=decide (a=b):=by unfold eqQ fF gZ;rw [Bool.beq_eq_decide_eq]
theorem eq_str (a b:Str):eqQ (.str a) (.str b)=decide (a=b):=by
 unfold eqQ fF gZ
 cases h:a == b with
 | true=>simp at h;simp [h]
 | false=>simp at h;simp [h]
theorem EZ (a b:Bool):eqQ (.bl a) (.bl b)=decide (a=b):=by unfold eqQ fF gZ;rw [Bool.beq_eq_decide_eq]
def tm (xs ys:List PV):Bool:=gF (gK xs) (gK ys)
theorem pN (xs ys:List PV):eqQ (.tup xs) (.tup ys)=tm xs ys:=by unfold eqQ fF gZ tm;rfl
theorem cW (x y:PV) (xs ys:List PV):tm (x :: xs) (y :: ys)=(eqQ x y && tm xs ys):=by unfold tm eqQ;simp [gK,gF]
theorem k4:tm [] []=true:=by unfold tm;simp [gK,gF]
theorem eq_self (x:PV):eqQ x x=true:=rS _
theorem uu (a b:Rat):eqQ (fr a) (fr b)=decide (a=b):=by
 rw [Cb,Cb,pN,cW,cW,k4,eq_int,eq_int,Bool.and_true,← Bool.decide_and]
 exact decide_eq_decide.mpr (by rw [AM])
theorem JB (a b c:PV):iD [a,b,c] (some 1) none=[b,c]:=rfl
theorem ty_int (b:Bool):(iK "int" "int"=some b)=(b=true):=by cases b <;> simp [iK]
theorem ty_bool (b:Bool):(iK "int" "bool"=some b)=(b=false):=by cases b <;> simp [iK]
theorem FE (b:Bool):(iK "bool" "bool"=some b)=(b=true):=by cases b <;> simp [iK]
theorem ty_str (b:Bool):(iK "str" "str"=some b)=(b=true):=by cases b <;> simp [iK]
theorem DM (b:Bool):(iK "tuple" "tuple"=some b)=(b=true):=by cases b <;> simp [iK]
theorem ty_list (b:Bool):(iK "list" "list"=some b)=(b=true):=by cases b <;> simp [iK]
theorem cZ {n:Nat} (h:n≤1000):n≤sizeLine:=Nat.le_of_lt (L2.aV h)
theorem Cg:(0≤sizeLine)=True:=eq_true (Nat.zero_le _)
theorem Gm:(1≤sizeLine)=True:=eq_true (cZ (by decide))
theorem FF:(2≤sizeLine)=True:=eq_true (cZ (by decide))
theorem GX:(3≤sizeLine)=True:=eq_true (cZ (by decide))
theorem Gy:(4≤sizeLine)=True:=eq_true (cZ (by decide))
section
variable (J:Hq) (xs:List PV) (a:Addr) (i:Int) (b:Bool) (z:Str) (T:String)
theorem IA:dY J (.tup xs) (.int i)=cH xs i:=rfl
theorem HV:dY J (.fl xs) (.int i)=cH xs i:=rfl
theorem Fn:dY J (.ref a) (.int i)=(match J a with | some (.lst xs)=>cH xs i | _=>none):=rfl
theorem IJ:jH J (.fl xs)=some xs:=rfl
theorem HC:jH J (.ref a)=(match J a with | some (.lst xs)=>some xs | _=>none):=rfl
theorem E8:pU J (.tup xs)=some xs.length:=rfl
theorem Ff:pU J (.fl xs)=some xs.length:=rfl
theorem Cz:pU J (.ref a)=(match J a with | some (.lst xs)=>some xs | _=>none).map List.length:=rfl
theorem Iq:wc J .non=some "NoneType":=rfl
theorem FK:wc J (.bl b)=some "bool":=rfl
theorem Hu:wc J (.int i)=some "int":=rfl
theorem Hs:wc J (.str z)=some "str":=rfl
theorem HS:wc J (.tup xs)=some "tuple":=rfl
theorem Ic:wc J (.fl xs)=some "list":=rfl
theorem Hl:wc J (.ref a)=(match J a with | some (.lst _)=>some "list" | some (.dct _ _)=>some "dict" | _=>none):=rfl
theorem GS:pK J .non=some false:=rfl
theorem CN:pK J (.bl b)=some b:=rfl
theorem FN:pK J (.int i)=some (i != 0):=rfl
theorem GP:pK J (.tup xs)=some (!xs.isEmpty):=rfl
theorem Gp:pK J (.fl xs)=some (!xs.isEmpty):=rfl
theorem F':pK J (.ref a)=(match J a with | some (.lst xs)=>some (!xs.isEmpty) | some (.dct kvs _)=>some (!kvs.isEmpty) | _=>none):=rfl
theorem HJ:Hd J (.fl xs)=some ⟨xs,fun _=>True⟩:=rfl
theorem H0:Hd J (.ref a)=(match J a with | some (.lst xs)=>some ⟨xs,fun J'=>J' a=some (.lst xs)⟩ | _=>none):=rfl
theorem Fi:zu .non=true:=rfl
theorem Ik:zu (.bl b)=false:=rfl
theorem Iw:zu (.int i)=false:=rfl
theorem IH:zu (.str z)=false:=rfl
theorem Iv:zu (.tup xs)=false:=rfl
theorem IB:zu (.fl xs)=false:=rfl
theorem HZ:zu (.ref a)=false:=rfl
theorem HD:EH T J (.fl xs)=(T="list"):=rfl
theorem Ii:EH T J (.str z)=(T="str"):=rfl
theorem Hy:EH T J (.ref a)=((T="list"∧∃ xs,J a=some (.lst xs))∨(T="dict"∧∃ kvs ep,J a=some (.dct kvs ep))):=rfl
end
def Fo (it:sJ) (g:sH) (tb:gw) (D:En) (τ:Sr) (J1:Hq):Prop:=∃ Pv:Nat→Sr→Hq→Prop,Pv 0 τ J1∧(∀ i τ J,Pv i τ J→it.ok J) ∧
 (∀ i x τ J,it.xs[i]?=some x→Pv i τ J→g x τ J fun τ2 J2=>tb { D with nx:=Pv (i + 1),ct:=Pv (i + 1),bk:=D.nx } τ2 J2)∧∀ τ J,Pv it.xs.length τ J→D.nx τ J
theorem An (wi:mO) (g:sH) (tb:gw) (D:En) (τ:Sr) (J:Hq):FJ wi g tb D τ J=wi τ J fun it J1=>Fo it g tb D τ J1:=rfl
theorem Au {lo:Int} {n:Nat} {g:sH} {tb:gw} {D:En} {τ:Sr} {J1:Hq} (Pv:Nat→Sr→Hq→Prop) (h0:Pv 0 τ J1)
  (hs:∀ (i:Nat) τ J,i < n→Pv i τ J→g (.int (lo + (i:Int))) τ J fun τ2 J2=>tb { D with nx:=Pv (i + 1),ct:=Pv (i + 1),bk:=D.nx } τ2 J2) (hd:∀ τ J,Pv n τ J→D.nx τ J):Fo ⟨lK lo n,fun _=>True⟩ g tb D τ J1 :=
 ⟨Pv,h0,fun _ _ _ _=>trivial,fun i x τ J e p=>by obtain ⟨a,b⟩:=(mh lo n i x).mp e;subst b;exact hs i τ J a p,fun τ J p=>hd τ J (by simpa [fI] using p)⟩
structure bP (mg:Str→Option Value):Prop extends xa mg where
 str:mg "str"=none
 dict:mg "dict"=none
 max:mg "max"=none
 zip:mg "zip"=none
 enumerate:mg "enumerate"=none
def mR (J' J:Hq):Prop:=∀ a,J' a=J a∨J' a=none
def Fg (Q:PV→Hq→Prop) (v:PV) (J:Hq):Prop:=∃ x J',mR J' J∧(x=v∨∃ a xs,v=.ref a∧x=.fl xs∧J a=some (.lst xs)∧J' a=none)∧Q x J'
theorem Fg.same {Q:PV→Hq→Prop} {v:PV} {J:Hq} (h:Q v J):Fg Q v J:=⟨v,J,fun _=>.inl rfl,.inl rfl,h⟩
theorem Fg.less {Q:PV→Hq→Prop} {v:PV} {J J':Hq} (l:mR J' J) (h:Q v J'):Fg Q v J:=⟨v,J',l,.inl rfl,h⟩
theorem Fg.m3 {Q:PV→Hq→Prop} {a:Addr} {xs:List PV} {J J':Hq} (l:mR J' J) (ha:J a=some (.lst xs)) (hn:J' a=none) (h:Q (.fl xs) J'):Fg Q (.ref a) J:=⟨.fl xs,J',l,.inr ⟨a,xs,rfl,rfl,ha,hn⟩,h⟩
section
variable {P:Program} {w:World} {K:PySem.W.Frag} {mg:Str→Option Value} {base:Heap}
theorem Fg.kn {J:Hq} {H:Hp} {Q2:PV→Hq→Prop} {Q:VK} (k:Kn K J H Q2 Q):Kn K J H (Fg Q2) Q:=fun z J1 u H1 rz r1 e1 ⟨x,J',l,hx,q⟩=>by
 have el:=Ext.less (K:=K) (H:=H1) l
 rcases hx with rfl | ⟨a,xs,rfl,rfl,ha,hn⟩
 ·exact k x J' u H1 (el.rep rz) (r1.less l) (e1.trans el) q
 ·cases rz
  obtain ⟨vs,h1,h2⟩:=r1 _ _ ha
  exact k (.fl xs) J' _ H1 ⟨a,vs,rfl,.inl ⟨hn,.inl h1⟩,el.gf h2⟩ (r1.less l) (e1.trans el) q
theorem HK {x qual:Str} {st:Stmt} {f:Addr} {fd:FuncData} {N ps:List Str} {k:Nat} {sp:cj} (F:bX K x qual st f fd) (S:aw N ps (L2.aj st)) (len:∀ xs J Q E,sp xs J Q E→xs.length=ps.length)
  (hbody:∀ (cdv:Value) (A:Around) (outer:List Env) (s:Shared) (H:Hp) (E:XK) (G:G2) (xs:List PV) (J:Hq) (Q:PV→Hq→Prop) (E2:Addr→Hq→Prop),bj k (A.deeper (envOfC qual (L2.aj st) s.heap.objs.size f cdv))→sp xs J Q E2 →
   zV (xg P w K mg base N qual (L2.aj st) f cdv A outer s H E) G E2 E →
   ∃ t,RB (xg P w K mg base N qual (L2.aj st) f cdv A outer s H E) G (L2.bE st) t∧t { nx:=fun _ J'=>Fg Q .non J',rt:=Fg Q } (sO N xs) J):aI P w K mg base (cU P w) (k + 1) f fd ps (dz K sp):=by
 have:=Jp (sp:=fun xs J Q E=>∃ Q0,Q=Fg Q0∧sp xs J Q0 E) F S (fun xs J Q E ⟨Q0,_,h⟩=>len xs J Q0 E h) (fun cdv A outer s H E G xs J Q E2 hr ⟨Q0,eq,h⟩ B=>by subst eq;exact hbody cdv A outer s H E G xs J Q0 E2 hr h B)
 exact this.imp fun vs H Q E ⟨xs,J,Q2,E2,a,b,c,d,e⟩=>⟨xs,J,Fg Q2,E2,a,b,⟨Q2,rfl,c⟩,Fg.kn d,e⟩
end
theorem FH {X:Cx} {G:G2}:zV X G (fun _ _=>False) L2.E0:=⟨fun _ _ _ _ _ _ _ ⟨_,_,_,_,_,z⟩=>z.elim,fun _ _ _ _ _ z=>z.elim⟩
theorem jR {K:PySem.W.Frag} {J:Hq} {H:Hp}:∀ ns:List Int,aE K J H (ns.map PV.int) (ns.map V.int)
 | []=>rfl
 | n :: ns=>⟨_,_,rfl,rfl,jR ns⟩
end Ov
namespace Ov
open PySem PySem.Spec PyProof.Rows L2
theorem FZ {α:Type} (a b c d e:α) (xs:List α):cH (a :: b :: c :: d :: e :: xs) 4=some e:=a_ (j:=4) rfl
theorem F2 {α:Type} (a b c d e f:α) (xs:List α):cH (a :: b :: c :: d :: e :: f :: xs) 5=some f:=a_ (j:=5) rfl
theorem GA {α:Type} (a b c d e f g:α) (xs:List α):cH (a :: b :: c :: d :: e :: f :: g :: xs) 6=some g:=a_ (j:=6) rfl
theorem ET {α:Type} (a b c d e f g h:α) (xs:List α):cH (a :: b :: c :: d :: e :: f :: g :: h :: xs) 7=some h:=a_ (j:=7) rfl
theorem Fc {α:Type} (a b c d e f g h i:α) (xs:List α):cH (a :: b :: c :: d :: e :: f :: g :: h :: i :: xs) 8=some i:=a_ (j:=8) rfl
theorem Fl {α:Type} (a b c d e f g h i j:α) (xs:List α):cH (a :: b :: c :: d :: e :: f :: g :: h :: i :: j :: xs) 9=some j:=a_ (j:=9) rfl
theorem Dw {α:Type} (a b c d e f g h i j k:α) (xs:List α):cH (a :: b :: c :: d :: e :: f :: g :: h :: i :: j :: k :: xs) 10=some k:=a_ (j:=10) rfl
theorem Ed {α:Type} (a b c d e f g h i j k l:α) (xs:List α):cH (a :: b :: c :: d :: e :: f :: g :: h :: i :: j :: k :: l :: xs) 11=some l:=a_ (j:=11) rfl
theorem Gw:(5≤sizeLine)=True:=eq_true (cZ (by decide))
theorem GR:(6≤sizeLine)=True:=eq_true (cZ (by decide))
theorem FD:(7≤sizeLine)=True:=eq_true (cZ (by decide))
theorem Fd:(8≤sizeLine)=True:=eq_true (cZ (by decide))
theorem F3:(9≤sizeLine)=True:=eq_true (cZ (by decide))
theorem CZ:(10≤sizeLine)=True:=eq_true (cZ (by decide))
theorem DA:(11≤sizeLine)=True:=eq_true (cZ (by decide))
theorem DL:(12≤sizeLine)=True:=eq_true (cZ (by decide))
theorem rG {ss:List Int} (h:ss.all (fun s=>decide (0 < s) && decide (s < 2 ^ 63))=true):∀ s∈ss,0 < s∧Bd 9000 s:=fun s hs=>by
 have:=List.all_eq_true.mp h s hs
 rw [Bool.and_eq_true,decide_eq_true_eq,decide_eq_true_eq] at this
 exact ⟨this.1,(Bd.small (by omega) (by omega)).mono (by decide)⟩
theorem Sz.div {n:Nat} {t b:Int} (ht:Bd n t) (hb:Bd n b) (h:b≠0):Sz n (Rat.divInt t b):=⟨ht.le (uH t b),hb.le (oC h)⟩
end Ov
namespace Ov
open PySem PySem.Spec PyProof.Rows
open L2 (V HO Hp Inv Cx VK XK TE TT TA TS TG mr TI TO ik Ends p7 Loc Gl Rd RelV Vals eX rY cf l_ rX o5 ip R2 upd ay aH cg fA Sp mz It aZ cQ bj Passes lA az Meth Mk Binds aI bX aw cH fb dI)
section
variable {X:Cx} {G:G2}
abbrev wD:=PV→PV→PV→Hq→(Hq→Prop)→Prop
def HG (X:Cx) (q:wD):Prop:=∃ r,ip X r∧∀ J H o i y ov iv u R2 R,bI X.K J H o ov→bI X.K J H i iv→bI X.K J H y u→Rep X.K J H→q o i y J R2→(∀ J' H',Rep X.K J' H'→Ext X.K J H J' H'→R2 J'→R H')→r ov iv u H R
def HM (to ti:cE) (t:wD):sH:=fun y τ J R=>to τ J fun o J1=>ti τ J1 fun i J2=>t o i y J2 fun J3=>R τ J3
theorem DI {o i:Expr} {to ti:cE} {t:wD} {pos:Pos} (hs:HG X t) (ho:RE X G o to) (hi:RE X G i ti)
  (ha:∀ v,assign (.Subscript o i pos) X.env v=(do
   let ov ← holding [v] (eval o X.env)
   let iv ← holding [v,ov] (eval i X.env)
   standAt pos
   holding [v,ov,iv] (setItem ov iv v)
   release [v,ov,iv] []):=by intro _;rfl):RG X G (.Subscript o i pos) (HM to ti t):=by
 obtain ⟨r,hr,lf⟩:=hs
 exact ⟨Hk (L2.oj ho.run hi.run hr ha) fun v σ H Q ⟨y,τ,J,Q2,ry,a2,h,k⟩ =>
  ⟨τ,J,_,a2,h,fun x J1 ov H1 rx r1 e1 h1=>⟨τ,J1,_,a2.go r1 e1,h1,fun z J2 iv H2 rz r2 e2 h2 =>
   lf J2 H2 x z y ov iv v _ _ (e2.rep rx) rz (e2.rep (e1.rep ry)) r2 h2 fun J3 H3 r3 e3 q=>k τ J3 σ H3 ((((a2.sl.ext e1).ext e2).ext e3)) r3 ((e1.trans e2).trans e3) q⟩⟩⟩
def Ga:wD:=fun o i y J R=>∃ p xs k j,o=.ref p∧i=.int k∧J p=some (.lst xs)∧L2.w_ xs.length k=some j∧R (put J p (.lst (xs.set j y)))
theorem oB {o i e:Expr} {to ti te:cE} {t:wD} {pos pos':Pos} (hs:HG X t) (ho:RE X G o to) (hi:RE X G i ti) (he:RE X G e te)
  (ha:∀ v,assign (.Subscript o i pos') X.env v=(do
   let ov ← holding [v] (eval o X.env)
   let iv ← holding [v,ov] (eval i X.env)
   standAt pos'
   holding [v,ov,iv] (setItem ov iv v)
   release [v,ov,iv] []):=by intro _;rfl)
  (hq:swapsWithSole [.Subscript o i pos'] e pos.line X.env=pure false:=by rfl) (hw:swappedStores [.Subscript o i pos'] e X.env=pure none:=by rfl)
  (h1:(assignEach [.Subscript o i pos'] X.env).map (·.2)=[assign (.Subscript o i pos') X.env]:=by rfl):RS X G (.Assign [.Subscript o i pos'] e pos) (p6 te (HM to ti t)):=o_ he (DI hs ho hi ha) hq hw h1
def Jf (X:Cx) (op:Operator) (q:jq):Prop:=∃ r,L2.Hz X op r∧LR X.K r q
def E6 (i:Nat) (te:cE) (q:jq):gw:=fun D τ J=>∃ x,τ[i]?=some (some x)∧te τ J fun y J1=>q x y J1 fun z J2=>D.nx (τ.set i (some z)) J2
theorem xm {i:Nat} {x:Str} {e:Expr} {te:cE} {op:Operator} {q:jq} {pos pos':Pos} (hN:X.N.Nodup) (hi:X.N[i]?=some x) (hx:Loc X.env.scope x) (he:RE X G e te) (ho:Jf X op q) (hf:X.fn x=true∨X.env.scope.names.lookup x=some .local:=by first | exact .inl rfl | exact .inr rfl | assumption) :
  RS X G (.AugAssign (.Name x pos') op e pos) (E6 i te q):=by
 obtain ⟨r,hr,lf⟩:=ho
 exact ⟨tQ (L2.DU hN hi hx he.run hr hf) fun D σ H ⟨τ,J,D2,a2,⟨x,hx,h⟩,g⟩=>by
  obtain ⟨v,h1,h2⟩:=a2.sl.get _ _ hx
  exact ⟨v,h1,τ,J,_,a2,h,fun y J1 u H1 ry r1 e1 q1=>lf J1 H1 x y v u _ _ (e1.rep h2) ry r1 q1 fun z J2 u2 H2 rz r2 e2 q2=>g.nx _ J2 _ H2 (((a2.sl.ext e1).ext e2).set i rz) r2 (e1.trans e2) q2⟩⟩
theorem xu:Jf X .Sub (B1 fun i j=>.int (i - j)):=⟨_,L2.Es,fun J H x y v w Q2 Q rx ry r ⟨i,j,ex,ey,q⟩ k=>by
 subst ex ey;cases rx;cases ry;exact ⟨i,j,rfl,rfl,k (.int _) J _ H rfl r .refl q⟩⟩
end
theorem fz {xs:List PV} {ok:Hq→Prop} {g:sH} {tb:gw} {D:En} {τ:Sr} {J1:Hq} (Pv:Nat→Sr→Hq→Prop) (h0:Pv 0 τ J1) (hk:∀ i τ J,Pv i τ J→ok J)
  (hs:∀ (i:Nat) x τ J,xs[i]?=some x→Pv i τ J→g x τ J fun τ2 J2=>tb { D with nx:=Pv (i + 1),ct:=Pv (i + 1),bk:=D.nx } τ2 J2) (hd:∀ τ J,Pv xs.length τ J→D.nx τ J):Fo ⟨xs,ok⟩ g tb D τ J1:=⟨Pv,h0,hk,hs,hd⟩
theorem uR {α:Type} (xs:List α) (x:α):cH (xs ++ [x]) (-1)=some x:=by
 unfold L2.cH L2.w_
 rw [if_neg (by decide),if_pos (by simp;omega)]
 have e:(-1 + ((xs ++ [x]).length:Int)).toNat=xs.length:=by simp only [List.length_append,List.length_cons,List.length_nil];omega
 rw [e]
 simp
theorem gS {K:PySem.W.Frag} {h:Heap} {mg:Str→Option Value} {x:Str} {C:Addr} (X:K.In h) (G:h.Ns mainGlobals mg) (a:PySem.W.nsIn K mainGlobals x=some (some (.ref C))) (b:(PySem.W.excIn K C HH "ValueError.__new__" && zJ K C)=true):Own K mg x C :=
 ⟨PySem.W.mg_of X G a,(Bool.and_eq_true_iff.mp b).1,Bz (Bool.and_eq_true_iff.mp b).2⟩
theorem mf {J:Hq} {x:PV} {ys:List PV} (h:jH J x=some ys):x=.fl ys∨∃ a,x=.ref a∧J a=some (.lst ys):=by
 cases x with
 | fl xs=>cases h;exact .inl rfl
 | ref a =>
  right
  refine ⟨a,rfl,?_⟩
  unfold jH at h
  simp only at h
  split at h
  ·rename_i e;cases h;exact e
  ·cases h
 | _=>cases h
theorem Dv {J:Hq} {x:PV} {ys:List PV} (h:jH J x=some ys):pU J x=some ys.length:=by
 rcases mf h with rfl | ⟨a,rfl,ha⟩
 ·rfl
 ·rw [Cz,ha];rfl
theorem F5 {J:Hq} {x:PV} {ys:List PV} (h:jH J x=some ys) (i:Int):dY J x (.int i)=cH ys i:=by
 rcases mf h with rfl | ⟨a,rfl,ha⟩
 ·rfl
 ·rw [Fn,ha]
def Dz (j:Nat):List PV:=.bl true :: (List.range 10).map fun k=>.bl (decide (j=k))
def HB (c:Nat→Addr) (N n:Nat) (t:(Addr→Hq→Prop)→gw):gw:=fun D τ J =>
 t (fun a J'=>∃ j,j < 10∧a=c j∧D.nx ((List.replicate N none).set n (some (.fl (Dz j)))) J') D τ J
section
variable {X:Cx} {G:G2}
end
theorem C9 {a b:gw} {D:En} {τ:Sr} {J:Hq} (h:a { D with nx:=fun τ' J'=>b D τ' J' } τ J):cm a b D τ J:=h
def EM (J:Hq):PV→Option (List PV)
 | .tup xs=>some xs
 | .fl xs=>some xs
 | .ref a=>match J a with
  | some (.lst xs)=>some xs
  | _=>none
 | _=>none
theorem xx {K:PySem.W.Frag} {J:Hq} {H:Hp} {y:PV} {u:V} {xs:List PV} (h:EM J y=some xs) (r:bI K J H y u) (rr:Rep K J H):∃ p vs,u=.ref p∧(cg K H p vs∨fA K H p vs)∧aE K J H xs vs:=by
 cases y with
 | tup ys=>cases h;obtain ⟨a,vs,rfl,h1,h2⟩:=r;exact ⟨a,vs,rfl,.inr h1,h2⟩
 | fl ys=>cases h;obtain ⟨a,vs,rfl,h1,h2⟩:=r;exact ⟨a,vs,rfl,.inl h1.sq,h2⟩
 | ref a =>
  cases r
  unfold EM at h
  simp only at h
  split at h
  ·rename_i e;cases h
   obtain ⟨vs,h1,h2⟩:=rr _ _ e
   exact ⟨a,vs,rfl,.inl (cg.of h1),h2⟩
  ·cases h
 | _=>cases h
theorem f7 {K:PySem.W.Frag} {J:Hq} {H:Hp}:∀ {ns:List Str} {vs:List V},aE K J H (ns.map PV.str) vs→vs=ns.map V.str
 | [],_,h=>h
 | n :: ns,_,⟨v,us,e,h,k⟩=>by subst e;cases h;rw [f7 k];rfl
theorem jc {K:PySem.W.Frag} {J:Hq} {H:Hp}:∀ {ns:List Int} {vs:List V},aE K J H (ns.map PV.int) vs→vs=ns.map V.int
 | [],_,h=>h
 | n :: ns,_,⟨v,us,e,h,k⟩=>by subst e;cases h;rw [jc k];rfl
theorem t4 {α:Type} [BEq α] [LawfulBEq α] [DecidableEq α] (x y:α):(x == y)=decide (x=y):=by by_cases h:x=y <;> simp [h]
theorem AR (s:Str) (ss:List Str):L2.ED (.str s) (ss.map V.str)=decide (s∈ss):=by
 unfold L2.ED
 induction ss with
 | nil=>rfl
 | cons x ss ih =>
  rw [List.map_cons,List.any_cons,ih,show L2.zU (.str x) (.str s)=(x == s) from rfl,t4]
  by_cases h:x=s
  ·subst h;simp
  ·simp [h,show ¬ s=x from fun e=>h e.symm]
theorem BH (s:Int) (ss:List Int):L2.ED (.int s) (ss.map V.int)=decide (s∈ss):=by
 unfold L2.ED
 induction ss with
 | nil=>rfl
 | cons x ss ih =>
  rw [List.map_cons,List.any_cons,ih,show L2.zU (.int x) (.int s)=(x == s) from rfl,t4]
  by_cases h:x=s
  ·subst h;simp
  ·simp [h,show ¬ s=x from fun e=>h e.symm]
section
variable {X:Cx} {G:G2}
def G4 (f:Bool→Bool):jq:=fun x y J Q=>∃ (s:Str) (ss:List Str),x=.str s∧EM J y=some (ss.map .str)∧Q (.bl (f (decide (s∈ss)))) J
def Hv (f:Bool→Bool):jq:=fun x y J Q=>∃ (s:Int) (ss:List Int),x=.int s∧EM J y=some (ss.map .int)∧Q (.bl (f (decide (s∈ss)))) J
theorem wx (ss:List Str):(ss.map V.str).all L2.gr=true:=by simp [L2.gr]
theorem vT (ss:List Int):(ss.map V.int).all L2.gr=true:=by simp [L2.gr]
theorem uf:jG X (compareOp .NotIn) (G4 not):=⟨_,L2.o9,fun J H x y v w Q2 Q rx ry r ⟨s,ss,ex,hy,q⟩ k=>by
 subst ex;cases rx
 obtain ⟨p,vs,rfl,hq,h2⟩:=xx hy ry r
 cases f7 h2
 exact ⟨p,_,rfl,hq,rfl,wx ss,k (.bl _) J _ H (by rw [if_pos rfl,AR];rfl) r .refl q⟩⟩
theorem DH:jG X (compareOp .In) (Hv id):=⟨_,L2.wC,fun J H x y v w Q2 Q rx ry r ⟨s,ss,ex,hy,q⟩ k=>by
 subst ex;cases rx
 obtain ⟨p,vs,rfl,hq,h2⟩:=xx hy ry r
 cases jc h2
 exact ⟨p,_,rfl,hq,rfl,vT ss,k (.bl _) J _ H (by rw [if_neg (by decide),BH];rfl) r .refl q⟩⟩
end
end Ov
namespace L2
open PySem PySem.Spec PyProof.Rows
section
variable {X:Cx} {tg:Expr}
end
end L2
namespace Ov
open PySem PySem.Spec PyProof.Rows
open L2 (V HO Hp Inv Cx VK XK TE TT TA TS TG mr TI TO ik Ends p7 Loc Gl Rd RelV Vals eX rY cf l_ rX o5 ip R2 upd ay aH cg fA Sp mz It aZ cQ bj Passes lA az Meth Mk Binds aI bX aw cH fb dI)
section
variable {X:Cx} {G:G2} {tg:Expr}
theorem km {K:PySem.W.Frag} {J:Hq} {H:Hp} {y:PV} {u:V} {xs:List PV} (h:jH J y=some xs) (r:bI K J H y u) (rr:Rep K J H):∃ p vs,u=.ref p∧cg K H p vs∧aE K J H xs vs:=by
 rcases mf h with rfl | ⟨a,rfl,ha⟩
 ·obtain ⟨a,vs,rfl,h1,h2⟩:=r;exact ⟨a,vs,rfl,h1.sq,h2⟩
 ·cases r
  obtain ⟨vs,h1,h2⟩:=rr _ _ ha
  exact ⟨a,vs,rfl,cg.of h1,h2⟩
theorem aE.flat {K:PySem.W.Frag} {J:Hq} {H:Hp} {xs:List PV} {vs:List V} (r:aE K J H xs vs):∀ k:Nat,aE K J H (List.replicate k xs).flatten (List.replicate k vs).flatten
 | 0=>rfl
 | k + 1=>by rw [List.replicate_succ,List.replicate_succ,List.flatten_cons,List.flatten_cons];exact r.append (aE.flat r k)
end
end Ov
namespace L2
open PySem PySem.Spec PyProof.Rows
section
variable {X:Cx} {pins:List (Addr × Obj)} {σ:St} {H:Hp} {s:Shared} {h':Heap}
theorem Inv.kT {t':Nat} {ch:List Addr} (I:Inv X pins σ H s) (k:∀ b o,b ∉ ch→s.heap.get? b=some o→h'.get? b=some o) (hf:∀ b∈ch,gi X pins H b):Inv X pins σ H { s with heap:=h',toks:=t' }:=by
 have nit:∀ b u,H b=some u→b ∉ ch:=fun b u e z=>by rw [(hf b z).1] at e;cases e
 refine I.step (g':=s.gens) (d':=s.drawn) (ch:=ch) (fun b hb=>?_) (fun b o _ _ hc e _=>k b o hc e) (fun b o _ _ hc e _=>⟨o.slots,k b o hc e⟩) (fun _ _ _ _ n=>n)
  (fun b o hc e=>⟨o,k b o hc e⟩) (fun _ _ e=>e) (fun _ _ _ e=>e) (fun b ps e=>⟨#[],by rw [e];simp⟩) (fun m hm=>?_) (fun b u e=>?_) I.bare
 ·obtain ⟨f0,f1,f2,f3,f4,f5⟩:=hf b hb
  exact ⟨f3,f1,f4,f5⟩
 ·obtain ⟨o,es,ep,ho,r⟩:=hm
  exact ⟨o,es,ep,k _ o (fun z=>(hf _ z).2.1 rfl) ho,r⟩
 ·refine (I.hok b u e).lW (fun c v hc q=>k c v ?_ q) (fun _ q=>q) fun _ _ q=>q
  rcases hc with z | z
  ·rw [z];exact nit b u e
  ·exact nit c _ z
end
def Ji (K:PySem.W.Frag) (a b:Addr):It :=
 ⟨fun i H=>∃ xs ys x y,cg K H a xs∧cg K H b ys∧xs[i]?=some x∧ys[i]?=some y,
  fun i H z H'=>∃ T x y,H T=none∧z=.ref T∧H'=upd H T (.tup [x,y])∧(∀ xs,cg K H a xs→xs[i]?=some x)∧∀ ys,cg K H b ys→ys[i]?=some y,
  fun i H=>∃ xs ys,cg K H a xs∧cg K H b ys∧(xs.length≤i∨ys.length≤i)⟩
theorem x_ {P:Program} {w:World} {K:PySem.W.Frag} {elts:List Expr} {x1} {pos:Pos} {z TI TO i1 i2 l1 l2:Addr} (D:ZipApart z TI TO i1 i2 l1 l2) :
  Turn P w K (.Tuple elts x1 pos) (Ji K l1 l2) [z,TI,TO,i1,i2] z (fun i h=>IsZip h z TI TO .none∧IsPair h TI (.ref i1) (.ref i2)∧(∃ a b,IsPair h TO a b)∧h.IsListIter i1 l1 i∧h.IsListIter i2 l2 i) where
 mem:=by simp
 obj:=fun i h ⟨hz,hTI,⟨a,b,hTO⟩,h1,h2⟩ c hc=>by
  simp only [List.mem_cons,List.not_mem_nil,or_false] at hc
  rcases hc with rfl | rfl | rfl | rfl | rfl
  ·exact ⟨_,hz,fun v z=>by cases z⟩
  ·exact ⟨_,hTI,fun v z=>by cases z⟩
  ·exact ⟨_,hTO,fun v z=>by cases z⟩
  ·obtain ⟨o,e,c,d⟩:=h1;exact ⟨o,e,fun v z=>by rw [d] at z;cases z⟩
  ·obtain ⟨o,e,c,d⟩:=h2;exact ⟨o,e,fun v z=>by rw [d] at z;cases z⟩
 keep:=fun i h h' ⟨hz,hTI,⟨a,b,hTO⟩,h1,h2⟩ k=>⟨k z (by simp) _ hz,k TI (by simp) _ hTI,⟨a,b,k TO (by simp) _ hTO⟩,h1.at fun o e=>k i1 (by simp) o e,h2.at fun o e=>k i2 (by simp) o e⟩
 item:=by
  intro X hP hw hK hc i pins s σ H E I hf st hg
  subst hP hw hK
  obtain ⟨hz,hTI,⟨a,b,hTO⟩,h1,h2⟩:=st
  obtain ⟨xs,ys,x,y,hqx,hqy,hx,hy⟩:=hg
  obtain ⟨its,rv,p,hzx⟩:=I.list hqx
  obtain ⟨jts,ru,p',hzy⟩:=I.list hqy
  obtain ⟨u,hu,rx⟩:=rv.get hx
  obtain ⟨v,hv,ry⟩:=ru.get hy
  refine wpAny_pyNext_zip_item D hz hTI hTO h1 h2 p.isList p'.isList (x:=u) (y:=v) (by simpa using hu) (by simpa using hv) fun h' a1 a2 a3 a4 a5 a6 hk=>?_
  refine ⟨_,rfl,wpAny_letOwnedTupleGo_zip a1 fun h'' hz' hs'=>?_⟩
  have hT:H s.heap.objs.size=none:=I.hok.fresh (Nat.le_refl _)
  have lt:∀ {c o},s.heap.get? c=some o→c≠s.heap.objs.size:=fun e=>Nat.ne_of_lt (Heap.lt_size e)
  have nz:s.heap.objs.size≠z:=Ne.symm (lt hz)
  have I0:Inv X pins σ (upd H s.heap.objs.size (.tup [x,y])) { s with heap:=s.heap.push { cls:=.type "tuple",data:=.seq #[u,v] },toks:=s.toks }:=I.laid (t':=s.toks) (fun b u e=>Heap.get?_push_of_some _ e) (Nat.le_refl _) ⟨by simp [sizeLine],[u,v],.cons rx (.cons ry .nil),⟨_,Heap.get?_push_size _ rfl,rfl,_,rfl⟩⟩
  have fpn:∀ b∈[z,TI,TO,i1,i2],b≠s.heap.objs.size:=fun b hb=>by
   simp only [List.mem_cons,List.not_mem_nil,or_false] at hb
   rcases hb with rfl | rfl | rfl | rfl | rfl
   ·exact lt hz
   ·exact lt hTI
   ·exact lt hTO
   ·obtain ⟨o,e,_⟩:=h1;exact lt e
   ·obtain ⟨o,e,_⟩:=h2;exact lt e
  have fpu:∀ b∈[z,TI,TO,i1,i2],gi X pins (upd H s.heap.objs.size (.tup [x,y])) b:=fun b hb=>⟨by rw [aH (fpn b hb)];exact (hf b hb).1,(hf b hb).2⟩
  have I1:Inv X pins σ (upd H s.heap.objs.size (.tup [x,y])) { s with heap:=h'' }:=Inv.kT (s:={ s with heap:=s.heap.push { cls:=.type "tuple",data:=.seq #[u,v] },toks:=s.toks }) (t':=s.toks) (ch:=[z,TI,TO,i1,i2]) I0 (fun b o hb e=>by
   simp only [List.mem_cons,List.not_mem_nil,or_false,not_or] at hb
   rcases Heap.get?_push_cases e with ⟨rfl,rfl⟩ | e'
   ·exact hs'.extBut _ _ hb.1 a5
   ·exact hs'.extBut _ _ hb.1 (hk b o hb.1 hb.2.2.1 hb.2.2.2.1 hb.2.2.2.2 e')) fpu
  refine ⟨.ref s.heap.objs.size,_,I1,rfl,⟨_,x,y,hT,rfl,rfl,fun zs hq=>by rw [I.gI hq hqx];exact hx,fun zs hq=>by rw [I.gI hq hqy];exact hy⟩,⟨hz',hs'.extBut _ _ D.TIz (hk _ _ D.TIz D.TITO D.TIi1 D.TIi2 hTI),⟨_,_,hs'.extBut _ _ D.TOz a2⟩,a3.extBut hs'.extBut D.i1z,a4.extBut hs'.extBut D.i2z⟩,fun b hb=>(fpu b hb).1⟩
 done:=by
  intro X hP hw hK hc i pins s σ H E I hf st hg
  subst hP hw hK
  obtain ⟨hz,hTI,⟨a,b,hTO⟩,h1,h2⟩:=st
  obtain ⟨xs,ys,hqx,hqy,hl⟩:=hg
  obtain ⟨its,rv,p,hzx⟩:=I.list hqx
  obtain ⟨jts,ru,p',hzy⟩:=I.list hqy
  have e1:=rv.length
  have e2:=ru.length
  refine wpAny_pyNext_zip_end (I.ok.hd hc) D hz hTI hTO h1 h2 p.isList p'.isList ?_ fun h' hk=>⟨rfl,I.kT (t':=s.toks) (ch:=[z,TI,TO,i1,i2]) (fun b o hb e=>?_) hf⟩
  ·rcases hl with hl | hl
   ·exact .inl (by simp;omega)
   ·exact .inr (by simp;omega)
  ·simp only [List.mem_cons,List.not_mem_nil,or_false,not_or] at hb
   exact hk b o hb.1 hb.2.2.1 hb.2.2.2.1 hb.2.2.2.2 e
 self:=fun _ _ _ _ _ st h=>wpAny_pyIter_zip st.1 h
def Ip (K:PySem.W.Frag) (ta:TA):TI:=fun σ H R=>ta σ H fun vs H1=>∃ a b xs ys,vs=[.ref a,.ref b]∧cg K H1 a xs∧cg K H1 b ys∧R (Ji K a b) H1
section
variable {X:Cx}
theorem Di {l m:Expr} {elts:List Expr} {x1} {tp:Pos} {ta:TA} {p pos:Pos} (hg:Gl X "zip") (hm:X.mg "zip"=none) (ha:PA X [l,m] ta) (hs:starEach [l,m] X.env=(false,eval l X.env) :: starEach [m] X.env:=by rfl) (hp:(backTo pos (starEach [m] X.env)).any (·.1)=false:=by rfl):PI X (.Tuple elts x1 tp) (.Call (.Name "zip" p) [l,m] [] pos) (Ip X.K ta):=by
 intro pins s σ H R I h
 refine Call_ (gL I hg hm PyProof.Rows.Boot.«zip» (PyProof.Rows.callWith_type1 (bB (ha pos pins s σ H _ I h) fun us s1 ⟨vs,H1,I1,r1,q1⟩=>?_) hs hp))
 obtain ⟨a,b,xs,ys,e,hqa,hqb,q⟩:=q1
 subst e
 cases r1 with
 | cons r rr =>
  cases rr with
  | cons r' rr' =>
   cases rr'
   cases r
   cases r'
   obtain ⟨its,rv,pl,hz⟩:=I1.list hqa
   obtain ⟨jts,ru,pl',hz'⟩:=I1.list hqb
   refine call_zip_2 pl.isList pl'.isList fun h' b1 b2 b3 b4 b5 b6 hk=>?_
   refine wpAny_pyIter_zip b1 ?_
   have la:a < s1.heap.objs.size:=by obtain ⟨o,e,_⟩:=pl.isList;exact Heap.lt_size e
   have lb:b < s1.heap.objs.size:=by obtain ⟨o,e,_⟩:=pl'.isList;exact Heap.lt_size e
   have D:ZipApart (s1.heap.objs.size + 4) (s1.heap.objs.size + 2) (s1.heap.objs.size + 3) s1.heap.objs.size (s1.heap.objs.size + 1) a b:=by
    have la':@LT.lt Nat _ a s1.heap.objs.size:=la
    have lb':@LT.lt Nat _ b s1.heap.objs.size:=lb
    constructor <;> (show @Ne Nat _ _;omega)
   refine ⟨_,_,_,_,H1,rfl,I1.kept (t':=s1.toks) hk,x_ D,⟨b1,b2,⟨_,_,b3⟩,b4,b5⟩,fun c hc=>?_,q⟩
   have hc':s1.heap.objs.size≤c:=by
    simp only [List.mem_cons,List.not_mem_nil,or_false] at hc
    show @LE.le Nat _ _ _
    rcases hc with rfl | rfl | rfl | rfl | rfl
    ·exact Nat.le_add_right _ _
    ·exact Nat.le_add_right _ _
    ·exact Nat.le_add_right _ _
    ·exact Nat.le_refl _
    ·exact Nat.le_add_right _ _
   exact I1.yK hc' (I1.hok.fresh hc')
end
end L2
namespace Ov
open PySem PySem.Spec PyProof.Rows
open L2 (V HO Hp Inv Cx VK XK TE TT TA TS TG mr TI TO ik Ends p7 Loc Gl Rd RelV Vals eX rY cf l_ rX o5 ip R2 upd ay aH cg fA Sp mz It aZ cQ bj Passes lA az Meth Mk Binds aI bX aw cH fb dI)
section
variable {X:Cx} {G:G2}
def IY (ta:jT):mO:=fun τ J R=>ta τ J fun vs J1=>∃ x y xs ys,vs=[x,y]∧jH J1 x=some xs∧jH J1 y=some ys∧R ⟨(xs.zip ys).map fun p=>.tup [p.1,p.2],fun J'=>jH J' x=some xs∧jH J' y=some ys⟩ J1
theorem C_ {l m:Expr} {elts:List Expr} {x1} {tp:Pos} {ta:jT} {p pos:Pos} (hg:Gl X "zip") (hm:X.mg "zip"=none) (ha:RA X G [l,m] ta) (hs:starEach [l,m] X.env=(false,eval l X.env) :: starEach [m] X.env:=by rfl) (hp:(backTo pos (starEach [m] X.env)).any (·.1)=false:=by rfl) :
  RI X G (.Tuple elts x1 tp) (.Call (.Name "zip" p) [l,m] [] pos) (IY ta):=⟨EO (L2.Di hg hm ha.run hs hp) fun σ H R ⟨τ,J,R2,a2,h,k⟩=>⟨τ,J,_,a2,h,fun vs J1 us H1 rs r1 e1 ⟨x,y,xs,ys,ev,hx,hy,q⟩=>by
 subst ev
 obtain ⟨v,us',rfl,rv,v',us'',rfl,rv',e'⟩:=rs
 cases e'
 obtain ⟨a,ws,rfl,h1,h2⟩:=km hx rv r1
 obtain ⟨b,ws',rfl,h1',h2'⟩:=km hy rv' r1
 refine ⟨a,b,ws,ws',rfl,h1,h1',k _ J1 _ H1 ?_ r1 e1 q⟩
 have at_:∀ J' H',Ext X.K J1 H1 J' H'→Rep X.K J' H'→jH J' x=some xs∧jH J' y=some ys→∃ vs us,cg X.K H' a vs∧aE X.K J' H' xs vs∧cg X.K H' b us∧aE X.K J' H' ys us:=fun J' H' e r o=>by
  obtain ⟨c,vs,eb,g1,g2⟩:=km o.1 (e.rep rv) r
  cases eb
  obtain ⟨c',us,eb,g1',g2'⟩:=km o.2 (e.rep rv') r
  cases eb
  exact ⟨vs,us,g1,g2,g1',g2'⟩
 exact {
  go:=fun J' H' e r o i hi=>by
   obtain ⟨vs,us,s,rs,s',rs'⟩:=at_ J' H' e r o
   rw [List.length_map,List.length_zip] at hi
   have i1:i < vs.length:=by rw [← rs.length];omega
   have i2:i < us.length:=by rw [← rs'.length];omega
   exact ⟨vs,us,vs[i],us[i],s,s',List.getElem?_eq_getElem i1,List.getElem?_eq_getElem i2⟩
  yl:=fun J' H' e r o i hi v H2 y=>by
   obtain ⟨vs,us,s,rs,s',rs'⟩:=at_ J' H' e r o
   obtain ⟨T,z,z',hT,rfl,rfl,y1,y2⟩:=y
   obtain ⟨c,ec,rc⟩:=rs.get' (y1 vs s)
   obtain ⟨c',ec',rc'⟩:=rs'.get' (y2 us s')
   have sm:=aZ.new hT (.tup [z,z'])
   have e2:=Ext.same (K:=X.K) (J:=J') sm
   refine ⟨.tup [c,c'],?_,⟨T,[z,z'],rfl,.inl (.inl ay),e2.gf ⟨z,_,rfl,rc,z',_,rfl,rc',rfl⟩⟩,r.same sm,e2⟩
   rw [List.getElem?_map,(List.getElem?_zip_eq_some (z:=(c,c'))).mpr ⟨ec,ec'⟩];rfl
  stop:=fun J' H' e r o=>by
   obtain ⟨vs,us,s,rs,s',rs'⟩:=at_ J' H' e r o
   refine ⟨vs,us,s,s',?_⟩
   rw [List.length_map,List.length_zip,← rs.length,← rs'.length]
   omega }⟩⟩
end
end Ov
namespace L2
open PySem PySem.Spec PyProof.Rows
section
variable {α β:Type}
def iS (kvs:List (Str × α)) (k:Str):Option α:=(kvs.find? fun kv=>decide (kv.1=k)).map (·.2)
def pf (kvs:List (Str × α)) (k:Str) (v:α):List (Str × α):=if kvs.any (fun kv=>decide (kv.1=k)) then kvs.map (fun kv=>if kv.1=k then (kv.1,v) else kv) else kvs ++ [(k,v)]
def xH (kvs:List (Str × α)) (k:Str):List (Str × α):=kvs.filter fun kv=>decide (kv.1≠k)
theorem jy (p:Str × α) (r:List (Str × α)) (k:Str):iS (p :: r) k=if p.1=k then some p.2 else iS r k:=by
 unfold iS
 rw [List.find?_cons]
 by_cases h:p.1=k <;> simp [h]
theorem vo (kvs:List (Str × α)) (k:Str) (v:α):(pf kvs k v).length≤kvs.length + 1:=by
 unfold pf;split <;> simp
theorem Am (kvs:List (Str × α)) (k:Str):(xH kvs k).length≤kvs.length:=List.length_filter_le _ _
abbrev kR (R:α→β→Prop):List (Str × α)→List (Str × β)→Prop:=Paired fun p q=>p.1=q.1∧R p.2 q.2
variable {R:α→β→Prop}
theorem kR.va {kvs:List (Str × α)} {vs:List (Str × β)} (h:kR R kvs vs) (k:Str):(∀ x,iS kvs k=some x→∃ y,iS vs k=some y∧R x y)∧(iS kvs k).isSome=(iS vs k).isSome:=by
 induction h with
 | nil=>exact ⟨fun x e=>by simp [iS] at e,rfl⟩
 | @cons p q kvs vs r _ ih =>
  rw [jy,jy,← r.1]
  by_cases e:p.1=k
  ·rw [if_pos e,if_pos e];exact ⟨fun x z=>by cases z;exact ⟨_,rfl,r.2⟩,rfl⟩
  ·rw [if_neg e,if_neg e];exact ih
theorem kR.any {kvs:List (Str × α)} {vs:List (Str × β)} (h:kR R kvs vs) (k:Str):(kvs.any fun kv=>decide (kv.1=k))=vs.any fun kv=>decide (kv.1=k):=by
 induction h with
 | nil=>rfl
 | cons r _ ih=>rw [List.any_cons,List.any_cons,ih,r.1]
theorem kR.snoc {kvs:List (Str × α)} {vs:List (Str × β)} (h:kR R kvs vs) {k:Str} {x:α} {y:β} (r:R x y):kR R (kvs ++ [(k,x)]) (vs ++ [(k,y)]):=by
 induction h with
 | nil=>exact .cons ⟨rfl,r⟩ .nil
 | cons q _ ih=>exact .cons q ih
theorem kR.pu {kvs:List (Str × α)} {vs:List (Str × β)} (h:kR R kvs vs) {k:Str} {x:α} {y:β} (r:R x y):kR R (pf kvs k x) (pf vs k y):=by
 unfold pf
 rw [h.any k]
 split
 ·rename_i hany;clear hany
  induction h with
  | nil=>exact .nil
  | @cons p q kvs vs z _ ih =>
   rw [List.map_cons,List.map_cons]
   refine .cons ?_ ih
   by_cases e:p.1=k
   ·rw [if_pos e,if_pos (z.1 ▸ e)];exact ⟨z.1,r⟩
   ·rw [if_neg e,if_neg (z.1 ▸ e)];exact z
 ·exact h.snoc r
theorem kR.dr {kvs:List (Str × α)} {vs:List (Str × β)} (h:kR R kvs vs) (k:Str):kR R (xH kvs k) (xH vs k):=by
 unfold xH
 induction h with
 | nil=>exact .nil
 | @cons p q kvs vs z _ ih =>
  rw [List.filter_cons,List.filter_cons,z.1]
  split
  ·exact .cons z ih
  ·exact ih
theorem kR.len {kvs:List (Str × α)} {vs:List (Str × β)} (h:kR R kvs vs):kvs.length=vs.length:=Paired.length h
theorem kR.keys {kvs:List (Str × α)} {vs:List (Str × β)} (h:kR R kvs vs):kvs.map (·.1)=vs.map (·.1):=by
 induction h with
 | nil=>rfl
 | cons r _ ih=>rw [List.map_cons,List.map_cons,ih,r.1]
end
theorem vR (vs:List (Str × Value)) (k:Str):valueAt vs k=iS vs k:=rfl
theorem str_is {P:Program} {w:World} {k:Str} {u:Value} (r:RelV (.str k) u):(PySem.strKind P w).is k u=true:=by
 obtain ⟨t,rfl⟩:=r
 simp [PySem.strKind,Value.isStrOf]
theorem xC {P:Program} {w:World} {k:Str} {u:Value} (h:(PySem.strKind P w).is k u=true):RelV (.str k) u:=Value.isStrOf_shape h
section
variable {X:Cx} {pins:List (Addr × Obj)} {σ:St} {H:Hp} {s:Shared} {a:Addr} {A:Around} {E:Value→Shared→Prop} {kvs:List (Str × V)} {ep:Nat}
theorem jb (I:Inv X pins σ H s) (e:H a=some (.dE kvs ep)):kvs.length≤sizeLine∧(a == sysModules)=false∧∃ vs,kR RelV kvs vs∧s.heap.DictAt (PySem.strKind X.prog X.w) a vs ep:=I.hok a _ e
theorem l7 {h':Heap} {t':Nat} {kvs':List (Str × V)} {vs':List (Str × Value)} (I:Inv X pins σ H s) (e:H a=some (.dE kvs ep)) (hs:Heap.SameBut a s.heap h') (hz:kvs'.length≤sizeLine) (hd:(a == sysModules)=false) (rel:kR RelV kvs' vs') (dd:h'.DictOf (PySem.strKind X.prog X.w) a vs') :
  ∃ ep',Inv X pins σ (upd H a (.dE kvs' ep')) { s with heap:=h',toks:=t' }:=by
 obtain ⟨ep',da⟩:=dd.dictAt
 refine ⟨ep',I.write (x:=a) (e:=a) (by rw [e];exact True.intro) (.inl rfl) (fun b q hb z=>(hs.2 b hb).trans z) (let ⟨q,_,_,hq,_⟩:=dd;⟨q,hq⟩) ⟨hz,hd,vs',rel,da⟩⟩
theorem Inv.GH (I:Inv X pins σ H s):sysModules < s.heap.objs.size:=by
 have h:mainGlobals < s.heap.objs.size:=(I.mod.glob.keeps I.bk).lt
 exact Nat.lt_trans (by decide) h
end
theorem vW {P:Program} {w:World} {kvs:List (Str × V)} {vs:List (Str × Value)} (rel:kR RelV kvs vs):∀ {us:List Value},us.length=kvs.length→(∀ (j:Nat) (v:Value),us[j]?=some v→∃ k x,vs[j]?=some (k,x)∧(PySem.strKind P w).is k v=true)→Vals (kvs.map fun kv=>V.str kv.1) us:=by
 induction rel with
 | nil =>
  intro us hlen _
  cases us with
  | nil=>exact .nil
  | cons _ _=>cases hlen
 | @cons p q kvs vs z _ ih =>
  intro us hlen hget
  cases us with
  | nil=>cases hlen
  | cons u us =>
   rw [List.map_cons]
   refine .cons ?_ (ih (by simpa using hlen) fun j v e=>?_)
   ·obtain ⟨k,x,e1,e2⟩:=hget 0 u rfl
    rw [List.getElem?_cons_zero] at e1
    cases e1
    rw [z.1];exact xC e2
   ·obtain ⟨k,x,e1,e2⟩:=hget (j + 1) v (by rw [List.getElem?_cons_succ];exact e)
    rw [List.getElem?_cons_succ] at e1
    exact ⟨k,x,e1,e2⟩
def Ij:R2:=fun x y H Q=>∃ a kvs ep k v,x=.ref a∧y=.str k∧H a=some (.dE kvs ep)∧iS kvs k=some v∧Q v H
def FY (f:Bool→Bool):R2:=fun x y H Q=>∃ a kvs ep k,x=.str k∧y=.ref a∧H a=some (.dE kvs ep)∧Q (.bl (f (iS kvs k).isSome)) H
def Eh:List V→Hp→VK→Prop:=fun xs H Q=>∃ a kvs ep,xs=[.ref a]∧H a=some (.dE kvs ep)∧∀ p,H p=none→Q (.ref p) (upd H p (.lst (kvs.map fun kv=>.str kv.1)))
def FL:V→List V→Hp→VK→Prop:=fun x xs H Q=>∃ a kvs ep k v,x=.ref a∧xs=[.str k]∧H a=some (.dE kvs ep)∧iS kvs k=some v∧∀ ep',Q v (upd H a (.dE (xH kvs k) ep'))
def GL:ik:=fun o i v H Q=>∃ a kvs ep k,o=.ref a∧i=.str k∧H a=some (.dE kvs ep)∧kvs.length < sizeLine∧∀ ep',Q (upd H a (.dE (pf kvs k v) ep'))
def Fz:TE:=fun _ H Q=>∀ p,H p=none→∀ ep,Q (.ref p) (upd H p (.dE [] ep))
section
variable {X:Cx}
theorem Fy:l_ X Ij:=by
 intro value slice pins s σ H x y v u Q I rx ry q hs
 obtain ⟨a,kvs,ep,k,z,rfl,rfl,hp,hz,q⟩:=q
 cases rx
 obtain ⟨_,hd,vs,rel,da⟩:=jb I hp
 have hT:s.TypeIs (.ref a) "dict":=da.dictOf.typeIs
 obtain ⟨w',hw,rw'⟩:=(rel.va k).1 z hz
 unfold subscriptTail
 refine wpAny_bind ?_
 rw [getitemInPython_of_ne hT.not_modules]
 refine wpAny_bind (wpAny_specialOf hT PySem.F.slot_dict_getitem.lookup ?_)
 have fin:wpAny (model X.prog X.w) X.A (subscripted slice false (.ref a) u) (fun r s₃=>wpAny (model X.prog X.w) X.A (letTemporaryGo value (.ref a) r >>= fun _=>pure r) (EP X pins σ Q) X.xe s₃) X.xe s:=by
  rw [hs]
  exact wpAny_operating (wpAny_getItem_of (str_is ry) da.dictOf.mapOf hw (wpAny_bind (wpAny_letTemporaryGo (wpAny_pure ⟨z,H,I.tok _,rw',q⟩))))
 first
  | exact wpAny_pure (wpAny_bind fin)
  | exact wpAny_bind (wpAny_pure (wpAny_bind fin))
  | exact wpAny_bind fin
theorem DW:eX X (compareOp .In) (FY id):=by
 intro pins s σ H x y v u Q I rx ry ⟨a,kvs,ep,k,ex,ey,hp,q⟩
 subst ex ey
 cases ry
 obtain ⟨_,hd,vs,rel,da⟩:=jb I hp
 refine wpAny_in_of (str_is rx) hd da.dictOf.mapOf ?_
 exact ⟨.bl _,H,I.tok _,by rw [vR,← (rel.va k).2];rfl,q⟩
theorem qW (hc:X.calm=true):cf X (.type "list") Eh:=by
 intro pins s σ H xs us Q I r ⟨a,kvs,ep,ex,hp,q⟩
 subst ex
 obtain ⟨u,rfl,ru⟩:=vals1 r
 cases ru
 obtain ⟨hz,hd,vs,rel,da⟩:=jb I hp
 have hl:=rel.len
 refine PySem.W.kdl_call (PySem.W.kdl_dict (knd:=PySem.strKind X.prog X.w) (kvs:=vs) (ep:=ep) hd) (I.ok.hd hc) da (by rw [← hl];exact hz) fun h' tk acc c hk hS hacc=>?_
 have hkeys:Vals (kvs.map fun kv=>V.str kv.1) acc.toList:=by
  have hlen:acc.toList.length=kvs.length:=by rw [Array.length_toList,hacc.1,hl]
  have hget:∀ j v,acc.toList[j]?=some v→∃ k x,vs[j]?=some (k,x)∧(PySem.strKind X.prog X.w).is k v=true:=fun j v e=>hacc.2 j v (by rw [← Array.getElem?_toList];exact e)
  exact vW rel hlen hget
 have I2:Inv X pins σ (upd H s.heap.objs.size (.lst (kvs.map fun kv=>V.str kv.1))) { s with heap:=h',toks:=tk } :=
  I.laid (t':=tk) hk (Nat.le_refl _) (show cn X.prog X.w _ _ _ (.lst _) from ⟨by rw [List.length_map];exact hz,acc.toList,c,hkeys,by rw [Array.toArray_toList];exact hS⟩)
 exact ⟨.ref s.heap.objs.size,_,I2,rfl,q _ (I.hok.fresh (Nat.le_refl _))⟩
theorem BP:o5 X "dict.pop" FL:=by
 intro pins s σ H x xs v us Q I rx r ⟨a,kvs,ep,k,z,ex,exs,hp,hv,q⟩
 subst ex exs
 cases rx
 obtain ⟨u,rfl,ru⟩:=vals1 r
 obtain ⟨hz,hd,vs,rel,da⟩:=jb I hp
 obtain ⟨w',hw,rw'⟩:=(rel.va k).1 z hv
 have hpart:(keyPart u).isSome=true:=by obtain ⟨t,q⟩:=(show ∃ t,u=Value.str k t from ru);subst q;rfl
 refine call_meetsIn PySem.F.slot_dict_pop da.dictOf.typeIs PySem.F.entry_dict_pop (PySem.F.args_dict_pop_2 _ _) (meets_dict_pop_there (PySem.strKind X.prog X.w) a (str_is ru) [] (.inl rfl) hpart)
  ⟨vs,w',da.dictOf,by rw [← rel.len];exact hz,hw,fun h' dd' hs=>?_⟩
 obtain ⟨ep',I2⟩:=l7 (t':=s.toks + 1) I hp hs (Nat.le_trans (Am kvs k) hz) hd (rel.dr k) dd'
 exact ⟨z,_,I2,rw',q ep'⟩
theorem Dm:ip X GL:=by
 intro pins s σ H o i v ov iv u Q I ro ri rv ⟨a,kvs,ep,k,eo,ei,hp,hl,q⟩
 subst eo ei
 cases ro
 obtain ⟨hz,hd,vs,rel,da⟩:=jb I hp
 refine wpAny_setItem_pairs (hsz:=by rw [← rel.len];exact hz) (str_is ri) da.dictOf fun h' dd' hs=>?_
 obtain ⟨ep',I2⟩:=l7 (t':=s.toks + 1) I hp hs (show (pf kvs k v).length≤sizeLine from Nat.le_trans (vo kvs k v) hl) hd (rel.pu rv) dd'
 exact ⟨_,I2,q ep'⟩
theorem Af {pos:Pos}:PE X (.Dict [] [] pos) Fz:=fun pins s σ H Q I h=>by
 have hd:(s.heap.push { cls:=.type "dict",data:=.dict #[] }).DictOf (PySem.strKind X.prog X.w) s.heap.objs.size []:=Heap.DictOf.new s.heap
 obtain ⟨ep,da⟩:=hd.dictAt
 exact wpAny_Dict_empty ⟨.ref s.heap.objs.size,_,I.laid (a:=s.heap.objs.size) (o:=.dE [] ep) (t':=s.toks) (fun _ _ q=>Heap.get?_push_of_some _ q) (Nat.le_refl _)
  ⟨Nat.zero_le _,beq_eq_false_iff_ne.mpr (Ne.symm (Nat.ne_of_lt I.GH)),[],.nil,da⟩,rfl,h _ (I.hok.fresh (Nat.le_refl _)) ep⟩
end
def Jm (a:Addr) (ks:List Str) (ep:Nat):It :=
 ⟨fun i H=>(∃ kvs,H a=some (.dE kvs ep)∧kvs.map (·.1)=ks)∧i < ks.length,
  fun i H z H'=>H'=H∧∃ k,ks[i]?=some k∧z=.str k,
  fun i H=>(∃ kvs,H a=some (.dE kvs ep)∧kvs.map (·.1)=ks)∧ks.length≤i⟩
theorem wg {P:Program} {w:World} {K:PySem.W.Frag} {tg:Expr} (a it:Addr) (ks:List Str) (ep:Nat):Turn P w K tg (Jm a ks ep) [it] it (fun i h=>h.IsKeyIter it a i ks.length ep) where
 mem:=by simp
 obj:=fun i h st b hb=>by
  have e:b=it:=by simpa using hb
  subst e
  obtain ⟨o,e,c,d⟩:=st
  exact ⟨o,e,fun v z=>by rw [d] at z;cases z⟩
 keep:=fun i h h' st k=>st.at fun o e=>k it (by simp) o e
 item:=by
  intro X hP hw hK hc i pins s σ H E I hf st hg
  subst hP hw hK
  obtain ⟨⟨kvs,hp,hks⟩,hi⟩:=hg
  obtain ⟨hz,hd,vs,rel,da⟩:=jb I hp
  have hl:ks.length=vs.length:=by rw [← hks,List.length_map];exact rel.len
  obtain ⟨f0,f1,f2,f3,f4,f5⟩:=hf it (by simp)
  obtain ⟨⟨k,x⟩,hx⟩:∃ p,vs[i]?=some p:=⟨vs[i]'(by omega),List.getElem?_eq_getElem (by omega)⟩
  have hk:ks[i]?=some k:=by rw [← hks,rel.keys,List.getElem?_map,hx];rfl
  refine wpAny_pyNext_dict_item (by rw [← hl];exact st) da hx fun key h' hkey st' sb=>?_
  rw [← hl] at st'
  have I1:Inv X pins σ H { s with heap:=h' }:=I.turned (t':=s.toks) (fun b o hb e=>(sb.2 b hb).trans e) f0 f1 f3 f4 f5
  obtain ⟨o,e,c,d⟩:=id st'
  exact ⟨key,rfl,xB (s:={ s with heap:=h' }) e c d (by decide) ⟨.str k,H,I1,xC hkey,⟨rfl,k,hk,rfl⟩,st',fun b hb=>(hf b hb).1⟩⟩
 done:=by
  intro X hP hw hK hc i pins s σ H E I hf st hg
  subst hP hw hK
  obtain ⟨⟨kvs,hp,hks⟩,hi⟩:=hg
  obtain ⟨hz,hd,vs,rel,da⟩:=jb I hp
  have hl:ks.length=vs.length:=by rw [← hks,List.length_map];exact rel.len
  obtain ⟨f0,f1,f2,f3,f4,f5⟩:=hf it (by simp)
  refine wpAny_pyNext_dict_end (I.ok.hd hc) (by rw [← hl];exact st) da (by rw [List.getElem?_eq_none_iff];omega) fun h' hk=>⟨rfl,I.turned (t':=s.toks) (fun b o hb e=>hk b o hb e) f0 f1 f3 f4 f5⟩
 self:=fun _ _ _ _ _ st h=>wpAny_pyIter_keyiter st h
def Fv (td:TE):TI:=fun σ H R=>td σ H fun x H1=>∃ a kvs ep,x=.ref a∧H1 a=some (.dE kvs ep)∧R (Jm a (kvs.map (·.1)) ep) H1
theorem BW {X:Cx} {tg l:Expr} {tl:TE} (hl:PE X l tl):PI X tg l (Fv tl):=by
 intro pins s σ H R I h
 refine bB (hl pins s σ H _ I h) fun v s1 ⟨x,H1,I1,r1,q1⟩=>?_
 obtain ⟨a,kvs,ep,e,hp,q⟩:=q1
 subst e
 cases r1
 obtain ⟨hz,hd,vs,rel,da⟩:=jb I1 hp
 refine wpAny_pyIter_dict hd da ?_
 refine ⟨s1.heap.objs.size,[s1.heap.objs.size],_,_,H1,rfl,I1.kept (t':=s1.toks) fun b o e=>Heap.get?_push_of_some _ e,wg a _ (kvs.map (·.1)) ep,⟨_,Heap.get?_push_size _ rfl,rfl,by rw [List.length_map,rel.len];rfl⟩,fun b hb=>?_,q⟩
 have e:b=s1.heap.objs.size:=by simpa using hb
 subst e
 exact I1.yK (Nat.le_refl _) (I1.hok.fresh (Nat.le_refl _))
end L2
namespace Ov
open PySem PySem.Spec PyProof.Rows L2
def GK (X:Cx) (ifs:List Expr) (t:TT):Prop :=
 ∀ (pins:List (Addr × Obj)) (s:Shared) (σ:L2.St) (H:Hp) (Q:Bool→Hp→Prop),Inv X pins σ H s→t σ H Q →
  wpAny (model X.prog X.w) X.A (forIn ifs true fun c r=>if r=true then do let ok ← isTrue c X.env (eval c X.env);pure (ForInStep.yield ok) else pure (ForInStep.yield r)) (TP X pins σ Q) X.xe s
theorem B0 {X:Cx}:GK X [] (fun _ H Q=>Q true H):=fun pins s σ H Q I h=>by rw [List.forIn_nil];exact wpAny_pure ⟨H,I,h⟩
section
variable {prog:Program} {w:World} {A:Around} {R:Result→Shared→Prop} {s:Shared}
theorem sd {kx vx iter:Expr} {ifs:List Expr} {x:Str} {px:Pos} {sc:Scope} {pos:Pos} {it:Value} {D:Addr} {env:Env} (I:Nat→Shared→Prop)
  (turn:∀ n s,I n s→wpAny (model prog w) A (pyNext it) (fun r s₁=>match r with
   | none=>R (.ok .next) s₁
   | some v=>wpAny (model prog w) A (letOwnedTupleGo (.Name x px) it v) (fun _ s₂=>wpAny (model prog w) A (assign (.Name x px) env v) (fun _ s₃=>wpAny (model prog w) A (forIn ifs true fun c r=>if r=true then do let ok ← isTrue c env (eval c env);pure (ForInStep.yield ok) else pure (ForInStep.yield r)) (fun ok s₃=>if ok=true then wpAny (model prog w) A (eval kx env) (fun kv s₄ =>
     wpAny (model prog w) A (eval vx env) (fun vv s₅=>wpAny (model prog w) A (dictSet D kv vv) (fun _ s₅=>∃ m,m < n∧I m s₅) (fun _ _=>False) s₅) (fun _ _=>False) s₄) (fun _ _=>False) s₃ else ∃ m,m < n∧I m s₃) (fun _ _=>False) s₃) (fun _ _=>False) s₂) (fun _ _=>False) s₁) (fun _ _=>False) s)
  (n:Nat) (h:I n s):codeAny (model prog w) A (.compLoop (.DictComp kx vx [⟨.Name x px,iter,ifs,0⟩] sc pos) 0 it (.ref D) env) R s:=by
 refine codeAny_loop rfl I (fun n s hI=>?_) n h
 show wpAny _ _ ((compTurn (.DictComp kx vx [⟨.Name x px,iter,ifs,0⟩] sc pos) 0 it (.ref D) env).onRaise (fun x=>do noteFrame x env;theTreesLotGoes x)) _ _ s
 refine wpAny_noted ?_
 rw [compTurn_dict]
 have no:∀ (e:Value) (s':Shared),False→notedBy (model prog w) A env (fun e s'=>R (.error e) s') e s':=fun _ _ z=>z.elim
 refine wpAny_bind (wpAny_standAt (wpAny_bind (wpAny_mono (turn n s hI) (fun r s₁ h₁=>?_) no)))
 cases r with
 | none=>exact wpAny_pure h₁
 | some v =>
  refine wpAny_bind (wpAny_mono h₁ (fun _ s₂ h₂=>?_) no)
  refine wpAny_bind (wpAny_mono h₂ (fun _ s₃ h₃=>wpAny_bind (wpAny_mono h₃ (fun ok s₃' h₃'=>?_) no)) no)
  cases ok with
  | false=>exact wpAny_pure ⟨rfl,h₃'⟩
  | true =>
   exact wpAny_bind (wpAny_bind (wpAny_mono h₃' (fun kv s₄ h₄=>wpAny_bind (wpAny_holding (wpAny_mono h₄ (fun vv s₅ h₅=>wpAny_bind (wpAny_standAt (wpAny_holding (wpAny_mono h₅ (fun _ s₆ h₆=>wpAny_pure ⟨rfl,h₆⟩) no)))) no))) no))
end
def Jw (wi:TI) (ks:List (Str × Nat)) (tc:TT) (tk te:TE):TE:=fun σ H Q=>wi σ H fun J H1=>∀ D,H1 D=none→∀ ep,∃ W:Nat→Nat→Hp→Prop,(∃ m,W 0 m (upd H1 D (.dE [] ep))) ∧
 ∀ i m H2,W i m H2→(J.stop i H2∧Q (.ref D) H2)∨(J.go i H2∧∀ v H3,J.yld i H2 v H3→tc (some v :: cD ks σ) H3 fun b H4=>if b=true then tk (some v :: cD ks σ) H4 fun y H5=>te (some v :: cD ks σ) H5 fun z H6=>∃ kvs ep k,y=.str k∧H6 D=some (.dE kvs ep)∧kvs.length < sizeLine∧∃ m',m' < m∧∀ ep',W (i + 1) m' (upd H6 D (.dE (L2.pf kvs k z) ep')) else ∃ m',m' < m∧W (i + 1) m' H4)
section
variable {X:Cx}
theorem wz {kx vx iter:Expr} {ifs:List Expr} {x:Str} {px:Pos} {sc:Scope} {pos:Pos} {tk te:TE} {tc:TT} {ks:List (Str × Nat)} {cl:List (Str × Addr)} {pins:List (Addr × Obj)} {σ:L2.St} {H:Hp} {s:Shared} {it:Addr} {fp:List Addr} {tn:Nat→Heap→Prop} {J:It} {Q:VK}
  {RR:Value→Addr→Result→Shared→Prop} {E:Value→Shared→Prop}
  (hc:X.calm=true) (ok:bU sc X.env.scope X.N x ks) (h1:∀ y c,cl.lookup y=some c→X.env.cells.lookup y=some c) (h2:∀ y∈sc.names,y.2=.free→∃ c,cl.lookup y.1=some c)
  (hk:∀ cl C s₀ H₀ fp pins,PE (dH X sc cl C x ks s₀ H₀ fp pins) kx tk) (he:∀ cl C s₀ H₀ fp pins,PE (dH X sc cl C x ks s₀ H₀ fp pins) vx te) (hcn:∀ cl C s₀ H₀ fp pins,GK (dH X sc cl C x ks s₀ H₀ fp pins) ifs tc)
  (I:Inv X pins σ H s) (T:Turn X.prog X.w X.K (.Name x px) J fp it tn) (st:tn 0 s.heap) (f:∀ b∈fp,gi X pins H b)
  (hw:∀ D,H D=none→∀ ep,∃ W:Nat→Nat→Hp→Prop,(∃ m,W 0 m (upd H D (.dE [] ep)))∧∀ i m H2,W i m H2→(J.stop i H2∧Q (.ref D) H2) ∨
   (J.go i H2∧∀ v H3,J.yld i H2 v H3→tc (some v :: cD ks σ) H3 fun b H4=>if b=true then tk (some v :: cD ks σ) H4 fun y H5=>te (some v :: cD ks σ) H5 fun z H6=>∃ kvs ep k,y=.str k∧H6 D=some (.dE kvs ep)∧kvs.length < sizeLine∧∃ m',m' < m∧∀ ep',W (i + 1) m' (upd H6 D (.dE (L2.pf kvs k z) ep')) else ∃ m',m' < m∧W (i + 1) m' H4))
  (hR:∀ (D C:Addr) (s':Shared) (H':Hp) (m:Str→Option Value),Inv X pins σ H' s'→Q (.ref D) H'→s'.heap.Ns C m→H' C=none→C≠X.env.locals→X.s₀.heap.objs.size≤C→(∀ y c,X.env.cells.lookup y=some c→c≠C)→(∀ p∈X.pn ++ pins,p.1≠C)→RR (.ref D) C (.ok .next) s') :
  wpAny (model X.prog X.w) X.A newDict (fun acc s₃=>wpAny (model X.prog X.w) X.A (newFunctionEnv sc X.env.globals cl [] X.env.qual none .none (some X.env)) (fun cenv s₄ =>
   codeAny (model X.prog X.w) X.A (.compStart (.DictComp kx vx [⟨.Name x px,iter,ifs,0⟩] sc pos) 0 (.ref it) acc { cenv with scope:=relabel sc X.env }) (RR acc cenv.locals) s₄) E s₃) E s:=by
 have okk:=ok
 obtain ⟨kd,nc,lx,ll,fr,kk,nd⟩:=okk
 have hD0:H s.heap.objs.size=none:=I.hok.fresh (Nat.le_refl _)
 have hdd:(s.heap.push { cls:=.type "dict",dict:=none,data:=.dict #[] }).DictOf (PySem.strKind X.prog X.w) s.heap.objs.size []:=Heap.DictOf.new s.heap
 obtain ⟨ep0,da⟩:=hdd.dictAt
 obtain ⟨W,⟨m0,w0⟩,turn⟩:=hw s.heap.objs.size hD0 ep0
 refine wpAny_newObj_type ?_
 have I3:Inv X pins σ (upd H s.heap.objs.size (.dE [] ep0)) { s with heap:=s.heap.push { cls:=.type "dict",dict:=none,data:=.dict #[] } } :=
  I.laid (t':=s.toks) (fun b u e=>Heap.get?_push_of_some _ e) (Nat.le_refl _) ⟨Nat.zero_le _,beq_eq_false_iff_ne.mpr (Ne.symm (Nat.ne_of_lt I.GH)),[],.nil,da⟩
 have st3:tn 0 (s.heap.push { cls:=.type "dict",dict:=none,data:=.dict #[] }):=T.keep 0 _ _ st fun b hb o e=>Heap.get?_push_of_some _ e
 clear da hdd
 generalize hD:s.heap.objs.size=D at *
 generalize hH:upd H D (.dE [] ep0)=H3 at *
 generalize hs3:({ s with heap:=s.heap.push { cls:=.type "dict",dict:=none,data:=.dict #[] } }:Shared)=s3 at *
 have e3:s.heap.push { cls:=.type "dict",dict:=none,data:=.dict #[] }=s3.heap:=by rw [← hs3]
 rw [e3] at st3
 have fD:∀ b∈fp,b≠D:=fun b hb z=>by
  obtain ⟨o,ho,_⟩:=T.obj 0 _ st b hb
  have:=Heap.lt_size ho
  rw [z,← hD] at this
  exact Nat.lt_irrefl _ this
 have f3:∀ b∈fp,gi X pins H3 b:=fun b hb=>⟨by rw [← hH,aH (fD b hb)];exact (f b hb).1,(f b hb).2⟩
 have g3:∀ b∈fp,∃ o,s3.heap.get? b=some o:=fun b hb=>by
  obtain ⟨o,ho,_⟩:=T.obj 0 _ st3 b hb
  exact ⟨o,ho⟩
 refine wpAny_newFunctionEnv nc (by intro y hy;simp at hy) (fun h₁ hns hsb=>?_) kd
 have kp:∀ b o,s3.heap.get? b=some o→h₁.get? b=some o:=fun b o e=>hsb.extBut b o (Nat.ne_of_lt (Heap.lt_size e)) (Heap.get?_push_of_some _ e)
 have J0:=lE (fp:=fp) (cl:=cl) (t':=s3.toks + ([]:List (Str × Value)).length) I3 ok h1 h2 (fun b hb=>⟨f3 b hb,g3 b hb⟩) hns kp
 have st4:tn 0 h₁:=T.keep 0 _ _ st3 fun b hb o e=>kp b o e
 have ltC:∀ b o,s3.heap.get? b=some o→b≠s3.heap.objs.size:=fun b o e=>Nat.ne_of_lt (Heap.lt_size e)
 have cC:∀ y c,X.env.cells.lookup y=some c→c≠s3.heap.objs.size:=fun y c e=>by
  obtain ⟨v,o,ho,_⟩:=I3.cell y c e
  exact ltC c o ho
 have pC:∀ p∈X.pn ++ pins,p.1≠s3.heap.objs.size:=fun p hp=>ltC _ _ (I3.pin p hp).1
 have lC:s3.heap.objs.size≠X.env.locals:=Nat.ne_of_gt I3.lt
 have fX:∀ {H':Hp},(∀ b∈fp,H' b=none)→∀ b∈fp,gi (dH X sc cl s3.heap.objs.size x ks s3 H3 fp pins) [] H' b:=fun hn b hb=>by
  obtain ⟨o,ho⟩:=g3 b hb
  obtain ⟨_,q1,q2,q3,q4,q5⟩:=f b hb
  refine ⟨hn b hb,ltC b o ho,fun z=>?_,.inl hb,fun y c e=>q4 y c (h1 y c e),fun p hp=>q5 p (by simpa [dH] using hp)⟩
  rcases List.mem_cons.mp (I3.iC b z) with e | e
  ·exact q1 e
  ·exact q2 e
 have back:∀ {o:Option V} {H':Hp} {s':Shared},Inv (dH X sc cl s3.heap.objs.size x ks s3 H3 fp pins) [] (o :: cD ks σ) H' s'→Inv X pins σ H' s':=fun {o H' s'} J=>by
  obtain ⟨hh,g,d,t,os'⟩:=s'
  obtain rfl:os'=s3.os:=J.os
  exact I3.call (h':=hh) (g':=g) (d':=d) (t':=t) (ch:=fp) J.base J.hok J.bare fun b hb=>⟨(f b hb).2.2.2.1,(f b hb).2.1,(f b hb).2.2.2.2.1,(f b hb).2.2.2.2.2⟩
 have lookX:(relabel sc X.env).names.lookup x=some .local:=lookup_relabel_local lx
 have loop:∀ s',(∃ (i:Nat) (o:Option V) (H':Hp),Inv (dH X sc cl s3.heap.objs.size x ks s3 H3 fp pins) [] (o :: cD ks σ) H' s'∧tn i s'.heap∧(∀ b∈fp,H' b=none)∧W i m0 H') →
   codeAny (model X.prog X.w) X.A (.compLoop (.DictComp kx vx [⟨.Name x px,iter,ifs,0⟩] sc pos) 0 (.ref it) (.ref D) (compEnvC sc cl s3.heap.objs.size X.env)) (RR (.ref D) s3.heap.objs.size) s':=by
  intro s' hs'
  refine sd (fun n s'=>∃ (i:Nat) (o:Option V) (H':Hp),Inv (dH X sc cl s3.heap.objs.size x ks s3 H3 fp pins) [] (o :: cD ks σ) H' s'∧tn i s'.heap∧(∀ b∈fp,H' b=none)∧W i n H') ?_ m0 hs'
  rintro n s5 ⟨i,o,H5,J5,t5,n5,w5⟩
  rcases turn i n H5 w5 with ⟨stop,hq⟩ | ⟨go,step⟩
  ·refine bB (T.done (dH X sc cl s3.heap.objs.size x ks s3 H3 fp pins) rfl rfl rfl hc i [] s5 _ H5 _ J5 (fX n5) t5 stop) fun r s6 ⟨hr,J6⟩=>?_
   subst hr
   obtain ⟨m,hm,_⟩:=J6.loc
   exact hR D _ s6 H5 m (back J6) hq hm J6.free lC I3.sz cC pC
  ·refine bB (T.item (dH X sc cl s3.heap.objs.size x ks s3 H3 fp pins) rfl rfl rfl hc i [] s5 _ H5 _ J5 (fX n5) t5 go) fun r s6 ⟨u,hr,h6⟩=>?_
   subst hr
   refine bB h6 fun _ s7 ⟨v,H7,J7,r7,y7,t7,n7⟩=>?_
   have J7':=J7.pinned (fX n7) (T.obj _ _ t7)
   refine wpAny_assign_Name (dR (X:=dH X sc cl s3.heap.objs.size x ks s3 H3 fp pins) (i:=0) J7' nd rfl (.inl lookX) r7 (fun s8 J8=>?_) (.inr lookX))
   refine bB (hcn cl s3.heap.objs.size s3 H3 fp pins _ s8 _ H7 _ J8 (step v H7 y7)) fun ok s8' ⟨H8,J8',q8⟩=>?_
   cases ok with
   | false =>
    simp only [Bool.false_eq_true,if_false] at q8 ⊢
    obtain ⟨m',hm,w'⟩:=q8
    refine ⟨m',hm,i + 1,_,_,J8'.dU,?_,?_,w'⟩
    ·exact T.keep _ _ _ t7 fun b hb o e=>(J8'.pin (b,o) (List.mem_append_right _ (List.mem_append_right _ (bx hb e)))).1
    ·intro b hb
     obtain ⟨o,e,d⟩:=T.obj _ _ t7 b hb
     exact (J8'.pin (b,o) (List.mem_append_right _ (List.mem_append_right _ (bx hb e)))).2.1
   | true =>
    simp only [if_true] at q8 ⊢
    refine bB (hk cl s3.heap.objs.size s3 H3 fp pins _ s8' _ H8 _ J8' q8) fun ky s8'' ⟨vk,H8',J8'',rk,q8'⟩=>?_
    refine bB (he cl s3.heap.objs.size s3 H3 fp pins _ s8'' _ H8' _ J8'' q8') fun y s9 ⟨vy,H9,J9,r9,kvs,ep,k,ek,hys,hz,m',hm,w'⟩=>?_
    subst ek
    obtain ⟨hz',hd',vs,rel,da⟩:=jb J9 hys
    refine wpAny_dictSet_pairs (hsz:=by rw [← rel.len];exact hz') (str_is rk) da.dictOf fun h' dd' hsb=>?_
    obtain ⟨ep',J10⟩:=l7 (t':=s9.toks + 1) J9 hys hsb (show (L2.pf kvs k vy).length≤sizeLine from Nat.le_trans (vo kvs k vy) hz) hd' (rel.pu r9) dd'
    refine ⟨m',hm,i + 1,_,_,J10.dU,?_,?_,w' ep'⟩
    ·exact T.keep _ _ _ t7 fun b hb o e=>(J10.pin (b,o) (List.mem_append_right _ (List.mem_append_right _ (bx hb e)))).1
    ·intro b hb
     obtain ⟨o,e,d⟩:=T.obj _ _ t7 b hb
     exact (J10.pin (b,o) (List.mem_append_right _ (List.mem_append_right _ (bx hb e)))).2.1
 have l0:=loop _ ⟨0,none,H3,J0,st4,fun b hb=>(f3 b hb).1,w0⟩
 exact codeAny_compStart_dict l0 (T.self _ 0 _ _ _ st4 l0)
theorem G3 {kx vx iter:Expr} {ifs:List Expr} {x:Str} {px:Pos} {sc:Scope} {pos:Pos} {wi:TI} {tk te:TE} {tc:TT} (osc:Scope) (N:List Str) (ks:List (Str × Nat)) (hc:X.calm=true) (ho:X.env.scope=osc) (hN:X.N=N) (hi:PI X (.Name x px) iter wi)
  (hk:∀ cl C s₀ H₀ fp pins,PE (dH X sc cl C x ks s₀ H₀ fp pins) kx tk) (he:∀ cl C s₀ H₀ fp pins,PE (dH X sc cl C x ks s₀ H₀ fp pins) vx te) (hcn:∀ cl C s₀ H₀ fp pins,GK (dH X sc cl C x ks s₀ H₀ fp pins) ifs tc) (ok:bU sc osc N x ks:=by decide +kernel) (hs:∀ x,foldedSetIterable iter X.env x=pure x:=by intro _;rfl) :
  PE X (.DictComp kx vx [⟨.Name x px,iter,ifs,0⟩] sc pos) (Jw wi ks tc tk te):=by
 intro pins s σ H Q I hw
 obtain ⟨cl,hcl,h1,h2⟩:=gg (i7 ok I ho)
 have ok':bU sc X.env.scope X.N x ks:=by rw [ho,hN];exact ok
 rw [arm_eval_DictComp]
 refine wpAny_comprehension_free (use:=none) rfl hs hcl ok.1 ok.2.2.2.1 (bB (hi pins s σ H _ I hw) fun v s1 h3=>bB h3 fun itv s2 h4=>?_)
 obtain ⟨it,fp,tn,J,H2,rfl,I2,T,st2,f2,hR⟩:=h4
 refine wz (RR:=fun acc C=>compPost (model X.prog X.w) X.A X.xe none (EP X pins σ Q) acc C) hc ok' h1 h2 hk he hcn I2 T st2 f2 hR ?_
 intro D C s' H' m J' q hn hC cl' cs cc cp
 refine ⟨m,hn,fun h' hsb=>⟨.ref D,H',?_,rfl,q⟩⟩
 exact J'.turned (t':=s'.toks) (it:=C) (fun b o ne e=>hsb.extBut b o ne e) hC cl' (.inr cs) cc cp
end
end Ov
namespace Ov
open PySem PySem.Spec PyProof.Rows
open L2 (V HO Hp Inv Cx VK XK TE TT TA TS TG mr TI TO ik Ends p7 Loc Gl Rd RelV Vals eX rY cf l_ rX o5 ip R2 upd ay aH cg fA Sp mz It aZ cQ bj Passes lA az Meth Mk Binds aI bX aw cH fb dI iS pf xH kR)
section
variable {K:PySem.W.Frag} {J:Hq} {H:Hp}
theorem du:∀ {kvs:List (Str × PV)} {gs:List (Str × V)},iN K J H kvs gs→kR (bI K J H) kvs gs
 | [],[],_=>.nil
 | [],_ :: _,h=>by cases h.1
 | _ :: _,[],h=>by cases h.1
 | (k,y) :: fs,(k',w) :: gs,h=>by
  obtain ⟨h1,v',us,h2,h3,h4⟩:=h
  simp only [List.map_cons,List.cons.injEq] at h1 h2
  obtain ⟨rfl,h1⟩:=h1
  obtain ⟨rfl,rfl⟩:=h2
  exact .cons ⟨rfl,h3⟩ (du ⟨h1,h4⟩)
theorem rJ:∀ {kvs:List (Str × PV)} {gs:List (Str × V)},kR (bI K J H) kvs gs→iN K J H kvs gs
 | _,_,.nil=>⟨rfl,rfl⟩
 | _,_,.cons (a:=p) (b:=q) r t=>by
  obtain ⟨h1,h2⟩:=rJ t
  exact ⟨by rw [List.map_cons,List.map_cons,h1,r.1],q.2,_,rfl,r.2,h2⟩
theorem Ext.gH {p:Addr} {kvs kvs':List (Str × PV)} {gs gs':List (Str × V)} {ep ep':Nat} (h:J p=some (.dct kvs ep)) (k:H p=some (.dE gs ep)):Ext K J H (put J p (.dct kvs' ep')) (upd H p (.dE gs' ep')):=by
 have sm:∀ a u,a≠p→Rd H a u→Rd (upd H p (.dE gs' ep')) a u:=fun a u ne z=>by
  rcases z with z | ⟨o,z⟩
  ·exact .inl (by rw [aH ne];exact z)
  ·exact .inr ⟨o,by rw [aH ne];exact z⟩
 refine ⟨fun a vs' z=>?_,fun a o z q _=>?_⟩
 ·rcases z with z | z
  ·have ne:a≠p:=by
    intro e;subst e
    rcases z with z | ⟨o,z⟩
    ·rw [k] at z;cases z
    ·rw [k] at z;cases z
   exact .inl (sm a _ ne z)
  ·exact .inr z
 ·have ne:a≠p:=by intro e;subst e;rw [h] at z;cases z
  exact ⟨by rw [au ne];exact z,by rw [aH ne];exact q⟩
theorem Rep.gH {p:Addr} {kvs kvs':List (Str × PV)} {gs gs':List (Str × V)} {ep ep':Nat} (r:Rep K J H) (h:J p=some (.dct kvs ep)) (k:H p=some (.dE gs ep)) (q:kR (bI K J H) kvs' gs'):Rep K (put J p (.dct kvs' ep')) (upd H p (.dE gs' ep')):=by
 have e:=Ext.gH (K:=K) (kvs':=kvs') (gs':=gs') (ep':=ep') h k
 refine r.wW e p (fun a ne=>au ne) (fun a o ne _ z=>by rw [aH ne];exact z) fun u z=>?_
 rw [av] at z;cases z
 exact ⟨gs',ay,e.p8 (rJ q)⟩
theorem Rep.CC {p:Addr} {ep:Nat} (r:Rep K J H) (n:H p=none):Rep K (put J p (.dct [] ep)) (upd H p (.dE [] ep)):=by
 have e:=Ext.laid (K:=K) (J:=J) (o:=.dE [] ep) (u:=.dct [] ep) n
 refine r.wW e p (fun a ne=>au ne) (fun a o ne _ z=>by rw [aH ne];exact z) fun u z=>?_
 rw [av] at z;cases z
 exact ⟨[],ay,⟨rfl,rfl⟩⟩
end
def EX:jq:=fun x y J Q=>∃ a kvs ep k v,x=.ref a∧y=.str k∧J a=some (.dct kvs ep)∧iS kvs k=some v∧Q v J
def DN (f:Bool→Bool):jq:=fun x y J Q=>∃ a kvs ep k,x=.str k∧y=.ref a∧J a=some (.dct kvs ep)∧Q (.bl (f (iS kvs k).isSome)) J
def EV:uT:=fun xs J Q=>∃ a kvs ep,xs=[.ref a]∧J a=some (.dct kvs ep)∧Q (.int kvs.length) J
def xU:uT:=fun xs J Q=>∃ a kvs ep,xs=[.ref a]∧J a=some (.dct kvs ep)∧Q (.fl (kvs.map fun kv=>.str kv.1)) J
def CV:xf:=fun x xs J Q=>∃ a kvs ep k v,x=.ref a∧xs=[.str k]∧J a=some (.dct kvs ep)∧iS kvs k=some v∧∀ ep',Q v (put J a (.dct (xH kvs k) ep'))
def CT:wD:=fun o i y J R=>∃ a kvs ep k,o=.ref a∧i=.str k∧J a=some (.dct kvs ep)∧kvs.length < sizeLine∧∀ ep',R (put J a (.dct (pf kvs k y) ep'))
def CU:cE:=fun _ J Q=>∀ p,J p=none→∀ ep,Q (.ref p) (put J p (.dct [] ep))
def Jn (te:cE):mO:=fun τ J R=>te τ J fun x J1=>∃ a kvs ep,x=.ref a∧J1 a=some (.dct kvs ep)∧R ⟨kvs.map fun kv=>.str kv.1,fun J'=>J' a=some (.dct kvs ep)⟩ J1
section
variable {X:Cx} {G:G2}
theorem dB:Im X EX:=⟨_,L2.Fy,fun J H x y v w Q2 Q rx ry r ⟨a,kvs,ep,k,z,ex,ey,ja,hz,q⟩ kn=>by
 subst ex ey
 cases rx;cases ry
 obtain ⟨gs,h1,h2⟩:=r _ _ ja
 obtain ⟨u,hu,ru⟩:=((du h2).va k).1 z hz
 exact ⟨a,gs,ep,k,u,rfl,rfl,h1,hu,kn z J u H ru r .refl q⟩⟩
theorem DC (f:Bool→Bool):LR X.K (L2.FY f) (DN f):=fun J H x y v w Q2 Q rx ry r ⟨a,kvs,ep,k,ex,ey,ja,q⟩ kn=>by
 subst ex ey
 cases rx;cases ry
 obtain ⟨gs,h1,h2⟩:=r _ _ ja
 exact ⟨a,gs,ep,k,rfl,rfl,h1,by rw [← ((du h2).va k).2];exact kn (.bl _) J _ H rfl r .refl q⟩
theorem Dk:jG X (compareOp .In) (DN id):=⟨_,L2.DW,DC id⟩
theorem jQ {K:PySem.W.Frag} {J:Hq} {H:Hp}:∀ {ks:List Str},aE K J H (ks.map PV.str) (ks.map V.str)
 | []=>rfl
 | k :: ks=>⟨_,_,rfl,rfl,jQ (ks:=ks)⟩
theorem pZ (hc:X.calm=true):DX X (.type "list") xU:=⟨_,L2.qW hc,fun J H xs vs Q2 Q rs r ⟨a,kvs,ep,ex,ja,q⟩ k=>by
 subst ex;obtain ⟨v,us,rfl,rv,e⟩:=rs;cases e;cases rv
 obtain ⟨gs,h1,h2⟩:=r _ _ ja
 refine ⟨a,gs,ep,rfl,h1,fun p hp=>?_⟩
 have hk:aE X.K J H (kvs.map fun kv=>PV.str kv.1) (gs.map fun kv=>V.str kv.1):=by
  have:=(du h2).keys
  rw [show (kvs.map fun kv=>PV.str kv.1)=(kvs.map (·.1)).map PV.str by rw [List.map_map];rfl,show (gs.map fun kv=>V.str kv.1)=(gs.map (·.1)).map V.str by rw [List.map_map];rfl,this]
  exact jQ
 obtain ⟨x1,x2,x3⟩:=sZ r hk hp
 exact k _ J _ _ x1 x2 x3 q⟩
theorem Bc:Dx X "dict" "dict.pop" CV:=⟨_,L2.BP,fun J H x xs v vs Q2 Q rx rs r ⟨a,kvs,ep,k,z,ex,exs,ja,hz,q⟩ kn=>by
 subst ex exs;cases rx
 obtain ⟨u,us,rfl,ru,e⟩:=rs;cases e;cases ru
 obtain ⟨gs,h1,h2⟩:=r _ _ ja
 have pk:=du h2
 obtain ⟨y,hy,ry⟩:=(pk.va k).1 z hz
 refine ⟨a,gs,ep,k,y,rfl,rfl,h1,hy,fun ep'=>?_⟩
 have e2:=Ext.gH (K:=X.K) (kvs':=xH kvs k) (gs':=xH gs k) (ep':=ep') ja h1
 exact kn z _ y _ (e2.rep ry) (r.gH ja h1 (pk.dr k)) e2 (q ep')⟩
theorem lh:HG X CT:=⟨_,L2.Dm,fun J H o i y ov iv u R2 R ro ri ry r ⟨a,kvs,ep,k,eo,ei,ja,hl,q⟩ kk=>by
 subst eo ei;cases ro;cases ri
 obtain ⟨gs,h1,h2⟩:=r _ _ ja
 have pk:=du h2
 refine ⟨a,gs,ep,k,rfl,rfl,h1,by rw [← pk.len];exact hl,fun ep'=>?_⟩
 exact kk _ _ (r.gH ja h1 (pk.pu ry)) (Ext.gH (K:=X.K) ja h1) (q ep')⟩
theorem tV {pos:Pos}:RE X G (.Dict [] [] pos) CU:=⟨il L2.Af fun σ H Q ⟨τ,J,Q2,a2,q,k⟩ p hp ep=>k (.ref p) _ _ _ rfl (a2.hp.CC hp) (.laid hp) (q p (a2.hp.free hp) ep)⟩
theorem kZ {tg l:Expr} {tl:cE} (hl:RE X G l tl):RI X G tg l (Jn tl):=⟨EO (L2.BW hl.run) fun σ H R ⟨τ,J,R2,a2,h,k⟩=>⟨τ,J,_,a2,h,fun x J1 v H1 rx r1 e1 ⟨a,kvs,ep,ex,ja,q⟩=>by
 subst ex;cases rx
 obtain ⟨gs,h1,h2⟩:=r1 _ _ ja
 have pk:=du h2
 have hl':=pk.len
 refine ⟨a,gs,ep,rfl,h1,k _ J1 _ H1 ?_ r1 e1 q⟩
 have hks:=pk.keys
 have key:∀ J' H',Rep X.K J' H'→J' a=some (.dct kvs ep)→∃ gs',H' a=some (.dE gs' ep)∧gs'.map (·.1)=gs.map (·.1):=fun J' H' r o=>by
  obtain ⟨gs',h1',h2'⟩:=r _ _ o
  exact ⟨gs',h1',by rw [← (du h2').keys,hks]⟩
 exact {
  go:=fun J' H' e r o i hi=>⟨key J' H' r o,by rw [List.length_map] at hi ⊢;omega⟩
  yl:=fun J' H' e r o i hi v H2 y=>by
   obtain ⟨rfl,k,hk,rfl⟩:=y
   rw [← hks,List.getElem?_map] at hk
   obtain ⟨kv,hkv,rfl⟩:=Option.map_eq_some_iff.mp hk
   exact ⟨.str kv.1,by rw [List.getElem?_map,hkv];rfl,rfl,r,.refl⟩
  stop:=fun J' H' e r o=>⟨key J' H' r o,by rw [List.length_map,List.length_map];omega⟩ }⟩⟩
def Hr (wi:mO) (ks:List (Str × Nat)) (tc:iF) (tk te:cE):cE:=fun τ J Q=>wi τ J fun it J1=>∀ D,J1 D=none→∀ ep,∃ W:Nat→Hq→Prop,W 0 (put J1 D (.dct [] ep))∧(∀ i J2,W i J2→it.ok J2) ∧
 (∀ i x J2,it.xs[i]?=some x→W i J2→tc (some x :: kL ks τ) J2 fun b J3=>if b=true then tk (some x :: kL ks τ) J3 fun y J4=>te (some x :: kL ks τ) J4 fun z J5 =>
  ∃ kvs ep k,y=.str k∧J5 D=some (.dct kvs ep)∧kvs.length < sizeLine∧∀ ep',W (i + 1) (put J5 D (.dct (pf kvs k z) ep')) else W (i + 1) J3)∧∀ J2,W it.xs.length J2→Q (.ref D) J2
theorem BF {wi:mO} {ks:List (Str × Nat)} {tc:iF} {tk te:cE}:∀ σ H Q,LE X.K G (Hr wi ks tc tk te) σ H Q→Jw (LI X.K G wi) ks (LT X.K G tc) (LE X.K G tk) (LE X.K G te) σ H Q:=fun σ H Q ⟨τ,J,Q2,a2,h,k⟩ =>
 ⟨τ,J,_,a2,h,fun it J1 I H1 ir r1 e1 w D hD ep=>by
  obtain ⟨W,w0,wok,step,fin⟩:=w D (r1.free hD) ep
  refine ⟨fun i m H2=>m=it.xs.length - i∧i≤it.xs.length∧∃ J2,Rep X.K J2 H2∧Ext X.K J1 H1 J2 H2∧W i J2,⟨_,rfl,Nat.zero_le _,_,r1.CC hD,.laid hD,w0⟩,?_⟩
  rintro i m H2 ⟨rfl,hi,J2,r2,e2,w2⟩
  by_cases hlt:i < it.xs.length
  ·refine .inr ⟨ir.go J2 H2 e2 r2 (wok i J2 w2) i hlt,fun v H3 y=>?_⟩
   obtain ⟨x,ex,rx,r3,e3⟩:=ir.yl J2 H2 e2 r2 (wok i J2 w2) i hlt v H3 y
   have a3:pT X.K G (some x :: kL ks τ) J2 (some v :: cD ks σ) H3:=⟨vc (a2.sl.ext ((e1.trans e2).trans e3)) rx ks,r3,((a2.ext.trans e1).trans e2).trans e3⟩
   refine ⟨_,_,_,a3,step i x J2 ex w2,fun b J4 H4 r4 e4 q=>?_⟩
   cases b with
   | false =>
    simp only [Bool.false_eq_true,if_false] at q ⊢
    exact ⟨_,by omega,rfl,hlt,J4,r4,(e2.trans e3).trans e4,q⟩
   | true =>
    simp only [if_true] at q ⊢
    refine ⟨_,_,_,a3.go r4 e4,q,fun yk J5 u H5 rk r5 e5 q5=>?_⟩
    refine ⟨_,_,_,(a3.go r4 e4).go r5 e5,q5,fun z J6 vz H6 rz r6 e6 ⟨kvs,ep2,kk,ek,jD,hl,q6⟩=>?_⟩
    subst ek
    cases rk
    obtain ⟨gs,h1,h2⟩:=r6 _ _ jD
    have pk:=du h2
    refine ⟨gs,ep2,kk,rfl,h1,by rw [← pk.len];exact hl,it.xs.length - (i + 1),by omega,fun ep'=>⟨rfl,hlt,_,r6.gH jD h1 (pk.pu rz),?_,q6 ep'⟩⟩
    exact ((((e2.trans e3).trans e4).trans e5).trans e6).trans (Ext.gH (K:=X.K) jD h1)
  ·have ei:i=it.xs.length:=by omega
   subst ei
   exact .inl ⟨ir.stop J2 H2 e2 r2 (wok _ J2 w2),k (.ref D) J2 _ H2 rfl r2 (e1.trans e2) (fin J2 w2)⟩⟩
theorem HX {X:Cx} {ifs:List Expr} {t t':TT} (h:GK X ifs t) (k:∀ σ H Q,t' σ H Q→t σ H Q):GK X ifs t':=fun pins s σ H Q I q=>h pins s σ H Q I (k _ _ _ q)
variable {kx vx iter cnd:Expr} {x y:Str} {px py:Pos} {sc:Scope} {pos spos:Pos} {wi:mO} {tk te:cE} {tc:iF} {i:Nat}
theorem GY (osc:Scope) (N:List Str) (ks:List (Str × Nat)) (hc:X.calm=true) (ho:X.env.scope=osc) (hN:X.N=N) (hi:RI X G (.Name x px) iter wi) (hk:∀ cl C s₀ H₀ fp pins,RE (dH X sc cl C x ks s₀ H₀ fp pins) G kx tk) (he:∀ cl C s₀ H₀ fp pins,RE (dH X sc cl C x ks s₀ H₀ fp pins) G vx te)
  (ok:bU sc osc N x ks:=by decide +kernel) (hs:∀ x,foldedSetIterable iter X.env x=pure x:=by intro _;rfl):RE X G (.DictComp kx vx [⟨.Name x px,iter,[],0⟩] sc pos) (Hr wi ks rb tk te) :=
 ⟨il (G3 osc N ks hc ho hN hi.run (fun cl C s₀ H₀ fp pins=>(hk cl C s₀ H₀ fp pins).run) (fun cl C s₀ H₀ fp pins=>(he cl C s₀ H₀ fp pins).run) (fun cl C s₀ H₀ fp pins=>HX B0 fun σ H Q ⟨τ,J,Q2,a2,q,k⟩=>k true J H a2.hp .refl q) ok hs) BF⟩
end
def tK (tabs:List Addr):cj:=fun xs J Q _=>∃ ns:List Int,xs=[.fl (ns.map .int)]∧ns.length≤63∧(∀ T∈tabs,J T=some .tab)∧(∀ a,a ∉ tabs→J a=none)∧∀ J',(∀ T∈tabs,J' T=some .tab)→Q (.bl true) J'
def zp (tabs:List Addr) (K:PySem.W.Frag):Sp:=fun vs H Q _=>∃ (a:Addr) (ns:List Int),vs=[.ref a]∧cg K H a (ns.map V.int)∧ns.length≤63∧(∀ T∈tabs,H T=some (.ext (dm T))) ∧
 (∀ b,H b≠none→b=a∨b∈tabs)∧(∀ u,H a=some u→∃ o xs,u=.m3 o (.lst xs))∧∀ H',aZ H H'→Q (.bl true) H'
theorem wA {P:Program} {w:World} {K:PySem.W.Frag} {mg:Str→Option Value} {base:Heap} {k:Nat} {f:Addr} {fd:FuncData} {ps:List Str} {tabs:List Addr} (F:aI P w K mg base (cU P w) k f fd ps (dz K (tK tabs))) :
  aI P w K mg base L2.ml k f fd ps (zp tabs K) :=
 F.Gb.imp fun vs H Q E ⟨a,ns,e,hS,hl,hT,hA,hK,q⟩=>by
  subst e
  classical
  have na:∀ u,H a=some u→a ∉ tabs:=fun u hu hm=>by
   obtain ⟨o,xs,rfl⟩:=hK u hu
   rw [hT a hm] at hu;cases hu
  refine ⟨[.fl (ns.map .int)],fun b=>if b∈tabs then some .tab else none,fun x J'=>x=.bl true∧∀ T∈tabs,J' T=some .tab,fun _ _=>False,⟨.ref a,[],rfl,⟨a,ns.map V.int,rfl,?_,jR ns⟩,rfl⟩,?_,⟨ns,rfl,hl,fun T hT=>if_pos hT,fun b hb=>if_neg hb,fun J' h=>⟨rfl,h⟩⟩,?_,?_⟩
  ·rcases hS with h | h
   ·refine .inl ⟨?_,h⟩
    have:a ∉ tabs:=by
     rcases h with h | ⟨o,h⟩
     ·exact na _ h
     ·exact na _ h
    exact if_neg this
   ·exact .inr h
  ·intro b o z
   by_cases hb:b∈tabs
   ·have z':=(if_pos hb).symm.trans z
    cases z'
    exact hT b hb
   ·have z':=(if_neg hb).symm.trans z
    cases z'
  ·rintro z J' u H' rz rr ee ⟨rfl,ht⟩
   cases rz
   refine q H' fun b o hb=>?_
   rcases hA b (by rw [hb];simp) with rfl | hm
   ·obtain ⟨ob,xs,rfl⟩:=hK o hb
    exact (ee.ll b _ (if_neg (na _ hb)) hb (.inr ⟨_,_,rfl⟩)).2
   ·have:=hT b hm
    rw [hb] at this;cases this
    exact rr b _ (ht b hm)
  ·intro _ _ _ _ _ z;exact z.elim
end Ov
namespace L2
open PySem PySem.Spec PyProof.Rows
def HL (k:Str):Value→Bool
 | .str y _=>y.cps.toList == k.cps.toList
 | _=>false
theorem vE {ss:List Str} {us:List Value} (r:Vals (ss.map V.str) us):us.length=ss.length∧∀ (j:Nat) (u:Value),us[j]?=some u→∃ y t,ss[j]?=some y∧u=.str y t:=by
 induction ss generalizing us with
 | nil=>cases r;exact ⟨rfl,fun j u e=>by simp at e⟩
 | cons y ss ih =>
  rw [List.map_cons] at r
  cases r with
  | cons ru rr =>
   obtain ⟨t,rfl⟩:=ru
   obtain ⟨h1,h2⟩:=ih rr
   refine ⟨by simp [h1],fun j u e=>?_⟩
   cases j with
   | zero=>cases e;exact ⟨y,t,rfl,rfl⟩
   | succ j=>exact h2 j u (by simpa using e)
theorem ni {α β:Type} (f:α→β):∀ (l:List α) (j:Nat),(l.eraseIdx j).map f=(l.map f).eraseIdx j
 | [],_=>rfl
 | _ :: _,0=>rfl
 | x :: l,j + 1=>by simp only [List.eraseIdx_cons_succ,List.map_cons,ni f l j]
section
variable {X:Cx}
def zm:V→List V→Hp→VK→Prop:=fun x vs H Q=>∃ (l:Addr) (ss:List Str) (k:Str) (j:Nat),x=.ref l∧vs=[.str k]∧H l=some (.lst (ss.map V.str))∧ss[j]?=some k∧(∀ m:Nat,m < j→ss[m]?≠some k)∧Q .non (upd H l (.lst ((ss.eraseIdx j).map V.str)))
theorem sW:o5 X "list.remove" zm:=by
 intro pins s σ H x vs v us Q I rx rv h
 obtain ⟨l,ss,k,j,rfl,rfl,hH,hj,hno,q⟩:=h
 cases rx
 obtain ⟨u,rfl,ru⟩:=rv.one
 obtain ⟨t,rfl⟩:=ru
 obtain ⟨z,its,n,r,hl,e⟩:=I.A5 hH
 obtain ⟨h1,h2⟩:=vE r
 obtain ⟨hjl,hje⟩:=List.getElem?_eq_some_iff.mp hj
 have hz:ss.length≤sizeLine:=by simpa using z
 have at_:∀ (m:Nat) (hm:m < its.toArray.size),HL k its.toArray[m]=decide (ss[m]?=some k):=fun m hm=>by
  obtain ⟨y,t',hy,hu⟩:=h2 m its[m] (List.getElem?_eq_getElem (by simpa using hm))
  show HL k its[m]=_
  rw [hu,hy]
  show (y.cps.toList == k.cps.toList)=_
  by_cases hk:y=k
  ·subst hk;simp
  ·have:(y.cps.toList == k.cps.toList)=false:=by
    rw [beq_eq_false_iff_ne]
    intro z
    exact hk (by cases y;cases k;simp at z;rw [z])
   rw [this];symm;exact decide_eq_false fun z=>hk (Option.some.inj z)
 refine call_meets PySem.F.slot_list_remove ⟨_,e,rfl⟩ PySem.F.entry_list_remove (PySem.F.args_list_remove_2 _ _)
  (MeetsSeq.list_remove l its.toArray n (.str k t) (HL k) (fun y hy=>?_) j (by simpa using (show j < its.length by omega)) ?_ (fun m hm hlt=>?_) (by rw [List.size_toArray];omega)) ⟨e,?_⟩
 ·obtain ⟨m,hm⟩:=List.mem_iff_getElem?.mp (show y∈its by simpa using hy)
  obtain ⟨y',t',_,rfl⟩:=h2 m y hm
  exact SeqRoads2.EqGives.str _ _ _ _
 ·rw [at_];exact decide_eq_true hj
 ·rw [at_];exact decide_eq_false (hno m hlt)
 ·refine ⟨.non,_,I.BK (its':=its.eraseIdx j) hH e (by rw [List.eraseIdxIfInBounds_toArray]) ?_ ?_,rfl,q⟩
  ·rw [ni];exact r.eraseIdx j
  ·rw [List.length_map];exact Nat.le_trans (List.length_eraseIdx_le _ _) hz
end
end L2
namespace Ov
open PySem PySem.Spec PyProof.Rows
open L2 (V HO Hp Inv Cx VK XK TE TT TA TS TG mr TI TO ik Ends p7 Loc Gl Rd RelV Vals eX rY cf l_ rX o5 ip R2 upd ay aH cg fA Sp mz It aZ cQ bj Passes lA az Meth Mk Binds aI bX aw cH fb dI)
section
variable {X:Cx} {G:G2}
def DP:xf:=fun x xs J Q=>∃ (a:Addr) (ss:List Str) (k:Str) (j:Nat),x=.ref a∧xs=[.str k]∧J a=some (.lst (ss.map .str))∧ss[j]?=some k∧(∀ m:Nat,m < j→ss[m]?≠some k)∧Q (.int (j:Nat)) J
def uP:xf:=fun x xs J Q=>∃ (a:Addr) (ss:List Str) (k:Str) (j:Nat),x=.ref a∧xs=[.str k]∧J a=some (.lst (ss.map .str))∧ss[j]?=some k∧(∀ m:Nat,m < j→ss[m]?≠some k)∧Q .non (put J a (.lst ((ss.eraseIdx j).map .str)))
theorem wO:Dx X "list" "list.remove" uP:=⟨_,L2.sW,fun J H x xs v vs Q2 Q rx rs r ⟨a,ss,k,j,ex,exs,ja,hj,hno,q⟩ kn=>by
 subst ex exs;cases rx
 obtain ⟨w,us,rfl,rw',e⟩:=rs;cases e;cases rw'
 obtain ⟨ws,h1,h2⟩:=r _ _ ja
 cases f7 h2
 exact ⟨a,ss,k,j,rfl,rfl,h1,hj,hno,kn .non _ _ _ rfl (r.wrote (ys:=(ss.eraseIdx j).map .str) ja h1 jQ) (.wrote ja h1) q⟩⟩
variable {a b c:Expr} {ta tb tc:cE} {pos:Pos}
def oJ (q q':jq) (ta tb tc:cE):cE:=fun τ J Q=>ta τ J fun x J1=>tb τ J1 fun y J2=>q x y J2 fun z J3=>∃ k,z=.bl k∧(if k=true then tc τ J3 fun w J4=>q' y w J4 Q else Q (.bl false) J3)
theorem su {r r':R2} {q q':jq} (lr:LR X.K r q) (lr':LR X.K r' q'):∀ σ H Q,LE X.K G (oJ q q' ta tb tc) σ H Q→L2.xo r r' (LE X.K G ta) (LE X.K G tb) (LE X.K G tc) σ H Q:=fun σ H Q ⟨τ,J,Q2,a2,hh,k⟩=>⟨τ,J,_,a2,hh,fun x J1 v H1 rx r1 e1 q1=>⟨τ,J1,_,a2.go r1 e1,q1,fun y J2 w H2 ry r2 e2 q2 =>
  lr J2 H2 x y v w _ _ (e2.rep rx) ry r2 q2 fun z J3 u H3 rz r3 e3 ⟨kk,ez,q3⟩=>by
   subst ez;cases rz
   refine ⟨kk,rfl,?_⟩
   cases kk with
   | false=>simp only [Bool.false_eq_true,if_false] at q3 ⊢;exact k (.bl false) J3 _ H3 rfl r3 ((e1.trans e2).trans e3) q3
   | true =>
    simp only [if_true] at q3 ⊢
    exact ⟨τ,J3,_,((a2.go r1 e1).go r2 e2).go r3 e3,q3,fun w2 J4 u4 H4 r4 rr4 e4 q4=>lr' J4 H4 y w2 w u4 Q2 Q ((e3.trans e4).rep ry) r4 rr4 q4 fun z' J' u' H' rz' rr' ee' qq=>k z' J' u' H' rz' rr' ((((e1.trans e2).trans e3).trans e4).trans ee') qq⟩⟩⟩
theorem yT {op op':CmpOp} {q q':jq} (ho:jG X (compareOp op) q) (ho':jG X (compareOp op') q') (ha:RE X G a ta) (hb:RE X G b tb) (hc:RE X G c tc) (hm:lastMarks [op,op'] [b,c]=false:=by with_unfolding_all rfl) :
  RE X G (.Compare a [op,op'] [b,c] pos) (oJ q q' ta tb tc):=by
 obtain ⟨r,h,lr⟩:=ho
 obtain ⟨r',h',lr'⟩:=ho'
 exact ⟨il (L2.yN h h' ha.run hb.run hc.run hm) (su lr lr')⟩
end
end Ov
namespace L2
open PySem PySem.Spec PyProof.Rows
def Jk (K:PySem.W.Frag) (a:Addr):It :=
 ⟨fun i H=>∃ xs x,cg K H a xs∧xs[i]?=some x,
  fun i H z H'=>∃ T x,H T=none∧z=.ref T∧H'=upd H T (.tup [.int (i:Nat),x])∧(∀ xs,cg K H a xs→xs[i]?=some x),
  fun i H=>∃ xs,cg K H a xs∧xs.length≤i⟩
theorem wK {P:Program} {w:World} {K:PySem.W.Frag} {elts:List Expr} {x1} {pos:Pos} {e it l:Addr} (ne:e≠it) :
  Turn P w K (.Tuple elts x1 pos) (Jk K l) [e,it] e (fun i h=>(∃ old,IsEnum h e it (i:Int) old)∧h.IsListIter it l i) where
 mem:=by simp
 obj:=fun i h ⟨⟨old,he⟩,h1⟩ c hc=>by
  simp only [List.mem_cons,List.not_mem_nil,or_false] at hc
  rcases hc with rfl | rfl
  ·exact ⟨_,he,fun v z=>by cases z⟩
  ·obtain ⟨o,e,c,d⟩:=h1;exact ⟨o,e,fun v z=>by rw [d] at z;cases z⟩
 keep:=fun i h h' ⟨⟨old,he⟩,h1⟩ k=>⟨⟨old,k e (by simp) _ he⟩,h1.at fun o q=>k it (by simp) o q⟩
 item:=by
  intro X hP hw hK hc i pins s σ H E I hf st hg
  subst hP hw hK
  obtain ⟨⟨old,he⟩,h1⟩:=st
  obtain ⟨xs,x,hqx,hx⟩:=hg
  obtain ⟨its,rv,p,hzx⟩:=I.list hqx
  obtain ⟨u,hu,rx⟩:=rv.get hx
  refine wpAny_pyNext_enum_item he h1 p.isList (x:=u) (by simpa using hu) ne fun h' a1 a3 a5 a6 hk=>?_
  refine ⟨_,rfl,wpAny_letOwnedTupleGo_enum a1 fun h'' hz' hs'=>?_⟩
  have hT:H s.heap.objs.size=none:=I.hok.fresh (Nat.le_refl _)
  have lt:∀ {c o},s.heap.get? c=some o→c≠s.heap.objs.size:=fun e=>Nat.ne_of_lt (Heap.lt_size e)
  have I0:Inv X pins σ (upd H s.heap.objs.size (.tup [.int (i:Nat),x])) { s with heap:=s.heap.push { cls:=.type "tuple",data:=.seq #[.int i s.toks,u] },toks:=s.toks + 1 }:=I.laid (t':=s.toks + 1) (fun b u e=>Heap.get?_push_of_some _ e) (Nat.le_refl _) ⟨by simp [sizeLine],[.int i s.toks,u],.cons ⟨_,rfl⟩ (.cons rx .nil),⟨_,Heap.get?_push_size _ rfl,rfl,_,rfl⟩⟩
  have fpn:∀ b∈[e,it],b≠s.heap.objs.size:=fun b hb=>by
   simp only [List.mem_cons,List.not_mem_nil,or_false] at hb
   rcases hb with rfl | rfl
   ·exact lt he
   ·obtain ⟨o,e,_⟩:=h1;exact lt e
  have fpu:∀ b∈[e,it],gi X pins (upd H s.heap.objs.size (.tup [.int (i:Nat),x])) b:=fun b hb=>⟨by rw [aH (fpn b hb)];exact (hf b hb).1,(hf b hb).2⟩
  have I1:Inv X pins σ (upd H s.heap.objs.size (.tup [.int (i:Nat),x])) { s with heap:=h'',toks:=s.toks + 1 }:=Inv.kT (s:={ s with heap:=s.heap.push { cls:=.type "tuple",data:=.seq #[.int i s.toks,u] },toks:=s.toks + 1 }) (t':=s.toks + 1) (ch:=[e,it]) I0 (fun b o hb eb=>by
   simp only [List.mem_cons,List.not_mem_nil,or_false,not_or] at hb
   rcases Heap.get?_push_cases eb with ⟨rfl,rfl⟩ | e'
   ·exact hs'.extBut _ _ hb.1 a5
   ·exact hs'.extBut _ _ hb.1 (hk b o hb.1 hb.2 e')) fpu
  refine ⟨.ref s.heap.objs.size,_,I1,rfl,⟨_,x,hT,rfl,rfl,fun zs hq=>by rw [I.gI hq hqx];exact hx⟩,⟨⟨_,by rw [Int.natCast_add];exact hz'⟩,a3.extBut hs'.extBut (Ne.symm ne)⟩,fun b hb=>(fpu b hb).1⟩
 done:=by
  intro X hP hw hK hc i pins s σ H E I hf st hg
  subst hP hw hK
  obtain ⟨⟨old,he⟩,h1⟩:=st
  obtain ⟨xs,hqx,hl⟩:=hg
  obtain ⟨its,rv,p,hzx⟩:=I.list hqx
  have e1:=rv.length
  refine wpAny_pyNext_enum_end (I.ok.hd hc) he h1 p.isList (by rw [List.getElem?_toArray,List.getElem?_eq_none_iff];omega) fun h' hk=>⟨rfl,I.kT (t':=s.toks) (ch:=[e,it]) (fun b o hb e=>?_) hf⟩
  simp only [List.mem_cons,List.not_mem_nil,or_false,not_or] at hb
  exact hk b o hb.2 e
 self:=fun _ _ _ _ _ st h=>let ⟨⟨_,he⟩,_⟩:=st;wpAny_pyIter_enum he h
def GZ (K:PySem.W.Frag) (ta:TA):TI:=fun σ H R=>ta σ H fun vs H1=>∃ a xs,vs=[.ref a]∧cg K H1 a xs∧R (Jk K a) H1
section
variable {X:Cx}
theorem Bg {l:Expr} {elts:List Expr} {x1} {tp:Pos} {ta:TA} {p pos:Pos} (hg:Gl X "enumerate") (hm:X.mg "enumerate"=none) (ha:PA X [l] ta) (hs:starEach [l] X.env=(false,eval l X.env) :: starEach [] X.env:=by rfl) (hp:(backTo pos (starEach [] X.env)).any (·.1)=false:=by rfl):PI X (.Tuple elts x1 tp) (.Call (.Name "enumerate" p) [l] [] pos) (GZ X.K ta):=by
 intro pins s σ H R I h
 refine Call_ (gL I hg hm PyProof.Rows.Boot.«enumerate» (PyProof.Rows.callWith_type1 (bB (ha pos pins s σ H _ I h) fun us s1 ⟨vs,H1,I1,r1,q1⟩=>?_) hs hp))
 obtain ⟨a,xs,e,hqa,q⟩:=q1
 subst e
 cases r1 with
 | cons r rr =>
  cases rr
  cases r
  obtain ⟨its,rv,pl,hz⟩:=I1.list hqa
  refine call_enumerate_list pl.isList ?_
  intro h' b1 b2 b6 hk
  refine wpAny_pyIter_enum b1 ?_
  have ne:s1.heap.objs.size + 1≠s1.heap.objs.size:=Nat.succ_ne_self _
  refine ⟨_,_,_,_,H1,rfl,I1.kept (t':=s1.toks) hk,wK ne,⟨⟨_,b1⟩,b2⟩,fun c hc=>?_,q⟩
  have hc':s1.heap.objs.size≤c:=by
   simp only [List.mem_cons,List.not_mem_nil,or_false] at hc
   show @LE.le Nat _ _ _
   rcases hc with rfl | rfl
   ·exact Nat.le_add_right _ _
   ·exact Nat.le_refl _
  exact I1.yK hc' (I1.hok.fresh hc')
end
end L2
namespace Ov
open PySem PySem.Spec PyProof.Rows
open L2 (V HO Hp Inv Cx VK XK TE TT TA TS TG mr TI TO ik Ends p7 Loc Gl Rd RelV Vals eX rY cf l_ rX o5 ip R2 upd ay aH cg fA Sp mz It aZ cQ bj Passes lA az Meth Mk Binds aI bX aw cH fb dI)
def qB (xs:List PV):List PV:=(List.range xs.length).zipWith (fun i x=>PV.tup [.int ((i:Nat):Int),x]) xs
theorem ib (xs:List PV):(qB xs).length=xs.length:=by unfold qB;simp
theorem nt (xs:List PV) (i:Nat) (x:PV) (h:xs[i]?=some x):(qB xs)[i]?=some (.tup [.int (i:Int),x]):=by
 unfold qB
 obtain ⟨hi,e⟩:=List.getElem?_eq_some_iff.mp h
 rw [List.getElem?_zipWith,List.getElem?_range hi,h]
section
variable {X:Cx} {G:G2}
def Je (ta:jT):mO:=fun τ J R=>ta τ J fun vs J1=>∃ x xs,vs=[x]∧jH J1 x=some xs∧R ⟨qB xs,fun J'=>jH J' x=some xs⟩ J1
theorem AV {l:Expr} {elts:List Expr} {x1} {tp:Pos} {ta:jT} {p pos:Pos} (hg:Gl X "enumerate") (hm:X.mg "enumerate"=none) (ha:RA X G [l] ta) (hs:starEach [l] X.env=(false,eval l X.env) :: starEach [] X.env:=by rfl) (hp:(backTo pos (starEach [] X.env)).any (·.1)=false:=by rfl) :
  RI X G (.Tuple elts x1 tp) (.Call (.Name "enumerate" p) [l] [] pos) (Je ta):=⟨EO (L2.Bg hg hm ha.run hs hp) fun σ H R ⟨τ,J,R2,a2,h,k⟩=>⟨τ,J,_,a2,h,fun vs J1 us H1 rs r1 e1 ⟨x,xs,ev,hx,q⟩=>by
 subst ev
 obtain ⟨v,us',rfl,rv,e'⟩:=rs
 cases e'
 obtain ⟨a,ws,rfl,h1,h2⟩:=km hx rv r1
 refine ⟨a,ws,rfl,h1,k _ J1 _ H1 ?_ r1 e1 q⟩
 have at_:∀ J' H',Ext X.K J1 H1 J' H'→Rep X.K J' H'→jH J' x=some xs→∃ vs,cg X.K H' a vs∧aE X.K J' H' xs vs:=fun J' H' e r o=>by
  obtain ⟨c,vs,eb,g1,g2⟩:=km o (e.rep rv) r
  cases eb
  exact ⟨vs,g1,g2⟩
 exact {
  go:=fun J' H' e r o i hi=>by
   obtain ⟨vs,s,rs⟩:=at_ J' H' e r o
   rw [ib] at hi
   exact ⟨vs,vs[i]'(by rw [← rs.length];exact hi),s,by simp⟩
  yl:=fun J' H' e r o i hi v H2 y=>by
   obtain ⟨vs,s,rs⟩:=at_ J' H' e r o
   obtain ⟨T,z,hT,rfl,rfl,y1⟩:=y
   obtain ⟨c,ec,rc⟩:=rs.get' (y1 vs s)
   have sm:=aZ.new hT (.tup [.int (i:Nat),z])
   have e2:=Ext.same (K:=X.K) (J:=J') sm
   refine ⟨.tup [.int (i:Int),c],nt _ _ _ ec,⟨T,[.int (i:Nat),z],rfl,.inl (.inl ay),e2.gf ⟨.int (i:Nat),_,rfl,rfl,z,_,rfl,rc,rfl⟩⟩,r.same sm,e2⟩
  stop:=fun J' H' e r o=>by
   obtain ⟨vs,s,rs⟩:=at_ J' H' e r o
   exact ⟨vs,s,by rw [ib,← rs.length];exact Nat.le_refl _⟩ }⟩⟩
end
section
variable {X:Cx} {pins:List (Addr × Obj)} {σ:L2.St} {H:Hp} {s:Shared}
open Classical in
def eT (K:PySem.W.Frag) (H:Hp) (zs:List Py) (y:Py) (u:Value):Bool:=decide (∃ z∈zs,∃ v,RelV v u∧At K H z v∧gZ z y=true)
end
section
variable {X:Cx} {G:G2}
end
end Ov
namespace Ov
open PySem
structure aA where
 m:Rat
 h:Str
 f:Str
 deriving DecidableEq
def slt (a b:Str):Prop:=a.cps.toList < b.cps.toList
instance (a b:Str):Decidable (slt a b):=inferInstanceAs (Decidable (a.cps.toList < b.cps.toList))
def aA.lt (a b:aA):Bool:=if a.m=b.m then (if a.h=b.h then decide (slt a.f b.f) else decide (slt a.h b.h)) else decide (a.m < b.m)
theorem ji (a:Str):¬ slt a a:=List.lt_irrefl _
theorem jZ {a b c:Str} (h:slt a b) (k:slt b c):slt a c:=List.lt_trans h k
theorem y6:∀ (a b:List Nat),a≠b→a < b∨b < a
 | [],[],h=>absurd rfl h
 | [],_ :: _,_=>.inl (List.nil_lt_cons _ _)
 | _ :: _,[],_=>.inr (List.nil_lt_cons _ _)
 | x :: a,y :: b,h=>by
  rcases Nat.lt_trichotomy x y with z | z | z
  ·exact .inl (List.cons_lt_cons_iff.mpr (.inl z))
  ·subst z
   rcases y6 a b (fun e=>h (by rw [e])) with q | q
   ·exact .inl (List.cons_lt_cons_iff.mpr (.inr ⟨rfl,q⟩))
   ·exact .inr (List.cons_lt_cons_iff.mpr (.inr ⟨rfl,q⟩))
  ·exact .inr (List.cons_lt_cons_iff.mpr (.inl z))
theorem oY {a b:Str} (h:a≠b):slt a b∨slt b a:=by
 have ne:a.cps.toList≠b.cps.toList:=fun e=>h (by cases a;cases b;simp at e;rw [e])
 exact y6 _ _ ne
theorem Dh {a b:Str} (h:slt a b):a≠b:=fun e=>by subst e;exact ji _ h
theorem aA.lt_iff (a b:aA):a.lt b=true↔a.m < b.m∨(a.m=b.m∧(slt a.h b.h∨(a.h=b.h∧slt a.f b.f))):=by
 unfold aA.lt
 by_cases e:a.m=b.m
 ·rw [if_pos e]
  have n:¬ a.m < b.m:=by rw [e];exact Rat.lt_irrefl
  by_cases k:a.h=b.h
  ·rw [if_pos k]
   have n2:¬ slt a.h b.h:=fun z=>Dh z k
   simp [e,k,n,n2]
   try (intro z;first | exact absurd z Rat.lt_irrefl | exact absurd z (ji _))
  ·rw [if_neg k]
   simp [e,k]
   try (intro z;exact absurd z Rat.lt_irrefl)
 ·rw [if_neg e]
  simp [e]
theorem aA.Dj (a:aA):a.lt a=false:=by
 cases h:a.lt a with
 | false=>rfl
 | true =>
  rcases (aA.lt_iff a a).mp h with h | ⟨_,h | ⟨_,h⟩⟩
  ·exact absurd h Rat.lt_irrefl
  ·exact absurd h (ji _)
  ·exact absurd h (ji _)
theorem nK {a b c:Rat} (h:a < b) (k:b < c):a < c:=by grind
theorem aA.lt_trans {a b c:aA} (h:a.lt b=true) (k:b.lt c=true):a.lt c=true:=by
 rw [aA.lt_iff] at *
 rcases h with h | ⟨e,h⟩ <;> rcases k with k | ⟨e',k⟩
 ·exact .inl (nK h k)
 ·exact .inl (e' ▸ h)
 ·exact .inl (e ▸ k)
 ·refine .inr ⟨e.trans e',?_⟩
  rcases h with h | ⟨z,h⟩ <;> rcases k with k | ⟨z',k⟩
  ·exact .inl (jZ h k)
  ·exact .inl (z' ▸ h)
  ·exact .inl (z ▸ k)
  ·exact .inr ⟨z.trans z',jZ h k⟩
theorem aA.xt {a b:aA} (h:a≠b):a.lt b=true∨b.lt a=true:=by
 rw [aA.lt_iff,aA.lt_iff]
 by_cases e:a.m=b.m
 ·by_cases z:a.h=b.h
  ·have:a.f≠b.f:=fun q=>h (by cases a;cases b;simp_all)
   rcases oY this with q | q
   ·exact .inl (.inr ⟨e,.inr ⟨z,q⟩⟩)
   ·exact .inr (.inr ⟨e.symm,.inr ⟨z.symm,q⟩⟩)
  ·rcases oY z with q | q
   ·exact .inl (.inr ⟨e,.inl q⟩)
   ·exact .inr (.inr ⟨e.symm,.inl q⟩)
 ·rcases (by grind:a.m < b.m∨b.m < a.m) with q | q
  ·exact .inl (.inl q)
  ·exact .inr (.inl q)
def gy (l:List aA):Prop:=l.Pairwise fun a b=>a.lt b=true
def iB (b:aA) (l:List aA):List aA:=l.filter (fun x=>x.lt b) ++ b :: l.filter (fun x=>!x.lt b)
def qD (h f:Str) (x:aA):Bool:=decide (x.h=h∧x.f=f)
def c9 (h f:Str) (l:List aA):List aA:=l.filter fun x=>!qD h f x
theorem nL {h f:Str} {l:List aA} (s:gy l):gy (c9 h f l):=s.filter _
theorem qs {b:aA} {l:List aA} (s:gy l) (n:∀ x∈l,x≠b):gy (iB b l):=by
 unfold iB gy
 rw [List.pairwise_append]
 refine ⟨s.filter _,?_,?_⟩
 ·rw [List.pairwise_cons]
  refine ⟨fun y hy=>?_,s.filter _⟩
  rw [List.mem_filter] at hy
  rcases aA.xt (n y hy.1) with q | q
  ·simp [q] at hy
  ·exact q
 ·intro x hx y hy
  rw [List.mem_filter] at hx
  rcases List.mem_cons.mp hy with rfl | hy
  ·exact hx.2
  ·rw [List.mem_filter] at hy
   rcases aA.xt (n y hy.1) with q | q
   ·simp [q] at hy
   ·exact aA.lt_trans hx.2 q
theorem AI {h f:Str} {l:List aA} {m:Rat}:∀ x∈c9 h f l,x≠⟨m,h,f⟩:=fun x hx e=>by
 subst e
 unfold c9 at hx
 rw [List.mem_filter] at hx
 simp [qD] at hx
theorem nX (p:aA→Bool):∀ {l:List aA} {i:Nat},i≤l.length→(∀ (j:Nat) x,j < i→l[j]?=some x→p x=true)→(∀ (j:Nat) x,i≤j→l[j]?=some x→p x=false)→l.take i ++ l.drop i=l∧l.filter p=l.take i∧l.filter (fun x=>!p x)=l.drop i
 | l,0,_,_,h=>by
  refine ⟨by simp,?_,?_⟩
  ·rw [List.take_zero]
   apply List.filter_eq_nil_iff.mpr
   intro x hx
   obtain ⟨j,hj⟩:=List.mem_iff_getElem?.mp hx
   rw [h j x (Nat.zero_le _) hj];simp
  ·rw [List.drop_zero]
   apply List.filter_eq_self.mpr
   intro x hx
   obtain ⟨j,hj⟩:=List.mem_iff_getElem?.mp hx
   rw [h j x (Nat.zero_le _) hj];rfl
 | [],i + 1,hi,_,_=>by simp at hi
 | x :: l,i + 1,hi,h1,h2=>by
  obtain ⟨a,b,c⟩:=nX p (l:=l) (i:=i) (by simpa using hi) (fun j y hj e=>h1 (j + 1) y (by omega) (by simpa using e)) (fun j y hj e=>h2 (j + 1) y (by omega) (by simpa using e))
  have hx:p x=true:=h1 0 x (by omega) rfl
  refine ⟨by simp,?_,?_⟩
  ·rw [List.filter_cons,hx];simp [b]
  ·rw [List.filter_cons,hx];simp [c]
theorem Ah {b:aA} {l:List aA} {i:Nat} (hi:i≤l.length) (h1:∀ (j:Nat) x,j < i→l[j]?=some x→x.lt b=true) (h2:∀ (j:Nat) x,i≤j→l[j]?=some x→x.lt b=false):l.take i ++ b :: l.drop i=iB b l:=by
 obtain ⟨_,e1,e2⟩:=nX (fun x=>x.lt b) hi h1 h2
 unfold iB
 rw [e1,e2]
theorem vh {l:List aA} {b x y:aA} {i j:Nat} (s:gy l) (hx:l[i]?=some x) (hy:l[j]?=some y) (h:j≤i) (k:x.lt b=true):y.lt b=true:=by
 rcases Nat.lt_or_eq_of_le h with h | h
 ·obtain ⟨hi,ei⟩:=List.getElem?_eq_some_iff.mp hx
  obtain ⟨hj,ej⟩:=List.getElem?_eq_some_iff.mp hy
  have:=List.pairwise_iff_getElem.mp s j i hj hi h
  rw [ei,ej] at this
  exact aA.lt_trans this k
 ·subst h;rw [hx] at hy;cases hy;exact k
theorem zl {l:List aA} {b x y:aA} {i j:Nat} (s:gy l) (hx:l[i]?=some x) (hy:l[j]?=some y) (h:i≤j) (k:x.lt b=false):y.lt b=false:=by
 cases q:y.lt b with
 | false=>rfl
 | true=>rw [vh s hy hx h q] at k;cases k
theorem xI {b x:aA} {l:List aA} (h:x∈iB b l):x=b∨x∈l:=by
 unfold iB at h
 rcases List.mem_append.mp h with h | h
 ·exact .inr (List.mem_filter.mp h).1
 ·rcases List.mem_cons.mp h with h | h
  ·exact .inl h
  ·exact .inr (List.mem_filter.mp h).1
theorem iW (p:aA→Bool):∀ l:List aA,(l.filter p).length + (l.filter fun x=>!p x).length=l.length
 | []=>rfl
 | x :: l=>by
  have:=iW p l
  cases h:p x <;> simp [h] <;> omega
theorem x8 (b:aA) (l:List aA):(iB b l).length=l.length + 1:=by
 unfold iB
 rw [List.length_append,List.length_cons]
 have:=iW (fun x=>x.lt b) l
 omega
theorem nj (h f:Str) (l:List aA):(c9 h f l).length≤l.length:=List.length_filter_le _ _
structure aQ where
 m:Rat
 p:Rat
 v:Int
 deriving DecidableEq
def aQ.at (l:aQ) (t:Rat):Rat:=l.p + (t - l.m) * l.v
def turned (rows:List aQ) (t:Rat) (v:Int):List aQ :=
 match rows.getLast? with
 | none=>[]
 | some l =>
  let rest:=if l.m=t then rows.dropLast else rows
  if rest.getLast?.map aQ.v=some v then rest else rest ++ [⟨t,l.at t,v⟩]
theorem ft (ls:List aQ) (l:aQ) (t:Rat) (v:Int):turned (ls ++ [l]) t v =
  if l.m=t then (if ls.getLast?.map aQ.v=some v then ls else ls ++ [⟨t,l.at t,v⟩]) else (if l.v=v then ls ++ [l] else ls ++ [l] ++ [⟨t,l.at t,v⟩]):=by
 unfold turned
 simp only [List.getLast?_concat,List.dropLast_concat]
 split
 ·rfl
 ·simp only [List.getLast?_concat,Option.map_some,Option.some.injEq]
theorem j8 {rows:List aQ} {t:Rat} {v:Int} (h:rows≠[]):turned rows t v≠[]:=by
 obtain ⟨ls,l,rfl⟩:∃ ls l,rows=ls ++ [l]:=⟨rows.dropLast,rows.getLast h,(List.dropLast_concat_getLast h).symm⟩
 rw [ft]
 split
 ·split
  ·rename_i e
   intro z;subst z;cases e
  ·simp
 ·split <;> simp
theorem md {rows:List aQ} {t:Rat} {v:Int} {x:aQ} (h:x∈turned rows t v):x∈rows∨∃ l∈rows,x=⟨t,l.at t,v⟩:=by
 by_cases e:rows=[]
 ·subst e;cases h
 obtain ⟨ls,l,rfl⟩:∃ ls l,rows=ls ++ [l]:=⟨rows.dropLast,rows.getLast e,(List.dropLast_concat_getLast e).symm⟩
 rw [ft] at h
 have key:∀ {y:List aQ},(∀ z∈y,z∈ls ++ [l])→x∈y ++ [⟨t,l.at t,v⟩]→x∈ls ++ [l]∨∃ l'∈ls ++ [l],x=⟨t,l'.at t,v⟩:=fun hy hx=>by
  rcases List.mem_append.mp hx with h | h
  ·exact .inl (hy _ h)
  ·exact .inr ⟨l,by simp,by simpa using h⟩
 split at h
 ·split at h
  ·exact .inl (List.mem_append.mpr (.inl h))
  ·exact key (fun z hz=>List.mem_append.mpr (.inl hz)) h
 ·split at h
  ·exact .inl h
  ·exact key (fun z hz=>hz) h
theorem gm (rows:List aQ) (t:Rat) (v:Int):(turned rows t v).length≤rows.length + 1:=by
 by_cases e:rows=[]
 ·subst e;simp [turned]
 obtain ⟨ls,l,rfl⟩:∃ ls l,rows=ls ++ [l]:=⟨rows.dropLast,rows.getLast e,(List.dropLast_concat_getLast e).symm⟩
 rw [ft]
 split <;> split <;> simp <;> omega
def pW (rows:List aQ) (t:Rat):Option aQ:=(rows.filter fun l=>decide (l.m≤t)).getLast?
def lb (ms:List Rat) (t:Rat):Nat→Nat
 | 0=>0
 | k + 1=>if ms.getD k 0≤t then k + 1 else lb ms t k
theorem B8 (ms:List Rat) (t:Rat):∀ k,lb ms t k≤k
 | 0=>Nat.le_refl _
 | k + 1=>by unfold lb;split;exact Nat.le_refl _;exact Nat.le_succ_of_le (B8 ms t k)
theorem y0 {ms:List Rat} {t:Rat} {j:Nat} (h:ms.getD j 0≤t):∀ {k},j < k→0 < lb ms t k
 | 0,hk=>absurd hk (Nat.not_lt_zero _)
 | k + 1,hk=>by
  unfold lb
  split
  ·exact Nat.succ_pos _
  ·rename_i c
   exact y0 h (by rcases Nat.lt_succ_iff_lt_or_eq.mp hk with e | e;exact e;subst e;exact absurd h c)
theorem u_ (t:Rat) (rows:List aQ):∀ k,k≤rows.length→((rows.take k).filter fun l=>decide (l.m≤t)).getLast?=if lb (rows.map aQ.m) t k=0 then none else rows[lb (rows.map aQ.m) t k - 1]?
 | 0,_=>rfl
 | k + 1,hk=>by
  have hk':k < rows.length:=by omega
  have e:rows.take (k + 1)=rows.take k ++ [rows[k]]:=by rw [List.take_add_one,List.getElem?_eq_getElem hk'];rfl
  have em:(rows.map aQ.m).getD k 0=rows[k].m:=by simp [List.getD,hk']
  rw [e,List.filter_append]
  unfold lb
  rw [em]
  by_cases c:rows[k].m≤t
  ·rw [if_pos c,List.filter_cons,if_pos (decide_eq_true c),List.filter_nil,List.getLast?_concat,if_neg (Nat.succ_ne_zero _),Nat.add_sub_cancel,List.getElem?_eq_getElem hk']
  ·rw [if_neg c,List.filter_cons,if_neg (by simp [c]),List.filter_nil,List.append_nil]
   exact u_ t rows k (by omega)
theorem xR (rows:List aQ) (t:Rat):pW rows t=if lb (rows.map aQ.m) t rows.length=0 then none else rows[lb (rows.map aQ.m) t rows.length - 1]?:=by
 have:=u_ t rows rows.length (Nat.le_refl _)
 rw [List.take_length] at this
 exact this
def G8 (g:Option Rat) (t:Rat):Bool:=match g with | none=>true | some q=>decide (t < q)
def there (rows:List aQ) (g:Option Rat) (t:Rat):Bool :=
 match rows.head? with
 | none=>false
 | some l=>!decide (t < l.m) && G8 g t
theorem yx {rows:List aQ} {g:Option Rat} {t:Rat} (h:there rows g t=true):∃ l,pW rows t=some l∧l∈rows∧l.m≤t∧0 < lb (rows.map aQ.m) t rows.length∧rows[lb (rows.map aQ.m) t rows.length - 1]?=some l:=by
 cases rows with
 | nil=>cases h
 | cons l0 ls =>
  have h0:l0.m≤t:=by
   unfold there at h
   simp only [List.head?_cons,Bool.and_eq_true,Bool.not_eq_true',decide_eq_false_iff_not] at h
   exact Rat.not_lt.mp h.1
  have hp:0 < lb ((l0 :: ls).map aQ.m) t (l0 :: ls).length:=y0 (j:=0) (by simpa using h0) (by simp)
  have hle:=B8 ((l0 :: ls).map aQ.m) t (l0 :: ls).length
  have hx:=xR (l0 :: ls) t
  rw [if_neg (by omega)] at hx
  obtain ⟨l,hl⟩:∃ l,(l0 :: ls)[lb ((l0 :: ls).map aQ.m) t (l0 :: ls).length - 1]?=some l:=⟨_,List.getElem?_eq_getElem (by omega)⟩
  rw [hl] at hx
  have hm:=List.mem_of_getLast? hx
  rw [List.mem_filter] at hm
  exact ⟨l,hx,hm.1,of_decide_eq_true hm.2,hp,hl⟩
def Sc (D A:Nat) (q:Rat):Prop:=∃ a:Int,q * (D:Rat)=(a:Rat)∧a.natAbs≤A
theorem Sc.mono {D A B:Nat} {q:Rat} (h:Sc D A q) (k:A≤B):Sc D B q:=let ⟨a,e,l⟩:=h;⟨a,e,Nat.le_trans l k⟩
theorem Gv {D:Nat} (h:0 < D):(D:Rat)≠0:=by
 intro e
 have:D=0:=by exact_mod_cast e
 omega
theorem Sc.sz {D A n:Nat} {q:Rat} (h:Sc D A q) (hD:0 < D) (h1:D < 2 ^ n) (h2:A < 2 ^ n):Sz n q:=by
 obtain ⟨a,e,l⟩:=h
 have nz:=Gv hD
 have:q=Rat.divInt a (D:Int):=by
  rw [Rat.divInt_eq_div,← e]
  have:((D:Int):Rat)=(D:Rat):=rfl
  rw [this]
  generalize (D:Rat)=d at nz ⊢
  grind
 rw [this]
 exact Sz.div ⟨Nat.lt_of_le_of_lt l h2⟩ ⟨by simpa using h1⟩ (by omega)
theorem Sc.add {D A B:Nat} {p q:Rat} (h:Sc D A p) (k:Sc D B q):Sc D (A + B) (p + q):=by
 obtain ⟨a,e,l⟩:=h
 obtain ⟨b,f,m⟩:=k
 refine ⟨a + b,?_,by omega⟩
 rw [Rat.intCast_add,← e,← f]
 grind
theorem Sc.sub {D A B:Nat} {p q:Rat} (h:Sc D A p) (k:Sc D B q):Sc D (A + B) (p - q):=by
 obtain ⟨a,e,l⟩:=h
 obtain ⟨b,f,m⟩:=k
 refine ⟨a - b,?_,by omega⟩
 rw [Rat.intCast_sub,← e,← f]
 grind
theorem Sc.mul {D A B:Nat} {p:Rat} {v:Int} (h:Sc D A p) (k:v.natAbs≤B):Sc D (A * B) (p * v):=by
 obtain ⟨a,e,l⟩:=h
 refine ⟨a * v,?_,?_⟩
 ·rw [Rat.intCast_mul,← e]
  grind
 ·rw [Int.natAbs_mul];exact Nat.mul_le_mul l k
theorem Sc.scale {D A E:Nat} {p:Rat} (h:Sc D A p):Sc (E * D) (E * A) p:=by
 obtain ⟨a,e,l⟩:=h
 refine ⟨E * a,?_,?_⟩
 ·rw [Rat.intCast_mul,← e]
  have h1:((E * D:Nat):Rat)=(E:Rat) * (D:Rat):=Rat.natCast_mul ..
  have h2:((E:Int):Rat)=(E:Rat):=rfl
  rw [h1,h2]
  grind
 ·rw [Int.natAbs_mul];exact Nat.mul_le_mul (by simp) l
theorem Sc.IE {D A:Nat} {t:Int} {b:Nat} (hb:0 < b) (hd:b ∣ D) (hA:t.natAbs * (D / b)≤A):Sc D A (Rat.divInt t b):=by
 obtain ⟨c,rfl⟩:=hd
 rw [Nat.mul_div_cancel_left _ hb] at hA
 refine ⟨t * c,?_,by rw [Int.natAbs_mul];simpa using hA⟩
 have nb:=Gv hb
 have e1:((b:Int):Rat)=(b:Rat):=rfl
 have e2:((c:Int):Rat)=(c:Rat):=rfl
 rw [Rat.divInt_eq_div,Rat.intCast_mul,e1,e2,Rat.natCast_mul]
 generalize (b:Rat)=b at nb ⊢
 grind
def fR:Nat:=9690712164777231700912800
theorem JT:∀ b:Nat,1≤b→b≤60→b ∣ fR:=by
 intro b h1 h2
 have:∀ b:Fin 61,1≤b.val→b.val ∣ fR:=by decide
 exact this ⟨b,by omega⟩ h1
theorem pP:0 < fR:=by decide
def MM:Nat:=2097152 * fR
structure AO (D k:Nat) (l:aQ):Prop where
 m:Sc fR MM l.m
 p:Sc (D * fR) (fR * 2 ^ 101 + k * (2000 * (D * MM))) l.p
 v:l.v.natAbs≤1000
theorem AO.mono {D k j:Nat} {l:aQ} (h:AO D k l) (e:k≤j):AO D j l:=⟨h.m,h.p.mono (Nat.add_le_add_left (Nat.mul_le_mul_right _ e) _),h.v⟩
theorem AO.at {D k:Nat} {l:aQ} {t:Rat} (h:AO D k l) (ht:Sc fR MM t):Sc (D * fR) (fR * 2 ^ 101 + (k + 1) * (2000 * (D * MM))) (l.at t):=by
 have h1:Sc (D * fR) (D * (MM + MM)) (t - l.m):=(ht.sub h.m).scale
 have h2:=h1.mul h.v
 exact (h.p.add h2).mono (by
  have e:(k + 1) * (2000 * (D * MM))=k * (2000 * (D * MM)) + 2000 * (D * MM):=Nat.succ_mul ..
  rw [e,Nat.mul_add D]
  generalize D * MM=x
  generalize k * (2000 * x)=y
  omega)
theorem AO.turn {D k:Nat} {l:aQ} {t:Rat} {v:Int} (h:AO D k l) (ht:Sc fR MM t) (hv:v.natAbs≤1000):AO D (k + 1) ⟨t,l.at t,v⟩:=⟨ht,h.at ht,hv⟩
theorem FU:MM < 2 ^ 106:=by decide
theorem uj {q:Rat} (h:Sc fR MM q):Sz 106 q:=h.sz pP (by decide) FU
structure Gd (D k:Nat) (rows:List aQ):Prop where
 ne:rows≠[]
 ok:∀ l∈rows,AO D k l
 len:rows.length≤k + 1
theorem Gd.turn {D k:Nat} {rows:List aQ} {t:Rat} {v:Int} (h:Gd D k rows) (ht:Sc fR MM t) (hv:v.natAbs≤1000):Gd D (k + 1) (turned rows t v) :=
 ⟨j8 h.ne,fun x hx=>by
  rcases md hx with h1 | ⟨l,h1,rfl⟩
  ·exact (h.ok x h1).mono (Nat.le_succ _)
  ·exact (h.ok l h1).turn ht hv,Nat.le_trans (gm _ _ _) (Nat.succ_le_succ h.len)⟩
def Later (c q:Rat):Prop:=q=c∨∃ u s:Nat,1≤u∧u≤60∧1≤s∧s≤500 * u∧q=Rat.divInt ((c.num * u).fdiv c.den + s) u
theorem Later.le {c q:Rat} (h:Later c q):c≤q:=by
 rcases h with rfl | ⟨u,s,h1,h2,h3,h4,rfl⟩
 ·exact Rat.le_refl
 have hf:c.num * u < ((c.num * u).fdiv c.den + 1) * c.den:=by
  rw [Int.fdiv_eq_ediv_of_nonneg _ (by omega)]
  exact Int.lt_ediv_add_one_mul_self (c.num * u) (iI c)
 generalize (c.num * u).fdiv c.den=F at hf ⊢
 have h5:c.num * u≤(F + s) * c.den:=by
  have:(F + 1) * c.den≤(F + s) * c.den:=Int.mul_le_mul_of_nonneg_right (by omega) (by omega)
  omega
 have hu:(0:Rat) < (u:Rat):=by exact_mod_cast (show 0 < u by omega)
 have hd:(0:Rat) < ((c.den:Int):Rat):=by exact_mod_cast iI c
 refine Rat.not_lt.mp fun hlt=>?_
 rw [Rat.divInt_eq_div] at hlt
 have e1:((u:Int):Rat)=(u:Rat):=rfl
 rw [e1,Rat.div_lt_iff hu] at hlt
 have h6:=Rat.mul_lt_mul_of_pos_right hlt hd
 have e2:c * (u:Rat) * ((c.den:Int):Rat)=((c.num * u:Int):Rat):=by
  rw [Rat.intCast_mul,cast_eq c,e1];grind
 rw [e2,← Rat.intCast_mul] at h6
 have h7:(F + s) * c.den < c.num * u:=by exact_mod_cast h6
 omega
section
variable {α:Type} {lt:α→α→Bool}
def kJ (lt:α→α→Bool) (b:α) (l:List α):List α:=l.filter (fun x=>lt x b) ++ b :: l.filter (fun x=>!lt x b)
def jj (lt:α→α→Bool) (l:List α):Prop:=l.Pairwise fun a b=>lt a b=true
theorem yy (p:α→Bool):∀ {l:List α} {i:Nat},i≤l.length→(∀ (j:Nat) x,j < i→l[j]?=some x→p x=true)→(∀ (j:Nat) x,i≤j→l[j]?=some x→p x=false)→l.filter p=l.take i∧l.filter (fun x=>!p x)=l.drop i
 | l,0,_,_,h=>by
  refine ⟨?_,?_⟩
  ·rw [List.take_zero]
   apply List.filter_eq_nil_iff.mpr
   intro x hx
   obtain ⟨j,hj⟩:=List.mem_iff_getElem?.mp hx
   rw [h j x (Nat.zero_le _) hj];simp
  ·rw [List.drop_zero]
   apply List.filter_eq_self.mpr
   intro x hx
   obtain ⟨j,hj⟩:=List.mem_iff_getElem?.mp hx
   rw [h j x (Nat.zero_le _) hj];rfl
 | [],i + 1,hi,_,_=>by simp at hi
 | x :: l,i + 1,hi,h1,h2=>by
  obtain ⟨b,c⟩:=yy p (l:=l) (i:=i) (by simpa using hi) (fun j y hj e=>h1 (j + 1) y (by omega) (by simpa using e)) (fun j y hj e=>h2 (j + 1) y (by omega) (by simpa using e))
  have hx:p x=true:=h1 0 x (by omega) rfl
  refine ⟨?_,?_⟩
  ·rw [List.filter_cons,hx];simp [b]
  ·rw [List.filter_cons,hx];simp [c]
theorem vd {b:α} {l:List α} {i:Nat} (hi:i≤l.length) (h1:∀ (j:Nat) x,j < i→l[j]?=some x→lt x b=true) (h2:∀ (j:Nat) x,i≤j→l[j]?=some x→lt x b=false):l.take i ++ b :: l.drop i=kJ lt b l:=by
 obtain ⟨e1,e2⟩:=yy (fun x=>lt x b) hi h1 h2
 unfold kJ
 rw [e1,e2]
theorem qK {b x:α} {l:List α}:x∈kJ lt b l↔x=b∨x∈l:=by
 unfold kJ
 rw [List.mem_append,List.mem_cons,List.mem_filter,List.mem_filter]
 constructor
 ·rintro (h | h | h)
  ·exact .inr h.1
  ·exact .inl h
  ·exact .inr h.1
 ·rintro (h | h)
  ·exact .inr (.inl h)
  ·cases e:lt x b
   ·exact .inr (.inr ⟨h,by simp⟩)
   ·exact .inl ⟨h,rfl⟩
theorem zw (b:α) (l:List α):(kJ lt b l).length=l.length + 1:=by
 unfold kJ
 rw [List.length_append,List.length_cons]
 have:∀ l:List α,(l.filter fun x=>lt x b).length + (l.filter fun x=>!lt x b).length=l.length:=by
  intro l
  induction l with
  | nil=>rfl
  | cons x l ih=>cases h:lt x b <;> simp [h] <;> omega
 have:=this l
 omega
theorem y8 (tr:∀ {a b c},lt a b=true→lt b c=true→lt a c=true) {b:α} {l:List α} (s:jj lt l) (Gr:∀ x∈l,lt x b=true∨lt b x=true):jj lt (kJ lt b l):=by
 unfold kJ jj
 rw [List.pairwise_append]
 refine ⟨s.filter _,?_,?_⟩
 ·rw [List.pairwise_cons]
  refine ⟨fun y hy=>?_,s.filter _⟩
  rw [List.mem_filter] at hy
  rcases Gr y hy.1 with q | q
  ·simp [q] at hy
  ·exact q
 ·intro x hx y hy
  rw [List.mem_filter] at hx
  rcases List.mem_cons.mp hy with rfl | hy
  ·exact hx.2
  ·rw [List.mem_filter] at hy
   rcases Gr y hy.1 with q | q
   ·simp [q] at hy
   ·exact tr hx.2 q
theorem rL (tr:∀ {a b c},lt a b=true→lt b c=true→lt a c=true) {l:List α} {b x y:α} {i j:Nat} (s:jj lt l) (hx:l[i]?=some x) (hy:l[j]?=some y) (h:j≤i) (k:lt x b=true):lt y b=true:=by
 rcases Nat.lt_or_eq_of_le h with h | h
 ·obtain ⟨hi,ei⟩:=List.getElem?_eq_some_iff.mp hx
  obtain ⟨hj,ej⟩:=List.getElem?_eq_some_iff.mp hy
  have:=List.pairwise_iff_getElem.mp s j i hj hi h
  rw [ei,ej] at this
  exact tr this k
 ·subst h;rw [hx] at hy;cases hy;exact k
theorem vI (tr:∀ {a b c},lt a b=true→lt b c=true→lt a c=true) {l:List α} {b x y:α} {i j:Nat} (s:jj lt l) (hx:l[i]?=some x) (hy:l[j]?=some y) (h:i≤j) (k:lt x b=false):lt y b=false:=by
 cases q:lt y b with
 | false=>rfl
 | true=>have:=rL (lt:=lt) (b:=b) tr s hy hx h q;rw [this] at k;cases k
theorem jv (zW:∀ a,lt a a=false) (tr:∀ {a b c},lt a b=true→lt b c=true→lt a c=true):∀ {l k:List α},jj lt l→jj lt k→(∀ x,x∈l↔x∈k)→l=k
 | [],[],_,_,_=>rfl
 | [],y :: k,_,_,h=>by have:=(h y).mpr List.mem_cons_self;cases this
 | x :: l,[],_,_,h=>by have:=(h x).mp List.mem_cons_self;cases this
 | x :: l,y :: k,hl,hk,h=>by
  obtain ⟨a1,a2⟩:=List.pairwise_cons.mp hl
  obtain ⟨b1,b2⟩:=List.pairwise_cons.mp hk
  have exy:x=y:=by
   rcases List.mem_cons.mp ((h x).mp List.mem_cons_self) with e | e
   ·exact e
   ·rcases List.mem_cons.mp ((h y).mpr List.mem_cons_self) with e' | e'
    ·exact e'.symm
    ·have:=tr (a1 y e') (b1 x e)
     rw [zW] at this;cases this
  subst exy
  rw [jv zW tr a2 b2 fun z=>?_]
  constructor
  ·intro hz
   rcases List.mem_cons.mp ((h z).mp (List.mem_cons_of_mem _ hz)) with e | e
   ·have:=a1 z hz;rw [e,zW] at this;cases this
   ·exact e
  ·intro hz
   rcases List.mem_cons.mp ((h z).mpr (List.mem_cons_of_mem _ hz)) with e | e
   ·have:=b1 z hz;rw [e,zW] at this;cases this
   ·exact e
end
structure Ky where
 p:Rat
 v:Int
 n:Str
 deriving DecidableEq
def Ky.lt (a b:Ky):Bool:=if a.p=b.p then (if a.v=b.v then decide (slt a.n b.n) else decide (a.v < b.v)) else decide (a.p < b.p)
theorem Ky.lt_iff (a b:Ky):a.lt b=true↔a.p < b.p∨(a.p=b.p∧(a.v < b.v∨(a.v=b.v∧slt a.n b.n))):=by
 unfold Ky.lt
 by_cases e:a.p=b.p
 ·rw [if_pos e]
  have n:¬ a.p < b.p:=by rw [e];exact Rat.lt_irrefl
  by_cases k:a.v=b.v
  ·rw [if_pos k,decide_eq_true_eq]
   have n2:¬ a.v < b.v:=by omega
   exact ⟨fun h=>.inr ⟨e,.inr ⟨k,h⟩⟩,fun h=>by
    rcases h with h | ⟨_,h | h⟩
    ·exact absurd h n
    ·exact absurd h n2
    ·exact h.2⟩
  ·rw [if_neg k,decide_eq_true_eq]
   exact ⟨fun h=>.inr ⟨e,.inl h⟩,fun h=>by
    rcases h with h | ⟨_,h | h⟩
    ·exact absurd h n
    ·exact h
    ·exact absurd h.1 k⟩
 ·rw [if_neg e,decide_eq_true_eq]
  exact ⟨.inl,fun h=>by
   rcases h with h | h
   ·exact h
   ·exact absurd h.1 e⟩
theorem Ky.zW (a:Ky):a.lt a=false:=by
 cases h:a.lt a with
 | false=>rfl
 | true =>
  rcases (Ky.lt_iff a a).mp h with h | ⟨_,h | ⟨_,h⟩⟩
  ·exact absurd h Rat.lt_irrefl
  ·omega
  ·exact absurd h (ji _)
theorem Ky.tr {a b c:Ky} (h:a.lt b=true) (k:b.lt c=true):a.lt c=true:=by
 rw [Ky.lt_iff] at *
 rcases h with h | ⟨e,h⟩ <;> rcases k with k | ⟨e',k⟩
 ·exact .inl (nK h k)
 ·exact .inl (e' ▸ h)
 ·exact .inl (e ▸ k)
 ·refine .inr ⟨e.trans e',?_⟩
  rcases h with h | ⟨z,h⟩ <;> rcases k with k | ⟨z',k⟩
  ·exact .inl (by omega)
  ·exact .inl (by omega)
  ·exact .inl (by omega)
  ·exact .inr ⟨z.trans z',jZ h k⟩
theorem Ky.Gr {a b:Ky} (h:a.n≠b.n):a.lt b=true∨b.lt a=true:=by
 rw [Ky.lt_iff,Ky.lt_iff]
 by_cases e:a.p=b.p
 ·by_cases z:a.v=b.v
  ·rcases oY h with q | q
   ·exact .inl (.inr ⟨e,.inr ⟨z,q⟩⟩)
   ·exact .inr (.inr ⟨e.symm,.inr ⟨z.symm,q⟩⟩)
  ·rcases (by omega:a.v < b.v∨b.v < a.v) with q | q
   ·exact .inl (.inr ⟨e,.inl q⟩)
   ·exact .inr (.inr ⟨e.symm,.inl q⟩)
 ·rcases (by grind:a.p < b.p∨b.p < a.p) with q | q
  ·exact .inl (.inl q)
  ·exact .inr (.inl q)
theorem Ky.GB {a b:Ky} (h:a.lt b=true):b.lt a=false:=by
 cases k:b.lt a with
 | false=>rfl
 | true=>have:=Ky.tr h k;rw [Ky.zW] at this;cases this
def bJ (ks:List Ky):List Ky:=ks.foldl (fun acc x=>kJ Ky.lt x acc) []
theorem fQ (ks:List Ky) (x:Ky):bJ (ks ++ [x])=kJ Ky.lt x (bJ ks):=by unfold bJ;rw [List.foldl_append];rfl
theorem snoc_ind {α:Type} {p:List α→Prop} (h0:p []) (h1:∀ l x,p l→p (l ++ [x])) (l:List α):p l:=by
 have:∀ l:List α,p l.reverse:=by
  intro l
  induction l with
  | nil=>exact h0
  | cons x l ih=>rw [List.reverse_cons];exact h1 _ _ ih
 have:=this l.reverse
 rwa [List.reverse_reverse] at this
theorem gj {α:Type} {l:List α} {x:α} (h:(l ++ [x]).Nodup):l.Nodup∧x ∉ l:=by
 rw [List.nodup_append] at h
 exact ⟨h.1,fun hm=>h.2.2 x hm x (by simp) rfl⟩
theorem aX:∀ (ks:List Ky) (x:Ky),x∈bJ ks↔x∈ks:=by
 intro ks
 refine snoc_ind (p:=fun ks=>∀ x:Ky,x∈bJ ks↔x∈ks) (fun x=>by simp [bJ]) (fun ks y ih x=>?_) ks
 rw [fQ,qK,ih,List.mem_append,List.mem_singleton]
 exact Or.comm
theorem cY {ks:List Ky} (h:(ks.map Ky.n).Nodup):jj Ky.lt (bJ ks):=by
 revert h
 refine snoc_ind (p:=fun ks=>(ks.map Ky.n).Nodup→jj Ky.lt (bJ ks)) (fun _=>List.Pairwise.nil) (fun ks y ih h=>?_) ks
 ·rw [List.map_append,List.map_cons,List.map_nil] at h
  obtain ⟨h1,h2⟩:=gj h
  rw [fQ]
  refine y8 (lt:=Ky.lt) Ky.tr (ih h1) fun x hx=>Ky.Gr fun e=>h2 ?_
  rw [← e]
  exact List.mem_map_of_mem ((aX ks x).mp hx)
theorem gW (ks:List Ky):(bJ ks).length=ks.length:=by
 refine snoc_ind (p:=fun ks=>(bJ ks).length=ks.length) rfl (fun ks y ih=>?_) ks
 rw [fQ,zw,ih,List.length_append];rfl
theorem qC {ks js:List Ky} (h:(ks.map Ky.n).Nodup) (k:(js.map Ky.n).Nodup) (e:∀ x,x∈ks↔x∈js):bJ ks=bJ js :=
 jv (lt:=Ky.lt) Ky.zW Ky.tr (cY h) (cY k) fun x=>by rw [aX,aX];exact e x
def key (t:Rat) (x:Str × aQ):Ky:=⟨x.2.at t,x.2.v,x.1⟩
def b_ (t:Rat) (fs:List (Str × aQ)):List Str:=(bJ (fs.map (key t))).map Ky.n
theorem cI (t:Rat) (fs:List (Str × aQ)):(fs.map (key t)).map Ky.n=fs.map (·.1):=by rw [List.map_map];rfl
theorem qH {t:Rat} {fs:List (Str × aQ)} {n:Str}:n∈b_ t fs↔n∈fs.map (·.1):=by
 rw [← cI t fs]
 unfold b_
 rw [List.mem_map,List.mem_map]
 exact ⟨fun ⟨x,h,e⟩=>⟨x,(aX _ _).mp h,e⟩,fun ⟨x,h,e⟩=>⟨x,(aX _ _).mpr h,e⟩⟩
theorem qk (t:Rat) (fs:List (Str × aQ)):(b_ t fs).length=fs.length:=by unfold b_;rw [List.length_map,gW,List.length_map]
theorem nQ {l:List Ky} (s:jj Ky.lt l) (h:∀ x∈l,∀ y∈l,x.n=y.n→x=y):(l.map Ky.n).Nodup:=by
 refine List.pairwise_map.mpr (s.imp_of_mem fun {a b} ha hb hab e=>?_)
 have:=h a ha b hb e
 subst this
 rw [Ky.zW] at hab;cases hab
theorem gM {ks:List Ky} (h:(ks.map Ky.n).Nodup):∀ x∈ks,∀ y∈ks,x.n=y.n→x=y:=by
 intro x hx y hy e
 obtain ⟨i,hi,rfl⟩:=List.getElem_of_mem hx
 obtain ⟨j,hj,rfl⟩:=List.getElem_of_mem hy
 have:=(List.getElem_inj (xs:=ks.map Ky.n) (i:=i) (j:=j) (h₀:=by simpa using hi) (h₁:=by simpa using hj) h).mp (by rw [List.getElem_map,List.getElem_map];exact e)
 subst this;rfl
theorem lU {t:Rat} {fs:List (Str × aQ)} (h:(fs.map (·.1)).Nodup):(b_ t fs).Nodup:=by
 rw [← cI t fs] at h
 exact nQ (cY h) fun x hx y hy e=>gM h x ((aX _ _).mp hx) y ((aX _ _).mp hy) e
theorem xh {t:Rat} {fs gs:List (Str × aQ)} (h:(fs.map (·.1)).Nodup) (k:(gs.map (·.1)).Nodup) (e:∀ x,x∈fs.map (key t)↔x∈gs.map (key t)):b_ t fs=b_ t gs:=by
 unfold b_
 rw [qC (by rw [cI];exact h) (by rw [cI];exact k) e]
theorem fZ {α β:Type} {fs:List (Str × α)} {f:α→β} (h:(fs.map (·.1)).Nodup) {n:Str} {l:α} (hm:(n,l)∈fs):L2.iS (fs.map fun x=>(x.1,f x.2)) n=some (f l):=by
 induction fs with
 | nil=>cases hm
 | cons x fs ih =>
  rw [List.map_cons,List.nodup_cons] at h
  rw [List.map_cons,L2.jy]
  rcases List.mem_cons.mp hm with e | e
  ·subst e;rw [if_pos rfl]
  ·have ne:x.1≠n:=fun z=>h.1 (by rw [z];exact List.mem_map_of_mem (f:=fun x:Str × α=>x.1) e)
   rw [if_neg ne];exact ih h.2 e
theorem oi {α β:Type} {fs:List (Str × α)} {f:α→β} (h:(fs.map (·.1)).Nodup) {n:Str} (hm:n∈fs.map (·.1)):∃ l,(n,l)∈fs∧L2.iS (fs.map fun x=>(x.1,f x.2)) n=some (f l):=by
 obtain ⟨⟨m,l⟩,hx,rfl⟩:=List.mem_map.mp hm
 exact ⟨l,hx,fZ h hx⟩
theorem BD {α β:Type} {fs:List (Str × α)} {f:α→β} {n:Str} (hm:n ∉ fs.map (·.1)):L2.iS (fs.map fun x=>(x.1,f x.2)) n=none:=by
 induction fs with
 | nil=>rfl
 | cons x fs ih =>
  rw [List.map_cons,L2.jy]
  rw [List.map_cons,List.mem_cons,not_or] at hm
  rw [if_neg (fun e=>hm.1 e.symm)];exact ih hm.2
theorem wG {α β:Type} {fs:List (Str × α)} {f:α→β} {n:Str} (h:(fs.map (·.1)).Nodup):(L2.iS (fs.map fun x=>(x.1,f x.2)) n).isSome=decide (n∈fs.map (·.1)):=by
 by_cases hm:n∈fs.map (·.1)
 ·obtain ⟨l,_,e⟩:=oi (f:=f) h hm
  rw [e,decide_eq_true hm];rfl
 ·rw [BD hm,decide_eq_false hm];rfl
theorem si {α β:Type} {fs:List (Str × α)} {f:α→β} {n:Str} {l:α} (hm:n ∉ fs.map (·.1)):L2.pf (fs.map fun x=>(x.1,f x.2)) n (f l)=(fs ++ [(n,l)]).map fun x=>(x.1,f x.2):=by
 unfold L2.pf
 rw [if_neg,List.map_append]
 ·rfl
 ·intro h
  rw [List.any_eq_true] at h
  obtain ⟨y,hy,e⟩:=h
  obtain ⟨x,hx,rfl⟩:=List.mem_map.mp hy
  exact hm (by rw [← of_decide_eq_true e];exact List.mem_map_of_mem (f:=fun x:Str × α=>x.1) hx)
def PP:Nat:=1000000 * fR + 1000 * MM
structure mD (l:aQ):Prop where
 m0:0≤l.m
 m:Sc fR MM l.m
 p:∃ a:Int,l.p * (fR:Rat)=(a:Rat)
 b0:-(1000000 + 1000 * l.m)≤l.p
 b1:l.p≤1000000 + 1000 * l.m
 v:l.v.natAbs≤1000
theorem F4:(0:Rat) < (fR:Rat):=by
 have:((0:Nat):Rat) < ((fR:Nat):Rat):=Rat.natCast_lt_natCast.mpr pP
 simpa using this
theorem mD.sc {l:aQ} (h:mD l):Sc fR PP l.p:=by
 obtain ⟨a,ha⟩:=h.p
 obtain ⟨k,hk,hk1⟩:=h.m
 have hL:=F4
 have b0:=h.b0
 have b1:=h.b1
 have e1:(a:Rat)≤(((1000000 * fR + 1000 * k:Int)):Rat):=by
  rw [← ha,Rat.intCast_add,Rat.intCast_mul,Rat.intCast_mul,← hk]
  have:l.p * (fR:Rat)≤(1000000 + 1000 * l.m) * (fR:Rat):=Rat.mul_le_mul_of_nonneg_right b1 (Rat.le_of_lt hL)
  have e:(((fR:Nat):Int):Rat)=(fR:Rat):=rfl
  rw [e]
  grind
 have e2:(((-(1000000 * fR + 1000 * k):Int)):Rat)≤(a:Rat):=by
  rw [← ha,Rat.intCast_neg,Rat.intCast_add,Rat.intCast_mul,Rat.intCast_mul,← hk]
  have:-(1000000 + 1000 * l.m) * (fR:Rat)≤l.p * (fR:Rat):=Rat.mul_le_mul_of_nonneg_right b0 (Rat.le_of_lt hL)
  have e:(((fR:Nat):Int):Rat)=(fR:Rat):=rfl
  rw [e]
  grind
 have e1:=Rat.intCast_le_intCast.mp e1
 have e2:=Rat.intCast_le_intCast.mp e2
 refine ⟨a,ha,?_⟩
 unfold PP
 have:(k:Int)≤MM:=by omega
 have:-(MM:Int)≤k:=by omega
 omega
theorem Gq:PP < 2 ^ 120:=by decide
theorem mD.EF {l:aQ} (h:mD l):Sz 120 l.p:=h.sc.sz pP (by decide) Gq
theorem mD.Js {l:aQ} (h:mD l):Sz 120 l.m:=(uj h.m).mono (by decide)
theorem mD.at {l:aQ} {t:Rat} {v:Int} (h:mD l) (h0:l.m≤t) (ht:Sc fR MM t) (hv:v.natAbs≤1000):mD ⟨t,l.at t,v⟩:=by
 have hm:=h.m0
 have t0:0≤t:=Rat.le_trans hm h0
 have d0:0≤t - l.m:=by grind
 have v1:(l.v:Rat)≤1000:=by
  have:((l.v:Int):Rat)≤((1000:Int):Rat):=Rat.intCast_le_intCast.mpr (by have:=h.v;omega)
  exact this
 have v2:-1000≤(l.v:Rat):=by
  have:((-1000:Int):Rat)≤((l.v:Int):Rat):=Rat.intCast_le_intCast.mpr (by have:=h.v;omega)
  exact this
 have m1:(t - l.m) * (l.v:Rat)≤(t - l.m) * 1000:=Rat.mul_le_mul_of_nonneg_left v1 d0
 have m2:(t - l.m) * (-1000)≤(t - l.m) * (l.v:Rat):=Rat.mul_le_mul_of_nonneg_left v2 d0
 have b0:=h.b0
 have b1:=h.b1
 refine ⟨t0,ht,?_,?_,?_,hv⟩
 ·obtain ⟨a,ha⟩:=h.p
  obtain ⟨k,hk,_⟩:=h.m
  obtain ⟨j,hj,_⟩:=ht
  refine ⟨a + (j - k) * l.v,?_⟩
  unfold aQ.at
  dsimp only
  rw [Rat.intCast_add,Rat.intCast_mul,Rat.intCast_sub,← ha,← hk,← hj]
  grind
 ·show -(1000000 + 1000 * t)≤l.p + (t - l.m) * (l.v:Rat)
  grind
 ·show l.p + (t - l.m) * (l.v:Rat)≤1000000 + 1000 * t
  grind
theorem mD.new {t:Rat} {p v:Int} (t0:0≤t) (ht:Sc fR MM t) (hp:p.natAbs≤1000000) (hv:v.natAbs≤1000):mD ⟨t,(p:Rat),v⟩:=by
 have p1:(p:Rat)≤1000000:=by
  have:((p:Int):Rat)≤((1000000:Int):Rat):=Rat.intCast_le_intCast.mpr (by omega)
  exact this
 have p2:-1000000≤(p:Rat):=by
  have:((-1000000:Int):Rat)≤((p:Int):Rat):=Rat.intCast_le_intCast.mpr (by omega)
  exact this
 refine ⟨t0,ht,⟨p * fR,by rw [Rat.intCast_mul];rfl⟩,?_,?_,hv⟩
 ·show -(1000000 + 1000 * t)≤(p:Rat)
  grind
 ·show (p:Rat)≤1000000 + 1000 * t
  grind
def wa (b:aA) (l:List aA):List aA:=if b∈l then l else iB b l
theorem nC {b x:aA} {l:List aA}:x∈iB b l↔x=b∨x∈l:=qK (lt:=aA.lt)
theorem y9 {b x:aA} {l:List aA}:x∈wa b l↔x=b∨x∈l:=by
 unfold wa
 split
 ·rename_i h
  exact ⟨.inr,fun z=>by rcases z with rfl | z;exact h;exact z⟩
 ·exact nC
theorem zk {b:aA} {l:List aA} (s:gy l):gy (wa b l):=by
 unfold wa
 split
 ·exact s
 ·rename_i h
  exact qs s fun x hx e=>h (e ▸ hx)
def pB (bs:List aA):List aA:=bs.foldl (fun acc b=>wa b acc) []
theorem nJ (bs:List aA) (b:aA):pB (bs ++ [b])=wa b (pB bs):=by unfold pB;rw [List.foldl_append];rfl
theorem zS (bs:List aA) (x:aA):x∈pB bs↔x∈bs:=by
 refine snoc_ind (p:=fun bs=>∀ x:aA,x∈pB bs↔x∈bs) (fun x=>by simp [pB]) (fun bs y ih x=>?_) bs x
 rw [nJ,y9,ih,List.mem_append,List.mem_singleton]
 exact Or.comm
theorem yS (bs:List aA):gy (pB bs):=by
 refine snoc_ind (p:=fun bs=>gy (pB bs)) List.Pairwise.nil (fun bs y ih=>?_) bs
 rw [nJ];exact zk ih
theorem zE {l k:List aA} (h:gy l) (h':gy k) (e:∀ x,x∈l↔x∈k):l=k:=jv (lt:=aA.lt) aA.Dj aA.lt_trans h h' e
def fJ (t:Rat) (a b:Ky):Rat:=t + (b.p - a.p) / ((a.v - b.v:Int):Rat)
def iq (t:Rat) (a b:Ky):aA:=⟨fJ t a b,a.n,b.n⟩
def lV (t:Rat) (ks:List Ky) (m:Rat):List aA:=pB (((ks.flatMap fun a=>ks.map fun b=>(a,b)).filter fun p=>decide (p.2.v < p.1.v∧p.1.p < p.2.p∧fJ t p.1 p.2≤m)).map fun p=>iq t p.1 p.2)
theorem vN {t m:Rat} {ks:List Ky} {x:aA}:x∈lV t ks m↔∃ a∈ks,∃ b∈ks,b.v < a.v∧a.p < b.p∧fJ t a b≤m∧x=iq t a b:=by
 unfold lV
 rw [zS,List.mem_map]
 constructor
 ·rintro ⟨⟨a,b⟩,h,rfl⟩
  rw [List.mem_filter,List.mem_flatMap] at h
  obtain ⟨⟨c,hc,h1⟩,h2⟩:=h
  obtain ⟨d,hd,e⟩:=List.mem_map.mp h1
  cases e
  have h2:=of_decide_eq_true h2
  exact ⟨_,hc,_,hd,h2.1,h2.2.1,h2.2.2,rfl⟩
 ·rintro ⟨a,ha,b,hb,h1,h2,h3,rfl⟩
  exact ⟨(a,b),List.mem_filter.mpr ⟨List.mem_flatMap.mpr ⟨a,ha,List.mem_map.mpr ⟨b,hb,rfl⟩⟩,decide_eq_true ⟨h1,h2,h3⟩⟩,rfl⟩
theorem wU (t m:Rat) (ks:List Ky):gy (lV t ks m):=yS _
theorem jx {α:Type} {l:List α} {a b:α}:(a,b)∈l.zip l.tail↔∃ i:Nat,l[i]?=some a∧l[i + 1]?=some b:=by
 constructor
 ·intro h
  obtain ⟨i,hi⟩:=List.mem_iff_getElem?.mp h
  obtain ⟨h1,h2⟩:=List.getElem?_zip_eq_some.mp hi
  exact ⟨i,h1,by rw [List.getElem?_tail] at h2;exact h2⟩
 ·rintro ⟨i,h1,h2⟩
  exact List.mem_iff_getElem?.mpr ⟨i,List.getElem?_zip_eq_some.mpr ⟨h1,by rw [List.getElem?_tail];exact h2⟩⟩
def jw (l l':aQ):Rat:=(l'.at 0 - l.at 0) / ((l.v - l'.v:Int):Rat)
theorem xP {a b:Int} (h:a≠b):((a - b:Int):Rat)≠0:=by
 intro e
 have:(a - b:Int)=0:=by exact_mod_cast (show ((a - b:Int):Rat)=((0:Int):Rat) from e)
 omega
theorem kW {t:Rat} {n n':Str} {l l':aQ} (h:l.v≠l'.v):jw l l'=fJ t (key t (n,l)) (key t (n',l')):=by
 have k:=xP h
 unfold jw fJ key aQ.at
 dsimp only
 rw [Rat.intCast_sub] at *
 grind
theorem xW {a b:Rat} (ha:0 < a) (hb:0 < b):0 < a / b:=by
 have e:a / b * b=a:=by grind
 rcases Rat.le_total (a:=a / b) (b:=0) with h | h
 ·have:=Rat.mul_le_mul_of_nonneg_right h (Rat.le_of_lt hb)
  rw [e,Rat.zero_mul] at this
  exact absurd ha (Rat.not_lt.mpr this)
 ·rcases (by grind:a / b=0∨0 < a / b) with h | h
  ·rw [h,Rat.zero_mul] at e;rw [← e] at ha;exact absurd ha Rat.lt_irrefl
  ·exact h
def Ao (t:Rat) (l l':aQ):Option Rat:=if l.v≠l'.v∧t < jw l l' then some (jw l l') else none
theorem A8 {t:Rat} {n n':Str} {l l':aQ} (h:(key t (n,l)).lt (key t (n',l'))=true):(l.v≠l'.v∧t < jw l l')↔(l'.v < l.v∧l.at t < l'.at t):=by
 rw [Ky.lt_iff] at h
 unfold key at h
 dsimp only at h
 constructor
 ·rintro ⟨h1,h2⟩
  rw [kW (t:=t) (n:=n) (n':=n') h1] at h2
  unfold fJ key at h2
  dsimp only at h2
  have k:=xP h1
  have h3:0 < (l'.at t - l.at t) / ((l.v - l'.v:Int):Rat):=by grind
  have hp:l.at t≠l'.at t:=by
   intro e
   rw [e] at h3
   have:(l'.at t - l'.at t) / ((l.v - l'.v:Int):Rat)=0:=by grind
   rw [this] at h3
   exact absurd h3 Rat.lt_irrefl
  have hlt:l.at t < l'.at t:=by
   rcases h with h | ⟨h,_⟩
   ·exact h
   ·exact absurd h hp
  refine ⟨?_,hlt⟩
  rcases (by omega:l'.v < l.v∨l.v < l'.v) with q | q
  ·exact q
  ·exfalso
   have hn:((l.v - l'.v:Int):Rat) < 0:=by
    have:((l.v - l'.v:Int):Rat) < ((0:Int):Rat):=Rat.intCast_lt_intCast.mpr (by omega)
    exact this
   have hd:0 < l'.at t - l.at t:=by grind
   have e:(l'.at t - l.at t) / ((l.v - l'.v:Int):Rat) * ((l.v - l'.v:Int):Rat)=l'.at t - l.at t:=by grind
   generalize (l'.at t - l.at t) / ((l.v - l'.v:Int):Rat)=z at h3 e
   have:z * ((l.v - l'.v:Int):Rat) < 0:=by
    have:=Rat.mul_lt_mul_of_pos_left hn h3
    rwa [Rat.mul_zero] at this
   grind
 ·rintro ⟨h1,h2⟩
  have hne:l.v≠l'.v:=by omega
  refine ⟨hne,?_⟩
  rw [kW (t:=t) (n:=n) (n':=n') hne]
  unfold fJ key
  dsimp only
  have hpos:0 < ((l.v - l'.v:Int):Rat):=by
   have:((0:Int):Rat) < ((l.v - l'.v:Int):Rat):=Rat.intCast_lt_intCast.mpr (by omega)
   exact this
  have hd:0 < l'.at t - l.at t:=by grind
  have:0 < (l'.at t - l.at t) / ((l.v - l'.v:Int):Rat):=xW hd hpos
  grind
end Ov
namespace Ov
def m7 (t:Rat) (c:Ky × Ky→Bool) (rows:List aA) (p:Ky × Ky):List aA:=if c p=true then iB (iq t p.1 p.2) (c9 p.1.n p.2.n rows) else rows
def dh (t:Rat) (c:Ky × Ky→Bool) (ps:List (Ky × Ky)):List aA:=ps.foldl (m7 t c) []
theorem gq (t:Rat) (c:Ky × Ky→Bool) (ps:List (Ky × Ky)) (p:Ky × Ky):dh t c (ps ++ [p])=m7 t c (dh t c ps) p:=by unfold dh;rw [List.foldl_append];rfl
theorem nq (t:Rat) (c:Ky × Ky→Bool) (ps:List (Ky × Ky)):gy (dh t c ps):=by
 refine snoc_ind (p:=fun ps=>gy (dh t c ps)) List.Pairwise.nil (fun l x ih=>?_) ps
 rw [gq]
 unfold m7
 split
 ·exact qs (nL ih) AI
 ·exact ih
theorem nZ {t:Rat} {c:Ky × Ky→Bool} {x:aA} (ps:List (Ky × Ky)):x∈dh t c ps→∃ p∈ps,c p=true∧x=iq t p.1 p.2:=by
 refine snoc_ind (p:=fun ps=>x∈dh t c ps→∃ p∈ps,c p=true∧x=iq t p.1 p.2) (fun h=>by cases h) (fun l y ih h=>?_) ps
 rw [gq] at h
 unfold m7 at h
 split at h
 ·rename_i hc
  rcases xI h with e | h
  ·exact ⟨y,by simp,hc,e⟩
  ·obtain ⟨p,hp,k⟩:=ih (List.mem_filter.mp h).1
   exact ⟨p,List.mem_append.mpr (.inl hp),k⟩
 ·obtain ⟨p,hp,k⟩:=ih h
  exact ⟨p,List.mem_append.mpr (.inl hp),k⟩
def xr (ps:List (Ky × Ky)):Prop:=∀ p∈ps,∀ q∈ps,p.1.n=q.1.n→p.2.n=q.2.n→p=q
theorem v7 {t:Rat} {c:Ky × Ky→Bool} {x:aA} (ps:List (Ky × Ky)):xr ps→(x∈dh t c ps↔∃ p∈ps,c p=true∧x=iq t p.1 p.2):=by
 refine snoc_ind (p:=fun ps=>xr ps→(x∈dh t c ps↔∃ p∈ps,c p=true∧x=iq t p.1 p.2)) (fun _=>Iff.intro (fun h=>nomatch h) (fun h=>by obtain ⟨_,h,_⟩:=h;cases h)) (fun l y ih inj=>?_) ps
 have ih:=ih fun p hp q hq=>inj p (List.mem_append.mpr (.inl hp)) q (List.mem_append.mpr (.inl hq))
 refine ⟨nZ _,?_⟩
 rintro ⟨p,hp,hc,rfl⟩
 rw [gq]
 unfold m7
 have hold:p∈l→iq t p.1 p.2∈dh t c l:=fun h=>ih.mpr ⟨p,h,hc,rfl⟩
 split
 ·rename_i hy
  rw [nC]
  by_cases e:p=y
  ·left;rw [e]
  ·right
   have hl:p∈l:=by
    rcases List.mem_append.mp hp with h | h
    ·exact h
    ·exact absurd (by simpa using h) e
   refine List.mem_filter.mpr ⟨hold hl,?_⟩
   unfold qD
   have:¬ ((iq t p.1 p.2).h=y.1.n∧(iq t p.1 p.2).f=y.2.n):=fun z=>e (inj p hp y (by simp) z.1 z.2)
   rw [decide_eq_false this];rfl
 ·rename_i hy
  rcases List.mem_append.mp hp with h | h
  ·exact hold h
  ·have:p=y:=by simpa using h
   subst this;exact absurd hc hy
theorem xr.of {ks:List Ky} (h:(ks.map Ky.n).Nodup) {ps:List (Ky × Ky)} (hp:∀ p∈ps,p.1∈ks∧p.2∈ks):xr ps:=fun p h1 q h2 e1 e2=>by
 have a:=gM h p.1 (hp p h1).1 q.1 (hp q h2).1 e1
 have b:=gM h p.2 (hp p h1).2 q.2 (hp q h2).2 e2
 cases p;cases q;simp only at a b;rw [a,b]
def rW (ks:List Ky):Nat→List (Ky × Ky)
 | 0=>[]
 | i + 1=>rW ks i ++ (match ks[i]? with | some a=>(ks.drop (i + 1)).map fun b=>(a,b) | none=>[])
theorem jE {ks:List Ky} {p:Ky × Ky}:∀ {i:Nat},p∈rW ks i↔∃ i' j,i' < i∧i' < j∧ks[i']?=some p.1∧ks[j]?=some p.2
 | 0=>⟨fun h=>(by cases h),fun ⟨_,_,h,_⟩=>by omega⟩
 | i + 1=>by
  unfold rW
  rw [List.mem_append,jE (i:=i)]
  constructor
  ·rintro (⟨i',j,h1,h⟩ | h)
   ·exact ⟨i',j,by omega,h⟩
   ·cases e:ks[i]? with
    | none=>rw [e] at h;cases h
    | some a =>
     rw [e] at h
     obtain ⟨b,hb,rfl⟩:=List.mem_map.mp h
     obtain ⟨j,hj⟩:=List.mem_iff_getElem?.mp hb
     rw [List.getElem?_drop] at hj
     exact ⟨i,_,by omega,by omega,e,hj⟩
  ·rintro ⟨i',j,h1,h2,h3,h4⟩
   by_cases e:i' < i
   ·exact .inl ⟨i',j,e,h2,h3,h4⟩
   ·have:i'=i:=by omega
    subst this
    right
    rw [h3]
    refine List.mem_map.mpr ⟨p.2,List.mem_iff_getElem?.mpr ⟨j - (i' + 1),?_⟩,rfl⟩
    rw [List.getElem?_drop,show i' + 1 + (j - (i' + 1))=j by omega];exact h4
def eS (t m:Rat) (p:Ky × Ky):Bool:=decide (p.2.v < p.1.v∧p.1.p < p.2.p∧fJ t p.1 p.2≤m)
theorem AL {t m:Rat} {ks:List Ky} (h:(ks.map Ky.n).Nodup):dh t (eS t m) (rW (bJ ks) (bJ ks).length)=lV t ks m:=by
 have hs:=cY h
 have hn:((bJ ks).map Ky.n).Nodup:=nQ hs (fun x hx y hy e=>gM h x ((aX _ _).mp hx) y ((aX _ _).mp hy) e)
 refine zE (nq _ _ _) (wU _ _ _) fun x=>?_
 rw [v7 _ (xr.of hn fun p hp=>by
  obtain ⟨i,j,_,_,h3,h4⟩:=jE.mp hp
  exact ⟨List.mem_of_getElem? h3,List.mem_of_getElem? h4⟩),vN]
 constructor
 ·rintro ⟨p,hp,hc,rfl⟩
  obtain ⟨i,j,_,_,h3,h4⟩:=jE.mp hp
  have hc:=of_decide_eq_true hc
  exact ⟨p.1,(aX _ _).mp (List.mem_of_getElem? h3),p.2,(aX _ _).mp (List.mem_of_getElem? h4),hc.1,hc.2.1,hc.2.2,rfl⟩
 ·rintro ⟨a,ha,b,hb,h1,h2,h3,rfl⟩
  obtain ⟨i,hi⟩:=List.mem_iff_getElem?.mp ((aX _ _).mpr ha)
  obtain ⟨j,hj⟩:=List.mem_iff_getElem?.mp ((aX _ _).mpr hb)
  have hab:a.lt b=true:=(Ky.lt_iff a b).mpr (.inl h2)
  have hij:i < j:=by
   obtain ⟨hil,ei⟩:=List.getElem?_eq_some_iff.mp hi
   obtain ⟨hjl,ej⟩:=List.getElem?_eq_some_iff.mp hj
   rcases Nat.lt_trichotomy i j with z | z | z
   ·exact z
   ·subst z;rw [ei] at ej;subst ej;rw [Ky.zW] at hab;cases hab
   ·have:=List.pairwise_iff_getElem.mp hs j i hjl hil z
    rw [ei,ej] at this
    rw [Ky.GB this] at hab;cases hab
  exact ⟨(a,b),jE.mpr ⟨i,j,(List.getElem?_eq_some_iff.mp hi).1,hij,hi,hj⟩,decide_eq_true ⟨h1,h2,h3⟩,rfl⟩
end Ov
set_option maxHeartbeats 4000000
namespace Ov
open PySem PySem.Spec PyProof.Rows L2
def top (i:Nat):Stmt:=PySem.Challenge.pw_overhaul_k24_the_closest_two.main.body.getD i (.Pass ⟨0,0,0,0⟩)
set_option compiler.extract_closed false
set_option hygiene false
local macro_rules | `(tactic| dsimp! only [$ls,*])=>`(tactic| simp only [AU,tZ,tJ,mi,Ab,vn,Ad,tS,zI,Hg,wR,tC,rI,zY,rU,I9,Jq,Bu,Av,Az,Int.reduceLT,A7,rV,sj,Cn,mw,Bq,yf,AK,tR,ui,Bt,yz,GI,tB,Hb,vi,G9,uS,Bl,uQ,As,t9,t_,uk,GC,E4,CI,FR,Jz,cS,d7,iz,yO,HO.lst.injEq,HO.tup.injEq,List.set_cons_zero,List.set_cons_succ,List.getElem?_cons_zero,List.getElem?_cons_succ,Option.some.injEq,exists_eq_left',exists_eq_left,exists_and_left,exists_eq,exists_eq',V.int.injEq,V.bl.injEq,V.ref.injEq,V.str.injEq,V.ty.injEq,decide_eq_true_eq,true_and,and_true,List.cons.injEq,List.append_nil,List.cons_append,List.nil_append,reduceCtorEq,Bool.not_eq_true',decide_eq_false_iff_not,and_assoc,ite_not,if_true,if_false,Bool.false_eq_true,decide_true,decide_false,L2.start,List.map_cons,List.map_nil,List.length_cons,List.length_nil,Nat.reduceAdd,Nat.reduceSub,List.replicate,pj,Cx.zT,Cx.jL,false_and,and_false,exists_false,false_or,or_false,id,cD,Option.getD_some,GV,G',uW,kX,GF,Dt,Bk,Ca,$ls,*])
local macro_rules | `(tactic| simp_arith [$t:term])=>`(tactic| refine Jp F $t (fun xs J Q E h=>?_) (fun cdv A outer s H E G xs J Q E2 hr h B=>?_))
local macro_rules | `(tactic| simp_arith! only [$ls,*])=>`(tactic| simp only [An,HB,HM,Ga,E6,yj,rC,xb,Jx,rB,GU,EA,Ib,E9,B7,E1,Cj,Jo,x4,Cy,GD,FA,Jl,tW,Cs,Jv,Hi,Jy,Fj,CA,G1,Bw,AW,nH,Cd,F1,Ck,wu,D7,Jt,IT,IV,p6,Gn,CH,jW,rb,IX,JG,Jg,Jj,Ig,IP,B1,qI,qU,EY,IU,yt,F7,F9,Fm,Hx,FT,Gj,Gk,D6,zD,II,um,Fe,D_,tY,Fs,IA,HV,Fn,IJ,HC,E8,Ff,Cz,Iq,FK,Hu,Hs,HS,Ic,Hl,GS,CN,FN,GP,Gp,F',HJ,H0,Fi,Ik,Iw,IH,Iv,IB,HZ,HD,Ii,Hy,C2,D',DD,FI,C5,E7,zZ,uw,DY,A9,tN,eq_int,eq_str,EZ,uu,Ek,Dl,Fu,Df,oa,Ee,sO,List.map_cons,List.map_nil,List.length_cons,List.length_nil,Nat.reduceAdd,Nat.reduceSub,Nat.reduceLeDiff,List.replicate,List.cons_append,List.nil_append,List.append_nil,List.getElem?_cons_zero,List.getElem?_cons_succ,List.set_cons_zero,List.set_cons_succ,Option.some.injEq,exists_eq_left',exists_eq_left,exists_and_left,exists_eq,exists_eq',PV.int.injEq,PV.bl.injEq,PV.ref.injEq,PV.str.injEq,PV.ty.injEq,PV.tup.injEq,PV.fl.injEq,HQ.lst.injEq,HQ.ins.injEq,HQ.dct.injEq,decide_eq_true_eq,true_and,and_true,List.cons.injEq,reduceCtorEq,Bool.not_eq_true',decide_eq_false_iff_not,and_assoc,ite_not,if_true,if_false,Bool.false_eq_true,decide_true,decide_false,false_and,and_false,exists_false,false_or,or_false,id,cS,d7,iz,yO,FZ,F2,GA,ET,Fc,Fl,Dw,Ed,JB,Bool.not_true,Bool.not_false,Option.map_some,av,Bool.and_true,Bool.true_and,Bool.and_false,Bool.false_and,Cg,Gm,FF,GX,Gy,Gw,GR,FD,Fd,F3,CZ,DA,DL,FE,ty_int,ty_bool,ty_str,DM,ty_list,String.reduceEq,List.isEmpty_cons,List.isEmpty_nil,kL,Option.getD_some,List.not_mem_nil,exists_const,EX,DN,EV,xU,CV,CT,CU,Jn,DP,uP,oJ,Je,$ls,*])
local macro_rules | `(tactic| simp_all! only [$ls,*])=>`(tactic| repeat (first | refine C9 ?_ | simp_arith! only [$ls,*]))
section
variable {P:Program} {w:World} {K:PySem.W.Frag} {mg:Str→Option Value} {base:Heap}
abbrev jk:Stmt:=(top 12)
theorem ki:L2.aw ["one","two"] ["one","two"] (L2.aj jk):=dD
def lF:Sp:=fun vs H Q _=>∃ a b:Int,vs=[.int a,.int b]∧Q (.int (Int.gcd a b:Nat)) H
theorem vK {f:Addr} {fd:FuncData} (F:bX K "shared" "shared" jk f fd) (Z:xa mg):aI P w K mg base ml 1 f fd ["one","two"] lF:=by
 refine F.ok ki (fun vs H Q E h=>?_) (fun cdv A outer s H vs Q E hr h=>?_)
 ·obtain ⟨a,b,rfl,_⟩:=h
  rfl
 obtain ⟨a,b,rfl,q⟩:=h
 refine ⟨_,(QB.run (aM (j1 (i:=0) (j:=1) rfl ki.nd rfl rfl (by decide) rfl rfl (aL (cV jf rfl Z.abs boot_abs (aL (pv 0) bc)) (aL (cV jf rfl Z.abs boot_abs (aL (pv 1) bc)) bc)) rfl)
   (aM (gC PassesOwn.never (cK Ce (pv 1) aF (ax _)) (bh (j1 (i:=0) (j:=1) rfl ki.nd rfl rfl (by decide) rfl rfl (aL (pv 1) (aL (aY eR (pv 0) (pv 1)) bc)) rfl)))
   (bh (cT (pv 0)))))),?_⟩
 refine ⟨_,rfl,a,rfl,_,rfl,b,rfl,_,_,rfl,?_⟩
 refine rp (fun σ H'=>∃ x y:Int,σ=[some (.int x),some (.int y)]∧H=H'∧0≤x∧0≤y∧Int.gcd x y=Int.gcd a b) (fun σ _=>match σ with | [_,some (.int y)]=>y.toNat | _=>0)
  ⟨_,_,rfl,rfl,by split <;> omega,by split <;> omega,Ae a b⟩ ?_ (fun σ H Q Q' m h=>?_)
 ·rintro σ H' ⟨x,y,rfl,rfl,hx,hy,hg⟩
  dsimp! only [rJoin]
  split
  ·rename_i hy0
   subst hy0
   rw [← hg,vt hx] at q
   exact q
  ·rename_i hy0
   have h1:=Int.emod_lt_of_pos x (show 0 < y by omega)
   have h2:=Int.emod_nonneg x hy0
   exact ⟨by omega,hy,h2,(p_ hy0).trans hg,by omega⟩
 ·obtain ⟨v,e,hs,k,ek,hq⟩:=h
  exact ⟨v,e,hs,k,ek,m _ _ hq⟩
def Dig:List Int→List Int→Prop
 | [],[]=>True
 | d :: ds,s :: ss=>(0≤d∧d < s)∧Dig ds ss
 | _,_=>False
theorem Dig.snoc:∀ {ds ss:List Int} {d s:Int},Dig ds ss→0≤d→d < s→Dig (ds ++ [d]) (ss ++ [s])
 | [],[],_,_,_,h0,h1=>⟨⟨h0,h1⟩,trivial⟩
 | _ :: _,_ :: _,_,_,h,h0,h1=>⟨h.1,Dig.snoc h.2 h0 h1⟩
 | [],_ :: _,_,_,h,_,_=>h.elim
 | _ :: _,[],_,_,h,_,_=>h.elim
theorem Dig.cons:∀ {ds ss:List Int} {s:Int},Dig ds (s :: ss)→∃ d r,ds=d :: r∧0≤d∧d < s∧Dig r ss
 | [],_,_,h=>h.elim
 | d :: r,_,_,h=>⟨d,r,rfl,h.1.1,h.1.2,h.2⟩
theorem Dig.nil:∀ {ds:List Int},Dig ds []→ds=[]
 | [],_=>rfl
 | _ :: _,h=>h.elim
theorem Dig.len:∀ {ds ss:List Int},Dig ds ss→ds.length=ss.length
 | [],[],_=>rfl
 | _ :: _,_ :: _,h=>congrArg Nat.succ (Dig.len h.2)
 | [],_ :: _,h=>h.elim
 | _ :: _,[],h=>h.elim
theorem take_snoc {xs:List Int} {i:Nat} {x:Int} (h:xs[i]?=some x):xs.take (i + 1)=xs.take i ++ [x]:=by
 rw [List.take_add_one,h]
 rfl
theorem l6 {ns:List Int} {i:Nat} {y:V} (h:(ns.map V.int)[i]?=some y):∃ z,y=V.int z∧ns[i]?=some z:=by
 rw [List.getElem?_map] at h
 cases e:ns[i]? with
 | none=>rw [e] at h;cases h
 | some z=>rw [e] at h;exact ⟨z,(Option.some.inj h).symm,rfl⟩
abbrev oA:Stmt:=(top 44)
theorem BZ:L2.aw ["_law_script","_law_k"] ["_law_script","_law_k"] (L2.aj oA):=dD
abbrev i5:Stmt:=(top 45)
theorem cO:L2.aw ["_law_cell_here","_law_sizes","_law_out","_law_rest","_law_size","_law_one","_law_k","_law_two"] ["_law_cell_here","_law_sizes"] (L2.aj i5):=dD
def l8 (K:PySem.W.Frag):Sp:=fun vs H Q _=>∃ (c:Int) (a:Addr) (ss:List Int),vs=[.int c,.ref a]∧cg K H a (ss.map V.int)∧(∀ s∈ss,0 < s∧Bd 9000 s)∧ss.length≤1000 ∧
 ∀ (r:Addr) (H':Hp) (ds:List Int),H r=none→aZ H H'→H' r=some (.lst (ds.map V.int))→Dig ds ss→Q (.ref r) H'
theorem vD {f:Addr} {fd:FuncData} (F:bX K "_law_digits" "_law_digits" i5 f fd) (Z:xa mg):aI P w K mg base ml 1 f fd ["_law_cell_here","_law_sizes"] (l8 K):=by
 refine F.ok cO (fun vs H Q E h=>?_) (fun cdv A outer s H vs Q E hr h=>?_)
 ·obtain ⟨c,a,ss,rfl,_⟩:=h
  rfl
 obtain ⟨c,a,ss,rfl,hS,hs,hl,q⟩:=h
 refine ⟨_,(QB.run (aM (b7 (i:=2) cO.nd rfl (Or.inl rfl) (gJ bc))
   (aM (jg (cK CK (pv 0) (aY yp aF aF) (ax _)) (aM (b7 (i:=3) cO.nd rfl (Or.inl rfl) (aY sQ (pv 0) (aY yp aF aF)))
   (aM (j5 PassesOwn.never rfl (iY (pv 1)) (g6 (i:=4) cO.nd rfl (Or.inl rfl)) (aM (g7 (l3 PySem.F.plainAttrs_list PySem.F.slot_list_append PySem.F.type_list_append eI (pv 2) (aL (aY eR (pv 3) (pv 4)) bc)))
   (bh (b7 (i:=3) cO.nd rfl (Or.inl rfl) (aY eJ (pv 3) (pv 4))))))
   (bh (cT (pv 2))))) d_)
   (aM (b7 (i:=5) cO.nd rfl (Or.inl rfl) (aY eR (pv 0) aF))
   (aM (j5 PassesOwn.never rfl (eG rfl Z.range (aL (cV f_ rfl Z.len boot_len (aL (pv 1) bc)) bc)) (g6 (i:=6) cO.nd rfl (Or.inl rfl)) (aM (b7 (i:=5) cO.nd rfl (Or.inl rfl) (aY eR (aY f' (aY bT (pv 5) aF) (aY bT aF (aY f' (pv 6) aF))) aF))
   (aM (b7 (i:=7) cO.nd rfl (Or.inl rfl) (aY eR (aY f' (aY f' (aY bT (pv 5) (pv 5)) (aY bT aF (pv 5))) (pv 6)) aF))
   (bh (g7 (l3 PySem.F.plainAttrs_list PySem.F.slot_list_append PySem.F.type_list_append eI (pv 2) (aL (aY eR (aY eJ (pv 7) aF) (bG oe (pv 1) (pv 6) (fun _ _=>rfl))) bc)))))))
   (bh (cT (pv 2)))))))),?_⟩
 refine ⟨Nat.zero_le _,fun r hr'=>?_⟩
 have g0:=aZ.new hr' (.lst [])
 refine ⟨_,rfl,_,_,rfl,rfl,⟨by decide,by decide,by decide⟩,_,_,rfl,rfl,_,rfl,?_⟩
 refine yn (fun _=>?_) (fun _=>?_)
 ·refine ⟨_,rfl,_,_,rfl,rfl,⟨by decide,by decide,by decide⟩,_,_,rfl,rfl,?_⟩
  refine ⟨_,rfl,a,rfl,⟨_,g0.seq hS⟩,zx (K:=K) (a:=a) (xs:=ss.map V.int) (fun i σ H2=>∃ (ds:List Int) (rest:Int) (u:Option V),σ=[some (.int c),some (.ref a),some (.ref r),some (.int rest),u,none,none,none] ∧
   aZ H H2∧H2 r=some (.lst (ds.map V.int))∧Dig ds (ss.take i)) ⟨[],_,none,rfl,g0,ay,trivial⟩ (fun i σ H2 _ ⟨_,_,_,_,s2,_⟩=>s2.seq hS) ?_ ?_⟩
  ·rintro i y σ H2 hi ⟨ds,rest,u,rfl,s2,hd,hD⟩
   obtain ⟨z,rfl,hz⟩:=l6 hi
   obtain ⟨z0,zb⟩:=hs z (List.mem_of_getElem? hz)
   have hil:i < ss.length:=(List.getElem?_eq_some_iff.mp hz).1
   have dl:=hD.len
   rw [List.length_take] at dl
   refine ⟨_,rfl,.inl ⟨rfl,_,cg.of hd⟩,_,rfl,_,rfl,_,_,rfl,rfl,z0,r,_,_,rfl,rfl,hd,?_,?_⟩
   ·rw [List.length_map]
    exact aV (by omega)
   refine ⟨_,rfl,_,rfl,_,_,rfl,rfl,⟨by omega,zb⟩,?_⟩
   refine ⟨ds ++ [rest % z],_,_,rfl,s2.EJ hr' _,?_,?_⟩
   ·rw [ay,List.map_append]
    rfl
   ·rw [take_snoc hz]
    exact hD.snoc (Int.emod_nonneg _ (by omega)) (Int.emod_lt_of_pos _ z0)
  ·rintro σ H2 ⟨ds,rest,u,rfl,s2,hd,hD⟩
   rw [List.length_map,List.take_length] at hD
   exact ⟨_,rfl,q r H2 ds hr' s2 hd hD⟩
 ·refine ⟨_,rfl,_,_,rfl,rfl,(show (0:Int) < 2147483647 by decide),?_⟩
  refine ⟨_,rfl,a,_,rfl,.inl (g0.seq hS),_,rfl,?_,?_,nk (lo:=0) (n:=(ss.map V.int).length) (fun i σ H2=>∃ (ds:List Int) (one:Int) (u v:Option V),σ=[some (.int c),some (.ref a),some (.ref r),none,none,some (.int one),u,v] ∧
   0≤one∧one < 2147483647∧aZ H H2∧H2 r=some (.lst (ds.map V.int))∧Dig ds (ss.take i)) ⟨[],_,none,none,rfl,Int.emod_nonneg _ (by decide),Int.emod_lt_of_pos _ (by decide),g0,ay,trivial⟩ ?_ ?_⟩
  ·omega
  ·rw [List.length_map];omega
  ·rintro i σ H2 hi ⟨ds,one,u,v,rfl,o0,o1,s2,hd,hD⟩
   rw [List.length_map] at hi
   have hz:ss[i]?=some ss[i]:=List.getElem?_eq_getElem hi
   obtain ⟨z0,zb⟩:=hs ss[i] (List.getElem_mem hi)
   have dl:=hD.len
   rw [List.length_take] at dl
   have e1:cH (ss.map V.int) (0 + (i:Int))=some (.int ss[i]):=by
    rw [Int.zero_add]
    exact a_ (by rw [List.getElem?_map,hz];rfl)
   dsimp! only [rJoin]
   have A0:0≤(one * 48271 + 10007 * (0 + (i:Int) + 1)) % 2147483629:=Int.emod_nonneg _ (by decide)
   have A1:(one * 48271 + 10007 * (0 + (i:Int) + 1)) % 2147483629 < 2147483629:=Int.emod_lt_of_pos _ (by decide)
   generalize (one * 48271 + 10007 * (0 + (i:Int) + 1)) % 2147483629=A at A0 A1 ⊢
   generalize ((A * A + 69621 * A + (0 + (i:Int))) % 2147483563).fdiv 11=B
   have small:∀ x:Int,0≤x→x < 2147483648→Bd 64 x:=fun x h1 h2=>Bd.small (by omega) (by omega)
   refine ⟨.of (small _ o0 (by omega)) (small _ (by decide) (by decide)),.of (small _ (by decide) (by decide)) (small _ (by omega) (by omega)),.of (small _ A0 (by omega)) (small _ A0 (by omega)),
    .of (small _ (by decide) (by decide)) (small _ A0 (by omega)),.inl ⟨rfl,_,cg.of hd⟩,⟨by decide,(small _ (by decide) (by decide)).mono (by decide)⟩,_,s2.seq hS,_,e1,_,rfl,z0,_,hd,?_,A0,by omega,s2.EJ hr' _,ds ++ [B % ss[i]],?_,?_⟩
   ·rw [List.length_map]
    exact aV (by omega)
   ·rw [ay,List.map_append]
    rfl
   ·rw [take_snoc hz]
    exact hD.snoc (Int.emod_nonneg _ (by omega)) (Int.emod_lt_of_pos _ z0)
  ·rintro σ H2 ⟨ds,one,u,v,rfl,o0,o1,s2,hd,hD⟩
   rw [List.length_map,List.take_length] at hD
   exact ⟨_,rfl,q r H2 ds hr' s2 hd hD⟩
def FQ (H:Hp) (q:Rat) (Q:VK):Prop:=∀ (r:Addr) (H':Hp),aZ H H'→H' r=some (.tup [.int q.num,.int q.den])→Q (.ref r) H'
abbrev fW:Stmt:=(top 13)
theorem gX:L2.aw ["top","bottom","divisor"] ["top","bottom"] (L2.aj fW):=dD
def eY:Sp:=fun vs H Q _=>∃ t b:Int,vs=[.int t,.int b]∧b≠0∧Bd 9000 b∧FQ H (Rat.divInt t b) Q
theorem xJ {n:Nat} {t b:Int} (h:b≠0) (hb:Bd n b):Bd n ((Int.gcd t b:Nat):Int):=hb.le (by have:=Eu (t:=t) h;omega)
theorem qi {f:Addr} {fd:FuncData} (F:bX K "fraction" "fraction" fW f fd) (Z:xa mg) (C_shared:mB P w K mg base 1 "shared" ["one","two"] lF):aI P w K mg base ml 2 f fd ["top","bottom"] eY:=by
 refine F.ok gX (fun vs H Q E h=>?_) (fun cdv A outer s H vs Q E hr h=>?_)
 ·obtain ⟨t,b,rfl,_⟩:=h
  rfl
 obtain ⟨t,b,rfl,hb,bb,q⟩:=h
 have hg:=uG (t:=t) hb
 have gb:=xJ (t:=t) hb bb
 refine ⟨_,(QB.run (aM (jg (cK yC (pv 1) aF (ax _)) j0 d_)
   (aM (b7 (i:=2) gX.nd rfl (Or.inl rfl) (qd C_shared hr (by decide) rfl (aL (pv 0) (aL (pv 1) bc))))
   (qE (jg (cK vj (pv 1) aF (ax _)) (bh (b7 (i:=2) gX.nd rfl (Or.inl rfl) (uU za (pv 2)))) d_)
   (bh (cT (lO (aL (aY eJ (pv 0) (pv 2)) (aL (aY eJ (pv 1) (pv 2)) bc))))))))),?_⟩
 refine ⟨_,rfl,rfl,_,rfl,?_⟩
 refine yn (fun c=>absurd (V.int.inj (of_decide_eq_true c)) hb) (fun _=>?_)
 refine ⟨_,rfl,_,rfl,t,b,rfl,?_⟩
 refine ⟨fun σ' H'=>∃ d:Int,σ'=[some (.int t),some (.int b),some (.int d)]∧H=H'∧d≠0∧Bd 9000 d∧t.fdiv d=(Rat.divInt t b).num∧b.fdiv d=(Rat.divInt t b).den,?_,?_⟩
 ·refine ⟨_,rfl,_,_,rfl,rfl,_,rfl,yn (fun c=>?_) (fun c=>?_)⟩
  ·have c':b < 0:=of_decide_eq_true c
   exact ⟨_,rfl,_,rfl,_,rfl,rfl,by omega,gb.neg,uO c',BX c'⟩
  ·have c':0 < b:=by
    have:=of_decide_eq_false (Bool.eq_false_iff.mpr c)
    omega
   exact ⟨_,rfl,rfl,by omega,gb,oK c',den_pos c'⟩
 rintro _ _ ⟨d,rfl,rfl,hd,bd,e1,e2⟩
 refine ⟨_,rfl,_,rfl,_,_,rfl,rfl,⟨hd,bd⟩,_,rfl,_,rfl,_,_,rfl,rfl,⟨hd,bd⟩,(by show 2≤sizeLine;decide),fun p hp=>?_⟩
 exact q p _ (aZ.new hp _) (by rw [ay];show some (HO.tup [V.int (t.fdiv d),V.int (b.fdiv d)])=_;rw [e1,e2])
abbrev vf:Stmt:=(top 47)
theorem pR:L2.aw ["_law_top","_law_bottom","_law_one","_law_two"] ["_law_top","_law_bottom"] (L2.aj vf):=dD
def Cm:Sp:=fun vs H Q _=>∃ t b:Int,vs=[.int t,.int b]∧0 < b∧Bd 9000 b∧FQ H (Rat.divInt t b) Q
theorem Ec {f:Addr} {fd:FuncData} (F:bX K "_law_low" "_law_low" vf f fd) (Z:xa mg):aI P w K mg base ml 1 f fd ["_law_top","_law_bottom"] Cm:=by
 refine F.ok pR (fun vs H Q E h=>?_) (fun cdv A outer s H vs Q E hr h=>?_)
 ·obtain ⟨t,b,rfl,_⟩:=h
  rfl
 obtain ⟨t,b,rfl,hb,bb,q⟩:=h
 have hg:=uG (t:=t) (show b≠0 by omega)
 have gb:=xJ (t:=t) (show b≠0 by omega) bb
 refine ⟨_,(QB.run (aM (b7 (i:=2) pR.nd rfl (Or.inl rfl) (cV jf rfl Z.abs boot_abs (aL (pv 0) bc)))
   (aM (b7 (i:=3) pR.nd rfl (Or.inl rfl) (pv 1))
   (aM (gC PassesOwn.never (cK Ce (pv 3) aF (ax _)) (bh (j1 (i:=2) (j:=3) rfl pR.nd rfl rfl (by decide) rfl rfl (aL (pv 3) (aL (aY eR (pv 2) (pv 3)) bc)) rfl)))
   (bh (cT (lO (aL (aY eJ (pv 0) (pv 2)) (aL (aY eJ (pv 1) (pv 2)) bc))))))))),?_⟩
 refine ⟨_,rfl,t,rfl,_,rfl,?_⟩
 refine rp (fun σ H'=>∃ x y:Int,σ=[some (.int t),some (.int b),some (.int x),some (.int y)]∧H=H'∧0≤x∧0≤y∧Int.gcd x y=Int.gcd t b) (fun σ _=>match σ with | [_,_,_,some (.int y)]=>y.toNat | _=>0)
  ⟨_,_,rfl,rfl,by split <;> omega,by omega,yD t b⟩ ?_ (fun σ H Q Q' m h=>?_)
 ·rintro σ H' ⟨x,y,rfl,rfl,hx,hy,hg'⟩
  dsimp! only [rJoin]
  split
  ·rename_i hy0
   subst hy0
   have ex:x=((Int.gcd t b:Nat):Int):=by rw [← hg',vt hx]
   subst ex
   refine ⟨⟨by omega,gb⟩,⟨by omega,gb⟩,(by show 2≤sizeLine;decide),fun p hp=>?_⟩
   exact q p _ (aZ.new hp _) (by rw [ay,oK hb,den_pos hb])
  ·rename_i hy0
   have h1:=Int.emod_lt_of_pos x (show 0 < y by omega)
   have h2:=Int.emod_nonneg x hy0
   exact ⟨by omega,hy,h2,(p_ hy0).trans hg',by omega⟩
 ·obtain ⟨v,e,hs,k,ek,hq⟩:=h
  exact ⟨v,e,hs,k,ek,m _ _ hq⟩
theorem ya {m n:Nat} {t b:Int} (hb:b≠0) (h1:Bd m t) (h2:Bd n b) (k:Nat) (hm:m≤k) (hn:n≤k):Sz k (Rat.divInt t b) :=
 ⟨(h1.le (uH t b)).mono hm,(h2.le (oC hb)).mono hn⟩
theorem o8 (p q:Rat):(p.den:Int) * (q.den:Int)≠0:=Int.mul_ne_zero (dC p) (dC q)
theorem Sz.add {m n k:Nat} {p q:Rat} (h:Sz m p) (g:Sz n q) (hk:m + n + 1≤k:=by decide):Sz k (p + q):=by
 rw [← add_eq]
 exact ya (o8 p q) (.add (.mul h.num g.den (Nat.le_refl _)) (.mul g.num h.den (Nat.le_refl _)) (Nat.le_refl _)) (.mul h.den g.den (Nat.le_refl _)) k (by omega) (by omega)
theorem Sz.sub {m n k:Nat} {p q:Rat} (h:Sz m p) (g:Sz n q) (hk:m + n + 1≤k:=by decide):Sz k (p - q):=by
 rw [← sub_eq]
 exact ya (o8 p q) (.sub (.mul h.num g.den (Nat.le_refl _)) (.mul g.num h.den (Nat.le_refl _)) (Nat.le_refl _)) (.mul h.den g.den (Nat.le_refl _)) k (by omega) (by omega)
theorem Sz.mul {m n k:Nat} {p:Rat} {i:Int} (h:Sz m p) (g:Bd n i) (hk:m + n≤k:=by decide):Sz k (p * i):=by
 rw [← mul_eq]
 exact ya (dC p) (.mul h.num g (Nat.le_refl _)) h.den k hk (by omega)
def FW (K:PySem.W.Frag) (g:Rat→Rat→Rat):Sp:=fun vs H Q _=>∃ (a b:Addr) (p q:Rat),vs=[.ref a,.ref b]∧Ag K H a p∧Ag K H b q∧Sz 4000 p∧Sz 4000 q∧FQ H (g p q) Q
abbrev pL:Stmt:=(top 14)
theorem BC:L2.aw ["one","two"] ["one","two"] (L2.aj pL):=dD
theorem AD {f:Addr} {fd:FuncData} (F:bX K "plus" "plus" pL f fd) (Z:xa mg) (C_fraction:mB P w K mg base 2 "fraction" ["top","bottom"] eY):aI P w K mg base ml 3 f fd ["one","two"] (FW K fun p q=>p + q):=by
 refine F.ok BC (fun vs H Q E h=>?_) (fun cdv A outer s H vs Q E hr h=>?_)
 ·obtain ⟨a,b,p,q,rfl,_⟩:=h
  rfl
 obtain ⟨a,b,p,q,rfl,ha,hb,sp,sq,k⟩:=h
 refine ⟨_,(QB.run (bh (cT (qd C_fraction hr (by decide) rfl (aL (aY f' (aY bT (bG bZ (pv 0) aF (fun _ _=>rfl)) (bG bZ (pv 1) aF (fun _ _=>rfl))) (aY bT (bG bZ (pv 1) aF (fun _ _=>rfl)) (bG bZ (pv 0) aF (fun _ _=>rfl)))) (aL (aY bT (bG bZ (pv 0) aF (fun _ _=>rfl)) (bG bZ (pv 1) aF (fun _ _=>rfl))) bc)))))),?_⟩
 refine ⟨_,rfl,_,_,_,_,rfl,rfl,ha,rfl,_,rfl,_,_,_,_,rfl,rfl,hb,rfl,_,_,rfl,rfl,.of sp.num sq.den,_,rfl,_,_,_,_,rfl,rfl,hb,rfl,_,rfl,_,_,_,_,rfl,rfl,ha,rfl,_,_,rfl,rfl,.of sq.num sp.den,_,_,rfl,rfl,_,rfl,_,_,_,_,rfl,rfl,ha,rfl,_,rfl,_,_,_,_,rfl,rfl,hb,rfl,_,_,rfl,rfl,.of sp.den sq.den,_,_,rfl,o8 p q,.mul sp.den sq.den,?_⟩
 rw [add_eq]
 exact k
abbrev kS:Stmt:=(top 15)
theorem xZ:L2.aw ["one","two"] ["one","two"] (L2.aj kS):=dD
theorem yG {f:Addr} {fd:FuncData} (F:bX K "minus" "minus" kS f fd) (Z:xa mg) (C_fraction:mB P w K mg base 2 "fraction" ["top","bottom"] eY):aI P w K mg base ml 3 f fd ["one","two"] (FW K fun p q=>p - q):=by
 refine F.ok xZ (fun vs H Q E h=>?_) (fun cdv A outer s H vs Q E hr h=>?_)
 ·obtain ⟨a,b,p,q,rfl,_⟩:=h
  rfl
 obtain ⟨a,b,p,q,rfl,ha,hb,sp,sq,k⟩:=h
 refine ⟨_,(QB.run (bh (cT (qd C_fraction hr (by decide) rfl (aL (aY sQ (aY bT (bG bZ (pv 0) aF (fun _ _=>rfl)) (bG bZ (pv 1) aF (fun _ _=>rfl))) (aY bT (bG bZ (pv 1) aF (fun _ _=>rfl)) (bG bZ (pv 0) aF (fun _ _=>rfl)))) (aL (aY bT (bG bZ (pv 0) aF (fun _ _=>rfl)) (bG bZ (pv 1) aF (fun _ _=>rfl))) bc)))))),?_⟩
 refine ⟨_,rfl,_,_,_,_,rfl,rfl,ha,rfl,_,rfl,_,_,_,_,rfl,rfl,hb,rfl,_,_,rfl,rfl,.of sp.num sq.den,_,rfl,_,_,_,_,rfl,rfl,hb,rfl,_,rfl,_,_,_,_,rfl,rfl,ha,rfl,_,_,rfl,rfl,.of sq.num sp.den,_,_,rfl,rfl,_,rfl,_,_,_,_,rfl,rfl,ha,rfl,_,rfl,_,_,_,_,rfl,rfl,hb,rfl,_,_,rfl,rfl,.of sp.den sq.den,_,_,rfl,o8 p q,.mul sp.den sq.den,?_⟩
 rw [sub_eq]
 exact k
abbrev kQ:Stmt:=(top 16)
theorem xT:L2.aw ["one","many"] ["one","many"] (L2.aj kQ):=dD
def vq (K:PySem.W.Frag):Sp:=fun vs H Q _=>∃ (a:Addr) (p:Rat) (m:Int),vs=[.ref a,.int m]∧Ag K H a p∧Sz 9000 p∧Bd 9000 m∧FQ H (p * m) Q
theorem yA {f:Addr} {fd:FuncData} (F:bX K "times" "times" kQ f fd) (Z:xa mg) (C_fraction:mB P w K mg base 2 "fraction" ["top","bottom"] eY):aI P w K mg base ml 3 f fd ["one","many"] (vq K):=by
 refine F.ok xT (fun vs H Q E h=>?_) (fun cdv A outer s H vs Q E hr h=>?_)
 ·obtain ⟨a,p,m,rfl,_⟩:=h
  rfl
 obtain ⟨a,p,m,rfl,ha,sp,bm,k⟩:=h
 refine ⟨_,(QB.run (bh (cT (qd C_fraction hr (by decide) rfl (aL (aY bT (bG bZ (pv 0) aF (fun _ _=>rfl)) (pv 1)) (aL (bG bZ (pv 0) aF (fun _ _=>rfl)) bc)))))),?_⟩
 refine ⟨_,rfl,_,_,_,_,rfl,rfl,ha,rfl,_,rfl,_,_,rfl,rfl,.of sp.num bm,_,rfl,_,_,_,_,rfl,rfl,ha,rfl,_,_,rfl,dC p,sp.den,?_⟩
 rw [mul_eq]
 exact k
abbrev pe:Stmt:=(top 17)
theorem Bp:L2.aw ["one","two"] ["one","two"] (L2.aj pe):=dD
def yc (K:PySem.W.Frag):Sp:=fun vs H Q _=>∃ (a b:Addr) (p q:Rat),vs=[.ref a,.ref b]∧Ag K H a p∧Ag K H b q∧Sz 9000 p∧Sz 9000 q∧Q (.bl (decide (p < q))) H
theorem z_ (p q:Rat):decide (p.num * q.den < q.num * p.den)=decide (p < q):=decide_eq_decide.mpr (Rat.lt_iff p q).symm
theorem Bn {f:Addr} {fd:FuncData} (F:bX K "less" "less" pe f fd) (Z:xa mg):aI P w K mg base ml 1 f fd ["one","two"] (yc K):=by
 refine F.ok Bp (fun vs H Q E h=>?_) (fun cdv A outer s H vs Q E hr h=>?_)
 ·obtain ⟨a,b,p,q,rfl,_⟩:=h
  rfl
 obtain ⟨a,b,p,q,rfl,ha,hb,sp,sq,k⟩:=h
 refine ⟨_,(QB.run (bh (cT (k6 vj (aY bT (bG bZ (pv 0) aF (fun _ _=>rfl)) (bG bZ (pv 1) aF (fun _ _=>rfl))) (aY bT (bG bZ (pv 1) aF (fun _ _=>rfl)) (bG bZ (pv 0) aF (fun _ _=>rfl))) (ax _))))),?_⟩
 refine ⟨_,rfl,_,_,_,_,rfl,rfl,ha,rfl,_,rfl,_,_,_,_,rfl,rfl,hb,rfl,_,_,rfl,rfl,.of sp.num sq.den,_,rfl,_,_,_,_,rfl,rfl,hb,rfl,_,rfl,_,_,_,_,rfl,rfl,ha,rfl,_,_,rfl,rfl,.of sq.num sp.den,_,_,rfl,rfl,?_⟩
 show Q (.bl (decide (p.num * q.den < q.num * p.den))) H
 rw [z_]
 exact k
theorem uo {K:PySem.W.Frag} {J:Hq} {H:Hp}:∀ {ns:List Int} {vs:List V},aE K J H (ns.map PV.int) vs→vs=ns.map V.int
 | [],_,h=>h
 | n :: ns,_,⟨v,us,e,h,k⟩=>by subst e;cases h;rw [uo k];rfl
theorem D4 {K:PySem.W.Frag} {J:Hq} {H:Hp} {x:PV} {vs:List V} (h:aE K J H [x] vs):∃ v,vs=[v]∧bI K J H x v:=by
 obtain ⟨v,us,rfl,h1,h2⟩:=h;cases h2;exact ⟨v,rfl,h1⟩
theorem fV {K:PySem.W.Frag} {J:Hq} {H:Hp} {x y:PV} {vs:List V} (h:aE K J H [x,y] vs):∃ v u,vs=[v,u]∧bI K J H x v∧bI K J H y u:=by
 obtain ⟨v,us,rfl,h1,u,us',rfl,h2,h3⟩:=h;cases h3;exact ⟨v,u,rfl,h1,h2⟩
theorem mx {K:PySem.W.Frag} {J:Hq} {H:Hp} {q:Rat} {v:V} (h:bI K J H (fr q) v):∃ a,v=.ref a∧Ag K H a q:=by
 obtain ⟨a,vs,rfl,h1,h2⟩:=h
 obtain ⟨x,y,rfl,r1,r2⟩:=fV h2
 cases r1;cases r2
 exact ⟨a,rfl,h1⟩
theorem pM {K:PySem.W.Frag} {J:Hq} {H:Hp} {q:Rat} {Q2:PV→Hq→Prop} {Q:VK} (r:Rep K J H) (k:Kn K J H Q2 Q) (h:Q2 (fr q) J):FQ H q Q:=fun a H' s e =>
 k (fr q) J (.ref a) H' ⟨a,_,rfl,fA.of e,⟨_,_,rfl,rfl,_,_,rfl,rfl,rfl⟩⟩ (r.same s) (.same s) h
def tF:cj:=fun xs J Q _=>∃ (c:Int) (ss:List Int),xs=[.int c,.fl (ss.map .int)]∧(∀ s∈ss,0 < s∧Bd 9000 s)∧ss.length≤1000∧∀ ds,Dig ds ss→Q (.fl (ds.map .int)) J
theorem pY (C:mB P w K mg base 1 "_law_digits" ["_law_cell_here","_law_sizes"] (l8 K)):a9 P w K mg base 1 "_law_digits" ["_law_cell_here","_law_sizes"] tF:=C.lift fun xs J vs H Q2 E2 Q E rs r ⟨c,ss,ex,h0,h1,q⟩ kn=>by
 subst ex
 obtain ⟨v,u,rfl,r1,⟨a,ws,rfl,h2,h3⟩⟩:=fV rs
 cases r1;cases uo h3
 refine ⟨c,a,ss,rfl,h2.sq,h0,h1,fun p H' ds hp s e D=>kn (.fl (ds.map .int)) J (.ref p) H' ⟨p,_,rfl,.inl ⟨r.free hp,.inl e⟩,jR ds⟩ (r.same s) (.same s) (q ds D)⟩
def iR:cj:=fun xs J Q _=>∃ t b:Int,xs=[.int t,.int b]∧0 < b∧Bd 9000 b∧Q (fr (Rat.divInt t b)) J
theorem ye (C:mB P w K mg base 1 "_law_low" ["_law_top","_law_bottom"] Cm):a9 P w K mg base 1 "_law_low" ["_law_top","_law_bottom"] iR:=C.lift fun xs J vs H Q2 E2 Q E rs r ⟨t,b,ex,h0,h1,q⟩ kn=>by
 subst ex
 obtain ⟨v,u,rfl,r1,r2⟩:=fV rs
 cases r1;cases r2
 exact ⟨t,b,rfl,h0,h1,pM r kn q⟩
def cu:cj:=fun xs J Q _=>∃ p q:Rat,xs=[fr p,fr q]∧Sz 9000 p∧Sz 9000 q∧Q (.bl (decide (p < q))) J
theorem wM (C:mB P w K mg base 1 "less" ["one","two"] (yc K)):a9 P w K mg base 1 "less" ["one","two"] cu:=C.lift fun xs J vs H Q2 E2 Q E rs r ⟨p,q,ex,h0,h1,z⟩ kn=>by
 subst ex
 obtain ⟨v,u,rfl,r1,r2⟩:=fV rs
 obtain ⟨a,rfl,f1⟩:=mx r1
 obtain ⟨b,rfl,f2⟩:=mx r2
 exact ⟨a,b,p,q,rfl,f1,f2,h0,h1,kn (.bl _) J _ H rfl r .refl z⟩
def rQ (g:Rat→Rat→Rat):cj:=fun xs J Q _=>∃ p q:Rat,xs=[fr p,fr q]∧Sz 4000 p∧Sz 4000 q∧Q (fr (g p q)) J
theorem Cr {x:Str} {ps:List Str} {k:Nat} {g:Rat→Rat→Rat} (C:mB P w K mg base k x ps (FW K g)):a9 P w K mg base k x ps (rQ g):=C.lift fun xs J vs H Q2 E2 Q E rs r ⟨p,q,ex,h0,h1,z⟩ kn=>by
 subst ex
 obtain ⟨v,u,rfl,r1,r2⟩:=fV rs
 obtain ⟨a,rfl,f1⟩:=mx r1
 obtain ⟨b,rfl,f2⟩:=mx r2
 exact ⟨a,b,p,q,rfl,f1,f2,h0,h1,pM r kn z⟩
theorem vJ (C:mB P w K mg base 3 "plus" ["one","two"] (FW K fun p q=>p + q)):a9 P w K mg base 3 "plus" ["one","two"] (rQ fun p q=>p + q):=Cr C
theorem tI (C:mB P w K mg base 3 "minus" ["one","two"] (FW K fun p q=>p - q)):a9 P w K mg base 3 "minus" ["one","two"] (rQ fun p q=>p - q):=Cr C
def lQ:cj:=fun xs J Q _=>∃ (p:Rat) (m:Int),xs=[fr p,.int m]∧Sz 9000 p∧Bd 9000 m∧Q (fr (p * m)) J
theorem sh (C:mB P w K mg base 3 "times" ["one","many"] (vq K)):a9 P w K mg base 3 "times" ["one","many"] lQ:=C.lift fun xs J vs H Q2 E2 Q E rs r ⟨p,m,ex,h0,h1,z⟩ kn=>by
 subst ex
 obtain ⟨v,u,rfl,r1,r2⟩:=fV rs
 obtain ⟨a,rfl,f1⟩:=mx r1
 cases r2
 exact ⟨a,p,m,rfl,f1,h0,h1,pM r kn z⟩
def aQ.V (l:aQ):PV:=.tup [fr l.m,fr l.p,.int l.v]
theorem qa (m p:Rat) (v:Int):PV.tup [fr m,fr p,.int v]=(aQ.mk m p v).V:=rfl
theorem uI (J:Hq) (l:aQ):dY J l.V (.int 0)=some (fr l.m):=cS _ _
theorem EU (J:Hq) (l:aQ):dY J l.V (.int 1)=some (fr l.p):=d7 _ _ _
theorem kC (J:Hq) (l:aQ):dY J l.V (.int 2)=some (.int l.v):=iz _ _ _ _
theorem Ia (a b:aQ):eqQ a.V b.V=decide (a=b):=by
 unfold aQ.V
 rw [pN,cW,cW,cW,k4,uu,uu,eq_int,Bool.and_true,← Bool.decide_and,← Bool.decide_and]
 apply decide_eq_decide.mpr
 cases a;cases b
 simp [aQ.mk.injEq]
theorem Gz (a b:aQ):(a.V=b.V)=(a=b):=by
 apply propext
 constructor
 ·intro e
  have:=Ia a b
  rw [e,eq_self] at this
  exact of_decide_eq_true this.symm
 ·intro e;rw [e]
def i9:cj:=fun xs J Q _=>∃ (l:aQ) (t:Rat),xs=[l.V,fr t]∧Sz 900 l.m∧Sz 900 l.p∧Sz 900 t∧Bd 64 l.v∧Q (fr (l.at t)) J
abbrev f9:Stmt:=(top 25)
theorem fi:L2.aw ["leg","moment","begun","place","pace"] ["leg","moment"] (L2.aj f9):=dD
theorem oO {f:Addr} {fd:FuncData} (F:bX K "place_on" "place_on" f9 f fd) (Z:bP mg) (C_plus:a9 P w K mg base 3 "plus" ["one","two"] (rQ fun p q=>p + q)) (C_minus:a9 P w K mg base 3 "minus" ["one","two"] (rQ fun p q=>p - q)) (C_times:a9 P w K mg base 3 "times" ["one","many"] lQ) :
  aI P w K mg base (cU P w) 4 f fd ["leg","moment"] (dz K i9):=by
 simp_arith [fi]
 ·obtain ⟨l,t,rfl,_⟩:=h;rfl
 obtain ⟨l,t,rfl,sb,sp,sm,bv,q⟩:=h
 have s1:Sz 1801 (t - l.m):=sm.sub sb
 have s2:Sz 1900 ((t - l.m) * (l.v:Rat)):=s1.mul bv
 refine ⟨_,(ai (o_ (rv 0) (lX rfl (cb (bt (i:=2) fi.nd rfl (Or.inl rfl)) (cb (bt (i:=3) fi.nd rfl (Or.inl rfl)) (cb (bt (i:=4) fi.nd rfl (Or.inl rfl)) jA)))))
   (aq (aB (aP C_plus B hr (by decide) rfl (af (rv 3) (af (aP C_times B hr (by decide) rfl (af (aP C_minus B hr (by decide) rfl (af (rv 1) (af (rv 2) ah))) (af (rv 4) ah))) ah)))))),?_⟩
 simp_arith! only [cm,aQ.V,rQ,lQ]
 exact ⟨rfl,sm.mono (by decide),sb.mono (by decide),s1.mono (by decide),bv.mono (by decide),sp.mono (by decide),s2.mono (by decide),q⟩
theorem Ex (n:Int):PV.tup [.int n,.int 1]=fr (n:Rat):=rfl
theorem hX (p q:Rat):p.num * (q.den:Int)=q.num * (p.den:Int)↔p=q:=by
 have a:=cast_eq p
 have b:=cast_eq q
 have c:=fH p
 have d:=fH q
 constructor
 ·intro h
  have h':((p.num * (q.den:Int):Int):Rat)=((q.num * (p.den:Int):Int):Rat):=by rw [h]
  rw [Rat.intCast_mul,Rat.intCast_mul,a,b] at h'
  grind
 ·intro h;rw [h]
def gv:Option Rat→PV
 | none=>.non
 | some q=>fr q
structure Br (cL:Addr) (J:Hq) (p r:Addr) (rows:List aQ) (g:Option Rat):Prop where
 o:J p=some (.ins cL [("rows",.ref r),("gone",gv g)])
 l:J r=some (.lst (rows.map aQ.V))
theorem Br.ne {cL:Addr} {J:Hq} {p r:Addr} {rows:List aQ} {g:Option Rat} (h:Br cL J p r rows g):r≠p:=by
 intro e;subst e;have:=h.o;rw [h.l] at this;cases this
structure ko (n:Nat) (l:aQ):Prop where
 m:Sz n l.m
 p:Sz n l.p
 v:Bd 64 l.v
theorem ko.mono {n k:Nat} {l:aQ} (h:ko n l) (e:n≤k):ko k l:=⟨h.m.mono e,h.p.mono e,h.v⟩
theorem EG (a b:PV):([("rows",a),("gone",b)]:List (Str × PV)).lookup ("rows":Str)=some a:=rfl
theorem JF (a b:PV):([("rows",a),("gone",b)]:List (Str × PV)).lookup ("gone":Str)=some b:=rfl
theorem BN {m:Str} (a b:PV) (h:(m == ("rows":Str))=false) (k:(m == ("gone":Str))=false):([("rows",a),("gone",b)]:List (Str × PV)).lookup m=none:=by rw [List.lookup_cons,h];simp only;rw [List.lookup_cons,k];rfl
theorem Gu (a b:PV):([("rows",a),("gone",b)]:List (Str × PV)).lookup ("turn":Str)=none:=BN a b (by decide +kernel) (by decide +kernel)
theorem Ie (a b:PV):([("rows",a),("gone",b)]:List (Str × PV)).lookup ("leave":Str)=none:=BN a b (by decide +kernel) (by decide +kernel)
theorem Iy (a b:PV):([("rows",a),("gone",b)]:List (Str × PV)).lookup ("there":Str)=none:=BN a b (by decide +kernel) (by decide +kernel)
theorem IQ (a b:PV):([("rows",a),("gone",b)]:List (Str × PV)).lookup ("leg_at":Str)=none:=BN a b (by decide +kernel) (by decide +kernel)
theorem CP:(("rows":Str)=("gone":Str))=False:=eq_false (by decide +kernel)
theorem lY {J:Hq} {l:Addr} {o:HQ} (h:J l=none):mR J (put J l o):=fun a=>by
 by_cases e:a=l
 ·subst e;exact .inr h
 ·rw [au e];exact .inl rfl
theorem Aq (x z:PV):jW ("gone":Str) z (jW ("rows":Str) x [])=([("rows",x),("gone",z)]:List (Str × PV)):=by simp only [jW,CP,if_false]
abbrev dt:Stmt:=(L2.inClass (top 29) 0)
theorem kM:L2.aw ["self","moment","place","pace"] ["self","moment","place","pace"] (L2.aj dt):=dD
def uB (cL:Addr):cj:=fun xs J Q _=>∃ (p:Addr) (l:aQ),xs=[.ref p,fr l.m,fr l.p,.int l.v]∧J p=some (.ins cL [])∧∀ r,J r=none→Q .non (put (put J r (.lst [l.V])) p (.ins cL [("rows",.ref r),("gone",.non)]))
theorem qR {cL f:Addr} {fd:FuncData} (F:bX K "__init__" "Log.__init__" dt f fd) (KD_Log:c_ K mg "Log" cL) (NA_Log_rows:az K cL "rows") (NA_Log_gone:az K cL "gone"):aI P w K mg base (cU P w) 1 f fd ["self","moment","place","pace"] (dz K (uB cL)):=by
 simp_arith [kM]
 ·obtain ⟨p,l,rfl,_⟩:=h;rfl
 obtain ⟨p,l,rfl,hp,q⟩:=h
 refine ⟨_,(ai (fB KD_Log.cl NA_Log_rows (rv 0) (jJ (af (bS (af (rv 1) (af (rv 2) (af (rv 3) ah)))) ah)))
   (aq (fB KD_Log.cl NA_Log_gone (rv 0) fY))),?_⟩
 simp_arith! only [cm,qa]
 intro r hr'
 have ne:p≠r:=by intro e;subst e;rw [hp] at hr';cases hr'
 refine ⟨[],by rw [au ne];exact hp,by decide,by show (1:Nat) < 1000;decide,?_⟩
 rw [dN,Aq]
 exact q r hr'
abbrev f6:Stmt:=(L2.inClass (top 29) 1)
theorem kq:L2.aw ["self","moment","pace","place"] ["self","moment","pace"] (L2.aj f6):=dD
def oP (cL:Addr):cj:=fun xs J Q _=>∃ p r rows g t v,xs=[.ref p,fr t,.int v]∧Br cL J p r rows g∧rows≠[]∧rows.length≤900∧Sz 900 t∧(∀ l∈rows,ko 900 l)∧Q .non (put J r (.lst ((turned rows t v).map aQ.V)))
theorem p9 {cL f:Addr} {fd:FuncData} (F:bX K "turn" "Log.turn" f6 f fd) (Z:bP mg) (KD_Log:c_ K mg "Log" cL) (NA_Log_rows:az K cL "rows") (C_place_on:a9 P w K mg base 4 "place_on" ["leg","moment"] i9):aI P w K mg base (cU P w) 5 f fd ["self","moment","pace"] (dz K (oP cL)):=by
 simp_arith [kq]
 ·obtain ⟨p,r,rows,g,t,v,rfl,_⟩:=h;rfl
 obtain ⟨p,r,rows,g,t,v,rfl,b,hne,hl,st,sl,q⟩:=h
 obtain ⟨ls,l,rfl⟩:∃ ls l,rows=ls ++ [l]:=⟨rows.dropLast,rows.getLast hne,(List.dropLast_concat_getLast hne).symm⟩
 have bo:=b.o
 have bl:=b.l
 have npr:=b.ne
 have sl':=sl l (by simp)
 have hla:cH ((ls ++ [l]).map aQ.V) (-1)=some l.V:=by rw [List.map_append];exact uR _ _
 refine ⟨_,(ai (aG (i:=3) kq.nd rfl (Or.inl rfl) (aP C_place_on B hr (by decide) rfl (af (ak ar (aR KD_Log.cl NA_Log_rows (rv 0)) (nY j2 ag) (fun _ _=>rfl)) (af (rv 1) ah))))
   (dk (aU (aD (cR hr.aT) (ak ar (ak ar (aR KD_Log.cl NA_Log_rows (rv 0)) (nY j2 ag) (fun _ _=>rfl)) ag (fun _ _=>rfl)) (rv 1) (L2.ax _)) (aq (a8 (Ew PySem.F.plainAttrs_list PySem.F.slot_list_pop PySem.F.type_list_pop Dr (aR KD_Log.cl NA_Log_rows (rv 0))))) aJ)
   (ai (aU (dw (d4 (Ez (aR KD_Log.cl NA_Log_rows (rv 0))) (dn (aD (cR hr.aT) (ak ar (ak ar (aR KD_Log.cl NA_Log_rows (rv 0)) (nY j2 ag) (fun _ _=>rfl)) ag (fun _ _=>rfl)) (rv 2) (L2.ax _))))) (aq AS) aJ)
   (aq (a8 (kD PySem.F.plainAttrs_list PySem.F.slot_list_append PySem.F.type_list_append kg (aR KD_Log.cl NA_Log_rows (rv 0)) (af (bS (af (rv 1) (af (rv 3) (af (rv 2) ah)))) ah))))))),?_⟩
 simp_arith! only [cm,bo,bl,EG]
 refine ⟨_,hla,l,t,rfl,sl'.m,sl'.p,st,sl'.v,?_⟩
 obtain ⟨M,hM⟩:∃ M:Sr→Hq→Prop,∀ τ' J',M τ' J'↔τ'=[some (.ref p),some (fr t),some (.int v),some (fr (l.at t))]∧J'=put J r (.lst ((if l.m=t then ls else ls ++ [l]).map aQ.V)):=⟨_,fun _ _=>Iff.rfl⟩
 refine ⟨M,?_,?_⟩
 ·simp_arith! only [cm,bo,bl,EG,hla,uI]
  split
  ·rename_i e
   refine ⟨l.V,by simp,(hM _ _).mpr ⟨rfl,?_⟩⟩
   rw [if_pos e,List.map_append,List.map_cons,List.map_nil,List.dropLast_concat]
  ·rename_i e
   exact (hM _ _).mpr ⟨rfl,by rw [if_neg e,so bl]⟩
 ·intro τ' J' hm
  obtain ⟨rfl,rfl⟩:=(hM _ _).mp hm
  clear hm hM M
  have et:turned (ls ++ [l]) t v=if (if l.m=t then ls else ls ++ [l]).getLast?.map aQ.v=some v then (if l.m=t then ls else ls ++ [l]) else (if l.m=t then ls else ls ++ [l]) ++ [⟨t,l.at t,v⟩]:=by
   unfold turned
   simp only [List.getLast?_concat,List.dropLast_concat]
  have hrl:(if l.m=t then ls else ls ++ [l]).length≤900:=by
   split
   ·rw [List.length_append] at hl;omega
   ·exact hl
  rw [et] at q
  generalize (if l.m=t then ls else ls ++ [l])=rest at q hrl ⊢
  simp_arith! only [cm,au (Ne.symm npr),bo,EG,dN,qa]
  rcases List.eq_nil_or_concat rest with rfl | ⟨ks,k,rfl⟩
  ·simp only [List.getLast?_nil,Option.map_none,reduceCtorEq,if_false,List.nil_append] at q
   simpa [Cg,sizeLine] using q
  ·rw [List.concat_eq_append] at *
   rw [List.getLast?_concat,Option.map_some] at q
   have hk:cH ((ks ++ [k]).map aQ.V) (-1)=some k.V:=by rw [List.map_append];exact uR _ _
   simp_arith! only [cm,hk,kC,List.length_map]
   rw [if_pos (by simp)]
   by_cases e:k.v=v
   ·rw [if_pos e];rw [if_pos (congrArg some e)] at q;exact q
   ·rw [if_neg e];rw [if_neg (fun z=>e (Option.some.inj z))] at q
    refine ⟨aV (by omega),?_⟩
    rw [List.map_append] at q
    exact q
theorem JK {rows:List aQ} {i:Nat} {b:aQ} (h:rows[i]?=some b):cH (rows.map aQ.V) (i:Int)=some b.V:=a_ (by rw [List.getElem?_map,h];rfl)
abbrev ia:Stmt:=(top 19)
theorem iE:L2.aw ["rows","moment","at"] ["rows","moment"] (L2.aj ia):=dD
def rF:cj:=fun xs J Q _=>∃ (x:PV) (t:Rat) (ys:List PV) (ms:List Rat),xs=[x,fr t]∧jH J x=some ys∧ys.length=ms.length∧ms.length≤900∧(∀ (i:Nat) y m,ys[i]?=some y→ms[i]?=some m→dY J y (.int 0)=some (fr m))∧Sz 9000 t∧(∀ m∈ms,Sz 9000 m)∧Q (.int ((lb ms t ms.length:Int) - 1)) J
theorem pV {f:Addr} {fd:FuncData} (F:bX K "last_by" "last_by" ia f fd) (Z:bP mg) (C_less:a9 P w K mg base 1 "less" ["one","two"] cu):aI P w K mg base (cU P w) 2 f fd ["rows","moment"] (dz K rF):=by
 simp_arith [iE]
 ·obtain ⟨x,t,ys,ms,rfl,_⟩:=h;rfl
 obtain ⟨x,t,ys,ms,rfl,hx,hlen,hl,h0,st,sm,q⟩:=h
 refine ⟨_,(ai (aG (i:=2) iE.nd rfl (Or.inl rfl) (aK dF (aO bW rfl Z.len boot_len (af (rv 0) ah)) ag))
   (ai (i6 bY (dw (d4 (aD zq (rv 2) ag (L2.ax _)) (dn (bV (aP C_less B hr (by decide) rfl (af (rv 1) (af (ak ar (ak ar (rv 0) (rv 2) (fun _ _=>rfl)) ag (fun _ _=>rfl)) ah))))))) (aq (xm (i:=2) iE.nd rfl (Or.inl rfl) ag xu)))
   (aq (aB (rv 2))))),?_⟩
 simp_arith! only [cm,Dv hx,hlen]
 refine ⟨fun k τ J'=>∃ j:Nat,τ=[some x,some (fr t),some (.int ((j:Int) - 1))]∧J'=J∧j≤ms.length∧k=j∧lb ms t ms.length=lb ms t j,⟨_,ms.length,rfl,rfl,Nat.le_refl _,rfl,rfl⟩,?_⟩
 rintro k τ J' ⟨j,rfl,rfl,hj,rfl,hb⟩
 simp_arith! only [cm,F5 hx,cu]
 cases k with
 | zero =>
  rw [if_neg (by omega)]
  rw [hb] at q
  exact q
 | succ k =>
  rw [if_pos (by omega)]
  obtain ⟨y,hy⟩:∃ y,ys[k]?=some y:=⟨_,List.getElem?_eq_getElem (by omega)⟩
  obtain ⟨m,hm⟩:∃ m,ms[k]?=some m:=⟨_,List.getElem?_eq_getElem (by omega)⟩
  have ha:cH ys (((k + 1:Nat):Int) - 1)=some y:=by
   have:((k + 1:Nat):Int) - 1=(k:Int):=by omega
   rw [this];exact a_ hy
  have em:ms.getD k 0=m:=by simp [List.getD,hm]
  have hu:lb ms t (k + 1)=if m≤t then k + 1 else lb ms t k:=by
   show (if ms.getD k 0≤t then k + 1 else lb ms t k)=_
   rw [em]
  refine ⟨_,ha,_,h0 k y m hy hm,m,rfl,st,sm m (List.mem_of_getElem? hm),?_⟩
  by_cases c:t < m
  ·rw [if_pos c]
   have hn:¬ m≤t:=Rat.not_le.mpr c
   rw [if_neg hn] at hu
   refine ⟨fun τ J''=>τ=[some x,some (fr t),some (.int ((k:Int) - 1))]∧J''=J',fun τ' J'' ⟨e1,e2⟩=>⟨k,Nat.lt_succ_self _,k,e1,e2,by omega,rfl,by rw [hb,hu]⟩,?_⟩
   simp_arith! only [cm]
   have:((k + 1:Nat):Int) - 1 - 1=(k:Int) - 1:=by omega
   exact this
  ·rw [if_neg c]
   rw [if_pos (Rat.not_lt.mp c)] at hu
   rw [hb,hu] at q
   exact q
abbrev fe:Stmt:=(L2.inClass (top 29) 5)
theorem jh:L2.aw ["self","moment","joined"] ["self","moment"] (L2.aj fe):=dD
def qw (cL:Addr):cj:=fun xs J Q _=>∃ p r rows g t,xs=[.ref p,fr t]∧Br cL J p r rows g∧rows≠[]∧Sz 900 t∧(∀ l∈rows,ko 900 l)∧(∀ q,g=some q→Sz 900 q)∧Q (.bl (there rows g t)) J
theorem pS {cL f:Addr} {fd:FuncData} (F:bX K "there" "Log.there" fe f fd) (Z:bP mg) (KD_Log:c_ K mg "Log" cL) (NA_Log_rows:az K cL "rows") (NA_Log_gone:az K cL "gone") (C_less:a9 P w K mg base 1 "less" ["one","two"] cu):aI P w K mg base (cU P w) 2 f fd ["self","moment"] (dz K (qw cL)):=by
 simp_arith [jh]
 ·obtain ⟨p,r,rows,g,t,rfl,_⟩:=h;rfl
 obtain ⟨p,r,rows,g,t,rfl,b,hne,st,sl,sg,q⟩:=h
 have bo:=b.o
 have bl:=b.l
 obtain ⟨l,ls,rfl⟩:∃ l ls,rows=l :: ls:=List.exists_cons_of_ne_nil hne
 have sl':=(sl l (by simp)).m
 refine ⟨_,(ai (aG (i:=2) jh.nd rfl (Or.inl rfl) (ak ar (ak ar (aR KD_Log.cl NA_Log_rows (rv 0)) ag (fun _ _=>rfl)) ag (fun _ _=>rfl)))
   (ai (aU (bV (aP C_less B hr (by decide) rfl (af (rv 1) (af (rv 2) ah)))) (aq (aB kA)) aJ)
   (aq (aB (Fx (d3 xp (aR KD_Log.cl NA_Log_gone (rv 0)) fY (L2.ax _)) (tH (aP C_less B hr (by decide) rfl (af (rv 1) (af (aR KD_Log.cl NA_Log_gone (rv 0)) ah))))))))),?_⟩
 simp_arith! only [cm,bo,bl,EG,JF,uI,cu]
 refine ⟨st.mono (by decide),sl'.mono (by decide),?_⟩
 unfold there at q
 simp only [List.head?_cons] at q
 by_cases c:t < l.m
 ·rw [if_pos c]
  rw [decide_eq_true c] at q
  exact q
 ·rw [if_neg c]
  rw [decide_eq_false c] at q
  cases g with
  | none=>simpa [gv,Fi,CN,G8] using q
  | some u =>
   simp only [gv,oa,Bool.false_eq_true,if_false]
   simp only [G8] at q
   refine ⟨u,rfl,st.mono (by decide),(sg u rfl).mono (by decide),?_⟩
   simpa using q
abbrev d8:Stmt:=(L2.inClass (top 29) 6)
theorem m6:L2.aw ["self","moment"] ["self","moment"] (L2.aj d8):=dD
def rH (cL eN:Addr):cj:=fun xs J Q E=>∃ p r rows g t,xs=[.ref p,fr t]∧Br cL J p r rows g∧rows≠[]∧rows.length≤900∧Sz 900 t∧(∀ l∈rows,ko 900 l)∧(∀ q,g=some q→Sz 900 q)∧(there rows g t=true→∀ l,pW rows t=some l→Q l.V J)∧(there rows g t=false→E eN J)
theorem mS {cL eN f:Addr} {fd:FuncData} (F:bX K "leg_at" "Log.leg_at" d8 f fd) (Z:bP mg) (KD_Log:c_ K mg "Log" cL) (NA_Log_rows:az K cL "rows") (O_NotThere:Own K mg "NotThere" eN) (m_Log_there:cP P w K mg base cL 2 "there" ["self","moment"] (qw cL))
  (C_last_by:a9 P w K mg base 2 "last_by" ["rows","moment"] rF):aI P w K mg base (cU P w) 3 f fd ["self","moment"] (dz K (rH cL eN)):=by
 simp_arith [m6]
 ·obtain ⟨p,r,rows,g,t,rfl,_⟩:=h;rfl
 obtain ⟨p,r,rows,g,t,rfl,b,hne,hl,st,sl,sg,q,qe⟩:=h
 have bo:=b.o
 have bl:=b.l
 refine ⟨_,(ai (aU (dZ (bV (ba (pl:=_) m_Log_there B hr (by decide) (rv 0) (af (rv 1) ah)))) (aq (de O_NotThere rfl b9 B.kn rfl (af bz ah))) aJ)
   (aq (aB (ak ar (aR KD_Log.cl NA_Log_rows (rv 0)) (aP C_last_by B hr (by decide) rfl (af (aR KD_Log.cl NA_Log_rows (rv 0)) (af (rv 1) ah))) (fun _ _=>rfl))))),?_⟩
 simp_arith! only [cm,bo,bl,EG]
 refine ⟨Iy _ _,p,r,rows,g,t,rfl,b,hne,st,sl,sg,?_⟩
 simp_arith! only [cm,eW,bo,bl,EG]
 cases hc:there rows g t with
 | false=>rw [if_pos rfl];exact qe hc
 | true =>
  rw [if_neg (by decide)]
  obtain ⟨l,h1,h2,h3,h4,h5⟩:=yx hc
  refine ⟨_,t,rows.map aQ.V,rows.map aQ.m,rfl,by simp_arith! only [cm,bl],by simp,by simpa using hl,?_,st.mono (by decide),?_,?_⟩
  ·intro i y m hy hm
   rw [List.getElem?_map] at hy hm
   cases e:rows[i]? with
   | none=>rw [e] at hy;cases hy
   | some z=>rw [e] at hy hm;cases hy;cases hm;exact uI _ _
  ·intro m hm
   obtain ⟨z,hz,rfl⟩:=List.mem_map.mp hm
   exact (sl z hz).m.mono (by decide)
  ·rw [List.length_map]
   simp_arith! only [cm,bl]
   refine ⟨l.V,?_,q hc l h1⟩
   have:((lb (rows.map aQ.m) t rows.length:Nat):Int) - 1=((lb (rows.map aQ.m) t rows.length - 1:Nat):Int):=by omega
   rw [this]
   exact JK h5
abbrev fj:Stmt:=(L2.inClass (top 29) 2)
theorem pq:L2.aw ["self","moment"] ["self","moment"] (L2.aj fj):=dD
def qT (cL:Addr):cj:=fun xs J Q _=>∃ p r rows g t,xs=[.ref p,fr t]∧Br cL J p r rows g∧Q .non (put J p (.ins cL [("rows",.ref r),("gone",fr t)]))
theorem pI {cL f:Addr} {fd:FuncData} (F:bX K "leave" "Log.leave" fj f fd) (Z:bP mg) (KD_Log:c_ K mg "Log" cL) (NA_Log_gone:az K cL "gone"):aI P w K mg base (cU P w) 1 f fd ["self","moment"] (dz K (qT cL)):=by
 simp_arith [pq]
 ·obtain ⟨p,r,rows,g,t,rfl,_⟩:=h;rfl
 obtain ⟨p,r,rows,g,t,rfl,b,q⟩:=h
 have bo:=b.o
 refine ⟨_,(aq (fB KD_Log.cl NA_Log_gone (rv 0) (rv 1))),?_⟩
 simp_arith! only [cm,bo,CP]
 exact ⟨by decide,q⟩
theorem fT {l:aQ} {t:Rat} (h:ko 900 l) (sm:Sz 900 t):Sz 3000 (l.at t):=by
 have s1:Sz 1801 (t - l.m):=sm.sub h.m
 have s2:Sz 1900 ((t - l.m) * (l.v:Rat)):=s1.mul h.v
 exact h.p.add s2
abbrev dQ:Stmt:=(top 27)
theorem eV:L2.aw ["name","leg","other_name","other_leg","moment","place","other_place"] ["name","leg","other_name","other_leg","moment"] (L2.aj dQ):=dD
def zO:cj:=fun xs J Q _=>∃ (n n':Str) (l l':aQ) (t:Rat),xs=[.str n,l.V,.str n',l'.V,fr t]∧ko 900 l∧ko 900 l'∧Sz 900 t∧Q (.bl ((key t (n,l)).lt (key t (n',l')))) J
theorem kI {f:Addr} {fd:FuncData} (F:bX K "lies_behind" "lies_behind" dQ f fd) (Z:bP mg) (C_place_on:a9 P w K mg base 4 "place_on" ["leg","moment"] i9) (C_less:a9 P w K mg base 1 "less" ["one","two"] cu):aI P w K mg base (cU P w) 5 f fd ["name","leg","other_name","other_leg","moment"] (dz K zO):=by
 simp_arith [eV]
 ·obtain ⟨n,n',l,l',t,rfl,_⟩:=h;rfl
 obtain ⟨n,n',l,l',t,rfl,sl,sl',st,q⟩:=h
 refine ⟨_,(ai (aG (i:=5) eV.nd rfl (Or.inl rfl) (aP C_place_on B hr (by decide) rfl (af (rv 1) (af (rv 4) ah))))
   (ai (aG (i:=6) eV.nd rfl (Or.inl rfl) (aP C_place_on B hr (by decide) rfl (af (rv 3) (af (rv 4) ah))))
   (ai (aU (aD (iu hr.aT) (rv 5) (rv 6) (L2.ax _)) (aq (aB (aP C_less B hr (by decide) rfl (af (rv 5) (af (rv 6) ah))))) aJ)
   (ai (aU (aD (iu hr.aT) (ak ar (rv 1) ag (fun _ _=>rfl)) (ak ar (rv 3) ag (fun _ _=>rfl)) (L2.ax _)) (aq (aB (d3 d6 (ak ar (rv 1) ag (fun _ _=>rfl)) (ak ar (rv 3) ag (fun _ _=>rfl)) (L2.ax _)))) aJ)
   (aq (aB (d3 r_ (rv 0) (rv 2) (L2.ax _)))))))),?_⟩
 simp_all! only []
 refine ⟨l,t,rfl,sl.m,sl.p,st,sl.v,?_⟩
 simp_all! only []
 refine ⟨l',t,rfl,sl'.m,sl'.p,st,sl'.v,?_⟩
 have a1:=fT sl st
 have a2:=fT sl' st
 simp_all! only []
 unfold Ky.lt key at q
 dsimp only at q
 by_cases e:l.at t=l'.at t
 ·rw [if_pos e] at q
  rw [if_pos e]
  simp_all! only [kC]
  by_cases e2:l.v=l'.v
  ·rw [if_pos e2] at q
   rw [if_pos e2]
   simp_all! only []
   exact q
  ·rw [if_neg e2] at q
   rw [if_neg e2]
   simp_all! only [kC]
   exact q
 ·rw [if_neg e] at q
  rw [if_neg e]
  simp_all! only [cu]
  exact ⟨a1.mono (by decide),a2.mono (by decide),q⟩
abbrev fU:Stmt:=(top 41)
theorem dW:L2.aw ["legs","moment","names","name","at"] ["legs","moment"] (L2.aj fU):=dD
def bA (fs:List (Str × aQ)):List (Str × PV):=fs.map fun x=>(x.1,x.2.V)
def nE:cj:=fun xs J Q _=>∃ (D:Addr) (fs:List (Str × aQ)) (ep:Nat) (t:Rat),xs=[.ref D,fr t]∧J D=some (.dct (bA fs) ep)∧(fs.map (·.1)).Nodup∧fs.length≤100∧Sz 900 t∧(∀ x∈fs,ko 900 x.2)∧∀ p,J p=none→Q (.ref p) (put J p (.lst ((b_ t fs).map .str)))
theorem pO {f:Addr} {fd:FuncData} (F:bX K "in_order" "in_order" fU f fd) (Z:bP mg) (C_lies_behind:a9 P w K mg base 5 "lies_behind" ["name","leg","other_name","other_leg","moment"] zO):aI P w K mg base (cU P w) 6 f fd ["legs","moment"] (dz K nE):=by
 simp_arith [dW]
 ·obtain ⟨D,fs,ep,t,rfl,_⟩:=h;rfl
 obtain ⟨D,fs,ep,t,rfl,hD,hnd,hlen,st,sl,q⟩:=h
 refine ⟨_,(ai (aG (i:=2) dW.nd rfl (Or.inl rfl) (jJ ah))
   (ai (eL bY rfl (kZ (rv 0)) (bt (i:=3) dW.nd rfl (Or.inl rfl)) (ai (aG (i:=4) dW.nd rfl (Or.inl rfl) (aO bW rfl Z.len boot_len (af (rv 2) ah)))
   (ai (i6 bY (dw (d4 (aD kE (rv 4) ag (L2.ax _)) (dn (bV (aP C_lies_behind B hr (by decide) rfl (af (rv 3) (af (ak dB (rv 0) (rv 3) (fun _ _=>rfl)) (af (ak ar (rv 2) (aK dF (rv 4) ag) (fun _ _=>rfl)) (af (ak dB (rv 0) (ak ar (rv 2) (aK dF (rv 4) ag) (fun _ _=>rfl)) (fun _ _=>rfl)) (af (rv 1) ah)))))))))) (aq (xm (i:=4) dW.nd rfl (Or.inl rfl) ag xu)))
   (aq (a8 (kD PySem.F.plainAttrs_list PySem.F.slot_list_insert PySem.F.type_list_insert jK (rv 2) (af (rv 4) (af (rv 3) ah))))))))
   (aq (aB (rv 2))))),?_⟩
 simp_all! only []
 intro r hr'
 have nDr:D≠r:=by intro e;subst e;rw [hD] at hr';cases hr'
 simp_all! only [au nDr,hD]
 have hkv:(bA fs).map (fun kv=>PV.str kv.1)=fs.map fun x=>PV.str x.1:=by unfold bA;rw [List.map_map];rfl
 rw [hkv]
 obtain ⟨Inv,hInv⟩:∃ Inv:Nat→Sr→Hq→Prop,∀ i τ J',Inv i τ J'↔∃ (u3 u4:Option PV),τ=[some (.ref D),some (fr t),some (.ref r),u3,u4]∧J'=put J r (.lst ((b_ t (fs.take i)).map .str)):=⟨_,fun _ _ _=>Iff.rfl⟩
 refine fz Inv ((hInv _ _ _).mpr ⟨_,_,rfl,rfl⟩) (fun i τ J' h=>?_) ?_ ?_
 ·obtain ⟨_,_,_,rfl⟩:=(hInv _ _ _).mp h
  rw [au nDr];exact hD
 ·intro i x τ J' hx hv
  obtain ⟨u3,u4,rfl,rfl⟩:=(hInv _ _ _).mp hv
  clear hv
  have hi:i < fs.length:=by have:=(List.getElem?_eq_some_iff.mp hx).1;simpa using this
  rw [List.getElem?_map,List.getElem?_eq_getElem hi] at hx
  cases hx
  rcases hfi:fs[i] with ⟨n,l⟩
  have hmem:(n,l)∈fs:=by rw [← hfi];exact List.getElem_mem hi
  have et:fs.take (i + 1)=fs.take i ++ [(n,l)]:=by rw [List.take_add_one,List.getElem?_eq_getElem hi,hfi];rfl
  have hndt:((fs.take (i + 1)).map (·.1)).Nodup:=by rw [List.map_take];exact hnd.sublist (List.take_sublist _ _)
  rw [et,List.map_append,List.map_cons,List.map_nil] at hndt
  obtain ⟨hnd1,hnew⟩:=gj hndt
  obtain ⟨ys,hys⟩:∃ ys,bJ ((fs.take i).map (key t))=ys:=⟨_,rfl⟩
  have srt:jj Ky.lt ys:=by rw [← hys];exact cY (by rw [cI];exact hnd1)
  have hyl:ys.length=i:=by rw [← hys,gW,List.length_map,List.length_take];omega
  have hym:∀ y∈ys,∃ l',(y.n,l')∈fs∧y=key t (y.n,l')∧y.n≠n:=fun y hy=>by
   rw [← hys,aX,List.mem_map] at hy
   obtain ⟨x',hx',rfl⟩:=hy
   exact ⟨x'.2,List.mem_of_mem_take hx',rfl,fun e=>hnew (List.mem_map.mpr ⟨x',hx',e⟩)⟩
  have eo:(b_ t (fs.take i)).map PV.str=ys.map fun y=>PV.str y.n:=by unfold b_;rw [hys,List.map_map];rfl
  have en:(b_ t (fs.take (i + 1))).map PV.str=(kJ Ky.lt (key t (n,l)) ys).map fun y=>PV.str y.n:=by
   unfold b_;rw [et,List.map_append,List.map_cons,List.map_nil,fQ,hys,List.map_map];rfl
  rw [eo]
  have hvn:iS (bA fs) n=some l.V:=fZ (f:=aQ.V) hnd hmem
  have sll:=sl _ hmem
  simp_all! only [av,List.length_map]
  refine ⟨fun m τ' J'=>m≤ys.length∧τ'=[some (.ref D),some (fr t),some (.ref r),some (.str n),some (.int (m:Nat))]∧J'=put J r (.lst (ys.map fun y=>PV.str y.n))∧∀ (j:Nat) y,m≤j→ys[j]?=some y→(key t (n,l)).lt y=true,⟨ys.length,Nat.le_refl _,rfl,rfl,fun j y hj e=>by rw [List.getElem?_eq_none hj] at e;cases e⟩,?_⟩
  rintro m τ' J' ⟨hm,rfl,rfl,hall⟩
  have fin:(∀ (j:Nat) y,j < m→ys[j]?=some y→y.lt (key t (n,l))=true)→Inv (i + 1) [some (.ref D),some (fr t),some (.ref r),some (.str n),some (.int (m:Nat))] (put J r (.lst ((ys.map fun y=>PV.str y.n).take m ++ .str n :: (ys.map fun y=>PV.str y.n).drop m))):=fun hlow=>by
   refine (hInv _ _ _).mpr ⟨_,_,rfl,?_⟩
   rw [en,← vd hm hlow fun j y hj e=>Ky.GB (hall j y hj e),List.map_append,List.map_cons,List.map_take,List.map_drop]
   rfl
  simp_all! only [av,au nDr,hD,hvn]
  by_cases c0:0 < m
  ·rw [if_pos (by omega)]
   obtain ⟨m',rfl⟩:∃ m',m=m' + 1:=⟨m - 1,by omega⟩
   obtain ⟨y,hy⟩:∃ y,ys[m']?=some y:=⟨_,List.getElem?_eq_getElem (by omega)⟩
   obtain ⟨l',hl',ey,ny⟩:=hym y (List.mem_of_getElem? hy)
   have ha:cH (ys.map fun y=>PV.str y.n) (((m' + 1:Nat):Int) - 1)=some (.str y.n):=by
    rw [show ((m' + 1:Nat):Int) - 1=((m':Nat):Int) by omega]
    exact a_ (by rw [List.getElem?_map,hy];rfl)
   have hvy:iS (bA fs) y.n=some l'.V:=fZ (f:=aQ.V) hnd hl'
   simp_all! only [ha,hvy]
   refine ⟨n,y.n,l,l',t,rfl,sll,sl _ hl',st,?_⟩
   rw [← ey]
   cases hc:(key t (n,l)).lt y with
   | true =>
    simp_all! only []
    refine ⟨_,fun τ'' J'' h=>⟨m',Nat.lt_succ_self _,h⟩,⟨by omega,?_,rfl,fun j z hj e=>?_⟩⟩
    ·rw [show ((m' + 1:Nat):Int) - 1=((m':Nat):Int) by omega]
    ·rcases Nat.lt_or_eq_of_le hj with h | h
     ·exact hall j z (by omega) e
     ·subst h;rw [hy] at e;cases e;exact hc
   | false =>
    simp_all! only [av]
    refine ⟨_,m' + 1,rfl,rfl,by rw [List.length_map];omega,aV (by rw [List.length_map];omega),by omega,?_⟩
    rw [dN]
    refine fin fun j z hj e=>?_
    have hyx:y.lt (key t (n,l))=true:=by
     rcases Ky.Gr (a:=y) (b:=key t (n,l)) ny with h | h
     ·exact h
     ·rw [hc] at h;cases h
    exact rL (lt:=Ky.lt) Ky.tr srt hy e (by omega) hyx
  ·rw [if_neg (by omega)]
   simp_all! only [av]
   refine ⟨_,m,rfl,rfl,by rw [List.length_map];omega,aV (by rw [List.length_map];omega),by omega,?_⟩
   rw [dN]
   exact fin fun j z hj e=>by omega
 ·intro τ J' hv
  obtain ⟨u3,u4,rfl,rfl⟩:=(hInv _ _ _).mp hv
  rw [List.length_map,List.take_length]
  simp_all! only []
  exact q r hr'
def lJ (K:PySem.W.Frag) (mg:Str→Option Value):Prop:=∃ a:Addr,mg "NOUGHT"=some (.ref a)∧∀ H:Hp,fA K H a [.int 0,.int 1]
theorem v9 {K:PySem.W.Frag} {h:Heap} {mg:Str→Option Value} (X:K.In h) (G:h.Ns mainGlobals mg) {a:Addr} {od:Option Addr} {n:Nat} {sl:Array (Option Value)} {t u:Tok}
  (e:PySem.W.nsIn K mainGlobals "NOUGHT"=some (some (.ref a))) (l:K.lookup a=some ⟨.type "tuple",od,.seq #[.int 0 t,.int 1 u] n,sl⟩):lJ K mg :=
 ⟨a,PySem.W.mg_of X G e,fun _=>.inr ⟨_,_,_,l,rfl,rfl,(by show 2≤sizeLine;decide),.cons ⟨t,rfl⟩ (.cons ⟨u,rfl⟩ .nil)⟩⟩
structure Cf where
 n:Str
 a:Addr
 r:Addr
 w:List aQ
 g:Option Rat
structure Ln where
 t:Rat
 d:Addr
 e:Nat
 o:Addr
 cs:List Cf
 row:List Str
def Cf.cur (c:Cf):aQ:=c.w.getLast?.getD ⟨0,0,0⟩
def Ln.wb (L:Ln):List Cf:=L.cs.filter fun c=>c.g.isNone
def Ln.fs (L:Ln):List (Str × aQ):=L.wb.map fun c=>(c.n,c.cur)
structure aW (cN cL:Addr) (J:Hq) (p:Addr) (L:Ln):Prop where
 ob:J p=some (.ins cN [("now",fr L.t),("logs",.ref L.d),("row",.ref L.o)])
 dc:J L.d=some (.dct (L.cs.map fun c=>(c.n,PV.ref c.a)) L.e)
 rw:J L.o=some (.lst (L.row.map .str))
 lg:∀ c∈L.cs,Br cL J c.a c.r c.w c.g
 ap:(L.cs.map Cf.r).Nodup
 ao:∀ c∈L.cs,c.r≠L.o
structure aS (L:Ln):Prop where
 nd:(L.cs.map Cf.n).Nodup
 ne:∀ c∈L.cs,c.w≠[]
 le:∀ c∈L.cs,∀ l∈c.w,l.m≤L.t
 ck:∀ c∈L.cs,∀ l∈c.w,mD l
 len:∀ c∈L.cs,c.w.length≤200
 gz:∀ c∈L.cs,∀ q,c.g=some q→Sc fR MM q∧q≤L.t
 t0:0≤L.t
 ts:Sc fR MM L.t
 many:L.cs.length≤100
 rm:∀ n,n∈L.row↔n∈L.fs.map (·.1)
 rn:L.row.Nodup
 rl:L.row.length≤12
structure bM (L:Ln):Prop extends aS L where
 row:L.row=b_ L.t L.fs
def Ln.own (L:Ln) (p a:Addr):Prop:=a=p∨a=L.d∨a=L.o∨∃ c∈L.cs,a=c.a∨a=c.r
structure Mv (J J':Hq) (S S':Addr→Prop):Prop where
 keep:∀ a o,J a=some o→¬ S a→J' a=some o
 own:∀ a,S' a→S a∨J a=none
 mono:∀ a,J' a=none→J a=none
theorem Mv.refl (J:Hq) (S:Addr→Prop):Mv J J S S:=⟨fun _ _ h _=>h,fun _ h=>.inl h,fun _ h=>h⟩
theorem Mv.trans {J J' J'':Hq} {S S' S'':Addr→Prop} (h:Mv J J' S S') (k:Mv J' J'' S' S''):Mv J J'' S S'':=by
 refine ⟨fun a o e n=>k.keep a o (h.keep a o e n) fun z=>?_,fun a z=>?_,fun a z=>h.mono a (k.mono a z)⟩
 ·rcases h.own a z with q | q
  ·exact n q
  ·rw [q] at e;cases e
 ·rcases k.own a z with q | q
  ·exact h.own a q
  ·exact .inr (h.mono a q)
theorem Mv.new {J:Hq} {S:Addr→Prop} {x:Addr} {o:HQ} (h:J x=none):Mv J (put J x o) S S:=by
 refine ⟨fun a u e _=>?_,fun _ z=>.inl z,fun a z=>?_⟩
 ·rw [au (fun q=>by subst q;rw [h] at e;cases e)];exact e
 ·by_cases q:a=x
  ·subst q;rw [av] at z;cases z
  ·rw [au q] at z;exact z
theorem Mv.vG {J:Hq} {S:Addr→Prop} {x:Addr} {o:HQ} (h:J x=none):Mv J (put J x o) S (fun a=>S a∨a=x) :=
 ⟨(Mv.new (S:=S) h).keep,fun a z=>z.elim .inl fun e=>.inr (by rw [e];exact h),(Mv.new (S:=S) h).mono⟩
theorem aW.keep {cN cL:Addr} {J J':Hq} {p:Addr} {L:Ln} (h:aW cN cL J p L) (k:∀ a o,L.own p a→J a=some o→J' a=some o):aW cN cL J' p L :=
 ⟨k _ _ (.inl rfl) h.ob,k _ _ (.inr (.inl rfl)) h.dc,k _ _ (.inr (.inr (.inl rfl))) h.rw,fun c hc=>⟨k _ _ (.inr (.inr (.inr ⟨c,hc,.inl rfl⟩))) (h.lg c hc).o,k _ _ (.inr (.inr (.inr ⟨c,hc,.inr rfl⟩))) (h.lg c hc).l⟩,h.ap,h.ao⟩
theorem aW.some {cN cL:Addr} {J:Hq} {p:Addr} {L:Ln} (h:aW cN cL J p L) {a:Addr} (o:L.own p a):J a≠none:=by
 rcases o with rfl | rfl | rfl | ⟨c,hc,rfl | rfl⟩
 ·rw [h.ob];exact fun z=>nomatch z
 ·rw [h.dc];exact fun z=>nomatch z
 ·rw [h.rw];exact fun z=>nomatch z
 ·rw [(h.lg c hc).o];exact fun z=>nomatch z
 ·rw [(h.lg c hc).l];exact fun z=>nomatch z
theorem aW.fresh {cN cL:Addr} {J:Hq} {p x:Addr} {L:Ln} {o:HQ} (h:aW cN cL J p L) (hx:J x=none):aW cN cL (put J x o) p L :=
 h.keep fun a u ow e=>by rw [au (fun q=>by subst q;rw [hx] at e;cases e)];exact e
theorem Dd {J:Hq} {a b C C':Addr} {fs gs:List (Str × PV)} (h:J a=Option.some (.ins C fs)) (k:J b=Option.some (.ins C' gs)) (n:fs.map (·.1)≠gs.map (·.1)):a≠b:=by
 intro e;subst e;rw [h] at k
 have:=HQ.ins.inj (Option.some.inj k)
 exact n (by rw [this.2])
theorem aW.A6 {cN cL:Addr} {J:Hq} {p:Addr} {L:Ln} (h:aW cN cL J p L):L.d≠p:=by intro e;have:=h.ob;rw [← e,h.dc] at this;cases this
theorem aW.BE {cN cL:Addr} {J:Hq} {p:Addr} {L:Ln} (h:aW cN cL J p L):L.o≠p:=by intro e;have:=h.ob;rw [← e,h.rw] at this;cases this
theorem aW.IS {cN cL:Addr} {J:Hq} {p:Addr} {L:Ln} (h:aW cN cL J p L):L.d≠L.o:=by intro e;have:=h.rw;rw [← e,h.dc] at this;cases this
theorem xO:([("rows":Str),("gone":Str)]:List Str)≠[("now":Str),("logs":Str),("row":Str)]:=by decide +kernel
theorem aW.Hj {cN cL:Addr} {J:Hq} {p:Addr} {L:Ln} (h:aW cN cL J p L) {c:Cf} (hc:c∈L.cs):c.a≠p:=Dd (h.lg c hc).o h.ob xO
theorem aW.EI {cN cL:Addr} {J:Hq} {p:Addr} {L:Ln} (h:aW cN cL J p L) {c:Cf} (hc:c∈L.cs):c.r≠p:=by intro e;have:=h.ob;rw [← e,(h.lg c hc).l] at this;cases this
theorem aW.Jh {cN cL:Addr} {J:Hq} {p:Addr} {L:Ln} (h:aW cN cL J p L) {c:Cf} (hc:c∈L.cs):c.a≠L.d:=by intro e;have:=h.dc;rw [← e,(h.lg c hc).o] at this;cases this
theorem aW.IW {cN cL:Addr} {J:Hq} {p:Addr} {L:Ln} (h:aW cN cL J p L) {c:Cf} (hc:c∈L.cs):c.r≠L.d:=by intro e;have:=h.dc;rw [← e,(h.lg c hc).l] at this;cases this
theorem aW.HY {cN cL:Addr} {J:Hq} {p:Addr} {L:Ln} (h:aW cN cL J p L) {c:Cf} (hc:c∈L.cs):c.a≠L.o:=by intro e;have:=h.rw;rw [← e,(h.lg c hc).o] at this;cases this
theorem aW.JM {cN cL:Addr} {J:Hq} {p:Addr} {L:Ln} (h:aW cN cL J p L) {c c':Cf} (hc:c∈L.cs) (hc':c'∈L.cs):c.a≠c'.r:=by intro e;have:=(h.lg c' hc').l;rw [← e,(h.lg c hc).o] at this;cases this
theorem aW.DT {cN cL:Addr} {J:Hq} {p o':Addr} {L:Ln} {row:List Str} (h:aW cN cL J p L) (ho:J o'=Option.some (.lst (row.map .str))) (nc:∀ c∈L.cs,c.r≠o'):aW cN cL (put J p (.ins cN [("now",fr L.t),("logs",.ref L.d),("row",.ref o')])) p { L with o:=o',row:=row } :=
 ⟨av,by show put J p _ L.d=_;rw [au h.A6];exact h.dc,by show put J p _ o'=_;rw [au (fun e=>by rw [e,h.ob] at ho;cases ho)];exact ho,
  fun c hc=>⟨by rw [au (h.Hj hc)];exact (h.lg c hc).o,by rw [au (h.EI hc)];exact (h.lg c hc).l⟩,h.ap,nc⟩
theorem eO {J:Hq} {S S':Addr→Prop} {x:Addr} {o:HQ} (hx:S x) (hS:∀ a,S' a→S a∨J a=none):Mv J (put J x o) S S':=by
 refine ⟨fun a u e n=>?_,hS,fun a z=>?_⟩
 ·rw [au (fun q=>by subst q;exact n hx)];exact e
 ·by_cases q:a=x
  ·subst q;rw [av] at z;cases z
  ·rw [au q] at z;exact z
theorem aS.A3 {L:Ln} (h:aS L):Sz 900 L.t:=(uj h.ts).mono (by decide)
theorem mD.EK {l:aQ} (h:mD l):ko 900 l:=⟨h.Js.mono (by decide),h.EF.mono (by decide),.small (by have:=h.v;omega) (by have:=h.v;omega)⟩
theorem Cf.fc {c:Cf} (h:c.w≠[]):c.w.getLast?=Option.some c.cur∧c.cur∈c.w:=by
 unfold Cf.cur
 rw [List.getLast?_eq_some_getLast h]
 exact ⟨rfl,List.getLast_mem h⟩
theorem aS.JN {L:Ln} (h:aS L) {c:Cf} (hc:c∈L.cs):pW c.w L.t=Option.some c.cur:=by
 unfold pW
 rw [List.filter_eq_self.mpr fun l hl=>decide_eq_true (h.le c hc l hl)]
 exact (Cf.fc (h.ne c hc)).1
theorem aS.there {L:Ln} (h:aS L) {c:Cf} (hc:c∈L.cs) (hg:c.g=none):there c.w c.g L.t=true:=by
 obtain ⟨l,ls,e⟩:=List.exists_cons_of_ne_nil (h.ne c hc)
 have:=h.le c hc l (by rw [e];simp)
 rw [hg,e]
 unfold Ov.there
 simp only [List.head?_cons,G8,Bool.and_true]
 rw [decide_eq_false (Rat.not_lt.mpr this)];rfl
theorem Ln.cx {L:Ln} {c:Cf}:c∈L.wb↔c∈L.cs∧c.g=none:=by
 unfold Ln.wb
 rw [List.mem_filter]
 cases c.g <;> simp
theorem dS (L:Ln):L.fs.map (·.1)=L.wb.map Cf.n:=by unfold Ln.fs;rw [List.map_map];rfl
theorem aS.EN {L:Ln} (h:aS L):(L.fs.map (·.1)).Nodup:=by
 rw [dS]
 unfold Ln.wb
 exact h.nd.sublist (List.Sublist.map _ List.filter_sublist)
theorem aS.found {L:Ln} (h:aS L) {n:Str} (hn:n∈L.row):∃ c∈L.cs,c.n=n∧c.g=none:=by
 have:=(h.rm n).mp hn
 rw [dS,List.mem_map] at this
 obtain ⟨c,hc,e⟩:=this
 exact ⟨c,(Ln.cx.mp hc).1,e,(Ln.cx.mp hc).2⟩
theorem aS.va {L:Ln} (h:aS L) {c:Cf} (hc:c∈L.cs):iS (L.cs.map fun c=>(c.n,PV.ref c.a)) c.n=Option.some (.ref c.a):=by
 have e:(L.cs.map fun c=>(c.n,PV.ref c.a))=((L.cs.map fun c=>(c.n,c.a)).map fun x=>(x.1,PV.ref x.2)):=by rw [List.map_map];rfl
 rw [e]
 exact fZ (f:=PV.ref) (by rw [List.map_map];exact h.nd) (List.mem_map.mpr ⟨c,hc,rfl⟩)
theorem aS.JH {L:Ln} (h:aS L) {n:Str}:(iS (L.cs.map fun c=>(c.n,PV.ref c.a)) n).isSome=decide (n∈L.cs.map Cf.n):=by
 have e:(L.cs.map fun c=>(c.n,PV.ref c.a))=((L.cs.map fun c=>(c.n,c.a)).map fun x=>(x.1,PV.ref x.2)):=by rw [List.map_map];rfl
 rw [e,wG (f:=PV.ref) (by rw [List.map_map];exact h.nd)]
 rw [List.map_map];rfl
theorem aS.uniq {L:Ln} (h:aS L) {c c':Cf} (hc:c∈L.cs) (hc':c'∈L.cs) (e:c.n=c'.n):c=c':=by
 obtain ⟨i,hi,rfl⟩:=List.getElem_of_mem hc
 obtain ⟨j,hj,rfl⟩:=List.getElem_of_mem hc'
 have:=(List.getElem_inj (xs:=L.cs.map Cf.n) (i:=i) (j:=j) (h₀:=by simpa using hi) (h₁:=by simpa using hj) h.nd).mp (by rw [List.getElem_map,List.getElem_map];exact e)
 subst this;rfl
theorem m8 (a b c:PV):([("now",a),("logs",b),("row",c)]:List (Str × PV)).lookup ("now":Str)=Option.some a:=rfl
theorem w6 (a b c:PV):([("now",a),("logs",b),("row",c)]:List (Str × PV)).lookup ("logs":Str)=Option.some b:=rfl
theorem oG (a b c:PV):([("now",a),("logs",b),("row",c)]:List (Str × PV)).lookup ("row":Str)=Option.some c:=rfl
theorem e9 (m:Str) (a b c:PV) (h:(m == ("now":Str))=false:=by decide +kernel) (k:(m == ("logs":Str))=false:=by decide +kernel) (l:(m == ("row":Str))=false:=by decide +kernel):([("now",a),("logs",b),("row",c)]:List (Str × PV)).lookup m=none:=by
 rw [List.lookup_cons,h];simp only;rw [List.lookup_cons,k];simp only;rw [List.lookup_cons,l];rfl
theorem FV:(("now":Str)=("logs":Str))=False:=eq_false (by decide +kernel)
theorem CD:(("now":Str)=("row":Str))=False:=eq_false (by decide +kernel)
theorem Cc:(("logs":Str)=("row":Str))=False:=eq_false (by decide +kernel)
theorem AX (a b c z:PV):jW ("row":Str) z ([("now",a),("logs",b),("row",c)]:List (Str × PV))=([("now",a),("logs",b),("row",z)]:List (Str × PV)):=by simp only [jW,CD,Cc,if_false,if_true]
theorem DE {J:Hq} {a:Addr} {xs:List PV} (h:J a=Option.some (.lst xs)):EM J (.ref a)=Option.some xs:=by unfold EM;simp only [h]
abbrev c5:Stmt:=(L2.inClass (top 42) 0)
theorem jM:L2.aw ["self"] ["self"] (L2.aj c5):=dD
def vp (cN cL:Addr):cj:=fun xs J Q _=>∃ p,xs=[.ref p]∧J p=some (.ins cN [])∧∀ J' d e o,aW cN cL J' p ⟨0,d,e,o,[],[]⟩→Mv J J' (fun a=>a=p) (Ln.own ⟨0,d,e,o,[],[]⟩ p)→Q .non J'
theorem n9 {cN cL f:Addr} {fd:FuncData} (F:bX K "__init__" "Lane.__init__" c5 f fd) (N:lJ K mg) (KD_Lane:c_ K mg "Lane" cN) (NA_Lane_now:az K cN "now") (NA_Lane_logs:az K cN "logs") (NA_Lane_row:az K cN "row"):aI P w K mg base (cU P w) 1 f fd ["self"] (dz K (vp cN cL)):=by
 simp_arith [jM]
 ·obtain ⟨p,rfl,_⟩:=h;rfl
 obtain ⟨p,rfl,hp,q⟩:=h
 obtain ⟨aN,gN,sN⟩:=N
 have rN:∀ (J:Hq) (H:Hp),bI K J H (fr 0) (.ref aN):=fun J H=>⟨aN,_,rfl,sN H,⟨_,_,rfl,rfl,_,_,rfl,rfl,rfl⟩⟩
 refine ⟨_,(ai (fB KD_Lane.cl NA_Lane_now (rv 0) (er (v:=.ref aN) (fr 0) rfl gN rfl rN))
   (ai (fB KD_Lane.cl NA_Lane_logs (rv 0) tV)
   (aq (fB KD_Lane.cl NA_Lane_row (rv 0) (jJ ah))))),?_⟩
 simp_all! only [hp]
 refine ⟨by decide,?_⟩
 simp_all! only []
 intro d hd ep
 have A6:d≠p:=by intro e;subst e;rw [av] at hd;cases hd
 simp_all! only [au (Ne.symm A6),av]
 simp only [FV,if_false]
 refine ⟨by decide,fun o ho=>?_⟩
 have jd:J d=none:=by rw [au A6] at hd;exact hd
 have BE:o≠p:=by intro e;subst e;rw [av] at ho;cases ho
 have nod:o≠d:=by intro e;subst e;rw [au BE,av] at ho;cases ho
 have jo:J o=none:=by rw [au BE,au nod,au BE] at ho;exact ho
 refine ⟨_,by rw [au (Ne.symm BE)];exact av,by show (2:Nat) < 1000;decide,?_⟩
 have pr:jW ("row":Str) (PV.ref o) ([("now",fr 0),("logs",.ref d)]:List (Str × PV))=([("now",fr 0),("logs",.ref d),("row",.ref o)]:List (Str × PV)):=by simp only [jW,CD,Cc,if_false]
 rw [pr]
 refine q _ d ep o ⟨av,by rw [au A6,au (Ne.symm nod),au A6];exact av,by rw [au BE];exact av,(by simp),(by simp),(by simp)⟩ ⟨fun a u e na=>?_,fun a ow=>?_,fun a z=>?_⟩
 ·have na1:a≠d:=fun z=>by subst z;rw [jd] at e;cases e
  have na2:a≠o:=fun z=>by subst z;rw [jo] at e;cases e
  rw [au na,au na2,au na,au na1,au na];exact e
 ·rcases ow with rfl | rfl | rfl | ⟨c,hc,_⟩
  ·exact .inl rfl
  ·exact .inr jd
  ·exact .inr jo
  ·cases hc
 ·by_cases z1:a=p
  ·subst z1;rw [av] at z;cases z
  by_cases z2:a=o
  ·subst z2;exact jo
  by_cases z3:a=d
  ·subst z3;exact jd
  rw [au z1,au z2,au z1,au z3,au z1] at z;exact z
abbrev bO:Stmt:=(L2.inClass (top 42) 22)
theorem gA:L2.aw ["self","name"] ["self","name"] (L2.aj bO):=dD
def lp (cN cL eC:Addr):cj:=fun xs J Q E=>∃ p L n,xs=[.ref p,.str n]∧aW cN cL J p L∧(n∈L.row→Q .non J)∧(n ∉ L.row→E eC J)
theorem gx {cN cL eC f:Addr} {fd:FuncData} (F:bX K "must_be_there" "Lane.must_be_there" bO f fd) (Z:bP mg) (KD_Lane:c_ K mg "Lane" cN) (NA_Lane_row:az K cN "row") (O_NoCraft:Own K mg "NoCraft" eC):aI P w K mg base (cU P w) 1 f fd ["self","name"] (dz K (lp cN cL eC)):=by
 simp_arith [gA]
 ·obtain ⟨p,L,n,rfl,_⟩:=h;rfl
 obtain ⟨p,L,n,rfl,b,q,qe⟩:=h
 have bo:=b.ob
 refine ⟨_,(aq (aU (aD uf (rv 1) (aR KD_Lane.cl NA_Lane_row (rv 0)) (by with_unfolding_all rfl)) (aq (de O_NoCraft rfl b9 B.kn rfl (af bz ah))) aJ)),?_⟩
 simp_all! only [bo,oG,G4,DE b.rw]
 refine ⟨L.row,rfl,?_⟩
 by_cases c:n∈L.row
 ·rw [if_pos (by simp [c])]
  exact q c
 ·rw [if_neg (by simp [c])]
  simp_all! only [eW]
  exact qe c
abbrev dP:Stmt:=(L2.inClass (top 42) 23)
theorem lS:L2.aw ["self","name"] ["self","name"] (L2.aj dP):=dD
def gU (cN cL eC:Addr):cj:=fun xs J Q E=>∃ p L n,xs=[.ref p,.str n]∧aW cN cL J p L∧aS L∧(∀ c∈L.cs,c.n=n→c.g=none→Q c.cur.V J)∧(n ∉ L.row→E eC J)
theorem mj {cN cL eC eN f:Addr} {fd:FuncData} (F:bX K "leg_of" "Lane.leg_of" dP f fd) (Z:bP mg) (KD_Lane:c_ K mg "Lane" cN) (NA_Lane_logs:az K cN "logs") (NA_Lane_now:az K cN "now") (m_Lane_must_be_there:cP P w K mg base cN 1 "must_be_there" ["self","name"] (lp cN cL eC)) (m_Log_leg_at:cP P w K mg base cL 3 "leg_at" ["self","moment"] (rH cL eN)) :
  aI P w K mg base (cU P w) 4 f fd ["self","name"] (dz K (gU cN cL eC)):=by
 simp_arith [lS]
 ·obtain ⟨p,L,n,rfl,_⟩:=h;rfl
 obtain ⟨p,L,n,rfl,b,ok,q,qe⟩:=h
 have bo:=b.ob
 have bd:=b.dc
 refine ⟨_,(ai (a8 (ba (pl:=_) m_Lane_must_be_there B hr (by decide) (rv 0) (af (rv 1) ah)))
   (aq (aB (ba (pl:=_) m_Log_leg_at B hr (by decide) (ak dB (aR KD_Lane.cl NA_Lane_logs (rv 0)) (rv 1) (fun _ _=>rfl)) (af (aR KD_Lane.cl NA_Lane_now (rv 0)) ah))))),?_⟩
 simp_all! only [bo]
 refine ⟨e9 _ _ _ _,p,L,n,rfl,b,fun hn=>?_,qe⟩
 obtain ⟨c,hc,rfl,hg⟩:=ok.found hn
 have lo:=(b.lg c hc).o
 simp_all! only [bo,w6,bd,ok.va hc,lo]
 refine ⟨IQ _ _,?_⟩
 simp_all! only [bo,m8]
 refine ⟨c.a,c.r,c.w,c.g,L.t,rfl,b.lg c hc,ok.ne c hc,Nat.le_trans (ok.len c hc) (by decide),ok.A3,fun l hl=>(ok.ck c hc l hl).EK,fun q' hq=>(uj (ok.gz c hc q' hq).1).mono (by decide),fun _ l hl=>?_,fun z=>?_⟩
 ·rw [ok.JN hc] at hl;cases hl
  exact q c hc rfl hg
 ·rw [ok.there hc hg] at z;cases z
abbrev cX:Stmt:=(L2.inClass (top 42) 24)
theorem lT:L2.aw ["self"] ["self"] (L2.aj cX):=dD
theorem xw {L:Ln} (ok:aS L) {f:Str→aQ} (hf:∀ c∈L.cs,c.g=none→f c.n=c.cur):b_ L.t (L.row.map fun n=>(n,f n))=b_ L.t L.fs:=by
 refine xh (by rw [List.map_map];show (L.row.map fun n=>n).Nodup;rw [List.map_id'];exact ok.rn) ok.EN fun x=>?_
 rw [List.mem_map,List.mem_map]
 constructor
 ·rintro ⟨y,hy,rfl⟩
  obtain ⟨n,hn,rfl⟩:=List.mem_map.mp hy
  obtain ⟨c,hc,rfl,hg⟩:=ok.found hn
  exact ⟨(c.n,c.cur),List.mem_map.mpr ⟨c,Ln.cx.mpr ⟨hc,hg⟩,rfl⟩,by rw [hf c hc hg]⟩
 ·rintro ⟨y,hy,rfl⟩
  obtain ⟨c,hc,rfl⟩:=List.mem_map.mp hy
  obtain ⟨hc,hg⟩:=Ln.cx.mp hc
  refine ⟨(c.n,f c.n),List.mem_map.mpr ⟨c.n,(ok.rm c.n).mpr ?_,rfl⟩,by rw [hf c hc hg]⟩
  rw [dS];exact List.mem_map.mpr ⟨c,Ln.cx.mpr ⟨hc,hg⟩,rfl⟩
def Ln.oq (L:Ln) (n:Str):aQ:=((L.cs.find? fun c=>decide (c.n=n)).map Cf.cur).getD ⟨0,0,0⟩
theorem aS.oq {L:Ln} (ok:aS L) {c:Cf} (hc:c∈L.cs):L.oq c.n=c.cur:=by
 unfold Ln.oq
 cases h:L.cs.find? fun d=>decide (d.n=c.n) with
 | none=>have:=List.find?_eq_none.mp h c hc;simp at this
 | some d =>
  have h1:=List.mem_of_find?_eq_some h
  have h2:d.n=c.n:=by simpa using List.find?_some h
  rw [ok.uniq h1 hc h2];rfl
def fP (cN cL:Addr):cj:=fun xs J Q E=>∃ p L,xs=[.ref p]∧aW cN cL J p L∧aS L∧∀ J' o',aW cN cL J' p { L with o:=o',row:=b_ L.t L.fs }→Mv J J' (L.own p) (Ln.own { L with o:=o',row:=b_ L.t L.fs } p)→Q .non J'
theorem lL {cN cL eC f:Addr} {fd:FuncData} (F:bX K "settle" "Lane.settle" cX f fd) (Z:bP mg) (KD_Lane:c_ K mg "Lane" cN) (NA_Lane_row:az K cN "row") (NA_Lane_now:az K cN "now") (m_Lane_leg_of:cP P w K mg base cN 4 "leg_of" ["self","name"] (gU cN cL eC)) (C_in_order:a9 P w K mg base 6 "in_order" ["legs","moment"] nE) :
  aI P w K mg base (cU P w) 7 f fd ["self"] (dz K (fP cN cL)):=by
 simp_arith [lT]
 ·obtain ⟨p,L,rfl,_⟩:=h;rfl
 obtain ⟨p,L,rfl,b,ok,q⟩:=h
 have bo:=b.ob
 have br:=b.rw
 refine ⟨_,(aq (fB KD_Lane.cl NA_Lane_row (rv 0) (aP C_in_order B hr (by decide) rfl (af (GY (L2.aj cX) ["self"] [("self",0)] rfl rfl rfl (fq (aR KD_Lane.cl NA_Lane_row (rv 0))) (fun _ _ _ _ _ _=>(rv 0)) (fun _ _ _ _ _ _=>(ba (pl:=_) m_Lane_leg_of FH hr (by decide) (rv 1) (af (rv 0) ah)))) (af (aR KD_Lane.cl NA_Lane_now (rv 0)) ah))))),?_⟩
 simp_all! only [Hr,bo,oG,br]
 intro D hD ep
 have bf:∀ e2 kvs,aW cN cL (put J D (.dct kvs e2)) p L:=fun e2 kvs=>b.fresh hD
 have hrl:=ok.rl
 refine ⟨fun i J2=>∃ e2,J2=put J D (.dct (bA ((L.row.take i).map fun n=>(n,L.oq n))) e2),⟨ep,rfl⟩,?_,?_,?_⟩
 ·rintro i J2 ⟨e2,rfl⟩;exact (bf e2 _).rw
 ·rintro i x J2 hx ⟨e2,rfl⟩
  have hi:i < L.row.length:=by have:=(List.getElem?_eq_some_iff.mp hx).1;simpa using this
  rw [List.getElem?_map,List.getElem?_eq_getElem hi] at hx
  cases hx
  have hn:L.row[i]∈L.row:=List.getElem_mem hi
  refine ⟨_,(bf e2 _).ob,e9 _ _ _ _,p,L,L.row[i],rfl,bf e2 _,ok,fun c hc e hg=>?_,fun z=>absurd hn z⟩
  refine ⟨_,e2,L.row[i],rfl,av,aV (by simp only [bA,List.length_map,List.length_take];omega),fun ep'=>⟨ep',?_⟩⟩
  rw [dN]
  congr 2
  have et:L.row.take (i + 1)=L.row.take i ++ [L.row[i]]:=by rw [List.take_add_one,List.getElem?_eq_getElem hi];rfl
  rw [et,List.map_append,List.map_cons,List.map_nil,← e,ok.oq hc]
  refine si (f:=aQ.V) (l:=c.cur) fun z=>?_
  rw [List.map_map] at z
  obtain ⟨m,hm,e3⟩:=List.mem_map.mp z
  have hnd:(L.row.take (i + 1)).Nodup:=ok.rn.sublist (List.take_sublist _ _)
  rw [et] at hnd
  exact (gj hnd).2 (by rw [← e,← e3];exact hm)
 ·rintro J2 ⟨e2,rfl⟩
  rw [List.length_map,List.take_length]
  refine ⟨_,(bf e2 _).ob,_,m8 _ _ _,D,_,e2,L.t,rfl,av,?_,by rw [List.length_map];omega,ok.A3,?_,fun o' ho'=>?_⟩
  ·rw [List.map_map];show (L.row.map fun n=>n).Nodup;rw [List.map_id'];exact ok.rn
  ·intro x hx
   obtain ⟨n,hn,rfl⟩:=List.mem_map.mp hx
   obtain ⟨c,hc,rfl,hg⟩:=ok.found hn
   show ko 900 (L.oq c.n)
   rw [ok.oq hc]
   exact (ok.ck c hc _ (Cf.fc (ok.ne c hc)).2).EK
  ·rw [xw ok fun c hc _=>ok.oq hc]
   have b2:aW cN cL (put (put J D (.dct (bA (L.row.map fun n=>(n,L.oq n))) e2)) o' (.lst ((b_ L.t L.fs).map .str))) p L:=(bf e2 _).fresh ho'
   have jo:J o'=none:=by
    by_cases z:o'=D
    ·subst z;exact hD
    ·rw [au z] at ho';exact ho'
   refine ⟨_,b2.ob,by show (3:Nat) < 1000;decide,?_⟩
   rw [AX]
   refine q _ o' (b2.DT av fun c hc e=>?_) ?_
   ·have:=(b.lg c hc).l;rw [e,jo] at this;cases this
   ·refine ((Mv.new hD).trans (Mv.vG ho')).trans (eO (.inl (.inl rfl)) fun a ow=>.inl ?_)
    rcases ow with h | h | h | h
    ·exact .inl (.inl h)
    ·exact .inl (.inr (.inl h))
    ·exact .inr h
    ·exact .inl (.inr (.inr (.inr h)))
abbrev fh:Stmt:=(top 33)
theorem oR:L2.aw ["text"] ["text"] (L2.aj fh):=dD
def bR:Str:="abcdefghijklmnopqrstuvwxyz0123456789"
def good (y:Str):Bool:=decide (1≤y.cps.size) && decide (y.cps.size≤8) && y.cps.toList.all (c6 bR)
def ze (T:Addr):Sp:=fun vs H Q _=>∃ y:Str,vs=[.str y]∧y.length≤sizeLine∧H T=some (.ext (dm T))∧Q (.bl (good y)) H
theorem oE {T f c:Addr} {fd:FuncData} (F:Bv K mg "good_name" fh T f fd c) (Z:xa mg) (Bm:BMain mg base) {t_LONGEST t_SIGNS:Tok} (g_LONGEST:mg "LONGEST"=some (.int 8 t_LONGEST)) (g_SIGNS:mg "SIGNS"=some (.str "abcdefghijklmnopqrstuvwxyz0123456789" t_SIGNS)) :
  aI P w K mg base ml 1 f fd ["text"] (ze T):=by
 refine JI F oR (fun vs H Q E h=>?_) (fun A outer s H vs Q E hr h=>?_)
 ·obtain ⟨y,rfl,_⟩:=h
  rfl
 obtain ⟨y,rfl,hz,hT,q⟩:=h
 refine ⟨_,(aM (jg (Co (tU (cK vj (cV je rfl Z.len boot_len (aL (pv 0) bc)) aF (ax _)) (oX (cK CF (cV je rfl Z.len boot_len (aL (pv 0) bc)) (lz (v:=.int 8) rfl g_LONGEST ⟨_,rfl⟩) (ax _))))) (bh (cT qV)) d_)
   (bh (cT (yw rfl Bm rfl F.tab hr rfl Z.all g_SIGNS (pv 0))))),?_⟩
 have el:y.cps.size=y.length:=rfl
 refine ⟨_,rfl,y,rfl,hz,_,_,rfl,rfl,_,rfl,yn (fun e=>?_) (fun e=>⟨_,rfl,y,rfl,hz,_,_,rfl,rfl,_,rfl,yn (fun e2=>?_) (fun e2=>?_)⟩)⟩
 ·have e:(y.length:Int) < 1:=of_decide_eq_true e
  have z:good y=false:=by
   unfold good
   rw [decide_eq_false (show ¬ 1≤y.cps.size by omega)]
   rfl
  show Q (.bl false) H
  rw [← z]
  exact q
 ·have e2:(8:Int) < (y.length:Int):=of_decide_eq_true e2
  have z:good y=false:=by
   unfold good
   rw [decide_eq_false (show ¬ y.cps.size≤8 by omega),Bool.and_false]
   rfl
  show Q (.bl false) H
  rw [← z]
  exact q
 ·have e:¬ (y.length:Int) < 1:=of_decide_eq_false (Bool.eq_false_iff.mpr e)
  have e2:¬ (8:Int) < (y.length:Int):=of_decide_eq_false (Bool.eq_false_iff.mpr e2)
  have z:good y=y.cps.toList.all (c6 bR):=by
   unfold good
   rw [decide_eq_true (show 1≤y.cps.size by omega),decide_eq_true (show y.cps.size≤8 by omega)]
   rfl
  refine ⟨_,rfl,y,rfl,hT,?_⟩
  show Q (.bl (y.cps.toList.all (c6 bR))) H
  rw [← z]
  exact q
def uZ (T:Addr):cj:=fun xs J Q _=>∃ y:Str,xs=[.str y]∧y.length≤sizeLine∧J T=some .tab∧Q (.bl (good y)) J
theorem lN {T:Addr} (C:mB P w K mg base 1 "good_name" ["text"] (ze T)):a9 P w K mg base 1 "good_name" ["text"] (uZ T):=C.lift fun xs J vs H Q2 E2 Q E rs r ⟨y,ex,hl,hT,q⟩ kn=>by
 subst ex
 obtain ⟨v,rfl,r1⟩:=D4 rs
 cases r1
 exact ⟨y,rfl,hl,r _ _ hT,kn (.bl _) J _ H rfl r .refl q⟩
theorem vg (L:Ln) {L':Ln} {c:Cf} (h:L'.cs=L.cs ++ [c]) (hg:c.g=none):L'.fs=L.fs ++ [(c.n,c.cur)]:=by
 unfold Ln.fs Ln.wb
 rw [h,List.filter_append,List.map_append]
 simp [hg]
def Ln.joined (L:Ln) (n:Str) (x v:Int) (L':Ln):Prop:=∃ a r,L'.cs=L.cs ++ [⟨n,a,r,[⟨L.t,(x:Rat),v⟩],none⟩]∧L'.t=L.t
def ER (x v:Int):Prop:=x.natAbs≤1000000∧v.natAbs≤1000
def vB (cN cL T eB eF eT eU:Addr):cj:=fun xs J Q E=>∃ p L n x v,xs=[.ref p,.str n,.int x,.int v]∧aW cN cL J p L∧bM L∧J T=some .tab∧n.length≤sizeLine∧L.cs.length < 100∧(good n=false→E eB J)∧(good n=true→¬ ER x v→E eF J) ∧
 (good n=true→ER x v→n∈L.cs.map Cf.n→E eT J)∧(good n=true→ER x v→n ∉ L.cs.map Cf.n→12≤L.row.length→E eU J) ∧
 (good n=true→ER x v→n ∉ L.cs.map Cf.n→L.row.length < 12→∀ J' L',aW cN cL J' p L'→bM L'→L.joined n x v L'→Mv J J' (L.own p) (L'.own p)→Q .non J')
abbrev fg:Stmt:=(L2.inClass (top 42) 1)
theorem oU:L2.aw ["self","name","place","pace"] ["self","name","place","pace"] (L2.aj fg):=dD
theorem aW.add {cN cL:Addr} {J:Hq} {p:Addr} {L:Ln} {c:Cf} {ep:Nat} (h:aW cN cL J p L) (hc:Br cL J c.a c.r c.w c.g) (h1:c.r ∉ L.cs.map Cf.r) (h2:c.r≠L.o) :
  aW cN cL (put (put J L.d (.dct ((L.cs ++ [c]).map fun c=>(c.n,PV.ref c.a)) ep)) L.o (.lst ((L.row ++ [c.n]).map .str))) p ⟨L.t,L.d,ep,L.o,L.cs ++ [c],L.row ++ [c.n]⟩:=by
 have n1:c.a≠L.d:=by intro e;have:=h.dc;rw [← e,hc.o] at this;cases this
 have n2:c.a≠L.o:=by intro e;have:=h.rw;rw [← e,hc.o] at this;cases this
 have n3:c.r≠L.d:=by intro e;have:=h.dc;rw [← e,hc.l] at this;cases this
 refine ⟨?_,?_,av,fun x hx=>?_,?_,fun x hx=>?_⟩
 ·rw [au (Ne.symm h.BE),au (Ne.symm h.A6)];exact h.ob
 ·show put (put J L.d _) L.o _ L.d=_
  rw [au h.IS];exact av
 ·rcases List.mem_append.mp hx with hx | hx
  ·exact ⟨by rw [au (h.HY hx),au (h.Jh hx)];exact (h.lg x hx).o,by rw [au (h.ao x hx),au (h.IW hx)];exact (h.lg x hx).l⟩
  ·rw [List.mem_singleton] at hx;subst hx
   exact ⟨by rw [au n2,au n1];exact hc.o,by rw [au h2,au n3];exact hc.l⟩
 ·show ((L.cs ++ [c]).map Cf.r).Nodup
  rw [List.map_append,List.map_cons,List.map_nil,List.nodup_append]
  exact ⟨h.ap,by simp,fun x hx y hy e=>by rw [List.mem_singleton] at hy;subst hy;subst e;exact h1 hx⟩
 ·show x.r≠L.o
  rcases List.mem_append.mp hx with hx | hx
  ·exact h.ao x hx
  ·rw [List.mem_singleton] at hx;subst hx;exact h2
theorem aS.add {L:Ln} (h:aS L) {c:Cf} {l:aQ} {ep:Nat} (hw:c.w=[l]) (hg:c.g=none) (hl:mD l) (hm:l.m=L.t) (hn:c.n ∉ L.cs.map Cf.n) (hr:L.row.length < 12) (hs:L.cs.length < 100):aS ⟨L.t,L.d,ep,L.o,L.cs ++ [c],L.row ++ [c.n]⟩:=by
 have hf:Ln.fs ⟨L.t,L.d,ep,L.o,L.cs ++ [c],L.row ++ [c.n]⟩=L.fs ++ [(c.n,c.cur)]:=vg L rfl hg
 have all:∀ {P:Cf→Prop},(∀ x∈L.cs,P x)→P c→∀ x∈L.cs ++ [c],P x:=fun h1 h2 x hx=>by
  rcases List.mem_append.mp hx with hx | hx
  ·exact h1 x hx
  ·rw [List.mem_singleton] at hx;subst hx;exact h2
 refine ⟨?_,all h.ne (by rw [hw];simp),all h.le (by rw [hw];simp [hm]),all h.ck (by rw [hw];simpa using hl),all h.len (by rw [hw];show (1:Nat)≤200;decide),all h.gz (by rw [hg];intro q e;cases e),h.t0,h.ts,by show (L.cs ++ [c]).length≤100;rw [List.length_append];simp;omega,fun n=>?_,?_,by show (L.row ++ [c.n]).length≤12;rw [List.length_append];simp;omega⟩
 ·show ((L.cs ++ [c]).map Cf.n).Nodup
  rw [List.map_append,List.map_cons,List.map_nil,List.nodup_append]
  exact ⟨h.nd,by simp,fun x hx y hy e=>by rw [List.mem_singleton] at hy;subst hy;subst e;exact hn hx⟩
 ·rw [hf,List.map_append,List.mem_append,List.mem_append,h.rm n];simp
 ·show (L.row ++ [c.n]).Nodup
  rw [List.nodup_append]
  refine ⟨h.rn,by simp,fun x hx y hy e=>?_⟩
  rw [List.mem_singleton] at hy
  rw [e,hy] at hx
  have:=(h.rm _).mp hx
  rw [dS,List.mem_map] at this
  obtain ⟨d,hd,e⟩:=this
  exact hn (List.mem_map.mpr ⟨d,(Ln.cx.mp hd).1,e⟩)
theorem bM.settled {L:Ln} (h:aS L) (o':Addr):bM { L with o:=o',row:=b_ L.t L.fs }:=by
 have hl:(b_ L.t L.fs).length≤12:=by
  have h1:(b_ L.t L.fs).Perm L.row:=(List.perm_ext_iff_of_nodup (lU h.EN) h.rn).mpr fun n=>by rw [qH];exact (h.rm n).symm
  rw [h1.length_eq];exact h.rl
 exact ⟨⟨h.nd,h.ne,h.le,h.ck,h.len,h.gz,h.t0,h.ts,h.many,fun n=>qH,lU h.EN,hl⟩,rfl⟩
theorem oM {cN cL T eB eF eT eU f:Addr} {fd:FuncData} (F:bX K "join" "Lane.join" fg f fd) (Z:bP mg) (KD_Lane:c_ K mg "Lane" cN) (NA_Lane_row:az K cN "row") (NA_Lane_now:az K cN "now") (NA_Lane_logs:az K cN "logs") {t_FARTHEST t_FASTEST t_MOST:Tok} (g_FARTHEST:mg "FARTHEST"=some (.int 1000000 t_FARTHEST)) (g_FASTEST:mg "FASTEST"=some (.int 1000 t_FASTEST)) (g_MOST:mg "MOST"=some (.int 12 t_MOST))
  (O_BadName:Own K mg "BadName" eB) (O_TooFar:Own K mg "TooFar" eF) (O_Taken:Own K mg "Taken" eT) (O_Full:Own K mg "Full" eU) (C_good_name:a9 P w K mg base 1 "good_name" ["text"] (uZ T)) (M_Log:wY P w K mg base cL 1 "Log" ["self","moment","place","pace"] (uB cL)) (m_Lane_settle:cP P w K mg base cN 7 "settle" ["self"] (fP cN cL)) :
  aI P w K mg base (cU P w) 8 f fd ["self","name","place","pace"] (dz K (vB cN cL T eB eF eT eU)):=by
 simp_arith [oU]
 ·obtain ⟨p,L,n,x,v,rfl,_⟩:=h;rfl
 obtain ⟨p,L,n,x,v,rfl,b,ok,hT,hnl,hcs,qb,qf,qt,qu,q⟩:=h
 have bo:=b.ob
 have bd:=b.dc
 have br:=b.rw
 refine ⟨_,(ai (aU (dZ (bV (aP C_good_name B hr (by decide) rfl (af (rv 1) ah)))) (aq (de O_BadName rfl b9 B.kn rfl (af bz ah))) aJ)
   (ai (aU (dw (iw (aD kE (aO oF rfl Z.abs boot_abs (af (rv 2) ah)) (er (v:=.int 1000000) (.int 1000000) rfl g_FARTHEST ⟨_,rfl⟩ (fun _ _=>rfl)) (L2.ax _)) (gY (aD kE (aO oF rfl Z.abs boot_abs (af (rv 3) ah)) (er (v:=.int 1000) (.int 1000) rfl g_FASTEST ⟨_,rfl⟩ (fun _ _=>rfl)) (L2.ax _))))) (aq (de O_TooFar rfl b9 B.kn rfl (af bz ah))) aJ)
   (ai (aU (aD Dk (rv 1) (aR KD_Lane.cl NA_Lane_logs (rv 0)) (by with_unfolding_all rfl)) (aq (de O_Taken rfl b9 B.kn rfl (af bz ah))) aJ)
   (ai (aU (aD zq (aO bW rfl Z.len boot_len (af (aR KD_Lane.cl NA_Lane_row (rv 0)) ah)) (er (v:=.int 12) (.int 12) rfl g_MOST ⟨_,rfl⟩ (fun _ _=>rfl)) (L2.ax _)) (aq (de O_Full rfl b9 B.kn rfl (af bz ah))) aJ)
   (ai (oB lh (aR KD_Lane.cl NA_Lane_logs (rv 0)) (rv 1) (Aw M_Log B hr (by decide) rfl (af (aR KD_Lane.cl NA_Lane_now (rv 0)) (af (bS (af (rv 2) (af ag ah))) (af (rv 3) ah)))))
   (ai (a8 (kD PySem.F.plainAttrs_list PySem.F.slot_list_append PySem.F.type_list_append kg (aR KD_Lane.cl NA_Lane_row (rv 0)) (af (rv 1) ah)))
   (aq (a8 (eZ (pl:=_) m_Lane_settle B hr (by decide) (rv 0)))))))))),?_⟩
 simp_all! only []
 refine ⟨n,rfl,hnl,hT,?_⟩
 cases hg:good n with
 | false =>
  simp_all! only [eW]
  exact qb hg
 | true =>
 simp_all! only []
 by_cases hB:ER x v
 ·obtain ⟨hx,hv⟩:=id hB
  rw [if_neg (by split <;> omega),if_neg (by split <;> omega)]
  simp_all! only [bo,w6,bd,ok.JH]
  by_cases hm:n∈L.cs.map Cf.n
  ·rw [if_pos hm]
   simp_all! only [eW]
   exact qt hg hB hm
  rw [if_neg hm]
  simp_all! only [bo,oG,br,List.length_map]
  by_cases hr12:12≤L.row.length
  ·rw [if_pos (by omega)]
   simp_all! only [eW]
   exact qu hg hB hm hr12
  rw [if_neg (by omega)]
  simp_all! only [bo,m8]
  intro a ha
  refine ⟨a,⟨L.t,(x:Rat),v⟩,rfl,av,fun r hr'=>?_⟩
  have nra:r≠a:=by intro e;subst e;rw [av] at hr';cases hr'
  have jr:J r=none:=by rw [au nra] at hr';exact hr'
  have b1:aW cN cL (put (put (put J a (.ins cL [])) r (.lst [(aQ.mk L.t (x:Rat) v).V])) a (.ins cL [("rows",.ref r),("gone",.non)])) p L:=b.keep fun c u ow e=>by
   have n1:c≠a:=fun z=>by subst z;rw [ha] at e;cases e
   have n2:c≠r:=fun z=>by subst z;rw [jr] at e;cases e
   rw [au n1,au n2,au n1];exact e
  have l1:Br cL (put (put (put J a (.ins cL [])) r (.lst [(aQ.mk L.t (x:Rat) v).V])) a (.ins cL [("rows",.ref r),("gone",.non)])) a r [⟨L.t,(x:Rat),v⟩] none:=⟨av,by rw [au nra];exact av⟩
  have mv1:Mv J (put (put (put J a (.ins cL [])) r (.lst [(aQ.mk L.t (x:Rat) v).V])) a (.ins cL [("rows",.ref r),("gone",.non)])) (L.own p) (fun c=>(L.own p c∨c=a)∨c=r) :=
   ((Mv.vG ha).trans (Mv.vG hr')).trans (eO (.inl (.inr rfl)) fun c h=>.inl h)
  generalize (put (put (put J a (.ins cL [])) r (.lst [(aQ.mk L.t (x:Rat) v).V])) a (.ins cL [("rows",.ref r),("gone",.non)]))=J1 at b1 l1 mv1 ⊢
  have bo1:=b1.ob
  have bd1:=b1.dc
  simp_all! only [bo1,w6,bd1]
  refine ⟨aV (by rw [List.length_map];omega),fun ep'=>?_⟩
  have epu:pf (L.cs.map fun c=>(c.n,PV.ref c.a)) n (PV.ref a)=(L.cs ++ [Cf.mk n a r [⟨L.t,(x:Rat),v⟩] none]).map fun c=>(c.n,PV.ref c.a):=by
   have e:(L.cs.map fun c=>(c.n,PV.ref c.a))=((L.cs.map fun c=>(c.n,c.a)).map fun x=>(x.1,PV.ref x.2)):=by rw [List.map_map];rfl
   rw [e,si (f:=PV.ref) (l:=a) (by rw [List.map_map];exact hm),List.map_append,List.map_append,List.map_map];rfl
  rw [epu]
  have hrs:r ∉ L.cs.map Cf.r:=fun h=>by
   obtain ⟨c,hc,e⟩:=List.mem_map.mp h
   have:=(b.lg c hc).l;rw [e,jr] at this;cases this
  have hro:r≠L.o:=fun e=>by have:=b.rw;rw [← e,jr] at this;cases this
  have b2:=b1.add (c:=Cf.mk n a r [⟨L.t,(x:Rat),v⟩] none) (ep:=ep') l1 hrs hro
  have ok2:aS ⟨L.t,L.d,ep',L.o,L.cs ++ [Cf.mk n a r [⟨L.t,(x:Rat),v⟩] none],L.row ++ [n]⟩:=ok.toaS.add (c:=Cf.mk n a r [⟨L.t,(x:Rat),v⟩] none) rfl rfl (mD.new ok.t0 ok.ts hx hv) rfl hm (by omega) hcs
  have bo2:(put J1 L.d (HQ.dct ((L.cs ++ [Cf.mk n a r [⟨L.t,(x:Rat),v⟩] none]).map fun c=>(c.n,PV.ref c.a)) ep')) p=some (.ins cN [("now",fr L.t),("logs",.ref L.d),("row",.ref L.o)]):=by rw [au (Ne.symm b1.A6)];exact b1.ob
  have br2:(put J1 L.d (HQ.dct ((L.cs ++ [Cf.mk n a r [⟨L.t,(x:Rat),v⟩] none]).map fun c=>(c.n,PV.ref c.a)) ep')) L.o=some (.lst (L.row.map .str)):=by rw [au (Ne.symm b1.IS)];exact b1.rw
  have mv2:Mv J1 (put (put J1 L.d (HQ.dct ((L.cs ++ [Cf.mk n a r [⟨L.t,(x:Rat),v⟩] none]).map fun c=>(c.n,PV.ref c.a)) ep')) L.o (.lst ((L.row ++ [n]).map .str))) (fun c=>(L.own p c∨c=a)∨c=r) (Ln.own ⟨L.t,L.d,ep',L.o,L.cs ++ [Cf.mk n a r [⟨L.t,(x:Rat),v⟩] none],L.row ++ [n]⟩ p):=by
   refine (eO (S':=fun c=>(L.own p c∨c=a)∨c=r) (.inl (.inl (.inr (.inl rfl)))) fun c h=>.inl h).trans (eO (.inl (.inl (.inr (.inr (.inl rfl))))) fun c h=>.inl ?_)
   rcases h with h | h | h | ⟨d,hd,h⟩
   ·exact .inl (.inl (.inl h))
   ·exact .inl (.inl (.inr (.inl h)))
   ·exact .inl (.inl (.inr (.inr (.inl h))))
   ·rcases List.mem_append.mp hd with hd | hd
    ·exact .inl (.inl (.inr (.inr (.inr ⟨d,hd,h⟩))))
    ·rw [List.mem_singleton] at hd;subst hd
     rcases h with h | h
     ·exact .inl (.inr h)
     ·exact .inr h
  have mv3:=mv1.trans mv2
  simp_all! only [bo2,oG,br2]
  refine ⟨aV (by rw [List.length_map];omega),?_⟩
  rw [show L.row.map PV.str ++ [PV.str n]=(L.row ++ [n]).map .str by rw [List.map_append];rfl]
  have bo3:=b2.ob
  generalize (put (put J1 L.d (HQ.dct ((L.cs ++ [Cf.mk n a r [⟨L.t,(x:Rat),v⟩] none]).map fun c=>(c.n,PV.ref c.a)) ep')) L.o (.lst ((L.row ++ [n]).map .str)))=J2 at b2 mv3 bo3 ⊢
  simp_all! only [bo3]
  refine ⟨e9 _ _ _ _,p,_,rfl,b2,ok2,fun J' o' b' mv'=>?_⟩
  exact q hg hB hm (by omega) J' _ b' (bM.settled ok2 o') ⟨a,r,rfl,rfl⟩ (mv3.trans mv')
 ·have hf:=qf hg hB
  by_cases h1:x.natAbs≤1000000
  ·have h2:¬ v.natAbs≤1000:=fun h=>hB ⟨h1,h⟩
   rw [if_neg (by split <;> omega),if_pos (by split <;> omega)]
   simp_all! only [eW]
   exact hf
  ·rw [if_pos (by split <;> omega)]
   simp_all! only [eW]
   exact hf
abbrev eD:Stmt:=(L2.inClass (top 42) 12)
theorem mP:L2.aw ["self","name"] ["self","name"] (L2.aj eD):=dD
def rT (cN cL eC:Addr):cj:=fun xs J Q E=>∃ p L n,xs=[.ref p,.str n]∧aW cN cL J p L∧aS L∧(∀ c∈L.cs,c.n=n→c.g=none→Q (fr (c.cur.at L.t)) J)∧(n ∉ L.row→E eC J)
theorem mY {cN cL eC f:Addr} {fd:FuncData} (F:bX K "place" "Lane.place" eD f fd) (Z:bP mg) (KD_Lane:c_ K mg "Lane" cN) (NA_Lane_now:az K cN "now") (m_Lane_leg_of:cP P w K mg base cN 4 "leg_of" ["self","name"] (gU cN cL eC)) (C_place_on:a9 P w K mg base 4 "place_on" ["leg","moment"] i9):aI P w K mg base (cU P w) 5 f fd ["self","name"] (dz K (rT cN cL eC)):=by
 simp_arith [mP]
 ·obtain ⟨p,L,n,rfl,_⟩:=h;rfl
 obtain ⟨p,L,n,rfl,b,ok,q,qe⟩:=h
 have bo:=b.ob
 refine ⟨_,(aq (aB (aP C_place_on B hr (by decide) rfl (af (ba (pl:=_) m_Lane_leg_of B hr (by decide) (rv 0) (af (rv 1) ah)) (af (aR KD_Lane.cl NA_Lane_now (rv 0)) ah))))),?_⟩
 simp_all! only [bo]
 refine ⟨e9 _ _ _ _,p,L,n,rfl,b,ok,fun c hc e hg=>?_,qe⟩
 have sl:=(ok.ck c hc _ (Cf.fc (ok.ne c hc)).2).EK
 simp_all! only [bo,m8]
 exact ⟨c.cur,L.t,rfl,sl.m,sl.p,ok.A3,sl.v,q c hc e hg⟩
def aA.v (b:aA):PV:=.tup [fr b.m,.str b.h,.str b.f]
theorem n6 (J:Hq) (b:aA):dY J b.v (.int 0)=some (fr b.m):=cS _ _
theorem uE (J:Hq) (b:aA):dY J b.v (.int 1)=some (.str b.h):=d7 _ _ _
theorem uq (J:Hq) (b:aA):dY J b.v (.int 2)=some (.str b.f):=iz _ _ _ _
theorem GO (J:Hq) (b:aA):wc J b.v=some "tuple":=rfl
theorem Cv (J:Hq) (b:aA):pU J b.v=some 3:=rfl
theorem yL (b:aA):jO b.v=true:=by simp [aA.v,Ay,vO,yi,tN,uw]
theorem Ft (b:aA):C6 b.v=True:=eq_true ⟨yL b,by simp [aA.v,fr,fF,gK,dep,dy]⟩
theorem Ge (a b:aA):eqQ a.v b.v=decide (a=b):=by
 unfold aA.v
 rw [pN,cW,cW,cW,k4,uu,eq_str,eq_str,Bool.and_true,← Bool.decide_and,← Bool.decide_and]
 apply decide_eq_decide.mpr
 cases a;cases b
 simp [aA.mk.injEq]
theorem Fh (a:Rat) (h f:Str):PV.tup [fr a,.str h,.str f]=(aA.mk a h f).v:=rfl
theorem yJ (J:Hq) (b:aA):∃ xs,b.v=.tup xs∧¬ (HT.c8 xs.length 0 (some 1)=0∧HT.c8 xs.length xs.length none=xs.length)∧iD xs (some 1) none=[b.h,b.f].map .str:=⟨_,rfl,fun h=>absurd h.1 (show HT.c8 3 0 (some 1)≠0 by decide),rfl⟩
abbrev dO:Stmt:=(top 21)
theorem l5:L2.aw ["one","other"] ["one","other"] (L2.aj dO):=dD
def oh:cj:=fun xs J Q _=>∃ a b:aA,xs=[a.v,b.v]∧Sz 9000 a.m∧Sz 9000 b.m∧Q (.bl (a.lt b)) J
theorem Hm (a b c d:Str):iM [a,b] [c,d]=if a=c then decide (slt b d) else decide (slt a c):=by
 rw [j9]
 by_cases h:a=c
 ·rw [if_pos h,if_pos h,j9]
  by_cases k:b=d
  ·rw [if_pos k,ju];subst k;exact (decide_eq_false (by unfold slt;exact List.lt_irrefl _)).symm
  ·rw [if_neg k];rfl
 ·rw [if_neg h,if_neg h];rfl
theorem kG {f:Addr} {fd:FuncData} (F:bX K "rings_ahead" "rings_ahead" dO f fd) (Z:bP mg) (C_less:a9 P w K mg base 1 "less" ["one","two"] cu):aI P w K mg base (cU P w) 2 f fd ["one","other"] (dz K oh):=by
 simp_arith [l5]
 ·obtain ⟨a,b,rfl,_⟩:=h;rfl
 obtain ⟨a,b,rfl,sa,sb,q⟩:=h
 refine ⟨_,(ai (aU (aD (iu hr.aT) (ak ar (rv 0) ag (fun _ _=>rfl)) (ak ar (rv 1) ag (fun _ _=>rfl)) (L2.ax _)) (aq (aB (aP C_less B hr (by decide) rfl (af (ak ar (rv 0) ag (fun _ _=>rfl)) (af (ak ar (rv 1) ag (fun _ _=>rfl)) ah))))) aJ)
   (aq (aB (d3 (Ai hr.D8) (fK tj (rv 0) (hV ag) g9) (fK tj (rv 1) (hV ag) g9) (L2.ax _))))),?_⟩
 simp_arith! only [cm,n6,uE,uq,cu,B6]
 unfold aA.lt at q
 by_cases e:a.m=b.m
 ·rw [if_pos e] at q ⊢
  obtain ⟨xs,h1,h2,h3⟩:=yJ J a
  obtain ⟨ys,h4,h5,h6⟩:=yJ J b
  exact ⟨xs,h1,h2,ys,h4,h5,[a.h,a.f],h3,[b.h,b.f],h6,by rw [Hm];exact q⟩
 ·rw [if_neg e] at q ⊢
  exact ⟨sa,sb,q⟩
theorem E3 (v:PV):([("rows",v)]:List (Str × PV)).lookup ("rows":Str)=some v:=rfl
theorem DS {m:Str} (v:PV) (h:(m == ("rows":Str))=false):([("rows",v)]:List (Str × PV)).lookup m=none:=by rw [List.lookup_cons,h];rfl
theorem H_ (v:PV):([("rows",v)]:List (Str × PV)).lookup ("drop":Str)=none:=DS v (by decide +kernel)
theorem HI (v:PV):([("rows",v)]:List (Str × PV)).lookup ("put":Str)=none:=DS v (by decide +kernel)
theorem Hn (v:PV):([("rows",v)]:List (Str × PV)).lookup ("told":Str)=none:=DS v (by decide +kernel)
theorem BI {J:Hq} {r p:Addr} {a b c:HQ} (h:r≠p):put (put (put J r a) p b) r c=put (put J r c) p b:=by
 rw [yZ (Ne.symm h),dN]
structure Bj (cB:Addr) (J:Hq) (p r:Addr) (rows:List aA):Prop where
 o:J p=some (.ins cB [("rows",.ref r)])
 l:J r=some (.lst (rows.map aA.v))
theorem Bj.ne {cB:Addr} {J:Hq} {p r:Addr} {rows:List aA} (h:Bj cB J p r rows):r≠p:=by
 intro e;subst e;have:=h.o;rw [h.l] at this;cases this
abbrev cM:Stmt:=(L2.inClass (top 22) 0)
theorem jC:L2.aw ["self"] ["self"] (L2.aj cM):=dD
def uX (cB:Addr):cj:=fun xs J Q _=>∃ p,xs=[.ref p]∧J p=some (.ins cB [])∧∀ r,J r=none→Q .non (put (put J r (.lst [])) p (.ins cB [("rows",.ref r)]))
theorem mI {cB f:Addr} {fd:FuncData} (F:bX K "__init__" "Bells.__init__" cM f fd) (KD_Bells:c_ K mg "Bells" cB) (NA_Bells_rows:az K cB "rows"):aI P w K mg base (cU P w) 1 f fd ["self"] (dz K (uX cB)):=by
 simp_arith [jC]
 ·obtain ⟨p,rfl,_⟩:=h;rfl
 obtain ⟨p,rfl,hp,q⟩:=h
 refine ⟨_,(aq (fB KD_Bells.cl NA_Bells_rows (rv 0) (jJ ah))),?_⟩
 simp_arith! only [cm]
 intro r hr'
 have ne:p≠r:=by intro e;subst e;rw [hp] at hr';cases hr'
 exact ⟨[],by rw [au ne];exact hp,by decide,q r hr'⟩
abbrev di:Stmt:=(L2.inClass (top 22) 2)
theorem fE:L2.aw ["self","hind","fore","kept","found"] ["self","hind","fore"] (L2.aj di):=dD
def uv (cB:Addr):cj:=fun xs J Q _=>∃ p r rows h f,xs=[.ref p,.str h,.str f]∧Bj cB J p r rows∧rows.length≤900∧∀ r',J r'=none→Q (.bl (decide ((c9 h f rows).length < rows.length))) (put (put J r' (.lst ((c9 h f rows).map aA.v))) p (.ins cB [("rows",.ref r')]))
def tail3:PV→PV
 | .tup xs=>.tup (iD xs (some 1) none)
 | _=>.non
def ve (h f:Str) (x:PV):Bool:=!eqQ (tail3 x) (.tup [.str h,.str f])
theorem De (h f:Str) (b:aA):ve h f b.v=!qD h f b:=by
 show (!eqQ (.tup [.str b.h,.str b.f]) (.tup [.str h,.str f]))=_
 rw [pN,cW,cW,k4,eq_str,eq_str,Bool.and_true,← Bool.decide_and]
 rfl
theorem yI (h f:Str):∀ rows:List aA,((rows.map aA.v).filter (ve h f)).map (fun x=>x)=(c9 h f rows).map aA.v
 | []=>rfl
 | b :: rows=>by
  have ih:=yI h f rows
  unfold c9 at ih ⊢
  rw [List.map_cons,List.filter_cons,List.filter_cons,De]
  cases qD h f b <;> simp at ih ⊢ <;> exact ih
theorem mK {cB f:Addr} {fd:FuncData} (F:bX K "drop" "Bells.drop" di f fd) (Z:bP mg) (KD_Bells:c_ K mg "Bells" cB) (NA_Bells_rows:az K cB "rows"):aI P w K mg base (cU P w) 1 f fd ["self","hind","fore"] (dz K (uv cB)):=by
 simp_arith [fE]
 ·obtain ⟨p,r,rows,h,f,rfl,_⟩:=h;rfl
 obtain ⟨p,r,rows,h,f,rfl,b,hl,q⟩:=h
 have bo:=b.o
 have bl:=b.l
 refine ⟨_,(ai (Bs (i:=3) (L2.aj di) ["self","hind","fore","kept","found"] [("hind",1),("fore",2)] rfl rfl rfl fE.nd rfl (Or.inl rfl) (fq (aR KD_Bells.cl NA_Bells_rows (rv 0))) (fun _ _ _ _ _ _=>(rv 0)) (fun _ _ _ _ _ _=>(aD (iu hr.aT) (fK tj (rv 0) (hV ag) g9) (bS (af (rv 1) (af (rv 2) ah))) (L2.ax _))))
   (ai (aG (i:=4) fE.nd rfl (Or.inl rfl) (d3 d6 (aO bW rfl Z.len boot_len (af (rv 3) ah)) (aO bW rfl Z.len boot_len (af (aR KD_Bells.cl NA_Bells_rows (rv 0)) ah)) (L2.ax _)))
   (ai (fB KD_Bells.cl NA_Bells_rows (rv 0) (rv 3))
   (aq (aB (rv 4)))))),?_⟩
 simp_arith! only [cm,Eg,bo,bl,E3]
 refine ⟨ve h f,fun x=>x,⟨by rw [List.length_map];exact aV (by omega),fun J' sub=>⟨sub _ _ bl,fun x hx=>?_⟩⟩,fun r' hr'=>?_⟩
 ·obtain ⟨b,_,rfl⟩:=List.mem_map.mp hx
  obtain ⟨xs,h1,h2,h3⟩:=yJ J' b
  have hk:ve h f b.v=!eqQ (.tup (iD xs (some 1) none)) (.tup [.str h,.str f]):=by rw [h1];rfl
  simp_arith! only [cm]
  refine ⟨⟨xs,h1,h2,?_⟩,fun _=>trivial⟩
  rw [hk,h3]
  refine ⟨⟨by simp [jO,iP],by simp [fF,gK,dep,dy]⟩,by simp [jO,iP],rfl⟩
 ·have ne:p≠r':=by intro e;subst e;rw [bo] at hr';cases hr'
  have nr:r≠r':=by intro e;subst e;rw [bl] at hr';cases hr'
  simp_arith! only [cm,au ne,au nr,bo,bl,E3,yI,List.length_map,Int.ofNat_lt]
  exact ⟨by decide,q r' hr'⟩
abbrev fo:Stmt:=(L2.inClass (top 22) 1)
theorem cJ:L2.aw ["self","moment","hind","fore","bell","low","high","middle"] ["self","moment","hind","fore"] (L2.aj fo):=dD
def xX (cB:Addr):cj:=fun xs J Q _=>∃ p r rows m h f,xs=[.ref p,fr m,.str h,.str f]∧Bj cB J p r rows∧gy rows∧rows.length≤800∧Sz 9000 m∧(∀ x∈rows,Sz 9000 x.m) ∧
 ∀ r',J r'=none→Q .non (put (put J r' (.lst ((iB ⟨m,h,f⟩ (c9 h f rows)).map aA.v))) p (.ins cB [("rows",.ref r')]))
theorem FP (a b:Nat):((a:Int) + (b:Int)).fdiv 2=(((a + b) / 2:Nat):Int):=by rw [Int.fdiv_eq_ediv_of_nonneg _ (by decide)];omega
theorem JL (a:Int):CQ a 2=True:=eq_true ⟨by decide,Bd.mono (Bd.small (by decide) (by decide)) (by decide)⟩
theorem DF {rows:List aA} {i:Nat} {b:aA} (h:rows[i]?=some b):cH (rows.map aA.v) (i:Int)=some b.v:=a_ (by rw [List.getElem?_map,h];rfl)
theorem oZ {cB f:Addr} {fd:FuncData} (F:bX K "put" "Bells.put" fo f fd) (Z:bP mg) (KD_Bells:c_ K mg "Bells" cB) (NA_Bells_rows:az K cB "rows") (m_Bells_drop:cP P w K mg base cB 1 "drop" ["self","hind","fore"] (uv cB))
  (C_rings_ahead:a9 P w K mg base 2 "rings_ahead" ["one","other"] oh):aI P w K mg base (cU P w) 3 f fd ["self","moment","hind","fore"] (dz K (xX cB)):=by
 simp_arith [cJ]
 ·obtain ⟨p,r,rows,m,h,f,rfl,_⟩:=h;rfl
 obtain ⟨p,r,rows,m,h,f,rfl,b,srt,hl,sm,sr,q⟩:=h
 have bo:=b.o
 refine ⟨_,(ai (a8 (ba (pl:=_) m_Bells_drop B hr (by decide) (rv 0) (af (rv 2) (af (rv 3) ah))))
   (ai (aG (i:=4) cJ.nd rfl (Or.inl rfl) (bS (af (rv 1) (af (rv 2) (af (rv 3) ah)))))
   (ai (Ea (i:=5) (j:=6) rfl cJ.nd rfl rfl (by decide) rfl rfl (af ag (af (aO bW rfl Z.len boot_len (af (aR KD_Bells.cl NA_Bells_rows (rv 0)) ah)) ah)) rfl)
   (ai (i6 bY (aD d6 (rv 5) (rv 6) (L2.ax _)) (ai (aG (i:=7) cJ.nd rfl (Or.inl rfl) (aK k_ (aK dj (rv 5) (rv 6)) ag))
   (aq (aU (bV (aP C_rings_ahead B hr (by decide) rfl (af (ak ar (aR KD_Bells.cl NA_Bells_rows (rv 0)) (rv 7) (fun _ _=>rfl)) (af (rv 4) ah)))) (aq (aG (i:=5) cJ.nd rfl (Or.inl rfl) (aK dj (rv 7) ag))) (aq (aG (i:=6) cJ.nd rfl (Or.inl rfl) (rv 7)))))))
   (aq (a8 (kD PySem.F.plainAttrs_list PySem.F.slot_list_insert PySem.F.type_list_insert jK (aR KD_Bells.cl NA_Bells_rows (rv 0)) (af (rv 5) (af (rv 4) ah))))))))),?_⟩
 simp_arith! only [cm,bo,H_]
 refine ⟨p,r,rows,h,f,rfl,b,by omega,fun r' hr'=>?_⟩
 have EI:r'≠p:=by intro e;subst e;rw [bo] at hr';cases hr'
 have b1:Bj cB (put (put J r' (.lst ((c9 h f rows).map aA.v))) p (.ins cB [("rows",.ref r')])) p r' (c9 h f rows):=⟨av,by rw [au EI];exact av⟩
 have kl:(c9 h f rows).length≤800:=Nat.le_trans (nj _ _ _) hl
 have ks:gy (c9 h f rows):=nL srt
 have kz:∀ x∈c9 h f rows,Sz 9000 x.m:=fun x hx=>sr x (List.mem_filter.mp hx).1
 have q:=q r' hr'
 generalize hJ:put (put J r' (.lst ((c9 h f rows).map aA.v))) p (.ins cB [("rows",.ref r')])=J1 at b1 ⊢
 have hq:put J1 r' (.lst ((iB ⟨m,h,f⟩ (c9 h f rows)).map aA.v))=put (put J r' (.lst ((iB ⟨m,h,f⟩ (c9 h f rows)).map aA.v))) p (.ins cB [("rows",.ref r')]):=by rw [← hJ,BI EI]
 rw [← hq] at q
 clear hq hJ hr'
 have bo:=b1.o
 have bl:=b1.l
 generalize c9 h f rows=ks' at *
 simp_arith! only [cm,bo,bl,E3,Fh,List.length_map]
 refine ⟨fun k τ J'=>∃ (lo hi:Nat) (u:Option PV),τ=[some (.ref p),some (fr m),some (.str h),some (.str f),some (aA.mk m h f).v,some (.int lo),some (.int hi),u]∧J'=J1∧k=hi - lo∧lo≤hi∧hi≤ks'.length ∧
  (∀ (j:Nat) x,j < lo→ks'[j]?=some x→x.lt ⟨m,h,f⟩=true)∧(∀ (j:Nat) x,hi≤j→ks'[j]?=some x→x.lt ⟨m,h,f⟩=false),⟨_,0,ks'.length,none,rfl,rfl,rfl,Nat.zero_le _,Nat.le_refl _,fun j x hj=>absurd hj (Nat.not_lt_zero _),fun j x hj e=>by rw [List.getElem?_eq_none hj] at e;cases e⟩,?_⟩
 rintro k τ J' ⟨lo,hi,u,rfl,rfl,rfl,h1,h2,hlo,hhi⟩
 simp_arith! only [cm,bo,bl,E3,JL,FP,Int.ofNat_lt,oh]
 by_cases hlt:lo < hi
 ·rw [if_pos hlt]
  have hm:(lo + hi) / 2 < ks'.length:=by omega
  obtain ⟨x,hx⟩:∃ x,ks'[(lo + hi) / 2]?=some x:=⟨_,List.getElem?_eq_getElem hm⟩
  refine ⟨fun τ' J''=>∃ (lo' hi':Nat) (u:Option PV),τ'=[some (.ref p),some (fr m),some (.str h),some (.str f),some (aA.mk m h f).v,some (.int lo'),some (.int hi'),u]∧J''=J'∧lo'≤hi'∧hi'≤ks'.length∧hi' - lo' < hi - lo ∧
   (∀ (j:Nat) x,j < lo'→ks'[j]?=some x→x.lt ⟨m,h,f⟩=true)∧(∀ (j:Nat) x,hi'≤j→ks'[j]?=some x→x.lt ⟨m,h,f⟩=false),fun τ' J'' ⟨lo',hi',u,e1,e2,e3,e4,e5,e6,e7⟩=>⟨_,e5,lo',hi',u,e1,e2,rfl,e3,e4,e6,e7⟩,x.v,DF hx,x,rfl,⟨m,h,f⟩,rfl,kz x (List.mem_of_getElem? hx),sm,?_⟩
  cases hc:x.lt ⟨m,h,f⟩ with
  | true =>
   rw [if_pos rfl]
   exact ⟨(lo + hi) / 2 + 1,hi,_,rfl,rfl,by omega,h2,by omega,fun j y hj e=>vh ks hx e (by omega) hc,hhi⟩
  | false =>
   rw [if_neg Bool.false_ne_true]
   exact ⟨lo,(lo + hi) / 2,_,rfl,rfl,by omega,by omega,by omega,hlo,fun j y hj e=>zl ks hx e hj hc⟩
 ·rw [if_neg hlt]
  have e:lo=hi:=by omega
  subst e
  refine ⟨_,lo,rfl,rfl,by rw [List.length_map];exact h2,by rw [List.length_map];exact aV (by omega),Nat.lt_of_le_of_lt h2 (Nat.lt_of_le_of_lt kl (by decide)),?_⟩
  rw [← Ah h2 hlo hhi,List.map_append,List.map_cons,List.map_take,List.map_drop] at q
  exact q
abbrev ed:Stmt:=(L2.inClass (top 22) 5)
theorem m4:L2.aw ["self"] ["self"] (L2.aj ed):=dD
def uK (cB:Addr):cj:=fun xs J Q _=>∃ p r rows,xs=[.ref p]∧Bj cB J p r rows∧(Q (.fl (rows.map aA.v)) J∨∀ l,J l=none→Q (.ref l) (put J l (.lst (rows.map aA.v))))
theorem mE {cB f:Addr} {fd:FuncData} (F:bX K "told" "Bells.told" ed f fd) (Z:bP mg) (KD_Bells:c_ K mg "Bells" cB) (NA_Bells_rows:az K cB "rows"):aI P w K mg base (cU P w) 1 f fd ["self"] (dz K (uK cB)):=by
 refine HK F m4 (fun xs J Q E h=>?_) (fun cdv A outer s H E G xs J Q E2 hr h B=>?_)
 ·obtain ⟨p,r,rows,rfl,_⟩:=h;rfl
 obtain ⟨p,r,rows,rfl,b,q⟩:=h
 have bo:=b.o
 have bl:=b.l
 refine ⟨_,(aq (aB (jV yE rfl Z.list boot_list (af (aR KD_Bells.cl NA_Bells_rows (rv 0)) ah)))),?_⟩
 simp_arith! only [cm,bo,bl,E3]
 intro l hl
 rcases q with q | q
 ·exact Fg.m3 (lY hl) av hl q
 ·exact Fg.same (q l hl)
def uc:cj:=fun xs J Q _=>∃ t b:Int,xs=[.int t,.int b]∧b≠0∧Bd 9000 b∧Q (fr (Rat.divInt t b)) J
theorem mW (C:mB P w K mg base 2 "fraction" ["top","bottom"] eY):a9 P w K mg base 2 "fraction" ["top","bottom"] uc:=C.lift fun xs J vs H Q2 E2 Q E rs r ⟨t,b,ex,h0,h1,q⟩ kn=>by
 subst ex
 obtain ⟨v,u,rfl,r1,r2⟩:=fV rs
 cases r1;cases r2
 exact ⟨t,b,rfl,h0,h1,pM r kn q⟩
theorem qG (l l':aQ) (h:l.v≠l'.v):Rat.divInt ((l'.at 0 - l.at 0).num) (((l'.at 0 - l.at 0).den:Int) * (l.v - l'.v))=jw l l':=by
 rw [D1 _ _ (by omega)];rfl
abbrev hZ:Stmt:=(top 26)
theorem iH:L2.aw ["one","other","gain","gap"] ["one","other"] (L2.aj hZ):=dD
def ug:cj:=fun xs J Q _=>∃ l l':aQ,xs=[l.V,l'.V]∧ko 900 l∧ko 900 l'∧(l.v=l'.v→Q .non J)∧(l.v≠l'.v→Q (fr (jw l l')) J)
theorem rA {f:Addr} {fd:FuncData} (F:bX K "meeting" "meeting" hZ f fd) (Z:bP mg) (N:lJ K mg) (C_place_on:a9 P w K mg base 4 "place_on" ["leg","moment"] i9) (C_minus:a9 P w K mg base 3 "minus" ["one","two"] (rQ fun p q=>p - q)) (C_fraction:a9 P w K mg base 2 "fraction" ["top","bottom"] uc) :
  aI P w K mg base (cU P w) 5 f fd ["one","other"] (dz K ug):=by
 simp_arith [iH]
 ·obtain ⟨l,l',rfl,_⟩:=h;rfl
 obtain ⟨l,l',rfl,sl,sl',q0,q1⟩:=h
 obtain ⟨aN,gN,sN⟩:=N
 have rN:∀ (J:Hq) (H:Hp),bI K J H (fr 0) (.ref aN):=fun J H=>⟨aN,_,rfl,sN H,⟨_,_,rfl,rfl,_,_,rfl,rfl,rfl⟩⟩
 refine ⟨_,(ai (aG (i:=2) iH.nd rfl (Or.inl rfl) (aK dF (ak ar (rv 0) ag (fun _ _=>rfl)) (ak ar (rv 1) ag (fun _ _=>rfl))))
   (ai (aU (aD (cR hr.aT) (rv 2) ag (L2.ax _)) (aq (aB fY)) aJ)
   (ai (aG (i:=3) iH.nd rfl (Or.inl rfl) (aP C_minus B hr (by decide) rfl (af (aP C_place_on B hr (by decide) rfl (af (rv 1) (af (er (v:=.ref aN) (fr 0) rfl gN rfl rN) ah))) (af (aP C_place_on B hr (by decide) rfl (af (rv 0) (af (er (v:=.ref aN) (fr 0) rfl gN rfl rN) ah))) ah))))
   (aq (aB (aP C_fraction B hr (by decide) rfl (af (ak ar (rv 3) ag (fun _ _=>rfl)) (af (aK bK (ak ar (rv 3) ag (fun _ _=>rfl)) (rv 2)) ah)))))))),?_⟩
 have z1:Sz 900 (0:Rat):=⟨⟨by decide⟩,⟨by decide⟩⟩
 have s3:=fT sl z1
 have s3':=fT sl' z1
 have s4:Sz 6001 (l'.at 0 - l.at 0):=s3'.sub s3
 have bg:Bd 65 (l.v - l'.v):=sl.v.sub sl'.v
 simp_all! only [kC]
 split
 ·rename_i e;simp_all! only [];exact q0 (by omega)
 rename_i e
 have hv:l.v≠l'.v:=by omega
 simp_all! only []
 refine ⟨l',0,rfl,sl'.m,sl'.p,z1,sl'.v,l,0,rfl,sl.m,sl.p,z1,sl.v,l'.at 0,l.at 0,rfl,s3'.mono (by decide),s3.mono (by decide),?_⟩
 simp_all! only []
 refine ⟨.of s4.den bg,_,_,rfl,Int.mul_ne_zero (dC _) e,(Bd.mul s4.den bg (k:=6100)).mono (by decide),?_⟩
 rw [qG l l' hv]
 exact q1 hv
theorem qY {l l':aQ} (sl:ko 900 l) (sl':ko 900 l') (h:l.v≠l'.v):Sz 8000 (jw l l'):=by
 rw [← qG l l' h]
 have z1:Sz 900 (0:Rat):=⟨⟨by decide⟩,⟨by decide⟩⟩
 have s4:Sz 6001 (l'.at 0 - l.at 0):=(fT sl' z1).sub (fT sl z1)
 have bg:Bd 65 (l.v - l'.v):=sl.v.sub sl'.v
 exact Sz.div (s4.num.mono (by decide)) ((Bd.mul s4.den bg (k:=6100)).mono (by decide)) (Int.mul_ne_zero (dC _) (by omega))
theorem aS.G0 {L:Ln} (h:aS L) {c:Cf} (hc:c∈L.cs):ko 900 c.cur:=(h.ck c hc _ (Cf.fc (h.ne c hc)).2).EK
abbrev eu:Stmt:=(L2.inClass (top 42) 13)
theorem iA:L2.aw ["self","name","other","met"] ["self","name","other"] (L2.aj eu):=dD
def ql (cN cL eC:Addr):cj:=fun xs J Q E=>∃ p L n n',xs=[.ref p,.str n,.str n']∧aW cN cL J p L∧aS L∧(∀ c∈L.cs,∀ c'∈L.cs,c.n=n→c'.n=n'→c.g=none→c'.g=none→Q (gv (Ao L.t c.cur c'.cur)) J)∧(n ∉ L.row∨n' ∉ L.row→E eC J)
theorem mV {cN cL eC f:Addr} {fd:FuncData} (F:bX K "meets" "Lane.meets" eu f fd) (Z:bP mg) (KD_Lane:c_ K mg "Lane" cN) (NA_Lane_now:az K cN "now") (m_Lane_leg_of:cP P w K mg base cN 4 "leg_of" ["self","name"] (gU cN cL eC)) (C_meeting:a9 P w K mg base 5 "meeting" ["one","other"] ug) (C_less:a9 P w K mg base 1 "less" ["one","two"] cu):aI P w K mg base (cU P w) 6 f fd ["self","name","other"] (dz K (ql cN cL eC)):=by
 simp_arith [iA]
 ·obtain ⟨p,L,n,n',rfl,_⟩:=h;rfl
 obtain ⟨p,L,n,n',rfl,b,ok,q,qe⟩:=h
 have bo:=b.ob
 refine ⟨_,(ai (aG (i:=3) iA.nd rfl (Or.inl rfl) (aP C_meeting B hr (by decide) rfl (af (ba (pl:=_) m_Lane_leg_of B hr (by decide) (rv 0) (af (rv 1) ah)) (af (ba (pl:=_) m_Lane_leg_of B hr (by decide) (rv 0) (af (rv 2) ah)) ah))))
   (aq (aB (Fw (dw (d4 (aD rO (rv 3) fY (L2.ax _)) (dn (bV (aP C_less B hr (by decide) rfl (af (aR KD_Lane.cl NA_Lane_now (rv 0)) (af (rv 3) ah))))))) (rv 3) fY)))),?_⟩
 simp_all! only [bo]
 refine ⟨e9 _ _ _ _,p,L,n,rfl,b,ok,fun c hc e hg=>?_,fun z=>qe (.inl z)⟩
 simp_all! only [bo]
 refine ⟨e9 _ _ _ _,p,L,n',rfl,b,ok,fun c' hc' e' hg'=>?_,fun z=>qe (.inr z)⟩
 have q:=q c hc c' hc' e e' hg hg'
 have sl:=ok.G0 hc
 have sl':=ok.G0 hc'
 unfold Ao at q
 refine ⟨c.cur,c'.cur,rfl,sl,sl',fun hv=>?_,fun hv=>?_⟩
 ·rw [if_neg (fun z=>z.1 hv)] at q
  simp_all! only []
  exact q
 ·simp_all! only [oa,bo,m8,cu]
  refine ⟨ok.A3.mono (by decide),(qY sl sl' hv).mono (by decide),?_⟩
  split
  ·rename_i c1
   rw [if_pos ⟨hv,c1⟩] at q
   simp_all! only []
   exact q
  ·rename_i c1
   rw [if_neg (fun z=>c1 z.2)] at q
   exact q
theorem JS (A:Nat):Sc fR A 0:=⟨0,by rw [Rat.zero_mul];rfl,Nat.zero_le _⟩
theorem aW.Gi {cN cL:Addr} {J:Hq} {p T:Addr} {L:Ln} (h:aW cN cL J p L) (hT:J T=Option.some .tab):¬ L.own p T:=by
 rintro (rfl | rfl | rfl | ⟨c,hc,rfl | rfl⟩)
 ·rw [h.ob] at hT;cases hT
 ·rw [h.dc] at hT;cases hT
 ·rw [h.rw] at hT;cases hT
 ·rw [(h.lg c hc).o] at hT;cases hT
 ·rw [(h.lg c hc).l] at hT;cases hT
theorem aS.F0 {L:Ln} (h:aS L):L.fs.length≤100:=by
 unfold Ln.fs Ln.wb
 rw [List.length_map]
 exact Nat.le_trans (List.length_filter_le _ _) h.many
theorem GG {L:Ln} {n:Str} {l:aQ} (h:(n,l)∈L.fs):∃ c∈L.cs,c.n=n∧c.g=none∧c.cur=l:=by
 obtain ⟨c,hc,e⟩:=List.mem_map.mp h
 have:=Ln.cx.mp hc
 cases e
 exact ⟨c,this.1,rfl,this.2,rfl⟩
def jY:cj:=fun xs J Q _=>∃ a b:Int,xs=[.int a,.int b]∧Q (.int (Int.gcd a b:Nat)) J
theorem rM (C:mB P w K mg base 1 "shared" ["one","two"] lF):a9 P w K mg base 1 "shared" ["one","two"] jY:=C.lift fun xs J vs H Q2 E2 Q E rs r ⟨a,b,ex,q⟩ kn=>by
 subst ex
 obtain ⟨v,u,rfl,r1,r2⟩:=fV rs
 cases r1;cases r2
 exact ⟨a,b,rfl,kn (.int _) J _ H rfl r .refl q⟩
abbrev cq:Stmt:=(top 18)
theorem iQ:L2.aw ["pair"] ["pair"] (L2.aj cq):=dD
def qL:cj:=fun xs J Q _=>∃ a b:Int,xs=[.tup [.int a,.int b]]∧Q (.bl (decide (1≤b∧Int.gcd a b=1))) J
theorem ij {f:Addr} {fd:FuncData} (F:bX K "in_lowest_terms" "in_lowest_terms" cq f fd) (Z:bP mg) (C_shared:a9 P w K mg base 1 "shared" ["one","two"] jY):aI P w K mg base (cU P w) 2 f fd ["pair"] (dz K qL):=by
 simp_arith [iQ]
 ·obtain ⟨a,b,rfl,_⟩:=h;rfl
 obtain ⟨a,b,rfl,q⟩:=h
 refine ⟨_,(aq (aB (zi (d3 zq (ak ar (rv 0) ag (fun _ _=>rfl)) ag (L2.ax _)) (tH (d3 (cR hr.aT) (aP C_shared B hr (by decide) rfl (af (ak ar (rv 0) ag (fun _ _=>rfl)) (af (ak ar (rv 0) ag (fun _ _=>rfl)) ah))) ag (L2.ax _)))))),?_⟩
 simp_all! only []
 by_cases c:1≤b
 ·simp only [c,decide_true,true_and,if_true] at q ⊢
  simp_all! only [jY]
  have:decide (((Int.gcd a b:Nat):Int)=1)=decide (Int.gcd a b=1):=decide_eq_decide.mpr (by omega)
  rw [this];exact q
 ·simp only [c,decide_false,false_and] at q ⊢
  rw [if_neg (fun z=>z)]
  exact q
abbrev dM:Stmt:=(top 40)
theorem eK:L2.aw ["moment","top","bottom"] ["moment"] (L2.aj dM):=dD
def fN (a b:Int):Bool:=decide (b≤60∧1≤b∧Int.gcd a b=1∧0≤a∧a≤1000000 * b)
def ue:cj:=fun xs J Q _=>∃ a b:Int,xs=[.tup [.int a,.int b]]∧Q (.bl (fN a b)) J
theorem kH {f:Addr} {fd:FuncData} (F:bX K "good_moment" "good_moment" dM f fd) (Z:bP mg) {t_FINEST t_LATEST:Tok} (g_FINEST:mg "FINEST"=some (.int 60 t_FINEST)) (g_LATEST:mg "LATEST"=some (.int 1000000 t_LATEST)) (C_in_lowest_terms:a9 P w K mg base 2 "in_lowest_terms" ["pair"] qL):aI P w K mg base (cU P w) 3 f fd ["moment"] (dz K ue):=by
 simp_arith [eK]
 ·obtain ⟨a,b,rfl,_⟩:=h;rfl
 obtain ⟨a,b,rfl,q⟩:=h
 refine ⟨_,(ai (o_ (rv 0) (lX rfl (cb (bt (i:=1) eK.nd rfl (Or.inl rfl)) (cb (bt (i:=2) eK.nd rfl (Or.inl rfl)) jA))))
   (ai (aU (dw (iw (aD kE (rv 2) (er (v:=.int 60) (.int 60) rfl g_FINEST ⟨_,rfl⟩ (fun _ _=>rfl)) (L2.ax _)) (gY (dZ (bV (aP C_in_lowest_terms B hr (by decide) rfl (af (rv 0) ah))))))) (aq (aB kA)) aJ)
   (aq (aB (yT B9 B9 ag (rv 1) (aK bK (er (v:=.int 1000000) (.int 1000000) rfl g_LATEST ⟨_,rfl⟩ (fun _ _=>rfl)) (rv 2))))))),?_⟩
 unfold fN at q
 simp_all! only []
 refine ⟨rfl,?_⟩
 simp_all! only []
 by_cases c1:60 < b
 ·rw [if_pos c1]
  rw [decide_eq_false (fun z=>by omega)] at q
  exact q
 rw [if_neg c1]
 simp_all! only []
 refine ⟨a,b,rfl,?_⟩
 by_cases c2:1≤b∧Int.gcd a b=1
 ·rw [decide_eq_true c2]
  simp_all! only [oJ]
  by_cases c3:0≤a
  ·simp only [c3,decide_true,if_true]
   refine ⟨.of (.small (x:=1000000) (by decide) (by decide)) (.small (x:=b) (by omega) (by omega)),?_⟩
   have:decide (a≤1000000 * b)=decide (b≤60∧1≤b∧Int.gcd a b=1∧0≤a∧a≤1000000 * b):=decide_eq_decide.mpr ⟨fun z=>⟨by omega,c2.1,c2.2,c3,z⟩,fun z=>z.2.2.2.2⟩
   rw [this];exact q
  ·rw [decide_eq_false (fun z=>c3 z.2.2.2.1)] at q
   simp only [c3,decide_false]
   rw [if_neg (fun z=>z)]
   exact q
 ·rw [decide_eq_false c2]
  rw [decide_eq_false (fun z=>c2 ⟨z.2.1,z.2.2.1⟩)] at q
  simp_all! only []
  exact q
theorem aW.less {cN cL:Addr} {J J':Hq} {p:Addr} {L:Ln} (h:aW cN cL J p L) (l:mR J J'):aW cN cL J' p L:=h.keep fun a o _ e=>by
 rcases l a with z | z
 ·rw [← z];exact e
 ·rw [z] at e;cases e
theorem nI {J J':Hq} {p r:Addr} {x y:HQ} (l:mR J J') (hp:J p=none) (hr:J' r=none):mR J (put (put J' r x) p y):=fun a=>by
 by_cases e:a=p
 ·exact .inr (by rw [e];exact hp)
 by_cases e2:a=r
 ·rcases l a with z | z
  ·right;rw [z,e2];exact hr
  ·exact .inr z
 ·rw [au e,au e2];exact l a
theorem wB {J:Hq} {p r:Addr} {x y z:HQ} (hp:J p=none) (hr:put J p x r=none):mR J (put (put (put J p x) r y) p z):=nI (lY hp) hp hr
theorem rK (xs:List PV) (k:Nat) (h:k≤xs.length):iD xs (some (k:Int)) none=xs.drop k:=by
 unfold iD HT.c8
 simp only [Int.toNat_natCast]
 rw [if_neg (by omega),Nat.min_eq_left h]
 rw [List.take_of_length_le (by rw [List.length_drop];exact Nat.le_refl _)]
theorem bM.keys {L:Ln} (ok:bM L):L.row.map PV.str=(bJ (L.fs.map (key L.t))).map fun k=>PV.str k.n:=by rw [ok.row];unfold b_;rw [List.map_map];rfl
theorem o6 {L:Ln} (ok:aS L) {a:Ky} (ha:a∈bJ (L.fs.map (key L.t))) {c:Cf} (hc:c∈L.cs) (hg:c.g=none) (e:c.n=a.n):a=key L.t (c.n,c.cur):=by
 obtain ⟨x,hx,rfl⟩:=List.mem_map.mp ((aX _ _).mp ha)
 obtain ⟨c0,hc0,h1,h2,h3⟩:=GG (n:=x.1) (l:=x.2) hx
 have:c0=c:=ok.uniq hc0 hc (h1.trans e.symm)
 subst this
 show key L.t (x.1,x.2)=_
 rw [← h3,← h1]
theorem h_ {L:Ln} (ok:bM L) {a:Ky} (ha:a∈bJ (L.fs.map (key L.t))):a.n∈L.row:=by
 rw [ok.row];unfold b_;exact List.mem_map.mpr ⟨a,ha,rfl⟩
theorem qr {L:Ln} (ok:bM L) {a b:Ky} (ha:a∈bJ (L.fs.map (key L.t))) (hb:b∈bJ (L.fs.map (key L.t))) (h:b.v < a.v):Sz 9000 (fJ L.t a b):=by
 obtain ⟨c,hc,hcn,hcg⟩:=ok.found (h_ ok ha)
 obtain ⟨c',hc',hcn',hcg'⟩:=ok.found (h_ ok hb)
 have ea:=o6 ok.toaS ha hc hcg hcn
 have eb:=o6 ok.toaS hb hc' hcg' hcn'
 have hv:c.cur.v≠c'.cur.v:=by rw [ea,eb] at h;exact fun z=>by have:c'.cur.v < c.cur.v:=h;omega
 rw [ea,eb,← kW hv]
 exact (qY (ok.G0 hc) (ok.G0 hc') hv).mono (by decide)
theorem bM.knd {L:Ln} (ok:bM L):((L.fs.map (key L.t)).map Ky.n).Nodup:=by rw [cI];exact ok.EN
theorem bM.Ho {L:Ln} (ok:bM L):(bJ (L.fs.map (key L.t))).length≤12:=by
 have h1:=ok.rl
 have h2:=congrArg List.length ok.keys
 rw [List.length_map,List.length_map] at h2
 omega
theorem yg {L:Ln} (ok:bM L) {i j:Nat} {a b:Ky} (ha:(bJ (L.fs.map (key L.t)))[i]?=some a) (hb:(bJ (L.fs.map (key L.t)))[j]?=some b) (hij:i < j) {c c':Cf} (hc:c∈L.cs) (hc':c'∈L.cs) (hg:c.g=none) (hg':c'.g=none) (e:c.n=a.n) (e':c'.n=b.n) :
  Ao L.t c.cur c'.cur=if b.v < a.v∧a.p < b.p then some (fJ L.t a b) else none:=by
 have ea:=o6 ok.toaS (List.mem_of_getElem? ha) hc hg e
 have eb:=o6 ok.toaS (List.mem_of_getElem? hb) hc' hg' e'
 have hlt:a.lt b=true:=by
  obtain ⟨hil,ei⟩:=List.getElem?_eq_some_iff.mp ha
  obtain ⟨hjl,ej⟩:=List.getElem?_eq_some_iff.mp hb
  have:=List.pairwise_iff_getElem.mp (cY ok.knd) i j hil hjl hij
  rw [ei,ej] at this;exact this
 rw [ea,eb] at hlt ⊢
 have key:=A8 hlt
 unfold Ao
 by_cases z:c.cur.v≠c'.cur.v∧L.t < jw c.cur c'.cur
 ·rw [if_pos z,if_pos (show (Ov.key L.t (c'.n,c'.cur)).v < (Ov.key L.t (c.n,c.cur)).v∧(Ov.key L.t (c.n,c.cur)).p < (Ov.key L.t (c'.n,c'.cur)).p from key.mp z),kW z.1]
 ·rw [if_neg z,if_neg (show ¬ ((Ov.key L.t (c'.n,c'.cur)).v < (Ov.key L.t (c.n,c.cur)).v∧(Ov.key L.t (c.n,c.cur)).p < (Ov.key L.t (c'.n,c'.cur)).p) from fun y=>z (key.mpr y))]
abbrev c4:Stmt:=(L2.inClass (top 42) 6)
theorem bF:L2.aw ["self","moment","passings","at","hind","fore","met"] ["self","moment"] (L2.aj c4):=dD
def ud (cN cL eM eP:Addr):cj:=fun xs J Q E=>∃ p L a b,xs=[.ref p,.tup [.int a,.int b]]∧aW cN cL J p L∧bM L∧(fN a b=false→E eM J)∧(∀ m:Rat,m.num=a→(m.den:Int)=b→fN a b=true→(m < L.t→E eP J)∧(L.t≤m→Q (.fl ((lV L.t (L.fs.map (key L.t)) m).map aA.v)) J))
theorem kj {cN cL cB eM eP eC f:Addr} {fd:FuncData} (F:bX K "foretold" "Lane.foretold" c4 f fd) (Z:bP mg) (KD_Lane:c_ K mg "Lane" cN) (NA_Lane_now:az K cN "now") (NA_Lane_row:az K cN "row") (O_BadMoment:Own K mg "BadMoment" eM) (O_Past:Own K mg "Past" eP) (C_good_moment:a9 P w K mg base 3 "good_moment" ["moment"] ue) (C_less:a9 P w K mg base 1 "less" ["one","two"] cu) (M_Bells:wY P w K mg base cB 1 "Bells" ["self"] (uX cB)) (m_Lane_meets:cP P w K mg base cN 6 "meets" ["self","name","other"] (ql cN cL eC)) (m_Bells_put:cP P w K mg base cB 3 "put" ["self","moment","hind","fore"] (xX cB)) (m_Bells_told:cP P w K mg base cB 1 "told" ["self"] (uK cB)):aI P w K mg base (cU P w) 7 f fd ["self","moment"] (dz K (ud cN cL eM eP)):=by
 refine HK F bF (fun xs J Q E h=>?_) (fun cdv A outer s H E G xs J Q E2 hr h B=>?_)
 ·obtain ⟨p,L,a,b,rfl,_⟩:=h;rfl
 obtain ⟨p,L,a,bb,rfl,b,ok,qe,q⟩:=h
 have bo:=b.ob
 refine ⟨_,(ai (aU (dZ (bV (aP C_good_moment B hr (by decide) rfl (af (rv 1) ah)))) (aq (de O_BadMoment rfl b9 B.kn rfl (af bz ah))) aJ)
   (ai (aU (bV (aP C_less B hr (by decide) rfl (af (rv 1) (af (aR KD_Lane.cl NA_Lane_now (rv 0)) ah)))) (aq (de O_Past rfl b9 B.kn rfl (af bz ah))) aJ)
   (ai (aG (i:=2) bF.nd rfl (Or.inl rfl) (qj M_Bells B hr (by decide) rfl))
   (ai (eL bY rfl (AV rfl Z.enumerate (af (aR KD_Lane.cl NA_Lane_row (rv 0)) ah)) (lX (n:=2) rfl (cb (bt (i:=3) bF.nd rfl (Or.inl rfl)) (cb (bt (i:=4) bF.nd rfl (Or.inl rfl)) jA))) (aq (eL bY rfl (fq (fK xG (aR KD_Lane.cl NA_Lane_row (rv 0)) (hV (aK dj (rv 3) ag)) g9)) (bt (i:=5) bF.nd rfl (Or.inl rfl)) (ai (aG (i:=6) bF.nd rfl (Or.inl rfl) (ba (pl:=_) m_Lane_meets B hr (by decide) (rv 0) (af (rv 4) (af (rv 5) ah))))
   (aq (aU (dw (d4 (aD rO (rv 6) fY (L2.ax _)) (dn (dZ (bV (aP C_less B hr (by decide) rfl (af (rv 1) (af (rv 6) ah)))))))) (aq (a8 (ba (pl:=_) m_Bells_put B hr (by decide) (rv 2) (af (rv 6) (af (rv 4) (af (rv 5) ah)))))) aJ))))))
   (aq (aB (eZ (pl:=_) m_Bells_told B hr (by decide) (rv 2)))))))),?_⟩
 simp_all! only []
 refine ⟨a,bb,rfl,?_⟩
 cases hg:fN a bb with
 | false =>
  simp_all! only [eW]
  exact qe hg
 | true =>
  have hgm:=of_decide_eq_true hg
  obtain ⟨m,hm1,hm2⟩:∃ m:Rat,m.num=a∧(m.den:Int)=bb:=⟨⟨a,bb.toNat,by omega,by
   have:=hgm.2.2.1
   unfold Int.gcd at this
   show Nat.gcd a.natAbs bb.toNat=1
   rw [show bb.toNat=bb.natAbs by omega];exact this⟩,rfl,by show ((bb.toNat:Nat):Int)=bb;omega⟩
  obtain ⟨q1,q2⟩:=q m hm1 hm2 hg
  have ef:PV.tup [.int a,.int bb]=fr m:=by rw [← hm1,← hm2];rfl
  have sm:Sz 900 m:=⟨(Bd.small (x:=m.num) (by omega) (by omega)).mono (by decide),(Bd.small (x:=(m.den:Int)) (by omega) (by omega)).mono (by decide)⟩
  simp_all! only [bo,m8,ef]
  refine ⟨_,_,rfl,sm.mono (by decide),ok.A3.mono (by decide),?_⟩
  by_cases c1:m < L.t
  ·rw [decide_eq_true c1]
   simp_all! only [eW]
   exact q1 c1
  rw [decide_eq_false c1]
  have q:=q2 (by grind)
  simp_all! only []
  intro pb hpb
  refine ⟨pb,rfl,av,fun r0 hr0=>⟨rfl,?_⟩⟩
  have l0:=wB (y:=.lst []) (z:=.ins cB [("rows",.ref r0)]) hpb hr0
  have nr0:r0≠pb:=by intro e;subst e;rw [av] at hr0;cases hr0
  have b0:Bj cB (put (put (put J pb (.ins cB [])) r0 (.lst [])) pb (.ins cB [("rows",.ref r0)])) pb r0 []:=⟨av,by rw [au nr0];exact av⟩
  generalize put (put (put J pb (.ins cB [])) r0 (.lst [])) pb (.ins cB [("rows",.ref r0)])=J0 at l0 b0 ⊢
  simp_all! only [(b.less l0).ob,(b.less l0).rw,oG]
  obtain ⟨ks,hks⟩:∃ ks,bJ (L.fs.map (key L.t))=ks:=⟨_,rfl⟩
  have hrow:L.row.map PV.str=ks.map fun k=>PV.str k.n:=by rw [← hks];exact ok.keys
  have hkl:ks.length≤12:=by rw [← hks];exact ok.Ho
  have hup:∀ {ps:List (Ky × Ky)},(∀ p∈ps,p.1∈ks∧p.2∈ks)→∀ x∈dh L.t (eS L.t m) ps,Sz 9000 x.m:=fun hp x hx=>by
   obtain ⟨p,hp',hc,rfl⟩:=nZ _ hx
   have:=of_decide_eq_true hc
   exact qr ok (by rw [hks];exact (hp p hp').1) (by rw [hks];exact (hp p hp').2) this.1
  rw [hrow]
  obtain ⟨Inv,hInv⟩:∃ Inv:Nat→Sr→Hq→Prop,∀ i τ J',Inv i τ J'↔∃ (r:Addr) (u3 u4 u5 u6:Option PV),τ=[some (.ref p),some (fr m),some (.ref pb),u3,u4,u5,u6]∧mR J J'∧Bj cB J' pb r (dh L.t (eS L.t m) (rW ks i))∧(dh L.t (eS L.t m) (rW ks i)).length≤12 * i:=⟨_,fun _ _ _=>Iff.rfl⟩
  refine fz Inv ((hInv _ _ _).mpr ⟨r0,_,_,_,_,rfl,l0,b0,Nat.le_refl _⟩) (fun i τ J' h=>?_) ?_ ?_
  ·obtain ⟨r,_,_,_,_,_,l',_⟩:=(hInv _ _ _).mp h
   rw [(b.less l').rw,hrow]
  ·intro i x τ J' hx hv
   obtain ⟨r,u3,u4,u5,u6,rfl,l',bb,hle⟩:=(hInv _ _ _).mp hv
   clear hv
   have hi:i < ks.length:=by have:=(List.getElem?_eq_some_iff.mp hx).1;rw [ib,List.length_map] at this;exact this
   have ha:ks[i]?=some ks[i]:=List.getElem?_eq_getElem hi
   rw [nt _ i (.str (ks[i]).n) (by rw [List.getElem?_map,ha];rfl)] at hx
   cases hx
   generalize ks[i]=a at ha ⊢
   simp_all! only [(b.less l').ob,(b.less l').rw,oG]
   rw [hrow,show (i:Int) + 1=((i + 1:Nat):Int) by omega,rK _ _ (by rw [List.length_map];omega),← List.map_drop]
   have eup:rW ks (i + 1)=rW ks i ++ (ks.drop (i + 1)).map fun b=>(a,b):=by show rW ks i ++ _=_;rw [ha]
   have mup:∀ j,∀ p∈rW ks i ++ ((ks.drop (i + 1)).take j).map (fun b=>(a,b)),p.1∈ks∧p.2∈ks:=fun j p hp=>by
    rcases List.mem_append.mp hp with hp | hp
    ·obtain ⟨_,_,_,_,h3,h4⟩:=jE.mp hp
     exact ⟨List.mem_of_getElem? h3,List.mem_of_getElem? h4⟩
    ·obtain ⟨y,hy,rfl⟩:=List.mem_map.mp hp
     exact ⟨List.mem_of_getElem? ha,List.mem_of_mem_drop (List.mem_of_mem_take hy)⟩
   obtain ⟨In2,hIn2⟩:∃ In2:Nat→Sr→Hq→Prop,∀ j τ J',In2 j τ J'↔∃ (r:Addr) (u5 u6:Option PV),τ=[some (.ref p),some (fr m),some (.ref pb),some (.int (i:Int)),some (.str a.n),u5,u6]∧mR J J'∧Bj cB J' pb r (dh L.t (eS L.t m) (rW ks i ++ ((ks.drop (i + 1)).take j).map fun b=>(a,b)))∧(dh L.t (eS L.t m) (rW ks i ++ ((ks.drop (i + 1)).take j).map fun b=>(a,b))).length≤12 * i + j:=⟨_,fun _ _ _=>Iff.rfl⟩
   refine fz In2 ((hIn2 _ _ _).mpr ⟨r,_,_,rfl,l',by simpa using bb,by simpa using hle⟩) (fun _ _ _ _=>trivial) ?_ ?_
   ·intro j x τ J2 hx hv
    obtain ⟨r2,u5,u6,rfl,l2,bb2,hle2⟩:=(hIn2 _ _ _).mp hv
    clear hv
    have hj:j < (ks.drop (i + 1)).length:=by have:=(List.getElem?_eq_some_iff.mp hx).1;rw [List.length_map] at this;exact this
    have hb:(ks.drop (i + 1))[j]?=some (ks.drop (i + 1))[j]:=List.getElem?_eq_getElem hj
    rw [List.getElem?_map,hb] at hx
    cases hx
    generalize (ks.drop (i + 1))[j]=y at hb ⊢
    have hb':ks[i + 1 + j]?=some y:=by rw [List.getElem?_drop] at hb;exact hb
    have hjl:j < 12:=by rw [List.length_drop] at hj;omega
    have ej:(ks.drop (i + 1)).take (j + 1)=(ks.drop (i + 1)).take j ++ [y]:=by rw [List.take_add_one,hb];rfl
    have ef2:dh L.t (eS L.t m) (rW ks i ++ ((ks.drop (i + 1)).take (j + 1)).map fun b=>(a,b))=m7 L.t (eS L.t m) (dh L.t (eS L.t m) (rW ks i ++ ((ks.drop (i + 1)).take j).map fun b=>(a,b))) (a,y):=by
     rw [ej,List.map_append,← List.append_assoc];exact gq _ _ _ _
    have srt:=nq L.t (eS L.t m) (rW ks i ++ ((ks.drop (i + 1)).take j).map fun b=>(a,b))
    have szs:=hup (mup j)
    generalize dh L.t (eS L.t m) (rW ks i ++ ((ks.drop (i + 1)).take j).map fun b=>(a,b))=rows at bb2 hle2 ef2 srt szs
    have lW:eS L.t m (a,y)=false→∀ {v5 v6},In2 (j + 1) [some (.ref p),some (fr m),some (.ref pb),some (.int (i:Int)),some (.str a.n),v5,v6] J2:=fun hc v5 v6=>by
     have e:m7 L.t (eS L.t m) rows (a,y)=rows:=by unfold m7;rw [if_neg (by rw [hc];decide)]
     exact (hIn2 _ _ _).mpr ⟨r2,_,_,rfl,l2,by rw [ef2,e];exact bb2,by rw [ef2,e];omega⟩
    have b2:=b.less l2
    simp_all! only [b2.ob]
    refine ⟨e9 _ _ _ _,p,L,a.n,y.n,rfl,b2,ok.toaS,fun c hc c' hc' e e' hg hg'=>?_,fun z=>?_⟩
    ·have hmet:=yg ok (by rw [hks];exact ha) (by rw [hks];exact hb') (by omega) hc hc' hg hg' e e'
     rw [hmet]
     by_cases c2:y.v < a.v∧a.p < y.p
     ·rw [if_pos c2]
      have smk:=qr ok (by rw [hks];exact List.mem_of_getElem? ha) (by rw [hks];exact List.mem_of_getElem? hb') c2.1
      simp_all! only [gv,oa,cu]
      refine ⟨sm.mono (by decide),smk,?_⟩
      by_cases c3:m < fJ L.t a y
      ·rw [if_pos c3]
       exact lW (decide_eq_false (fun z=>by have:=z.2.2;grind))
      ·rw [if_neg c3]
       have hcp:eS L.t m (a,y)=true:=decide_eq_true ⟨c2.1,c2.2,by grind⟩
       have e:m7 L.t (eS L.t m) rows (a,y)=iB ⟨fJ L.t a y,a.n,y.n⟩ (c9 a.n y.n rows):=by unfold m7;rw [if_pos hcp];rfl
       simp_all! only [bb2.o]
       refine ⟨HI _,pb,r2,rows,fJ L.t a y,a.n,y.n,rfl,bb2,srt,by omega,smk,szs,fun r' hr'=>?_⟩
       have nr:r'≠pb:=by intro z;subst z;rw [bb2.o] at hr';cases hr'
       refine (hIn2 _ _ _).mpr ⟨r',_,_,rfl,nI l2 hpb hr',⟨av,by rw [au nr,av,ef2,e]⟩,?_⟩
       rw [ef2,e,x8]
       have:=nj a.n y.n rows
       omega
     ·rw [if_neg c2]
      simp_all! only [gv]
      exact lW (decide_eq_false (fun z=>c2 ⟨z.1,z.2.1⟩))
    ·rcases z with z | z
     ·exact absurd (h_ ok (by rw [hks];exact List.mem_of_getElem? ha)) z
     ·exact absurd (h_ ok (by rw [hks];exact List.mem_of_getElem? hb')) z
   ·intro τ J2 hv
    obtain ⟨r2,u5,u6,rfl,l2,bb2,hle2⟩:=(hIn2 _ _ _).mp hv
    rw [List.length_map,List.take_length,← eup] at bb2 hle2
    rw [List.length_drop] at hle2
    exact (hInv _ _ _).mpr ⟨r2,_,_,_,_,rfl,l2,bb2,by omega⟩
  ·intro τ J' hv
   obtain ⟨r,u3,u4,u5,u6,rfl,l',bb,hle⟩:=(hInv _ _ _).mp hv
   rw [ib,List.length_map,← hks,AL ok.knd] at bb
   simp_all! only [bb.o]
   exact ⟨Hn _,pb,r,_,rfl,bb,.inl (Fg.less l' q)⟩
theorem qP {m:Rat} (h:fN m.num m.den=true):Sc fR MM m∧0≤m:=by
 have h:=of_decide_eq_true h
 have hd:m.den≤60:=by omega
 constructor
 ·have h1:Sc m.den m.num.natAbs m:=⟨m.num,by have:=cast_eq m;rw [this];rfl,Nat.le_refl _⟩
  obtain ⟨k,hk⟩:=JT m.den m.den_pos hd
  have h2:=h1.scale (E:=k)
  rw [show k * m.den=fR by rw [hk,Nat.mul_comm]] at h2
  refine h2.mono ?_
  have h3:m.num.natAbs≤1000000 * m.den:=by omega
  have h4:k * m.num.natAbs≤k * (1000000 * m.den):=Nat.mul_le_mul_left _ h3
  have h5:k * (1000000 * m.den)=1000000 * fR:=by rw [hk];rw [Nat.mul_left_comm,Nat.mul_comm k]
  unfold MM
  omega
 ·exact Rat.num_nonneg.mp h.2.2.2.1
theorem aS.Fb {L:Ln} (h:aS L) {m:Rat} (hm:L.t≤m) (hg:fN m.num m.den=true):aS { L with t:=m } :=
 ⟨h.nd,h.ne,fun c hc l hl=>Rat.le_trans (h.le c hc l hl) hm,h.ck,h.len,fun c hc q e=>⟨(h.gz c hc q e).1,Rat.le_trans (h.gz c hc q e).2 hm⟩,(qP hg).2,(qP hg).1,h.many,h.rm,h.rn,h.rl⟩
abbrev d9:Stmt:=(L2.inClass (top 42) 5)
theorem iy:L2.aw ["self","moment","passings"] ["self","moment"] (L2.aj d9):=dD
def Cu (cN cL eM eP:Addr):cj:=fun xs J Q E=>∃ p L a b,xs=[.ref p,.tup [.int a,.int b]]∧aW cN cL J p L∧bM L∧(fN a b=false→E eM J)∧(∀ m:Rat,m.num=a→(m.den:Int)=b→fN a b=true→(m < L.t→E eP J)∧(L.t≤m→∀ J' o',aW cN cL J' p { L with t:=m,o:=o',row:=b_ m L.fs }→bM { L with t:=m,o:=o',row:=b_ m L.fs }→Mv J J' (L.own p) (Ln.own { L with t:=m,o:=o',row:=b_ m L.fs } p)→Q (.fl ((lV L.t (L.fs.map (key L.t)) m).map aA.v)) J'))
theorem mL {cN cL eM eP f:Addr} {fd:FuncData} (F:bX K "go_to" "Lane.go_to" d9 f fd) (Z:bP mg) (KD_Lane:c_ K mg "Lane" cN) (NA_Lane_now:az K cN "now") (m_Lane_foretold:cP P w K mg base cN 7 "foretold" ["self","moment"] (ud cN cL eM eP)) (m_Lane_settle:cP P w K mg base cN 7 "settle" ["self"] (fP cN cL)):aI P w K mg base (cU P w) 8 f fd ["self","moment"] (dz K (Cu cN cL eM eP)):=by
 simp_arith [iy]
 ·obtain ⟨p,L,a,b,rfl,_⟩:=h;rfl
 obtain ⟨p,L,a,bb,rfl,b,ok,qe,q⟩:=h
 have bo:=b.ob
 refine ⟨_,(ai (aG (i:=2) iy.nd rfl (Or.inl rfl) (ba (pl:=_) m_Lane_foretold B hr (by decide) (rv 0) (af (rv 1) ah)))
   (ai (fB KD_Lane.cl NA_Lane_now (rv 0) (rv 1))
   (ai (a8 (eZ (pl:=_) m_Lane_settle B hr (by decide) (rv 0)))
   (aq (aB (rv 2)))))),?_⟩
 simp_all! only [bo]
 refine ⟨e9 _ _ _ _,p,L,a,bb,rfl,b,ok,qe,fun m h1 h2 hg=>⟨(q m h1 h2 hg).1,fun hm=>?_⟩⟩
 have q:=(q m h1 h2 hg).2 hm
 have ef:PV.tup [.int a,.int bb]=fr m:=by rw [← h1,← h2];rfl
 have hgm:fN m.num m.den=true:=by rw [h1,h2];exact hg
 have ok1:=ok.toaS.Fb hm hgm
 simp_all! only [bo,ef]
 refine ⟨by show (3:Nat) < 1000;decide,?_⟩
 have b1:aW cN cL (put J p (.ins cN [("now",fr m),("logs",.ref L.d),("row",.ref L.o)])) p { L with t:=m } :=
  ⟨av,by show put J p _ L.d=_;rw [au b.A6];exact b.dc,by show put J p _ L.o=_;rw [au b.BE];exact b.rw,fun c hc=>⟨by rw [au (b.Hj hc)];exact (b.lg c hc).o,by rw [au (b.EI hc)];exact (b.lg c hc).l⟩,b.ap,b.ao⟩
 have mv1:Mv J (put J p (.ins cN [("now",fr m),("logs",.ref L.d),("row",.ref L.o)])) (L.own p) (L.own p):=eO (.inl rfl) fun a h=>.inl h
 generalize put J p (.ins cN [("now",fr m),("logs",.ref L.d),("row",.ref L.o)])=J1 at b1 mv1 ⊢
 simp_all! only [b1.ob]
 refine ⟨e9 _ _ _ _,p,{ L with t:=m },rfl,b1,ok1,fun J2 o' b2 mv2=>?_⟩
 simp_all! only []
 exact q J2 o' b2 (bM.settled ok1 o') (mv1.trans mv2)
def Cf.turn (c:Cf) (t:Rat) (v:Int):Cf:={ c with w:=turned c.w t v }
def cy (n:Str) (t:Rat) (v:Int) (c:Cf):Cf:=if c.n=n then c.turn t v else c
theorem i4 (n:Str) (t:Rat) (v:Int) (c:Cf):(cy n t v c).n=c.n∧(cy n t v c).a=c.a∧(cy n t v c).r=c.r∧(cy n t v c).g=c.g:=by unfold cy;split <;> exact ⟨rfl,rfl,rfl,rfl⟩
theorem df {α β:Type} {f:α→β} {g:α→α} (h:∀ x,f (g x)=f x) (l:List α):(l.map g).map f=l.map f:=by rw [List.map_map];exact List.map_congr_left fun x _=>h x
theorem aS.map {L:Ln} (h:aS L) {f:Cf→Cf} (hn:∀ c,(f c).n=c.n∧(f c).a=c.a∧(f c).r=c.r∧(f c).g=c.g) (hw:∀ c∈L.cs,(f c).w≠[]∧(∀ l∈(f c).w,l.m≤L.t∧mD l)∧(f c).w.length≤200):aS { L with cs:=L.cs.map f }:=by
 have mem:∀ c∈L.cs.map f,∃ c0∈L.cs,f c0=c:=fun c hc=>by obtain ⟨c0,h0,e⟩:=List.mem_map.mp hc;exact ⟨c0,h0,e⟩
 have hfs:(Ln.fs { L with cs:=L.cs.map f }).map (·.1)=L.fs.map (·.1):=by
  rw [dS,dS]
  unfold Ln.wb
  show ((L.cs.map f).filter _).map Cf.n=_
  rw [List.filter_map,List.map_map]
  have e1:(fun c:Cf=>c.g.isNone) ∘ f=fun c=>c.g.isNone:=by funext c;show (f c).g.isNone=_;rw [(hn c).2.2.2]
  rw [e1]
  exact List.map_congr_left fun c _=>(hn c).1
 refine ⟨?_,?_,?_,?_,?_,?_,h.t0,h.ts,by show (L.cs.map f).length≤100;rw [List.length_map];exact h.many,fun n=>by rw [hfs];exact h.rm n,h.rn,h.rl⟩
 ·show ((L.cs.map f).map Cf.n).Nodup
  rw [df (fun c=>(hn c).1)];exact h.nd
 ·intro c hc;obtain ⟨c0,h0,rfl⟩:=mem c hc;exact (hw c0 h0).1
 ·intro c hc l hl;obtain ⟨c0,h0,rfl⟩:=mem c hc;exact ((hw c0 h0).2.1 l hl).1
 ·intro c hc l hl;obtain ⟨c0,h0,rfl⟩:=mem c hc;exact ((hw c0 h0).2.1 l hl).2
 ·intro c hc;obtain ⟨c0,h0,rfl⟩:=mem c hc;exact (hw c0 h0).2.2
 ·intro c hc q e;obtain ⟨c0,h0,rfl⟩:=mem c hc;exact h.gz c0 h0 q (by rw [← (hn c0).2.2.2];exact e)
theorem aS.Ci {L:Ln} (h:aS L) {c:Cf} (hc:c∈L.cs):c.w≠[]∧(∀ l∈c.w,l.m≤L.t∧mD l)∧c.w.length≤200:=⟨h.ne c hc,fun l hl=>⟨h.le c hc l hl,h.ck c hc l hl⟩,h.len c hc⟩
theorem aS.Ct {L:Ln} (h:aS L) {c:Cf} (hc:c∈L.cs) (hl:c.w.length < 200) {v:Int} (hv:v.natAbs≤1000):(c.turn L.t v).w≠[]∧(∀ l∈(c.turn L.t v).w,l.m≤L.t∧mD l)∧(c.turn L.t v).w.length≤200:=by
 refine ⟨j8 (h.ne c hc),fun l hl'=>?_,?_⟩
 ·rcases md hl' with k | ⟨l0,k,rfl⟩
  ·exact ⟨h.le c hc l k,h.ck c hc l k⟩
  ·exact ⟨Rat.le_refl,(h.ck c hc l0 k).at (h.le c hc l0 k) h.ts hv⟩
 ·have:=gm c.w L.t v
  show (turned c.w L.t v).length≤200
  omega
theorem aW.turn {cN cL:Addr} {J:Hq} {p:Addr} {L:Ln} (h:aW cN cL J p L) (ok:aS L) {c:Cf} (hc:c∈L.cs) {t:Rat} {v:Int}:aW cN cL (put J c.r (.lst ((turned c.w t v).map aQ.V))) p { L with cs:=L.cs.map (cy c.n t v) }:=by
 have hcs:=i4 c.n t v
 refine ⟨by rw [au (Ne.symm (h.EI hc))];exact h.ob,?_,?_,fun x hx=>?_,?_,fun x hx=>?_⟩
 ·show put J c.r _ L.d=_
  rw [au (Ne.symm (h.IW hc)),h.dc]
  show _=Option.some (HQ.dct ((L.cs.map (cy c.n t v)).map fun c=>(c.n,PV.ref c.a)) L.e)
  rw [df (f:=fun c:Cf=>(c.n,PV.ref c.a)) (fun x=>by rw [(hcs x).1,(hcs x).2.1])]
 ·show put J c.r _ L.o=_
  rw [au (Ne.symm (h.ao c hc))];exact h.rw
 ·obtain ⟨x0,h0,rfl⟩:=List.mem_map.mp hx
  have hl:=h.lg x0 h0
  refine ⟨?_,?_⟩
  ·rw [(hcs x0).2.1,(hcs x0).2.2.1,(hcs x0).2.2.2,au (h.JM h0 hc)];exact hl.o
  ·rw [(hcs x0).2.2.1]
   by_cases e:x0.n=c.n
   ·have:x0=c:=ok.uniq h0 hc e
    subst this
    rw [av]
    unfold cy;rw [if_pos rfl];rfl
   ·have hr:x0.r≠c.r:=fun z=>e (by
     obtain ⟨i,hi,rfl⟩:=List.getElem_of_mem h0
     obtain ⟨j,hj,rfl⟩:=List.getElem_of_mem hc
     have:=(List.getElem_inj (xs:=L.cs.map Cf.r) (i:=i) (j:=j) (h₀:=by simpa using hi) (h₁:=by simpa using hj) h.ap).mp (by rw [List.getElem_map,List.getElem_map];exact z)
     subst this;rfl)
    rw [au hr]
    unfold cy;rw [if_neg e];exact hl.l
 ·show ((L.cs.map (cy c.n t v)).map Cf.r).Nodup
  rw [df (fun x=>(hcs x).2.2.1)];exact h.ap
 ·obtain ⟨x0,h0,rfl⟩:=List.mem_map.mp hx
  rw [(hcs x0).2.2.1];exact h.ao x0 h0
theorem oQ {L:Ln} {p:Addr} {f:Cf→Cf} (hn:∀ c,(f c).n=c.n∧(f c).a=c.a∧(f c).r=c.r∧(f c).g=c.g) (a:Addr):Ln.own { L with cs:=L.cs.map f } p a↔L.own p a:=by
 unfold Ln.own
 constructor
 ·rintro (h | h | h | ⟨c,hc,h⟩)
  ·exact .inl h
  ·exact .inr (.inl h)
  ·exact .inr (.inr (.inl h))
  ·obtain ⟨c0,h0,rfl⟩:=List.mem_map.mp hc
   rw [(hn c0).2.1,(hn c0).2.2.1] at h
   exact .inr (.inr (.inr ⟨c0,h0,h⟩))
 ·rintro (h | h | h | ⟨c,hc,h⟩)
  ·exact .inl h
  ·exact .inr (.inl h)
  ·exact .inr (.inr (.inl h))
  ·exact .inr (.inr (.inr ⟨f c,List.mem_map.mpr ⟨c,hc,rfl⟩,by rw [(hn c).2.1,(hn c).2.2.1];exact h⟩))
abbrev fm:Stmt:=(L2.inClass (top 42) 3)
theorem pF:L2.aw ["self","name","pace"] ["self","name","pace"] (L2.aj fm):=dD
def uz (cN cL eC eF:Addr):cj:=fun xs J Q E=>∃ p L n v,xs=[.ref p,.str n,.int v]∧aW cN cL J p L∧bM L∧(∀ c∈L.cs,c.w.length < 200)∧(n ∉ L.row→E eC J)∧(n∈L.row→¬ v.natAbs≤1000→E eF J)∧(n∈L.row→v.natAbs≤1000→∀ J' L',aW cN cL J' p L'→bM L'→L'.cs=L.cs.map (cy n L.t v)→L'.t=L.t→Mv J J' (L.own p) (L'.own p)→Q .non J')
theorem oT {cN cL eC eF f:Addr} {fd:FuncData} (F:bX K "turn" "Lane.turn" fm f fd) (Z:bP mg) (KD_Lane:c_ K mg "Lane" cN) (NA_Lane_logs:az K cN "logs") (NA_Lane_now:az K cN "now") {t_FASTEST:Tok} (g_FASTEST:mg "FASTEST"=some (.int 1000 t_FASTEST)) (O_TooFar:Own K mg "TooFar" eF) (m_Lane_must_be_there:cP P w K mg base cN 1 "must_be_there" ["self","name"] (lp cN cL eC)) (m_Log_turn:cP P w K mg base cL 5 "turn" ["self","moment","pace"] (oP cL)) (m_Lane_settle:cP P w K mg base cN 7 "settle" ["self"] (fP cN cL)):aI P w K mg base (cU P w) 8 f fd ["self","name","pace"] (dz K (uz cN cL eC eF)):=by
 simp_arith [pF]
 ·obtain ⟨p,L,n,v,rfl,_⟩:=h;rfl
 obtain ⟨p,L,n,v,rfl,b,ok,hlen,qc,qf,q⟩:=h
 have bo:=b.ob
 have bd:=b.dc
 refine ⟨_,(ai (a8 (ba (pl:=_) m_Lane_must_be_there B hr (by decide) (rv 0) (af (rv 1) ah)))
   (ai (aU (aD kE (aO oF rfl Z.abs boot_abs (af (rv 2) ah)) (er (v:=.int 1000) (.int 1000) rfl g_FASTEST ⟨_,rfl⟩ (fun _ _=>rfl)) (L2.ax _)) (aq (de O_TooFar rfl b9 B.kn rfl (af bz ah))) aJ)
   (ai (a8 (ba (pl:=_) m_Log_turn B hr (by decide) (ak dB (aR KD_Lane.cl NA_Lane_logs (rv 0)) (rv 1) (fun _ _=>rfl)) (af (aR KD_Lane.cl NA_Lane_now (rv 0)) (af (rv 2) ah))))
   (aq (a8 (eZ (pl:=_) m_Lane_settle B hr (by decide) (rv 0))))))),?_⟩
 simp_all! only [bo]
 refine ⟨e9 _ _ _ _,p,L,n,rfl,b,fun hn=>?_,qc⟩
 simp_all! only []
 have habs:(1000 < if v < 0 then -v else v)↔¬ v.natAbs≤1000:=by split <;> omega
 by_cases hv:v.natAbs≤1000
 ·rw [if_neg (fun z=>habs.mp z hv)]
  obtain ⟨c,hc,rfl,hg⟩:=ok.found hn
  have lo:=(b.lg c hc).o
  have ok1:aS { L with cs:=L.cs.map (cy c.n L.t v) }:=ok.toaS.map (i4 c.n L.t v) fun x hx=>by
   unfold cy
   split
   ·exact ok.toaS.Ct hx (hlen x hx) hv
   ·exact ok.toaS.Ci hx
  have b1:=b.turn ok.toaS hc (t:=L.t) (v:=v)
  have mv1:Mv J (put J c.r (.lst ((turned c.w L.t v).map aQ.V))) (L.own p) (Ln.own { L with cs:=L.cs.map (cy c.n L.t v) } p):=eO (.inr (.inr (.inr ⟨c,hc,.inr rfl⟩))) fun a h=>.inl ((oQ (i4 c.n L.t v) a).mp h)
  simp_all! only [bo,m8,w6,bd,ok.va hc,lo]
  refine ⟨Gu _ _,c.a,c.r,c.w,c.g,L.t,v,rfl,b.lg c hc,ok.ne c hc,Nat.le_trans (ok.len c hc) (by decide),ok.A3,fun l hl=>(ok.ck c hc l hl).EK,?_⟩
  generalize put J c.r (.lst ((turned c.w L.t v).map aQ.V))=J1 at b1 mv1 ⊢
  simp_all! only [b1.ob]
  refine ⟨e9 _ _ _ _,p,_,rfl,b1,ok1,fun J2 o' b2 mv2=>?_⟩
  exact q hn hv J2 _ b2 (bM.settled ok1 o') rfl rfl (mv1.trans mv2)
 ·rw [if_pos (habs.mpr hv)]
  simp_all! only [eW]
  exact qf hn hv
def c7 (t:Rat) (c:Cf):Cf:=if c.g.isNone=true then c.turn t (-c.cur.v) else c
def bC (t:Rat) (row:List Str) (c:Cf):Cf:=if c.n∈row then c.turn t (-c.cur.v) else c
theorem jF (t:Rat) (row:List Str) (c:Cf):(bC t row c).n=c.n∧(bC t row c).a=c.a∧(bC t row c).r=c.r∧(bC t row c).g=c.g:=by unfold bC;split <;> exact ⟨rfl,rfl,rfl,rfl⟩
theorem hW {L:Ln} (ok:aS L):L.cs.map (bC L.t L.row)=L.cs.map (c7 L.t):=by
 refine List.map_congr_left fun c hc=>?_
 have h:c.n∈L.row↔c.g.isNone=true:=by
  rw [ok.rm,dS,List.mem_map]
  constructor
  ·rintro ⟨c',hc',e⟩
   have h':=Ln.cx.mp hc'
   rw [ok.uniq h'.1 hc e] at h'
   rw [h'.2];rfl
  ·intro e
   exact ⟨c,Ln.cx.mpr ⟨hc,by cases hg:c.g with | none=>rfl | some q=>rw [hg] at e;cases e⟩,rfl⟩
 unfold bC c7
 by_cases e:c.n∈L.row
 ·rw [if_pos e,if_pos (h.mp e)]
 ·rw [if_neg e,if_neg (fun z=>e (h.mpr z))]
theorem aS.bC {L:Ln} (ok:aS L) (hlen:∀ c∈L.cs,c.w.length < 200) (row:List Str):aS { L with cs:=L.cs.map (bC L.t row) }:=ok.map (jF L.t row) fun x hx=>by
 unfold Ov.bC
 split
 ·exact ok.Ct hx (hlen x hx) (by have:=(ok.ck x hx _ (Cf.fc (ok.ne x hx)).2).v;omega)
 ·exact ok.Ci hx
abbrev eA:Stmt:=(L2.inClass (top 42) 4)
theorem fw:L2.aw ["self","name","pace"] ["self"] (L2.aj eA):=dD
def qh (cN cL:Addr):cj:=fun xs J Q E=>∃ p L,xs=[.ref p]∧aW cN cL J p L∧bM L∧(∀ c∈L.cs,c.w.length < 200)∧(∀ J' L',aW cN cL J' p L'→bM L'→L'.cs=L.cs.map (c7 L.t)→L'.t=L.t→Mv J J' (L.own p) (L'.own p)→Q .non J')
theorem mH {cN cL eC f:Addr} {fd:FuncData} (F:bX K "about" "Lane.about" eA f fd) (Z:bP mg) (KD_Lane:c_ K mg "Lane" cN) (NA_Lane_row:az K cN "row") (NA_Lane_logs:az K cN "logs") (NA_Lane_now:az K cN "now") (m_Lane_leg_of:cP P w K mg base cN 4 "leg_of" ["self","name"] (gU cN cL eC)) (m_Log_turn:cP P w K mg base cL 5 "turn" ["self","moment","pace"] (oP cL)) (m_Lane_settle:cP P w K mg base cN 7 "settle" ["self"] (fP cN cL)):aI P w K mg base (cU P w) 8 f fd ["self"] (dz K (qh cN cL)):=by
 simp_arith [fw]
 ·obtain ⟨p,L,rfl,_⟩:=h;rfl
 obtain ⟨p,L,rfl,b,ok,hlen,q⟩:=h
 refine ⟨_,(ai (eL bY rfl (fq (aR KD_Lane.cl NA_Lane_row (rv 0))) (bt (i:=1) fw.nd rfl (Or.inl rfl)) (ai (aG (i:=2) fw.nd rfl (Or.inl rfl) (ak ar (ba (pl:=_) m_Lane_leg_of B hr (by decide) (rv 0) (af (rv 1) ah)) ag (fun _ _=>rfl)))
   (aq (a8 (ba (pl:=_) m_Log_turn B hr (by decide) (ak dB (aR KD_Lane.cl NA_Lane_logs (rv 0)) (rv 1) (fun _ _=>rfl)) (af (aR KD_Lane.cl NA_Lane_now (rv 0)) (af (nY j2 (rv 2)) ah)))))))
   (aq (a8 (eZ (pl:=_) m_Lane_settle B hr (by decide) (rv 0))))),?_⟩
 simp_all! only [b.ob,b.rw,oG]
 have hid:L.cs.map (bC L.t (L.row.take 0))=L.cs:=by
  have:∀ c∈L.cs,bC L.t (L.row.take 0) c=c:=fun c _=>by unfold bC;rw [if_neg (by simp)]
  rw [List.map_congr_left this,List.map_id']
 obtain ⟨Inv,hInv⟩:∃ Inv:Nat→Sr→Hq→Prop,∀ i τ J',Inv i τ J'↔∃ (u1 u2:Option PV),τ=[some (.ref p),u1,u2]∧aW cN cL J' p { L with cs:=L.cs.map (bC L.t (L.row.take i)) }∧Mv J J' (L.own p) (L.own p):=⟨_,fun _ _ _=>Iff.rfl⟩
 refine fz Inv ((hInv _ _ _).mpr ⟨_,_,rfl,by rw [hid];exact b,Mv.refl _ _⟩) (fun i τ J' h=>?_) ?_ ?_
 ·obtain ⟨_,_,_,b',_⟩:=(hInv _ _ _).mp h
  have:=b'.rw
  simp only at this
  rw [this]
 ·intro i x τ J' hx hv
  obtain ⟨u1,u2,rfl,b',mv'⟩:=(hInv _ _ _).mp hv
  clear hv
  have hi:i < L.row.length:=by have:=(List.getElem?_eq_some_iff.mp hx).1;simpa using this
  have hget:L.row[i]?=some L.row[i]:=List.getElem?_eq_getElem hi
  rw [List.getElem?_map,hget] at hx
  cases hx
  have hn:L.row[i]∈L.row:=List.getElem_mem hi
  have et:L.row.take (i + 1)=L.row.take i ++ [L.row[i]]:=by rw [List.take_add_one,hget];rfl
  have hnd:(L.row.take (i + 1)).Nodup:=ok.rn.sublist (List.take_sublist _ _)
  rw [et] at hnd
  have hnew:=(gj hnd).2
  generalize L.row[i]=n at hn et hnew ⊢
  obtain ⟨c,hc,rfl,hg⟩:=ok.found hn
  have oki:=ok.toaS.bC hlen (L.row.take i)
  have ecc:bC L.t (L.row.take i) c=c:=by unfold bC;rw [if_neg hnew]
  have hci:c∈L.cs.map (bC L.t (L.row.take i)):=List.mem_map.mpr ⟨c,hc,ecc⟩
  simp_all! only [b'.ob]
  refine ⟨e9 _ _ _ _,p,_,c.n,rfl,b',oki,fun c' hc' e' hg'=>?_,fun z=>absurd hn z⟩
  have ec':c'=c:=oki.uniq hc' hci e'
  subst ec'
  have hcv:=(ok.ck c' hc _ (Cf.fc (ok.ne c' hc)).2).v
  have lo:=(b'.lg c' hci).o
  have bo':=b'.ob
  have bd':=b'.dc
  simp only at bo' bd'
  simp_all! only [kC,bo',m8,w6,bd',lo]
  have hva:=oki.va hci
  simp only at hva
  simp_all! only [hva,lo,bo',m8]
  refine ⟨Gu _ _,c'.a,c'.r,c'.w,c'.g,L.t,-c'.cur.v,rfl,b'.lg c' hci,ok.ne c' hc,Nat.le_trans (ok.len c' hc) (by decide),ok.A3,fun l hl=>(ok.ck c' hc l hl).EK,?_⟩
  have b1:=b'.turn oki hci (t:=L.t) (v:=-c'.cur.v)
  have em:(L.cs.map (bC L.t (L.row.take i))).map (cy c'.n L.t (-c'.cur.v))=L.cs.map (bC L.t (L.row.take (i + 1))):=by
   rw [List.map_map]
   refine List.map_congr_left fun x hx=>?_
   show cy c'.n L.t (-c'.cur.v) (bC L.t (L.row.take i) x)=_
   by_cases e:x.n=c'.n
   ·have:x=c':=ok.uniq hx hc e
    subst this
    rw [ecc]
    unfold cy Ov.bC
    rw [if_pos rfl,if_pos (by rw [et];simp)]
   ·unfold cy
    rw [if_neg (by rw [(jF L.t (L.row.take i) x).1];exact e)]
    unfold Ov.bC
    rw [et]
    by_cases e2:x.n∈L.row.take i
    ·rw [if_pos e2,if_pos (List.mem_append.mpr (.inl e2))]
    ·rw [if_neg e2,if_neg (fun z=>by
      rcases List.mem_append.mp z with z | z
      ·exact e2 z
      ·exact e (by simpa using z))]
  simp only [em] at b1
  refine (hInv _ _ _).mpr ⟨_,_,rfl,b1,mv'.trans (eO (.inr (.inr (.inr ⟨c',hc,.inr rfl⟩))) fun a h=>.inl h)⟩
 ·intro τ J' hv
  obtain ⟨u1,u2,rfl,b',mv'⟩:=(hInv _ _ _).mp hv
  rw [List.length_map,List.take_length,hW ok.toaS] at b'
  have oki:aS { L with cs:=L.cs.map (c7 L.t) }:=by rw [← hW ok.toaS];exact ok.toaS.bC hlen L.row
  simp_all! only [b'.ob]
  refine ⟨e9 _ _ _ _,p,_,rfl,b',oki,fun J2 o' b2 mv2=>?_⟩
  refine q J2 _ b2 (bM.settled oki o') rfl rfl (mv'.trans ⟨fun a o e n=>mv2.keep a o e fun z=>n ?_,fun a h=>?_,mv2.mono⟩)
  ·rw [← hW ok.toaS] at z;exact (oQ (jF L.t L.row) a).mp z
  ·rcases mv2.own a h with h' | h'
   ·rw [← hW ok.toaS] at h';exact .inl ((oQ (jF L.t L.row) a).mp h')
   ·exact .inr h'
def bp (n:Str) (t:Rat) (c:Cf):Cf:=if c.n=n then { c with g:=some t } else c
theorem dT (n:Str) (t:Rat) (c:Cf):(bp n t c).n=c.n∧(bp n t c).a=c.a∧(bp n t c).r=c.r∧(bp n t c).w=c.w:=by unfold bp;split <;> exact ⟨rfl,rfl,rfl,rfl⟩
theorem qZ {L L':Ln} {n:Str} {t:Rat} (e:L'.cs=L.cs.map (bp n t)):L'.fs=L.fs.filter fun x=>decide (x.1≠n):=by
 unfold Ln.fs Ln.wb
 rw [e,List.filter_map,List.map_map,List.filter_map,List.filter_filter]
 have e1:(fun c:Cf=>c.g.isNone) ∘ bp n t=fun c=>((fun x:Str × aQ=>decide (x.1≠n)) ∘ fun c:Cf=>(c.n,c.cur)) c && c.g.isNone:=by
  funext c
  show (bp n t c).g.isNone=(decide (c.n≠n) && c.g.isNone)
  unfold bp
  by_cases z:c.n=n
  ·rw [if_pos z];simp [z]
  ·rw [if_neg z];simp [z]
 rw [e1]
 refine List.map_congr_left fun c hc=>?_
 show ((bp n t c).n,(bp n t c).cur)=_
 unfold Cf.cur
 rw [(dT n t c).1,(dT n t c).2.2.2]
theorem rE {ks:List Ky} (h:(ks.map Ky.n).Nodup) (f:Ky→Bool):bJ (ks.filter f)=(bJ ks).filter f:=by
 have hs:((ks.filter f).map Ky.n).Nodup:=h.sublist (List.Sublist.map _ List.filter_sublist)
 refine jv (lt:=Ky.lt) Ky.zW Ky.tr (cY hs) ((cY h).filter _) fun x=>?_
 rw [aX,List.mem_filter,List.mem_filter,aX]
theorem qm {t:Rat} {fs:List (Str × aQ)} (h:(fs.map (·.1)).Nodup) (n:Str):b_ t (fs.filter fun x=>decide (x.1≠n))=(b_ t fs).filter fun x=>decide (x≠n):=by
 unfold b_
 have e:(fs.filter fun x=>decide (x.1≠n)).map (key t)=(fs.map (key t)).filter fun k=>decide (k.n≠n):=by rw [List.filter_map];rfl
 rw [e,rE (by rw [cI];exact h),List.filter_map]
 rfl
theorem erase_filter {l:List Str} (h:l.Nodup) {j:Nat} {n:Str} (hj:l[j]?=some n):l.eraseIdx j=l.filter fun x=>decide (x≠n):=by
 obtain ⟨hl,e⟩:=List.getElem?_eq_some_iff.mp hj
 rw [List.eraseIdx_eq_take_drop_succ]
 have hd:l=l.take j ++ n :: l.drop (j + 1):=by rw [← e,← List.drop_eq_getElem_cons hl,List.take_append_drop]
 have hn:=h
 rw [hd,List.nodup_append] at hn
 have k1:∀ x∈l.take j,x≠n:=fun x hx=>hn.2.2 x hx n (by simp)
 have k2:∀ x∈l.drop (j + 1),x≠n:=fun x hx z=>(List.nodup_cons.mp hn.2.1).1 (by rw [← z];exact hx)
 conv=>rhs;rw [hd]
 rw [List.filter_append,List.filter_cons,if_neg (by simp),List.filter_eq_self.mpr fun x hx=>decide_eq_true (k1 x hx),List.filter_eq_self.mpr fun x hx=>decide_eq_true (k2 x hx)]
theorem bM.leave {L:Ln} (ok:bM L) (n:Str):bM { L with cs:=L.cs.map (bp n L.t),row:=L.row.filter fun x=>decide (x≠n) }:=by
 have hfs:Ln.fs { L with cs:=L.cs.map (bp n L.t),row:=L.row.filter fun x=>decide (x≠n) }=L.fs.filter fun x=>decide (x.1≠n):=qZ (L:=L) (t:=L.t) rfl
 have mem:∀ c∈L.cs.map (bp n L.t),∃ c0∈L.cs,bp n L.t c0=c:=fun c hc=>by obtain ⟨c0,h0,e⟩:=List.mem_map.mp hc;exact ⟨c0,h0,e⟩
 have hw:∀ c,(bp n L.t c).w=c.w:=fun c=>(dT n L.t c).2.2.2
 refine ⟨⟨?_,?_,?_,?_,?_,?_,ok.t0,ok.ts,?_,?_,?_,?_⟩,?_⟩
 ·show ((L.cs.map (bp n L.t)).map Cf.n).Nodup
  rw [df (fun c=>(dT n L.t c).1)];exact ok.nd
 ·intro c hc;obtain ⟨c0,h0,rfl⟩:=mem c hc;rw [hw];exact ok.ne c0 h0
 ·intro c hc l hl;obtain ⟨c0,h0,rfl⟩:=mem c hc;rw [hw] at hl;exact ok.le c0 h0 l hl
 ·intro c hc l hl;obtain ⟨c0,h0,rfl⟩:=mem c hc;rw [hw] at hl;exact ok.ck c0 h0 l hl
 ·intro c hc;obtain ⟨c0,h0,rfl⟩:=mem c hc;rw [hw];exact ok.len c0 h0
 ·intro c hc q e
  obtain ⟨c0,h0,rfl⟩:=mem c hc
  unfold bp at e
  split at e
  ·cases e;exact ⟨ok.ts,Rat.le_refl⟩
  ·exact ok.gz c0 h0 q e
 ·show (L.cs.map (bp n L.t)).length≤100
  rw [List.length_map];exact ok.many
 ·intro m
  rw [hfs]
  show m∈L.row.filter _↔_
  rw [List.mem_filter,ok.rm,List.mem_map,List.mem_map]
  constructor
  ·rintro ⟨⟨x,hx,rfl⟩,k⟩;exact ⟨x,List.mem_filter.mpr ⟨hx,k⟩,rfl⟩
  ·rintro ⟨x,hx,rfl⟩;exact ⟨⟨x,(List.mem_filter.mp hx).1,rfl⟩,(List.mem_filter.mp hx).2⟩
 ·exact ok.rn.sublist List.filter_sublist
 ·exact Nat.le_trans (List.length_filter_le _ _) ok.rl
 ·rw [hfs]
  show L.row.filter _=_
  rw [qm ok.EN,← ok.row]
theorem uN {α:Type} [DecidableEq α]:∀ {l:List α} {x:α},x∈l→∃ j:Nat,l[j]?=some x∧∀ m:Nat,m < j→l[m]?≠some x
 | y :: l,x,h=>by
  by_cases e:y=x
  ·exact ⟨0,by rw [e];rfl,fun m hm=>by omega⟩
  ·rcases List.mem_cons.mp h with h | h
   ·exact absurd h.symm e
   ·obtain ⟨j,h1,h2⟩:=uN h
    refine ⟨j + 1,h1,fun m hm=>?_⟩
    cases m with
    | zero=>intro z;exact e (Option.some.inj z)
    | succ m=>exact h2 m (by omega)
abbrev eh:Stmt:=(L2.inClass (top 42) 2)
theorem mQ:L2.aw ["self","name"] ["self","name"] (L2.aj eh):=dD
def rd (cN cL eC:Addr):cj:=fun xs J Q E=>∃ p L n,xs=[.ref p,.str n]∧aW cN cL J p L∧bM L∧(n ∉ L.row→E eC J)∧(n∈L.row→∀ J' L',aW cN cL J' p L'→bM L'→L'.cs=L.cs.map (bp n L.t)→L'.t=L.t→Mv J J' (L.own p) (L'.own p)→Q .non J')
theorem mF {cN cL eC f:Addr} {fd:FuncData} (F:bX K "leave" "Lane.leave" eh f fd) (Z:bP mg) (KD_Lane:c_ K mg "Lane" cN) (NA_Lane_logs:az K cN "logs") (NA_Lane_now:az K cN "now") (NA_Lane_row:az K cN "row") (m_Lane_must_be_there:cP P w K mg base cN 1 "must_be_there" ["self","name"] (lp cN cL eC)) (m_Log_leave:cP P w K mg base cL 1 "leave" ["self","moment"] (qT cL)):aI P w K mg base (cU P w) 2 f fd ["self","name"] (dz K (rd cN cL eC)):=by
 simp_arith [mQ]
 ·obtain ⟨p,L,n,rfl,_⟩:=h;rfl
 obtain ⟨p,L,n,rfl,b,ok,qc,q⟩:=h
 have bo:=b.ob
 have bd:=b.dc
 refine ⟨_,(ai (a8 (ba (pl:=_) m_Lane_must_be_there B hr (by decide) (rv 0) (af (rv 1) ah)))
   (ai (a8 (ba (pl:=_) m_Log_leave B hr (by decide) (ak dB (aR KD_Lane.cl NA_Lane_logs (rv 0)) (rv 1) (fun _ _=>rfl)) (af (aR KD_Lane.cl NA_Lane_now (rv 0)) ah)))
   (aq (a8 (kD PySem.F.plainAttrs_list PySem.F.slot_list_remove PySem.F.type_list_remove wO (aR KD_Lane.cl NA_Lane_row (rv 0)) (af (rv 1) ah)))))),?_⟩
 simp_all! only [bo]
 refine ⟨e9 _ _ _ _,p,L,n,rfl,b,fun hn=>?_,qc⟩
 obtain ⟨c,hc,rfl,hg⟩:=ok.found hn
 have lo:=(b.lg c hc).o
 simp_all! only [bo,m8,w6,bd,ok.va hc,lo]
 refine ⟨Ie _ _,c.a,c.r,c.w,c.g,L.t,rfl,b.lg c hc,?_⟩
 simp_all! only [au (Ne.symm (b.Hj hc)),bo,oG,au (Ne.symm (b.HY hc)),b.rw]
 obtain ⟨j,h1,h2⟩:=uN hn
 refine ⟨L.row,rfl,j,h1,h2,?_⟩
 rw [erase_filter ok.rn h1]
 have hn':=dT c.n L.t
 have ok1:=ok.leave c.n
 refine q hn _ { L with cs:=L.cs.map (bp c.n L.t),row:=L.row.filter fun x=>decide (x≠c.n) } ⟨?_,?_,av,fun x hx=>?_,?_,fun x hx=>?_⟩ ok1 rfl rfl ?_
 ·rw [au (Ne.symm b.BE),au (Ne.symm (b.Hj hc))];exact bo
 ·show put (put J c.a _) L.o _ L.d=_
  rw [au b.IS,au (Ne.symm (b.Jh hc)),bd]
  show _=some (HQ.dct ((L.cs.map (bp c.n L.t)).map fun c=>(c.n,PV.ref c.a)) L.e)
  rw [df (f:=fun c:Cf=>(c.n,PV.ref c.a)) (fun x=>by rw [(hn' x).1,(hn' x).2.1])]
 ·obtain ⟨x0,h0,rfl⟩:=List.mem_map.mp hx
  have hl:=b.lg x0 h0
  refine ⟨?_,?_⟩
  ·rw [(hn' x0).2.1,(hn' x0).2.2.1,au (b.HY h0)]
   by_cases e:x0.n=c.n
   ·have:x0=c:=ok.uniq h0 hc e
    subst this
    rw [av]
    unfold bp;rw [if_pos rfl];rfl
   ·have ha:x0.a≠c.a:=fun z=>by
     have hh:=hl.o
     have hh2:=(b.lg c hc).o
     rw [z,hh2] at hh
     have hrr:c.r=x0.r:=by
      have h3:=(HQ.ins.inj (Option.some.inj hh)).2
      have h4:=(List.cons.inj h3).1
      have h5:=(Prod.mk.inj h4).2
      exact PV.ref.inj h5
     obtain ⟨i,hi,rfl⟩:=List.getElem_of_mem h0
     obtain ⟨j',hj',rfl⟩:=List.getElem_of_mem hc
     have:=(List.getElem_inj (xs:=L.cs.map Cf.r) (i:=i) (j:=j') (h₀:=by simpa using hi) (h₁:=by simpa using hj') b.ap).mp (by rw [List.getElem_map,List.getElem_map];exact hrr.symm)
     subst this;exact e rfl
    rw [au ha]
    unfold bp;rw [if_neg e];exact hl.o
  ·rw [(hn' x0).2.2.1,(hn' x0).2.2.2,au (b.ao x0 h0),au (fun z=>by have h3:=hl.l;rw [z,lo] at h3;cases h3)];exact hl.l
 ·show ((L.cs.map (bp c.n L.t)).map Cf.r).Nodup
  rw [df (fun x=>(hn' x).2.2.1)];exact b.ap
 ·obtain ⟨x0,h0,rfl⟩:=List.mem_map.mp hx
  rw [(hn' x0).2.2.1];exact b.ao x0 h0
 ·have own':∀ a,Ln.own { L with cs:=L.cs.map (bp c.n L.t),row:=L.row.filter fun x=>decide (x≠c.n) } p a→L.own p a:=fun a h=>by
   rcases h with h | h | h | ⟨x,hx,h⟩
   ·exact .inl h
   ·exact .inr (.inl h)
   ·exact .inr (.inr (.inl h))
   ·obtain ⟨c0,h0,rfl⟩:=List.mem_map.mp hx
    rw [(hn' c0).2.1,(hn' c0).2.2.1] at h
    exact .inr (.inr (.inr ⟨c0,h0,h⟩))
  refine (eO (S':=L.own p) (.inr (.inr (.inr ⟨c,hc,.inl rfl⟩))) fun a h=>.inl h).trans (eO (.inr (.inr (.inl rfl))) fun a h=>.inl (own' a h))
abbrev ie:Stmt:=(top 49)
theorem dq:L2.aw ["_law_cell_here","_law_many","_law_signs","_law_row","_law_some","_law_body","_law_at_here","_law_out","_law_k"] ["_law_cell_here","_law_many"] (L2.aj ie):=dD
def uC:Sp:=fun vs H Q _=>∃ c m:Int,vs=[.int c,.int m]∧0≤m∧m≤36∧∀ (r:Addr) (H':Hp) (xs:List Str),H r=none→aZ H H'→H' r=some (.lst (xs.map V.str))→(xs.length:Int)=m→xs.Nodup→(∀ x∈xs,good x=true)→Q (.ref r) H'
def menu:List Str:=["m","ab","a","zebra9","b0","0","abc","9zz","q7q7q7q7","aa","z","a1b2c3d4"]
def cG:Str:="abcdefghijklmnopqrstuvwxyz0123456789"
theorem AG:menu.Nodup:=by decide +kernel
theorem xi:cG.cps.toList.Nodup:=by decide +kernel
theorem hE:cG.cps.toList.length=36:=by decide +kernel
theorem rZ {α:Type} {xs:List α} {j:Int} (h0:0≤j) (h1:j < xs.length):cH xs j=some (xs[j.toNat]'(by omega)):=by
 have h:=a_ (xs:=xs) (j:=j.toNat) (List.getElem?_eq_getElem (by omega))
 rw [show ((j.toNat:Nat):Int)=j by omega] at h
 exact h
def pick (d:Int) (k:Nat):Str:=menu.getD ((d + 5 * (k:Int)) % 12).toNat ""
theorem Be (d:Int) (k:Nat):cH (menu.map V.str) ((d + 5 * (k:Int)) % 12)=some (.str (pick d k)):=by
 have h0:=Int.emod_nonneg (d + 5 * (k:Int)) (show (12:Int)≠0 by decide)
 have h1:=Int.emod_lt_of_pos (d + 5 * (k:Int)) (show (0:Int) < 12 by decide)
 have hl:(menu.map V.str).length=12:=by decide +kernel
 have hm:menu.length=12:=by decide +kernel
 rw [rZ h0 (by rw [hl];exact h1),List.getElem_map]
 unfold pick
 rw [List.getD_eq_getElem?_getD,List.getElem?_eq_getElem (by omega)]
 rfl
theorem nv {α:Type} {xs:List α} (h:xs.Nodup) {i j:Nat} (hi:i < xs.length) (hj:j < xs.length) (e:xs[i]=xs[j]):i=j:=(List.getElem_inj h).mp e
theorem yH (d:Int) {m:Nat} (hm:m≤12):((List.range m).map (pick d)).Nodup:=by
 have hl:menu.length=12:=by decide +kernel
 refine List.Pairwise.map (R:=fun i j=>i < 12∧j < 12∧i≠j) _ (fun i j ⟨a,b,c⟩ e=>?_) ?_
 ·unfold pick at e
  have h0:=Int.emod_nonneg (d + 5 * (i:Int)) (show (12:Int)≠0 by decide)
  have h1:=Int.emod_lt_of_pos (d + 5 * (i:Int)) (show (0:Int) < 12 by decide)
  have h2:=Int.emod_nonneg (d + 5 * (j:Int)) (show (12:Int)≠0 by decide)
  have h3:=Int.emod_lt_of_pos (d + 5 * (j:Int)) (show (0:Int) < 12 by decide)
  rw [List.getD_eq_getElem?_getD,List.getElem?_eq_getElem (by omega),List.getD_eq_getElem?_getD,List.getElem?_eq_getElem (by omega)] at e
  have:=nv AG (by omega) (by omega) e
  omega
 ·refine List.Pairwise.imp_of_mem (R:=fun i j=>i≠j) (fun {i j} hi hj ne=>?_) (List.nodup_range)
  rw [List.mem_range] at hi hj
  exact ⟨by omega,by omega,ne⟩
theorem wq:∀ x∈menu,good x=true:=by decide +kernel
theorem ma:∀ c∈cG.cps.toList,c6 bR c=true:=by decide +kernel
theorem wH (d:Int) (k:Nat):good (pick d k)=true:=by
 have h0:=Int.emod_nonneg (d + 5 * (k:Int)) (show (12:Int)≠0 by decide)
 have h1:=Int.emod_lt_of_pos (d + 5 * (k:Int)) (show (0:Int) < 12 by decide)
 have hm:menu.length=12:=by decide +kernel
 unfold pick
 rw [List.getD_eq_getElem?_getD,List.getElem?_eq_getElem (by omega)]
 exact wq _ (List.getElem_mem _)
theorem Ax {cs:List Nat} (h0:0 < cs.length) (h1:cs.length≤8) (h:∀ c∈cs,c6 bR c=true):good ⟨cs.toArray⟩=true:=by
 unfold good
 rw [Bool.and_eq_true,Bool.and_eq_true]
 refine ⟨⟨decide_eq_true ?_,decide_eq_true ?_⟩,List.all_eq_true.mpr fun c hc=>h c (by simpa using hc)⟩
 ·show 1≤cs.toArray.size;rw [List.size_toArray];omega
 ·show cs.toArray.size≤8;rw [List.size_toArray];omega
def sign (d:Int) (k:Nat):Nat:=cG.cps.toList.getD ((d + 5 * (k:Int)) % 36).toNat 0
theorem Aa (d:Int) (k:Nat):cH cG.cps.toList ((d + 5 * (k:Int)) % 36)=some (sign d k):=by
 have h0:=Int.emod_nonneg (d + 5 * (k:Int)) (show (36:Int)≠0 by decide)
 have h1:=Int.emod_lt_of_pos (d + 5 * (k:Int)) (show (0:Int) < 36 by decide)
 have hl:=hE
 rw [rZ h0 (by rw [hl];exact h1)]
 unfold sign
 rw [List.getD_eq_getElem?_getD,List.getElem?_eq_getElem (by omega)]
 rfl
theorem vX (d:Int) (k:Nat):c6 bR (sign d k)=true:=by
 have h0:=Int.emod_nonneg (d + 5 * (k:Int)) (show (36:Int)≠0 by decide)
 have h1:=Int.emod_lt_of_pos (d + 5 * (k:Int)) (show (0:Int) < 36 by decide)
 have hl:=hE
 unfold sign
 rw [List.getD_eq_getElem?_getD,List.getElem?_eq_getElem (by omega)]
 exact ma _ (List.getElem_mem _)
theorem zd (d:Int) {i j:Nat} (hi:i < 36) (hj:j < 36) (e:sign d i=sign d j):i=j:=by
 have h0:=Int.emod_nonneg (d + 5 * (i:Int)) (show (36:Int)≠0 by decide)
 have h1:=Int.emod_lt_of_pos (d + 5 * (i:Int)) (show (0:Int) < 36 by decide)
 have h2:=Int.emod_nonneg (d + 5 * (j:Int)) (show (36:Int)≠0 by decide)
 have h3:=Int.emod_lt_of_pos (d + 5 * (j:Int)) (show (0:Int) < 36 by decide)
 have hl:=hE
 unfold sign at e
 rw [List.getD_eq_getElem?_getD,List.getElem?_eq_getElem (by omega),List.getD_eq_getElem?_getD,List.getElem?_eq_getElem (by omega)] at e
 have:=nv xi (by omega) (by omega) e
 omega
theorem zB {d:Int} {n:Nat} {xs:List Str} (hl:xs.length≤36) (h:∀ k x,xs[k]?=some x→x.cps.toList[n]?=some (sign d k)):xs.Nodup:=by
 refine List.pairwise_iff_getElem.mpr fun i j hi hj hij e=>?_
 have a:=h i _ (List.getElem?_eq_getElem hi)
 have b:=h j _ (List.getElem?_eq_getElem hj)
 rw [e] at a
 rw [a] at b
 have:=zd d (by omega) (by omega) (Option.some.inj b)
 omega
theorem x5 {xs:List V} {k:Int} (h:0≤k):me xs none (some k)=xs.take k.toNat:=by
 obtain ⟨j,rfl⟩:∃ j:Nat,k=(j:Int):=⟨k.toNat,by omega⟩
 unfold me
 rw [HT.qM,HT.BS,List.drop_zero,Int.toNat_natCast]
 rcases Nat.le_total j xs.length with e | e
 ·rw [Nat.min_eq_left e]
  rfl
 ·rw [Nat.min_eq_right e,Nat.sub_zero,List.take_of_length_le (Nat.le_refl _),List.take_of_length_le e]
theorem zP (cs:List Nat):((cs.map one).map (·.length)).sum=cs.length:=by
 induction cs with
 | nil=>rfl
 | cons c cs ih =>
  rw [List.map_cons,List.map_cons,List.sum_cons,ih,List.length_cons]
  show 1 + cs.length=cs.length + 1
  omega
theorem Ac {p q a b:Prop} [Decidable p] [Decidable q]:(if p then if q then a else b else b)=if p∧q then a else b:=by by_cases hp:p <;> by_cases hq:q <;> simp [hp,hq]
theorem yR {f:Addr} {fd:FuncData} (F:bX K "_law_names" "_law_names" ie f fd) (Z:xa mg) (C_digits:mB P w K mg base 1 "_law_digits" ["_law_cell_here","_law_sizes"] (l8 K)):aI P w K mg base ml 2 f fd ["_law_cell_here","_law_many"] uC:=by
 refine F.ok dq (fun vs H Q E h=>?_) (fun cdv A outer s H vs Q E hr h=>?_)
 ·obtain ⟨c,m,rfl,_⟩:=h
  rfl
 obtain ⟨c,m,rfl,m0,m1,q⟩:=h
 refine ⟨_,(QB.run (aM (b7 (i:=2) dq.nd rfl (Or.inr rfl) jS)
   (aM (b7 (i:=3) dq.nd rfl (Or.inr rfl) (qd C_digits hr (by decide) rfl (aL (pv 0) (aL (gJ (ym [.int 3,.int 36,.int 8,.int 36,.int 36,.int 36,.int 36,.int 36,.int 36,.int 36,.int 36,.int 840] rfl)) bc))))
   (aM (jg (Co (oH (cK yC (bG e8 (pv 3) aF (fun _ _=>rfl)) aF (ax _)) (ly (cK CO (pv 1) aF (ax _))))) (aM (b7 (i:=4) dq.nd rfl (Or.inr rfl) (gJ (ym [.str "m",.str "ab",.str "a",.str "zebra9",.str "b0",.str "0",.str "abc",.str "9zz",.str "q7q7q7q7",.str "aa",.str "z",.str "a1b2c3d4"] rfl)))
   (bh (cT (Ba (aj ie) ["_law_cell_here","_law_many","_law_signs","_law_row","_law_some","_law_body","_law_at_here","_law_out","_law_k"] [("_law_row",3),("_law_some",4)] rfl rfl rfl (eG rfl Z.range (aL (pv 1) bc)) (fun _ _ _ _ _ _=>(bG e8 (pv 2) (aY eR (aY f' (bG e8 (pv 1) aF (fun _ _=>rfl)) (aY bT aF (pv 0))) aF) (fun _ _=>rfl))))))) d_)
   (aM (AB (i:=5) (aj ie) ["_law_cell_here","_law_many","_law_signs","_law_row","_law_some","_law_body","_law_at_here","_law_out","_law_k"] [("_law_signs",2)] rfl rfl rfl dq.nd rfl (Or.inl rfl) (iY (gE o7 (pv 3) (g_ aF) (g_ aF))) (fun _ _ _ _ _ _=>(bG y3 (pv 1) (pv 0) (fun _ _=>rfl))))
   (qE (jg (cK yC (bG e8 (pv 3) aF (fun _ _=>rfl)) aF (ax _)) (bh (b7 (i:=5) dq.nd rfl (Or.inl rfl) (gE o7 (pv 5) k7 (g_ (aY f' (bG e8 (pv 3) aF (fun _ _=>rfl)) aF))))) d_)
   (aM (b7 (i:=6) dq.nd rfl (Or.inl rfl) (aY eR (bG e8 (pv 3) aF (fun _ _=>rfl)) (cV f_ rfl Z.len boot_len (aL (pv 5) bc))))
   (aM (b7 (i:=7) dq.nd rfl (Or.inl rfl) (gJ bc))
   (aM (j5 PassesOwn.never rfl (eG rfl Z.range (aL (pv 1) bc)) (g6 (i:=8) dq.nd rfl (Or.inl rfl)) (aM (ou (bG y3 (pv 2) (aY eR (aY f' (bG e8 (pv 3) aF (fun _ _=>rfl)) (aY bT aF (pv 8))) aF) (fun _ _=>rfl)) (oj (pv 5) (pv 6) set_list))
   (bh (g7 (l3 PySem.F.plainAttrs_list PySem.F.slot_list_append PySem.F.type_list_append eI (pv 7) (aL (l3 PySem.F.plainAttrs_str PySem.F.slot_str_join PySem.F.type_str_join B3 jS (aL (pv 5) bc)) bc))))))
   (bh (cT (pv 7)))))))))))),?_⟩
 refine ⟨_,rfl,(by show 12≤sizeLine;decide),fun p hp=>?_⟩
 have ss:∀ s∈([3,36,8,36,36,36,36,36,36,36,36,840]:List Int),0 < s∧Bd 9000 s:=fun s hs=>by
  simp only [List.mem_cons,List.not_mem_nil,or_false] at hs
  have:0 < s∧s < 1000:=by omega
  exact ⟨this.1,(Bd.small (by omega) (by omega)).mono (by decide)⟩
 refine ⟨c,p,[3,36,8,36,36,36,36,36,36,36,36,840],rfl,cg.of ay,ss,by decide,fun r H1 ds _ g1 hr1 hD=>?_⟩
 obtain ⟨d0,ds,rfl,d00,d01,hD⟩:=hD.cons
 obtain ⟨d1,ds,rfl,d10,d11,hD⟩:=hD.cons
 obtain ⟨d2,ds,rfl,d20,d21,hD⟩:=hD.cons
 obtain ⟨e0,ds,rfl,e00,e01,hD⟩:=hD.cons
 obtain ⟨e1,ds,rfl,e10,e11,hD⟩:=hD.cons
 obtain ⟨e2,ds,rfl,e20,e21,hD⟩:=hD.cons
 obtain ⟨e3,ds,rfl,e30,e31,hD⟩:=hD.cons
 obtain ⟨e4,ds,rfl,e40,e41,hD⟩:=hD.cons
 obtain ⟨e5,ds,rfl,e50,e51,hD⟩:=hD.cons
 obtain ⟨e6,ds,rfl,e60,e61,hD⟩:=hD.cons
 obtain ⟨e7,ds,rfl,e70,e71,hD⟩:=hD.cons
 obtain ⟨d11,ds,rfl,d110,d111,hD⟩:=hD.cons
 cases hD.nil
 have g1:=(aZ.new hp _).trans g1
 dsimp! only [rJoin,hr1]
 rw [Ac]
 split
 ·refine ⟨(by show 12≤sizeLine;decide),fun p2 hp2=>?_⟩
  have g2:=aZ.new hp2 (.lst (menu.map V.str))
  have h2:(upd H1 p2 (.lst (menu.map V.str))) p2=some (.lst (menu.map V.str)):=ay
  have hr2:=g2 _ _ hr1
  refine ⟨_,rfl,m,rfl,by omega,by omega,fun D hD=>?_⟩
  refine xN (lo:=0) (n:=m.toNat) (fun i H'=>aZ (upd H1 p2 (.lst (menu.map V.str))) H'∧H' D=some (.lst (((List.range i).map (pick d1)).map V.str))) ⟨aZ.new hD _,ay⟩ ?_ ?_
  ·rintro i H' R hi ⟨g,hd⟩ k
   have hr3:=g _ _ hr2
   have h3:=g _ _ h2
   dsimp! only [rJoin,hr3,h3,Int.zero_add]
   refine ⟨.of (Bd.small (by decide) (by decide)) (Bd.small (x:=(i:Int)) (by omega) (by omega)),_,Be d1 i,?_⟩
   refine k _ _ _ hd (by rw [List.length_map,List.length_map,List.length_range];exact aV (by omega)) ⟨g.EJ hD _,?_⟩
   rw [ay]
   simp [List.range_succ]
  ·rintro H' ⟨g,hd⟩
   exact q D H' _ (g1.free (g2.free hD)) (g1.trans (g2.trans g)) hd (by rw [List.length_map,List.length_range];omega) (yH d1 (by omega)) (fun x hx=>by obtain ⟨k,_,rfl⟩:=List.mem_map.mp hx;exact wH d1 k)
 refine ⟨_,rfl,3,rfl,11,rfl,r,_,rfl,cg.of hr1,fun p2 hp2=>⟨p2,rfl,⟨_,cg.of ay⟩,fun D hD=>?_⟩⟩
 have g2:=aZ.new hp2 (.lst [.int e0,.int e1,.int e2,.int e3,.int e4,.int e5,.int e6,.int e7])
 have hr2:=g2 _ _ hr1
 have h2:(upd H1 p2 (.lst [.int e0,.int e1,.int e2,.int e3,.int e4,.int e5,.int e6,.int e7])) p2=some (.lst ([e0,e1,e2,e3,e4,e5,e6,e7].map V.int)):=ay
 have be:∀ e∈[e0,e1,e2,e3,e4,e5,e6,e7],0≤e∧e < 36:=fun e he=>by
  simp only [List.mem_cons,List.not_mem_nil,or_false] at he
  omega
 have al:=hE
 have al2:cG.length≤sizeLine:=by decide +kernel
 refine Bi (K:=K) (a:=p2) (xs:=[e0,e1,e2,e3,e4,e5,e6,e7].map V.int) (fun i H'=>aZ (upd H1 p2 (.lst [.int e0,.int e1,.int e2,.int e3,.int e4,.int e5,.int e6,.int e7])) H'∧∃ cs:List Nat,cs.length=i∧(∀ c∈cs,c6 bR c=true)∧H' D=some (.lst ((cs.map one).map V.str)))
  ⟨aZ.new hD _,[],rfl,(fun c hc=>by cases hc),ay⟩ (fun i H' _ ⟨g,_⟩=>cg.of (g _ _ h2)) ?_ ?_
 ·rintro i y H' R hi ⟨g,cs,hcs,hca,hd⟩ k
  have hil:=(List.getElem?_eq_some_iff.mp hi).1
  obtain ⟨z,rfl,hz⟩:=l6 hi
  obtain ⟨z0,z1⟩:=be z (List.mem_of_getElem? hz)
  have at1:=rZ (xs:=cG.cps.toList) z0 (by rw [al];exact z1)
  dsimp! only [rJoin]
  refine ⟨al2,_,at1,?_⟩
  refine k _ _ _ hd (by rw [List.length_map,List.length_map,hcs];simp only [List.length_map,List.length_cons,List.length_nil] at hil;exact aV (by omega)) ⟨g.EJ hD _,cs ++ [cG.cps.toList[z.toNat]'(by rw [al];omega)],by rw [List.length_append,hcs];rfl,?_,?_⟩
  ·intro c hc
   rcases List.mem_append.mp hc with hc | hc
   ·exact hca c hc
   ·rw [List.mem_singleton] at hc;subst hc;exact ma _ (List.getElem_mem _)
  rw [ay,List.map_append,List.map_append]
  rfl
 rintro H2 ⟨g,cs,hcs,hca,hd⟩
 have hr3:=g _ _ hr2
 have g:=g1.trans (g2.trans g)
 have hcs:cs.length=8:=hcs
 obtain ⟨M,hM⟩:∃ M:L2.St→Hp→Prop,∀ σ' H',M σ' H'↔∃ (D:Addr) (cs:List Nat),σ'=[some (.int c),some (.int m),some (.str cG),some (.ref r),none,some (.ref D),none,none,none]∧aZ H H'∧H D=none∧H' r=some (.lst ([d0,d1,d2,e0,e1,e2,e3,e4,e5,e6,e7,d11].map V.int))∧D≠r∧0 < cs.length∧cs.length≤8∧(∀ c∈cs,c6 bR c=true)∧H' D=some (.lst ((cs.map one).map V.str)):=⟨_,fun _ _=>Iff.rfl⟩
 have fD:H D=none:=g1.free (g2.free hD)
 have nDr:D≠r:=(bH hr2 hD).symm
 refine ⟨M,?_,?_⟩
 ·dsimp! only [rJoin,hr3]
  split
  ·refine ⟨_,cg.of hd,fun p4 hp4=>(hM _ _).mpr ⟨p4,cs.take (d2 + 1).toNat,rfl,g.trans (aZ.new hp4 _),g.free hp4,?_,?_,?_,?_,(fun c hc=>hca c (List.mem_of_mem_take hc)),?_⟩⟩
   ·exact (aZ.new hp4 _) _ _ hr3
   ·exact (bH hr3 hp4).symm
   ·rw [List.length_take];omega
   ·rw [List.length_take];omega
   ·rw [ay,x5 (by omega),List.map_take,List.map_take]
  ·exact (hM _ _).mpr ⟨D,cs,rfl,g,fD,hr3,nDr,by omega,by omega,hca,hd⟩
 clear hca hd hr3 g fD nDr hcs
 intro σ5 H5 hm
 obtain ⟨D,cs,rfl,g,fD,hr3,nDr,l0,l1,hca,hd⟩:=(hM _ _).mp hm
 clear hm hM M
 have e0s:(Str.ofString "").length=0:=by decide +kernel
 have hl:((cs.map one).map V.str).length=cs.length:=by rw [List.length_map,List.length_map]
 have hlp:(0:Int) < (((cs.map one).map V.str).length:Nat):=by rw [hl];omega
 have a0:=Int.emod_nonneg d11 (show (((cs.map one).map V.str).length:Int)≠0 by omega)
 have a1:=Int.emod_lt_of_pos d11 hlp
 have at11:cH ([d0,d1,d2,e0,e1,e2,e3,e4,e5,e6,e7,d11].map V.int) 11=some (.int d11):=a_ (j:=11) rfl
 refine ⟨_,rfl,r,_,11,_,rfl,rfl,hr3,at11,_,rfl,D,rfl,_,.inl (cg.of hd),_,_,rfl,rfl,hlp,?_⟩
 generalize hat:d11 % (((cs.map one).map V.str).length:Int)=at' at a0 a1
 rw [hl] at a1
 refine ⟨Nat.zero_le _,fun O hO=>?_⟩
 have gO:=aZ.new hO (.lst [])
 have nOD:O≠D:=(bH hd hO).symm
 have nOr:O≠r:=(bH hr3 hO).symm
 have fO:H O=none:=g.free hO
 refine ⟨_,rfl,m,rfl,by omega,by omega,nk (lo:=0) (n:=m.toNat) (fun i σ H'=>∃ (v:Option V) (cs':List Nat) (xs:List Str),σ=[some (.int c),some (.int m),some (.str cG),some (.ref r),none,some (.ref D),some (.int at'),some (.ref O),v] ∧
  aZ H H'∧H' r=some (.lst ([d0,d1,d2,e0,e1,e2,e3,e4,e5,e6,e7,d11].map V.int))∧cs'.length=cs.length∧(∀ c∈cs',c6 bR c=true)∧H' D=some (.lst ((cs'.map one).map V.str))∧H' O=some (.lst (xs.map V.str))∧xs.length=i∧(∀ x∈xs,good x=true)∧∀ k x,xs[k]?=some x→x.cps.toList[at'.toNat]?=some (sign d1 k)) ?_ ?_ ?_⟩
 ·exact ⟨none,cs,[],by rw [← hat];rfl,g.trans gO,gO _ _ hr3,rfl,hca,gO _ _ hd,ay,rfl,(fun x hx=>by cases hx),fun k x e=>by cases e⟩
 ·rintro i σ H' hi ⟨v,cs',xs,rfl,g',hr',hl',hca',hd',ho',hx,hxl,hs⟩
  have at1:cH ([d0,d1,d2,e0,e1,e2,e3,e4,e5,e6,e7,d11].map V.int) 1=some (.int d1):=a_ (j:=1) rfl
  have al2:cG.length≤sizeLine:=by decide +kernel
  have sg:=Aa d1 i
  refine ⟨_,rfl,_,rfl,r,_,1,_,rfl,rfl,hr',at1,_,rfl,_,_,rfl,rfl,.of (Bd.small (by decide) (by decide)) (Bd.small (x:=0 + (i:Int)) (by omega) (by omega)),_,_,rfl,rfl,_,_,rfl,rfl,(show (0:Int) < 36 by decide),_,_,_,rfl,rfl,al2,(by rw [Int.zero_add];exact sg),?_⟩
  have ix:w_ ((cs'.map one).map V.str).length at'=some at'.toNat:=by
   unfold w_
   rw [if_pos a0,if_pos (by rw [List.length_map,List.length_map,hl'];exact a1)]
  refine ⟨_,rfl,_,rfl,D,_,at',_,rfl,rfl,hd',ix,?_⟩
  have es:((cs'.map one).map V.str).set at'.toNat (.str ⟨#[sign d1 i]⟩)=((cs'.set at'.toNat (sign d1 i)).map one).map V.str:=by
   rw [List.map_set,List.map_set]
   rfl
  have gD:=aZ.EJ fD g' (.lst (((cs'.map one).map V.str).set at'.toNat (.str ⟨#[sign d1 i]⟩)))
  have hD2:(upd H' D (.lst (((cs'.map one).map V.str).set at'.toNat (.str ⟨#[sign d1 i]⟩)))) D=some (.lst (((cs'.set at'.toNat (sign d1 i)).map one).map V.str)):=by rw [ay,es]
  have hr2:(upd H' D (.lst (((cs'.map one).map V.str).set at'.toNat (.str ⟨#[sign d1 i]⟩)))) r=_:=(aH nDr.symm).trans hr'
  have ho2:(upd H' D (.lst (((cs'.map one).map V.str).set at'.toNat (.str ⟨#[sign d1 i]⟩)))) O=_:=(aH nOD).trans ho'
  have lc:(cs'.set at'.toNat (sign d1 i)).length=cs.length:=by rw [List.length_set,hl']
  have hcn:∀ c∈cs'.set at'.toNat (sign d1 i),c6 bR c=true:=fun c hc=>by
   rcases List.mem_or_eq_of_mem_set hc with h | h
   ·exact hca' c h
   ·rw [h];exact vX d1 i
  refine ⟨_,rfl,.inl ⟨rfl,_,cg.of ho2⟩,rfl,_,rfl,_,D,(cs'.set at'.toNat (sign d1 i)).map one,rfl,rfl,cg.of hD2,?_,O,_,_,rfl,rfl,ho2,?_,?_⟩
  ·rw [zP,List.length_map,lc,e0s]
   omega
  ·rw [List.length_map,hx]
   exact aV (by omega)
  ·rw [join_ones]
   refine ⟨_,cs'.set at'.toNat (sign d1 i),xs ++ [⟨(cs'.set at'.toNat (sign d1 i)).toArray⟩],rfl,gD.EJ fO _,(aH nOr.symm).trans hr2,lc,hcn,(aH nOD.symm).trans hD2,?_,by rw [List.length_append,hx];rfl,?_,?_⟩
   ·rw [ay,List.map_append]
    rfl
   ·intro x hx2
    rcases List.mem_append.mp hx2 with h | h
    ·exact hxl x h
    ·simp only [List.mem_cons,List.not_mem_nil,or_false] at h
     subst h
     exact Ax (by rw [lc];exact l0) (by rw [lc];exact l1) hcn
   ·intro k x e
    rcases Nat.lt_or_ge k xs.length with hk | hk
    ·rw [List.getElem?_append_left hk] at e
     exact hs k x e
    ·rw [List.getElem?_append_right hk] at e
     have ek:k=i:=by
      cases hz:k - xs.length with
      | zero=>omega
      | succ z=>rw [hz] at e;cases e
     rw [show k - xs.length=0 by omega] at e
     have ex:=Option.some.inj e
     subst ex
     rw [ek]
     show (cs'.set at'.toNat (sign d1 i))[at'.toNat]?=some (sign d1 i)
     rw [List.getElem?_set_self (by omega)]
 ·rintro σ H' ⟨v,cs',xs,rfl,g',hr',hl',hca',hd',ho',hx,hxl,hs⟩
  exact ⟨_,rfl,q O H' xs fO g' ho' (by omega) (zB (by omega) hs) hxl⟩
def pX:cj:=fun xs J Q _=>∃ c m:Int,xs=[.int c,.int m]∧0≤m∧m≤36∧∀ ns:List Str,(ns.length:Int)=m→ns.Nodup→(∀ x∈ns,good x=true)→Q (.fl (ns.map .str)) J
theorem nM {K:PySem.W.Frag} {J:Hq} {H:Hp}:∀ ns:List Str,aE K J H (ns.map PV.str) (ns.map V.str)
 | []=>rfl
 | n :: ns=>⟨_,_,rfl,rfl,nM ns⟩
theorem sR (C:mB P w K mg base 2 "_law_names" ["_law_cell_here","_law_many"] uC):a9 P w K mg base 2 "_law_names" ["_law_cell_here","_law_many"] pX:=C.lift fun xs J vs H Q2 E2 Q E rs r ⟨c,m,ex,h0,h1,q⟩ kn=>by
 subst ex
 obtain ⟨v,u,rfl,r1,r2⟩:=fV rs
 cases r1;cases r2
 exact ⟨c,m,rfl,h0,h1,fun p H' ns hp s e hl nd lx=>kn (.fl (ns.map .str)) J (.ref p) H' ⟨p,_,rfl,.inl ⟨r.free hp,.inl e⟩,nM ns⟩ (r.same s) (.same s) (q ns hl nd lx)⟩
abbrev lj:Stmt:=(top 46)
theorem zQ:L2.aw ["_law_found"] ["_law_found"] (L2.aj lj):=dD
def lP:cj:=fun xs J Q _=>∃ i:Int,xs=[.int i]∧Q (.bl true) J
theorem w8 {f:Addr} {fd:FuncData} (F:bX K "_law_whole" "_law_whole" lj f fd) (Z:bP mg):aI P w K mg base (cU P w) 1 f fd ["_law_found"] (dz K lP):=by
 simp_arith [zQ]
 ·obtain ⟨i,rfl,_⟩:=h;rfl
 obtain ⟨i,rfl,q⟩:=h
 refine ⟨_,(aq (aB (zi (aO j7 rfl Z.isinstance boot_isinstance (af (rv 0) (af (nF rfl Z.int boot_int) ah))) (tH (DJ (aO j7 rfl Z.isinstance boot_isinstance (af (rv 0) (af (nF rfl Z.bool boot_bool) ah)))))))),?_⟩
 simp_arith! only [cm]
 exact q
abbrev pA:Stmt:=(top 48)
theorem B4:L2.aw ["_law_found","_law_due"] ["_law_found","_law_due"] (L2.aj pA):=dD
def og:cj:=fun xs J Q _=>∃ a:Rat,xs=[fr a,fr a]∧Q (.bl true) J
theorem xQ {f:Addr} {fd:FuncData} (F:bX K "_law_part" "_law_part" pA f fd) (Z:bP mg) (C_whole:a9 P w K mg base 1 "_law_whole" ["_law_found"] lP):aI P w K mg base (cU P w) 2 f fd ["_law_found","_law_due"] (dz K og):=by
 simp_arith [B4]
 ·obtain ⟨a,rfl,_⟩:=h;rfl
 obtain ⟨a,rfl,q⟩:=h
 refine ⟨_,(ai (aU (dw (iw (dZ (bV (aO j7 rfl Z.isinstance boot_isinstance (af (rv 0) (af (nF rfl Z.tuple boot_tuple) ah))))) (gY (aD (iu hr.aT) (aO bW rfl Z.len boot_len (af (rv 0) ah)) ag (L2.ax _))))) (aq (aB kA)) aJ)
   (ai (aU (dw (iw (dZ (bV (aP C_whole B hr (by decide) rfl (af (ak ar (rv 0) ag (fun _ _=>rfl)) ah)))) (gY (dZ (bV (aP C_whole B hr (by decide) rfl (af (ak ar (rv 0) ag (fun _ _=>rfl)) ah))))))) (aq (aB kA)) aJ)
   (aq (aB (d3 (cR hr.aT) (rv 0) (rv 1) (L2.ax _)))))),?_⟩
 simp_arith! only [cm,lP]
 exact q
abbrev jm:Stmt:=(top 50)
theorem vY:L2.aw ["_law_number","_law_mode"] ["_law_number","_law_mode"] (L2.aj jm):=dD
def nN:cj:=fun xs J Q _=>∃ n m:Int,xs=[.int n,.int m]∧0≤n∧∀ v:Int,v.natAbs≤1000000→Q (.int v) J
theorem tD {f:Addr} {fd:FuncData} (F:bX K "_law_placed" "_law_placed" jm f fd) (Z:bP mg):aI P w K mg base (cU P w) 1 f fd ["_law_number","_law_mode"] (dz K nN):=by
 simp_arith [vY]
 ·obtain ⟨n,m,rfl,_⟩:=h;rfl
 obtain ⟨n,m,rfl,n0,q⟩:=h
 refine ⟨_,(ai (aU (aD d6 (rv 1) ag (L2.ax _)) (aq (aB (aK dF (aK dG (rv 0) ag) ag))) aJ)
   (ai (aU (aD (cR hr.aT) (rv 1) ag (L2.ax _)) (aq (aB (aK dF (aK dG (rv 0) ag) ag))) aJ)
   (aq (aB (aK dF (aK dG (rv 0) ag) ag))))),?_⟩
 simp_all! only []
 split
 ·simp_all! only [];exact ⟨by decide,q _ (by omega)⟩
 simp_all! only []
 split
 ·simp_all! only [];exact ⟨by decide,q _ (by omega)⟩
 ·simp_all! only [];exact ⟨by decide,q _ (by omega)⟩
abbrev k8:Stmt:=(top 51)
theorem xj:L2.aw ["_law_number","_law_mode"] ["_law_number","_law_mode"] (L2.aj k8):=dD
def ra:cj:=fun xs J Q _=>∃ n m:Int,xs=[.int n,.int m]∧0≤n∧n < 2001∧∀ v:Int,v.natAbs≤1000→Q (.int v) J
theorem vV {f:Addr} {fd:FuncData} (F:bX K "_law_paced" "_law_paced" k8 f fd) (Z:bP mg):aI P w K mg base (cU P w) 1 f fd ["_law_number","_law_mode"] (dz K ra):=by
 simp_arith [xj]
 ·obtain ⟨n,m,rfl,_⟩:=h;rfl
 obtain ⟨n,m,rfl,n0,n1,q⟩:=h
 refine ⟨_,(ai (aU (aD d6 (rv 1) ag (L2.ax _)) (aq (aB (aK dF (aK dG (rv 0) ag) ag))) aJ)
   (ai (aU (aD (cR hr.aT) (rv 1) ag (L2.ax _)) (aq (aB (aK dF (aK dG (rv 0) ag) ag))) aJ)
   (aq (aB (aK dF (aK dG (rv 0) ag) ag))))),?_⟩
 simp_all! only []
 split
 ·simp_all! only [];exact ⟨by decide,q _ (by omega)⟩
 simp_all! only []
 split
 ·simp_all! only [];exact ⟨by decide,q _ (by omega)⟩
 ·simp_all! only [];exact ⟨by decide,q _ (by omega)⟩
abbrev Al:Stmt:=(top 54)
theorem q_:L2.aw ["_law_leg","_law_moment","_law_begun","_law_place","_law_way","_law_under"] ["_law_leg","_law_moment"] (L2.aj Al):=dD
theorem Dq {f:Addr} {fd:FuncData} (F:bX K "_law_at" "_law_at" Al f fd) (Z:bP mg) (C_low:a9 P w K mg base 1 "_law_low" ["_law_top","_law_bottom"] iR):aI P w K mg base (cU P w) 2 f fd ["_law_leg","_law_moment"] (dz K i9):=by
 simp_arith [q_]
 ·obtain ⟨l,t,rfl,_⟩:=h;rfl
 obtain ⟨l,m,rfl,sb,sp,sm,bv,q⟩:=h
 refine ⟨_,(ai (aG (i:=2) q_.nd rfl (Or.inl rfl) (ak ar (rv 0) ag (fun _ _=>rfl)))
   (ai (aG (i:=3) q_.nd rfl (Or.inl rfl) (ak ar (rv 0) ag (fun _ _=>rfl)))
   (ai (aG (i:=4) q_.nd rfl (Or.inl rfl) (aK bK (ak ar (rv 0) ag (fun _ _=>rfl)) (aK dF (aK bK (ak ar (rv 1) ag (fun _ _=>rfl)) (ak ar (rv 2) ag (fun _ _=>rfl))) (aK bK (ak ar (rv 2) ag (fun _ _=>rfl)) (ak ar (rv 1) ag (fun _ _=>rfl))))))
   (ai (aG (i:=5) q_.nd rfl (Or.inl rfl) (aK bK (ak ar (rv 1) ag (fun _ _=>rfl)) (ak ar (rv 2) ag (fun _ _=>rfl))))
   (aq (aB (aP C_low B hr (by decide) rfl (af (aK dj (aK bK (ak ar (rv 3) ag (fun _ _=>rfl)) (rv 5)) (aK bK (rv 4) (ak ar (rv 3) ag (fun _ _=>rfl)))) (af (aK bK (ak ar (rv 3) ag (fun _ _=>rfl)) (rv 5)) ah))))))))),?_⟩
 simp_arith! only [cm,uI,EU,kC,iR]
 have bn:Bd 1801 (m.num * l.m.den - l.m.num * m.den):=.sub (.mul sm.num sb.den (Nat.le_refl _)) (.mul sb.num sm.den (Nat.le_refl _))
 have bu:Bd 1800 ((m.den:Int) * l.m.den):=.mul sm.den sb.den
 have bw:Bd 1900 (l.v * (m.num * l.m.den - l.m.num * m.den)):=.mul bv bn
 refine ⟨.of sm.num sb.den,.of sb.num sm.den,.of bv bn,.of sm.den sb.den,.of sp.num bu,.of bw sp.den,.of sp.den bu,Int.mul_pos (iI _) (Int.mul_pos (iI _) (iI _)),.mul sp.den bu,?_⟩
 rw [Gf]
 exact q
abbrev lq:Stmt:=(top 52)
theorem iX:L2.aw ["_law_clock","_law_number","_law_bottom","_law_mode","_law_under","_law_steps"] ["_law_clock","_law_number","_law_bottom","_law_mode"] (L2.aj lq):=dD
def uV:cj:=fun xs J Q _=>∃ (c:Rat) (n b m:Int),xs=[fr c,.int n,.int b,.int m]∧0≤n∧0≤b∧0≤m∧m < 4∧n < 2 ^ 60∧Sz 900 c∧∀ q,Later c q→Q (fr q) J
theorem vH {f:Addr} {fd:FuncData} (F:bX K "_law_later" "_law_later" lq f fd) (Z:bP mg) (C_low:a9 P w K mg base 1 "_law_low" ["_law_top","_law_bottom"] iR):aI P w K mg base (cU P w) 2 f fd ["_law_clock","_law_number","_law_bottom","_law_mode"] (dz K uV):=by
 simp_arith [iX]
 ·obtain ⟨c,n,b,m,rfl,_⟩:=h;rfl
 obtain ⟨c,n,b,m,rfl,n0,b0,m0,m1,n2,sc,q⟩:=h
 refine ⟨_,(ai (aU (aD (cR hr.aT) (aK dG (rv 1) ag) ag (L2.ax _)) (aq (aB (rv 0))) aJ)
   (ai (aG (i:=4) iX.nd rfl (Or.inl rfl) (aK dj ag (aK dG (rv 2) (ak ar (vw (y4 [.int 4,.int 6,.int 60,.int 60] rfl [.int 4,.int 6,.int 60,.int 60] rfl)) (rv 3) (fun _ _=>rfl)))))
   (ai (aG (i:=5) iX.nd rfl (Or.inl rfl) (aK dj ag (aK dG (aK k_ (rv 1) ag) (aK bK ag (rv 4)))))
   (dk (aU (aD (cR hr.aT) (rv 3) ag (L2.ax _)) (aq (aG (i:=5) iX.nd rfl (Or.inl rfl) (aK dj ag (aK dG (aK k_ (rv 1) ag) (aK bK ag (rv 4)))))) aJ)
   (aq (aB (aP C_low B hr (by decide) rfl (af (aK dj (aK k_ (aK bK (ak ar (rv 0) ag (fun _ _=>rfl)) (rv 4)) (ak ar (rv 0) ag (fun _ _=>rfl))) (rv 5)) (af (rv 4) ah))))))))),?_⟩
 simp_arith! only [cm]
 refine ⟨by decide,?_⟩
 split
 ·exact q c (.inl rfl)
 obtain ⟨x,hx,x0,x1⟩:∃ x:Int,cH [PV.int 4,PV.int 6,PV.int 60,PV.int 60] m=some (.int x)∧1≤x∧x≤60:=by
  rcases (by omega:m=0∨m=1∨m=2∨m=3) with e | e | e | e <;> subst e
  ·exact ⟨4,cS _ _,by decide,by decide⟩
  ·exact ⟨6,d7 _ _ _,by decide,by decide⟩
  ·exact ⟨60,iz _ _ _ _,by decide,by decide⟩
  ·exact ⟨60,yO _ _ _ _ _,by decide,by decide⟩
 have u0:0≤b % x:=Int.emod_nonneg _ (by omega)
 have u1:b % x < x:=Int.emod_lt_of_pos _ (by omega)
 have bu:Bd 64 (1 + b % x):=.small (by omega) (by omega)
 have b8:Bd 9000 8:=(Bd.small (x:=8) (by decide) (by decide)).mono (by decide)
 refine ⟨_,hx,x,rfl,by omega,⟨by decide,b8⟩,.of (.small (x:=2) (by decide) (by decide)) bu,by omega,?_⟩
 generalize hu:1 + b % x=u at *
 have k0:0≤n.fdiv 8:=by rw [Int.fdiv_eq_ediv_of_nonneg _ (by decide)];exact Int.ediv_nonneg n0 (by decide)
 obtain ⟨M,hM⟩:∃ M:Sr→Hq→Prop,∀ τ' J',M τ' J'↔∃ s:Int,τ'=[some (fr c),some (.int n),some (.int b),some (.int m),some (.int u),some (.int s)]∧J'=J∧1≤s∧s≤500 * u:=⟨_,fun _ _=>Iff.rfl⟩
 refine ⟨M,?_,?_⟩
 ·simp_arith! only [cm]
  have h2:0≤n.fdiv 8 % (2 * u):=Int.emod_nonneg _ (by omega)
  have h3:n.fdiv 8 % (2 * u) < 2 * u:=Int.emod_lt_of_pos _ (by omega)
  have h4:0≤n.fdiv 8 % (500 * u):=Int.emod_nonneg _ (by omega)
  have h5:n.fdiv 8 % (500 * u) < 500 * u:=Int.emod_lt_of_pos _ (by omega)
  split
  ·refine ⟨⟨by decide,b8⟩,.of (.small (x:=500) (by decide) (by decide)) bu,by omega,(hM _ _).mpr ⟨_,rfl,rfl,by omega,by omega⟩⟩
  ·exact (hM _ _).mpr ⟨_,rfl,rfl,by omega,by omega⟩
 ·intro τ' J' hm
  obtain ⟨s,rfl,rfl,s0,s1⟩:=(hM _ _).mp hm
  clear hm hM M
  simp_arith! only [cm,iR]
  refine ⟨.of sc.num bu,⟨dC c,sc.den.mono (by decide)⟩,by omega,bu.mono (by decide),?_⟩
  obtain ⟨u',rfl⟩:=Int.eq_ofNat_of_zero_le (show 0≤u by omega)
  obtain ⟨s',rfl⟩:=Int.eq_ofNat_of_zero_le (show 0≤s by omega)
  exact q _ (.inr ⟨u',s',by omega,by omega,by omega,by omega,rfl⟩)
section
variable {X:Cx}
theorem jG.or {f:Value→Value→Sem Value} {q q':jq} (h:jG X f q) (h':jG X f q'):jG X f (fun x y J Q=>q x y J Q∨q' x y J Q):=by
 obtain ⟨r,a,lr⟩:=h
 obtain ⟨r',a',lr'⟩:=h'
 refine ⟨fun x y H Q=>r x y H Q∨r' x y H Q,fun pins s σ H x y v u Q I rx ry h=>?_,fun J H x y v w Q2 Q rx ry rr h k=>?_⟩
 ·rcases h with h | h
  ·exact a pins s σ H x y v u Q I rx ry h
  ·exact a' pins s σ H x y v u Q I rx ry h
 ·rcases h with h | h
  ·exact .inl (lr J H x y v w Q2 Q rx ry rr h k)
  ·exact .inr (lr' J H x y v w Q2 Q rx ry rr h k)
end
def Ky.V (k:Ky):PV:=.tup [fr k.p,.int k.v,.str k.n]
theorem Fp (J:Hq) (k:Ky):dY J k.V (.int 0)=some (fr k.p):=cS _ _
theorem EW (J:Hq) (k:Ky):dY J k.V (.int 1)=some (.int k.v):=d7 _ _ _
theorem CL (J:Hq) (k:Ky):dY J k.V (.int 2)=some (.str k.n):=iz _ _ _ _
theorem FX (p:Rat) (v:Int) (n:Str):PV.tup [fr p,.int v,.str n]=(Ky.mk p v n).V:=rfl
theorem fG (p q:Rat):(p.num * (q.den:Int) < q.num * (p.den:Int))=(p < q):=propext (Rat.lt_iff p q).symm
abbrev i_:Stmt:=(top 57)
theorem jX:L2.aw ["_law_one","_law_two","_law_here","_law_there"] ["_law_one","_law_two"] (L2.aj i_):=dD
def rg:cj:=fun xs J Q _=>(∃ a b:Ky,xs=[a.V,b.V]∧Sz 9000 a.p∧Sz 9000 b.p∧Q (.bl (a.lt b)) J)∨(∃ a b:aA,xs=[a.v,b.v]∧Sz 9000 a.m∧Sz 9000 b.m∧Q (.bl (a.lt b)) J)
theorem sX {f:Addr} {fd:FuncData} (F:bX K "_law_before" "_law_before" i_ f fd) (Z:bP mg):aI P w K mg base (cU P w) 1 f fd ["_law_one","_law_two"] (dz K rg):=by
 simp_arith [jX]
 ·rcases h with ⟨a,b,rfl,_⟩ | ⟨a,b,rfl,_⟩ <;> rfl
 refine ⟨_,(ai (aG (i:=2) jX.nd rfl (Or.inl rfl) (aK bK (ak ar (ak ar (rv 0) ag (fun _ _=>rfl)) ag (fun _ _=>rfl)) (ak ar (ak ar (rv 1) ag (fun _ _=>rfl)) ag (fun _ _=>rfl))))
   (ai (aG (i:=3) jX.nd rfl (Or.inl rfl) (aK bK (ak ar (ak ar (rv 1) ag (fun _ _=>rfl)) ag (fun _ _=>rfl)) (ak ar (ak ar (rv 0) ag (fun _ _=>rfl)) ag (fun _ _=>rfl))))
   (ai (aU (aD (iu hr.aT) (rv 2) (rv 3) (L2.ax _)) (aq (aB (d3 d6 (rv 2) (rv 3) (L2.ax _)))) aJ)
   (ai (aU (aD (iu hr.aT) (ak ar (rv 0) ag (fun _ _=>rfl)) (ak ar (rv 1) ag (fun _ _=>rfl)) (L2.ax _)) (aq (aB (d3 (jG.or d6 r_) (ak ar (rv 0) ag (fun _ _=>rfl)) (ak ar (rv 1) ag (fun _ _=>rfl)) (L2.ax _)))) aJ)
   (aq (aB (d3 r_ (ak ar (rv 0) ag (fun _ _=>rfl)) (ak ar (rv 1) ag (fun _ _=>rfl)) (L2.ax _)))))))),?_⟩
 rcases h with ⟨a,b,rfl,sa,sb,q⟩ | ⟨a,b,rfl,sa,sb,q⟩
 ·simp_arith! only [cm,Fp,EW,CL]
  refine ⟨.of sa.num sb.den,.of sb.num sa.den,?_⟩
  unfold Ky.lt at q
  by_cases e:a.p=b.p
  ·rw [if_pos e] at q
   rw [if_pos ((hX _ _).mpr e)]
   by_cases k:a.v=b.v
   ·rw [if_pos k] at q ⊢;exact q
   ·rw [if_neg k] at q ⊢;exact q
  ·rw [if_neg e] at q
   rw [if_neg (fun z=>e ((hX _ _).mp z))]
   simp only [fG]
   exact q
 ·simp_arith! only [cm,n6,uE,uq]
  refine ⟨.of sa.num sb.den,.of sb.num sa.den,?_⟩
  unfold aA.lt at q
  by_cases e:a.m=b.m
  ·rw [if_pos e] at q
   rw [if_pos ((hX _ _).mpr e)]
   by_cases k:a.h=b.h
   ·rw [if_pos k] at q ⊢;exact q
   ·rw [if_neg k] at q ⊢;exact q
  ·rw [if_neg e] at q
   rw [if_neg (fun z=>e ((hX _ _).mp z))]
   simp only [fG]
   exact q
abbrev jt:Stmt:=(top 58)
theorem fM:L2.aw ["_law_legs","_law_moment","_law_out","_law_name","_law_row","_law_at_here"] ["_law_legs","_law_moment"] (L2.aj jt):=dD
def rj:cj:=fun xs J Q _=>∃ (D:Addr) (fs:List (Str × aQ)) (ep:Nat) (t:Rat),xs=[.ref D,fr t]∧J D=some (.dct (bA fs) ep)∧(fs.map (·.1)).Nodup∧fs.length≤100∧Sz 900 t∧(∀ x∈fs,ko 900 x.2)∧Q (.fl ((b_ t fs).map .str)) J
theorem wj {f:Addr} {fd:FuncData} (F:bX K "_law_order" "_law_order" jt f fd) (Z:bP mg) (C_at:a9 P w K mg base 2 "_law_at" ["_law_leg","_law_moment"] i9) (C_before:a9 P w K mg base 1 "_law_before" ["_law_one","_law_two"] rg):aI P w K mg base (cU P w) 3 f fd ["_law_legs","_law_moment"] (dz K rj):=by
 refine HK F fM (fun xs J Q E h=>?_) (fun cdv A outer s H E G xs J Q E2 hr h B=>?_)
 ·obtain ⟨D,fs,ep,t,rfl,_⟩:=h;rfl
 obtain ⟨D,fs,ep,t,rfl,hD,hnd,hlen,st,sl,q⟩:=h
 refine ⟨_,(ai (aG (i:=2) fM.nd rfl (Or.inl rfl) (jJ ah))
   (ai (eL bY rfl (kZ (rv 0)) (bt (i:=3) fM.nd rfl (Or.inl rfl)) (ai (aG (i:=4) fM.nd rfl (Or.inl rfl) (bS (af (aP C_at B hr (by decide) rfl (af (ak dB (rv 0) (rv 3) (fun _ _=>rfl)) (af (rv 1) ah))) (af (ak ar (ak dB (rv 0) (rv 3) (fun _ _=>rfl)) ag (fun _ _=>rfl)) (af (rv 3) ah)))))
   (ai (aG (i:=5) fM.nd rfl (Or.inl rfl) ag)
   (ai (i6 bY (dw (d4 (aD d6 (rv 5) (aO bW rfl Z.len boot_len (af (rv 2) ah)) (L2.ax _)) (dn (bV (aP C_before B hr (by decide) rfl (af (ak ar (rv 2) (rv 5) (fun _ _=>rfl)) (af (rv 4) ah))))))) (aq (aG (i:=5) fM.nd rfl (Or.inl rfl) (aK dj (rv 5) ag))))
   (aq (a8 (kD PySem.F.plainAttrs_list PySem.F.slot_list_insert PySem.F.type_list_insert jK (rv 2) (af (rv 5) (af (rv 4) ah)))))))))
   (aq (aB (FO (L2.aj jt) ["_law_legs","_law_moment","_law_out","_law_name","_law_row","_law_at_here"] [] rfl rfl rfl (fq (rv 2)) (fun _ _ _ _ _ _=>(ak ar (rv 0) ag (fun _ _=>rfl)))))))),?_⟩
 simp_all! only []
 intro r hr'
 have nDr:D≠r:=by intro e;subst e;rw [hD] at hr';cases hr'
 simp_all! only [au nDr,hD]
 have hkv:(bA fs).map (fun kv=>PV.str kv.1)=fs.map fun x=>PV.str x.1:=by unfold bA;rw [List.map_map];rfl
 rw [hkv]
 obtain ⟨Inv,hInv⟩:∃ Inv:Nat→Sr→Hq→Prop,∀ i τ J',Inv i τ J'↔∃ (u3 u4 u5:Option PV),τ=[some (.ref D),some (fr t),some (.ref r),u3,u4,u5]∧J'=put J r (.lst ((bJ ((fs.take i).map (key t))).map Ky.V)):=⟨_,fun _ _ _=>Iff.rfl⟩
 refine fz Inv ((hInv _ _ _).mpr ⟨_,_,_,rfl,rfl⟩) (fun i τ J' h=>?_) ?_ ?_
 ·obtain ⟨_,_,_,_,rfl⟩:=(hInv _ _ _).mp h
  rw [au nDr];exact hD
 ·intro i x τ J' hx hv
  obtain ⟨u3,u4,u5,rfl,rfl⟩:=(hInv _ _ _).mp hv
  clear hv
  have hi:i < fs.length:=by have:=(List.getElem?_eq_some_iff.mp hx).1;simpa using this
  rw [List.getElem?_map,List.getElem?_eq_getElem hi] at hx
  cases hx
  rcases hfi:fs[i] with ⟨n,l⟩
  have hmem:(n,l)∈fs:=by rw [← hfi];exact List.getElem_mem hi
  have et:fs.take (i + 1)=fs.take i ++ [(n,l)]:=by rw [List.take_add_one,List.getElem?_eq_getElem hi,hfi];rfl
  have hndt:((fs.take i).map (·.1)).Nodup:=by rw [List.map_take];exact hnd.sublist (List.take_sublist _ _)
  obtain ⟨ys,hys⟩:∃ ys,bJ ((fs.take i).map (key t))=ys:=⟨_,rfl⟩
  have srt:jj Ky.lt ys:=by rw [← hys];exact cY (by rw [cI];exact hndt)
  have hyl:ys.length=i:=by rw [← hys,gW,List.length_map,List.length_take];omega
  have hym:∀ y∈ys,Sz 9000 y.p:=fun y hy=>by
   rw [← hys,aX,List.mem_map] at hy
   obtain ⟨x',hx',rfl⟩:=hy
   exact (fT (sl x' (List.mem_of_mem_take hx')) st).mono (by decide)
  have en:bJ ((fs.take (i + 1)).map (key t))=kJ Ky.lt (key t (n,l)) ys:=by rw [et,List.map_append,List.map_cons,List.map_nil,fQ,hys]
  rw [hys]
  have hvn:iS (bA fs) n=some l.V:=fZ (f:=aQ.V) hnd hmem
  have sll:=sl _ hmem
  simp_all! only [au nDr,hD,hvn]
  refine ⟨l,t,rfl,sll.m,sll.p,st,sll.v,?_⟩
  simp_all! only [au nDr,hD,hvn,kC,FX]
  have ek:(Ky.mk (l.at t) l.v n)=key t (n,l):=rfl
  rw [ek]
  have skn:Sz 9000 (key t (n,l)).p:=(fT sll st).mono (by decide)
  generalize key t (n,l)=kn at en skn ⊢
  refine ⟨fun m τ' J'=>∃ j:Nat,j≤ys.length∧m=ys.length - j∧τ'=[some (.ref D),some (fr t),some (.ref r),some (.str n),some kn.V,some (.int (j:Nat))]∧J'=put J r (.lst (ys.map Ky.V))∧∀ (k:Nat) y,k < j→ys[k]?=some y→y.lt kn=true,⟨ys.length,0,Nat.zero_le _,rfl,rfl,rfl,fun k y hk=>by omega⟩,?_⟩
  rintro m τ' J' ⟨j,hj,rfl,rfl,rfl,hlow⟩
  have fin:(∀ (k:Nat) y,j≤k→ys[k]?=some y→y.lt kn=false)→Inv (i + 1) [some (.ref D),some (fr t),some (.ref r),some (.str n),some kn.V,some (.int (j:Nat))] (put J r (.lst ((ys.map Ky.V).take j ++ kn.V :: (ys.map Ky.V).drop j))):=fun hhigh=>by
   refine (hInv _ _ _).mpr ⟨_,_,_,rfl,?_⟩
   rw [en,← vd hj hlow hhigh,List.map_append,List.map_cons,List.map_take,List.map_drop]
  simp_all! only [av,List.length_map]
  by_cases c0:j < ys.length
  ·rw [if_pos (by omega)]
   obtain ⟨y,hy⟩:∃ y,ys[j]?=some y:=⟨_,List.getElem?_eq_getElem c0⟩
   have ha:cH (ys.map Ky.V) (j:Int)=some y.V:=a_ (by rw [List.getElem?_map,hy];rfl)
   simp_all! only [ha]
   refine .inl ⟨y,kn,rfl,hym y (List.mem_of_getElem? hy),skn,?_⟩
   cases hc:y.lt kn with
   | true =>
    simp_all! only []
    refine ⟨_,fun τ'' J'' h=>⟨ys.length - (j + 1),by omega,h⟩,⟨j + 1,by omega,rfl,rfl,rfl,fun k z hk e=>?_⟩⟩
    rcases Nat.lt_or_eq_of_le (Nat.lt_succ_iff.mp hk) with h | h
    ·exact hlow k z h e
    ·subst h;rw [hy] at e;cases e;exact hc
   | false =>
    simp_all! only [av]
    refine ⟨_,j,rfl,rfl,by rw [List.length_map];omega,aV (by rw [List.length_map];omega),by omega,?_⟩
    rw [dN]
    exact fin fun k z hk e=>vI (lt:=Ky.lt) Ky.tr srt hy e hk hc
  ·rw [if_neg (by omega)]
   simp_all! only [av]
   refine ⟨_,j,rfl,rfl,by rw [List.length_map];omega,aV (by rw [List.length_map];omega),by omega,?_⟩
   rw [dN]
   exact fin fun k z hk e=>by rw [List.getElem?_eq_none (by omega)] at e;cases e
 ·intro τ J' hv
  obtain ⟨u3,u4,u5,rfl,rfl⟩:=(hInv _ _ _).mp hv
  rw [List.length_map,List.take_length]
  simp_all! only [qX,av]
  refine ⟨fun _=>true,(fun x=>match x with | .tup [_,_,n]=>n | _=>.non),⟨aV (by rw [List.length_map,gW,List.length_map];omega),fun J2 hs=>⟨hs _ _ av,fun x hx=>⟨⟨rfl,rfl⟩,fun _=>?_⟩⟩⟩,?_⟩
  ·obtain ⟨y,hy,rfl⟩:=List.mem_map.mp hx
   simp_arith! only [cm,CL]
   rfl
  ·rw [List.filter_eq_self.mpr fun _ _=>rfl,List.map_map]
   have e:(b_ t fs).map PV.str=(bJ (fs.map (key t))).map ((fun x=>match x with | .tup [_,_,n]=>n | _=>.non) ∘ Ky.V):=by unfold b_;rw [List.map_map];rfl
   rw [e] at q
   exact Fg.less (lY hr') q
theorem ko.nu {l:aQ} (h:ko 240 l) {t:Rat} (st:Sz 240 t):Sz 790 (l.at t):=by
 have s1:Sz 481 (t - l.m):=st.sub h.m
 have s2:Sz 545 ((t - l.m) * (l.v:Rat)):=s1.mul h.v
 exact h.p.add s2
theorem AA (p q:Rat):(0 < q.num * (p.den:Int) - p.num * (q.den:Int))=(p < q):=by
 rw [← fG p q];exact propext (by omega)
theorem bM.F0 {L:Ln} (ok:bM L):L.fs.length≤12:=by
 have:=ok.rl
 rw [ok.row,qk] at this;exact this
def FC (t:Rat) (fs gs:List (Str × aQ)):Prop:=∀ x,x∈fs.map (key t)↔x∈gs.map (key t)
def qy:List aQ→Prop
 | a :: b :: r=>b.p=a.at b.m∧qy (b :: r)
 | _=>True
theorem g8:∀ (ls:List aQ) (l:aQ),qy (ls ++ [l])↔qy ls∧∀ k,ls.getLast?=some k→l.p=k.at l.m
 | [],l=>⟨fun _=>⟨trivial,fun k h=>nomatch h⟩,fun _=>trivial⟩
 | [a],l=>⟨fun h=>⟨trivial,fun k e=>by cases e;exact h.1⟩,fun h=>⟨h.2 a rfl,trivial⟩⟩
 | a :: b :: r,l=>by
  have ih:=g8 (b :: r) l
  show (b.p=a.at b.m∧qy ((b :: r) ++ [l]))↔_
  rw [ih,List.getLast?_cons_cons]
  constructor
  ·rintro ⟨h1,h2,h3⟩;exact ⟨⟨h1,h2⟩,h3⟩
  ·rintro ⟨⟨h1,h2⟩,h3⟩;exact ⟨h1,h2,h3⟩
def fL (l l':aQ):Prop:=l.v=l'.v∧∀ t,l.at t=l'.at t
theorem fL.key {l l':aQ} (h:fL l l') (n:Str) (t:Rat):key t (n,l)=key t (n,l'):=by unfold Ov.key;simp only;rw [h.1,h.2 t]
theorem BY (l:aQ):l.at l.m=l.p:=by unfold aQ.at;grind
theorem tX {l l':aQ} {t:Rat} (hv:l.v=l'.v) (h:l.at t=l'.at t):fL l l':=⟨hv,fun s=>by
 unfold aQ.at at h ⊢
 rw [hv] at h ⊢
 generalize (l'.v:Rat)=x at h ⊢
 grind⟩
theorem gG {rows:List aQ} {t:Rat} {v:Int} (h:qy rows) (ne:rows≠[]):qy (turned rows t v)∧∀ l,rows.getLast?=some l→∀ l',(turned rows t v).getLast?=some l'→fL ⟨t,l.at t,v⟩ l':=by
 obtain ⟨ls,l,rfl⟩:∃ ls l,rows=ls ++ [l]:=⟨rows.dropLast,rows.getLast ne,(List.dropLast_concat_getLast ne).symm⟩
 obtain ⟨h1,h2⟩:=(g8 ls l).mp h
 have new:∀ {q:List aQ},(q ++ [aQ.mk t (l.at t) v]).getLast?=some (aQ.mk t (l.at t) v):=fun {q}=>List.getLast?_concat ..
 rw [ft]
 simp only [List.getLast?_concat,Option.some.injEq]
 split
 ·rename_i e
  have el:l.at t=l.p:=by rw [← e];exact BY l
  split
  ·rename_i ev
   refine ⟨h1,fun l0 h0 l' h'=>?_⟩
   subst h0
   rw [h'] at ev
   have hv:l'.v=v:=Option.some.inj ev
   have hp:=h2 l' h'
   rw [e] at hp
   refine tX (t:=t) hv.symm ?_
   show l.at t + (t - t) * (v:Rat)=_
   rw [← hp,el];grind
  ·refine ⟨(g8 _ _).mpr ⟨h1,fun k hk=>?_⟩,fun l0 h0 l' h'=>?_⟩
   ·show l.at t=k.at t
    rw [el,h2 k hk,e]
   ·subst h0
    rw [new] at h';cases h';exact ⟨rfl,fun _=>rfl⟩
 ·split
  ·rename_i ev
   refine ⟨h,fun l0 h0 l' h'=>?_⟩
   subst h0
   rw [List.getLast?_concat] at h';cases h'
   refine tX (t:=t) ev.symm ?_
   show l.at t + (t - t) * (v:Rat)=_
   grind
  ·refine ⟨(g8 _ _).mpr ⟨h,fun k hk=>?_⟩,fun l0 h0 l' h'=>?_⟩
   ·rw [List.getLast?_concat] at hk;cases hk;rfl
   ·subst h0
    rw [new] at h';cases h';exact ⟨rfl,fun _=>rfl⟩
structure Rl (L:Ln) (gs:List (Str × aQ)):Prop where
 nm:gs.map (·.1)=L.fs.map (·.1)
 ln:∀ n l l',(n,l)∈gs→(n,l')∈L.fs→fL l l'
 ck:∀ x∈gs,mD x.2
 le:∀ x∈gs,x.2.m≤L.t
 ct:∀ c∈L.cs,qy c.w
theorem Rl.same {L:Ln} {gs:List (Str × aQ)} (h:Rl L gs) (t:Rat):FC t L.fs gs:=fun x=>by
 have other:∀ {as bs:List (Str × aQ)},as.map (·.1)=bs.map (·.1)→∀ {n l},(n,l)∈as→∃ l',(n,l')∈bs:=fun {as bs} e {n l} hm=>by
  have:n∈bs.map (·.1):=by rw [← e];exact List.mem_map.mpr ⟨_,hm,rfl⟩
  obtain ⟨y,hy,e'⟩:=List.mem_map.mp this
  exact ⟨y.2,by rw [← e'];exact hy⟩
 rw [List.mem_map,List.mem_map]
 constructor
 ·rintro ⟨⟨n,l⟩,hm,rfl⟩
  obtain ⟨l',hl'⟩:=other h.nm.symm hm
  exact ⟨(n,l'),hl',(h.ln n l' l hl' hm).key n t⟩
 ·rintro ⟨⟨n,l⟩,hm,rfl⟩
  obtain ⟨l',hl'⟩:=other h.nm hm
  exact ⟨(n,l'),hl',((h.ln n l l' hm hl').key n t).symm⟩
theorem Rl.sz {L:Ln} {gs:List (Str × aQ)} (h:Rl L gs):∀ x∈gs,ko 240 x.2:=fun x hx=>by
 have hk:=h.ck x hx
 exact ⟨hk.Js.mono (by decide),hk.EF.mono (by decide),.small (by have:=hk.v;omega) (by have:=hk.v;omega)⟩
theorem Rl.nd {L:Ln} {gs:List (Str × aQ)} (h:Rl L gs) (ok:aS L):(gs.map (·.1)).Nodup:=by rw [h.nm];exact ok.EN
theorem Rl.len {L:Ln} {gs:List (Str × aQ)} (h:Rl L gs):gs.length=L.fs.length:=by have:=congrArg List.length h.nm;rw [List.length_map,List.length_map] at this;exact this
theorem yo {fs:List (Str × aQ)} {n:Str} {l:aQ} (hm:n∈fs.map (·.1)):pf (bA fs) n l.V=bA (fs.map fun x=>if x.1=n then (x.1,l) else x):=by
 unfold pf bA
 rw [if_pos,List.map_map,List.map_map]
 ·refine List.map_congr_left fun x _=>?_
  show (if x.1=n then (x.1,l.V) else (x.1,x.2.V))=_
  show _=((if x.1=n then (x.1,l) else x).1,(if x.1=n then (x.1,l) else x).2.V)
  split <;> rfl
 ·obtain ⟨x,hx,e⟩:=List.mem_map.mp hm
  rw [List.any_eq_true]
  exact ⟨(x.1,x.2.V),List.mem_map.mpr ⟨x,hx,rfl⟩,decide_eq_true e⟩
def nV (n:Str) (t:Rat) (v:Int) (gs:List (Str × aQ)):List (Str × aQ):=gs.map fun x=>if x.1=n then (x.1,⟨t,x.2.at t,v⟩) else x
def gQ (t:Rat) (gs:List (Str × aQ)):List (Str × aQ):=gs.map fun x=>(x.1,⟨t,x.2.at t,-x.2.v⟩)
theorem yB {L:Ln} {f:Cf→Cf} (hn:∀ c,(f c).n=c.n∧(f c).a=c.a∧(f c).r=c.r∧(f c).g=c.g) {L':Ln} (e:L'.cs=L.cs.map f):L'.fs=L.wb.map fun c=>(c.n,(f c).cur):=by
 unfold Ln.fs Ln.wb
 rw [e,List.filter_map,List.map_map]
 have e1:(fun c:Cf=>c.g.isNone) ∘ f=fun c=>c.g.isNone:=by funext c;show (f c).g.isNone=_;rw [(hn c).2.2.2]
 rw [e1]
 exact List.map_congr_left fun c _=>by show ((f c).n,(f c).cur)=_;rw [(hn c).1]
theorem qA {c:Cf} {t:Rat} {v:Int} (h:qy c.w) (ne:c.w≠[]):fL ⟨t,c.cur.at t,v⟩ (c.turn t v).cur:=by
 have h1:=(Cf.fc ne).1
 have h2:=(Cf.fc (c:=c.turn t v) (j8 ne)).1
 exact (gG h ne).2 _ h1 _ h2
theorem fL.turn {l l':aQ} (h:fL l l') (t:Rat) (v:Int):fL ⟨t,l.at t,v⟩ ⟨t,l'.at t,v⟩:=by rw [h.2 t];exact ⟨rfl,fun _=>rfl⟩
theorem fL.trans {l l' l'':aQ} (h:fL l l') (k:fL l' l''):fL l l'':=⟨h.1.trans k.1,fun t=>(h.2 t).trans (k.2 t)⟩
theorem Rl.turn {L L':Ln} {gs:List (Str × aQ)} (h:Rl L gs) (ok:aS L) {n:Str} {v:Int} (hv:v.natAbs≤1000) (e:L'.cs=L.cs.map (cy n L.t v)) (et:L'.t=L.t):Rl L' (nV n L.t v gs):=by
 have hn:=i4 n L.t v
 have hfs:=yB hn e
 have nm:(nV n L.t v gs).map (·.1)=gs.map (·.1):=by
  unfold nV;rw [List.map_map];exact List.map_congr_left fun x _=>by show (if x.1=n then (x.1,_) else x).1=x.1;split <;> rfl
 refine ⟨?_,?_,?_,?_,?_⟩
 ·rw [nm,h.nm,hfs];unfold Ln.fs;rw [List.map_map,List.map_map];rfl
 ·intro m l l' hl hl'
  obtain ⟨x,hx,ex⟩:=List.mem_map.mp hl
  rw [hfs] at hl'
  obtain ⟨c,hc,ec⟩:=List.mem_map.mp hl'
  have hcs:=(Ln.cx.mp hc).1
  have hold:(c.n,c.cur)∈L.fs:=List.mem_map.mpr ⟨c,hc,rfl⟩
  cases ec
  by_cases z:x.1=n
  ·rw [if_pos z] at ex
   have ex1:x.1=c.n:=(Prod.mk.inj ex).1
   have ex2:aQ.mk L.t (x.2.at L.t) v=l:=(Prod.mk.inj ex).2
   subst ex2
   have hs:=h.ln x.1 x.2 c.cur hx (by rw [ex1];exact hold)
   have zc:c.n=n:=by rw [← z];exact ex1.symm
   unfold cy
   rw [if_pos zc]
   exact (hs.turn L.t v).trans (qA (h.ct c hcs) (ok.ne c hcs))
  ·rw [if_neg z] at ex
   subst ex
   have zc:¬ c.n=n:=z
   unfold cy
   rw [if_neg zc]
   exact h.ln c.n l c.cur hx hold
 ·intro x hx
  obtain ⟨y,hy,rfl⟩:=List.mem_map.mp hx
  split
  ·exact (h.ck y hy).at (h.le y hy) ok.ts hv
  ·exact h.ck y hy
 ·intro x hx
  rw [et]
  obtain ⟨y,hy,rfl⟩:=List.mem_map.mp hx
  split
  ·exact Rat.le_refl
  ·exact h.le y hy
 ·intro c hc
  rw [e] at hc
  obtain ⟨c0,h0,rfl⟩:=List.mem_map.mp hc
  unfold cy
  split
  ·exact (gG (h.ct c0 h0) (ok.ne c0 h0)).1
  ·exact h.ct c0 h0
theorem qo (t:Rat) (c:Cf):(c7 t c).n=c.n∧(c7 t c).a=c.a∧(c7 t c).r=c.r∧(c7 t c).g=c.g:=by unfold c7;split <;> exact ⟨rfl,rfl,rfl,rfl⟩
theorem Rl.about {L L':Ln} {gs:List (Str × aQ)} (h:Rl L gs) (ok:aS L) (e:L'.cs=L.cs.map (c7 L.t)) (et:L'.t=L.t):Rl L' (gQ L.t gs):=by
 have hn:=qo L.t
 have hfs:=yB hn e
 have nm:(gQ L.t gs).map (·.1)=gs.map (·.1):=by
  unfold gQ;rw [List.map_map];rfl
 refine ⟨?_,?_,?_,?_,?_⟩
 ·rw [nm,h.nm,hfs];unfold Ln.fs;rw [List.map_map,List.map_map];rfl
 ·intro m l l' hl hl'
  obtain ⟨x,hx,ex⟩:=List.mem_map.mp hl
  rw [hfs] at hl'
  obtain ⟨c,hc,ec⟩:=List.mem_map.mp hl'
  have hcs:=Ln.cx.mp hc
  have hold:(c.n,c.cur)∈L.fs:=List.mem_map.mpr ⟨c,hc,rfl⟩
  cases ec
  obtain ⟨xn,xl⟩:=x
  cases ex
  have hs:=h.ln c.n xl c.cur hx hold
  have ea:c7 L.t c=c.turn L.t (-c.cur.v):=by unfold c7;rw [if_pos (by rw [hcs.2];rfl)]
  rw [ea,hs.1]
  exact (hs.turn L.t _).trans (qA (h.ct c hcs.1) (ok.ne c hcs.1))
 ·intro x hx
  obtain ⟨y,hy,rfl⟩:=List.mem_map.mp hx
  exact (h.ck y hy).at (h.le y hy) ok.ts (by have:=(h.ck y hy).v;omega)
 ·intro x hx
  rw [et]
  obtain ⟨y,hy,rfl⟩:=List.mem_map.mp hx
  exact Rat.le_refl
 ·intro c hc
  rw [e] at hc
  obtain ⟨c0,h0,rfl⟩:=List.mem_map.mp hc
  unfold c7
  split
  ·exact (gG (h.ct c0 h0) (ok.ne c0 h0)).1
  ·exact h.ct c0 h0
theorem Rl.join {L L':Ln} {gs:List (Str × aQ)} (h:Rl L gs) (ok':aS L') {n:Str} {x v:Int} (hv:v.natAbs≤1000) (hx:x.natAbs≤1000000) (j:L.joined n x v L') (t0:0≤L.t) (ts:Sc fR MM L.t) (hnew:n ∉ L.fs.map (·.1)):Rl L' (gs ++ [(n,⟨L.t,(x:Rat),v⟩)]):=by
 obtain ⟨a,r,ecs,et⟩:=j
 have efs:L'.fs=L.fs ++ [(n,⟨L.t,(x:Rat),v⟩)]:=vg L ecs rfl
 refine ⟨?_,?_,?_,?_,?_⟩
 ·rw [efs,List.map_append,List.map_append,h.nm]
 ·intro m l l' hl hl'
  rw [efs] at hl'
  have h1:∀ {k},(n,k)∈gs→False:=fun hk=>hnew (by rw [← h.nm];exact List.mem_map.mpr ⟨_,hk,rfl⟩)
  have h2:∀ {k},(n,k)∈L.fs→False:=fun hk=>hnew (List.mem_map.mpr ⟨_,hk,rfl⟩)
  rcases List.mem_append.mp hl with hl | hl <;> rcases List.mem_append.mp hl' with hl' | hl'
  ·exact h.ln m l l' hl hl'
  ·rw [List.mem_singleton] at hl';cases hl';exact (h1 hl).elim
  ·rw [List.mem_singleton] at hl;cases hl;exact (h2 hl').elim
  ·rw [List.mem_singleton] at hl hl';cases hl;cases hl';exact ⟨rfl,fun _=>rfl⟩
 ·intro y hy
  rcases List.mem_append.mp hy with hy | hy
  ·exact h.ck y hy
  ·rw [List.mem_singleton] at hy;subst hy;exact mD.new t0 ts hx hv
 ·intro y hy
  rw [et]
  rcases List.mem_append.mp hy with hy | hy
  ·exact h.le y hy
  ·rw [List.mem_singleton] at hy;subst hy;exact Rat.le_refl
 ·intro c hc
  rw [ecs] at hc
  rcases List.mem_append.mp hc with hc | hc
  ·exact h.ct c hc
  ·rw [List.mem_singleton] at hc;subst hc;exact trivial
def j6 (n:Str) (gs:List (Str × aQ)):List (Str × aQ):=gs.filter fun x=>decide (x.1≠n)
theorem Rl.leave {L L':Ln} {gs:List (Str × aQ)} (h:Rl L gs) {n:Str} (e:L'.cs=L.cs.map (bp n L.t)) (et:L'.t=L.t):Rl L' (j6 n gs):=by
 have hfs:L'.fs=L.fs.filter fun x=>decide (x.1≠n):=qZ e
 have hf:∀ l:List (Str × aQ),(l.filter fun x=>decide (x.1≠n)).map (·.1)=(l.map (·.1)).filter fun y=>decide (y≠n):=fun l=>by rw [List.filter_map];rfl
 refine ⟨?_,?_,?_,?_,?_⟩
 ·unfold j6;rw [hf,hfs,hf,h.nm]
 ·intro m l l' hl hl'
  rw [hfs] at hl'
  exact h.ln m l l' (List.mem_filter.mp hl).1 (List.mem_filter.mp hl').1
 ·intro x hx;exact h.ck x (List.mem_filter.mp hx).1
 ·intro x hx;rw [et];exact h.le x (List.mem_filter.mp hx).1
 ·intro c hc
  rw [e] at hc
  obtain ⟨c0,h0,rfl⟩:=List.mem_map.mp hc
  rw [(dT n L.t c0).2.2.2];exact h.ct c0 h0
abbrev kY:Stmt:=(top 55)
theorem qz:L2.aw ["_law_legs","_law_clock","_law_deed_here","_law_name"] ["_law_legs","_law_clock","_law_deed_here"] (L2.aj kY):=dD
def d5 (n:Str) (x v:Int):PV:=.tup [.str "join",.str n,.int x,.int v]
def gu (n:Str) (v:Int):PV:=.tup [.str "turn",.str n,.int v]
def fS:PV:=.tup [.str "about"]
def fC (n:Str):PV:=.tup [.str "leave",.str n]
def B' (m:Rat):PV:=.tup [.str "go",fr m]
def t8:cj:=fun xs J Q _=>∃ (D:Addr) (gs:List (Str × aQ)) (ep:Nat) (t:Rat) (dv:PV),xs=[.ref D,fr t,dv]∧J D=some (.dct (bA gs) ep)∧(gs.map (·.1)).Nodup∧gs.length≤100∧Sz 900 t∧(∀ x∈gs,ko 900 x.2) ∧
 ((∃ n x v,dv=d5 n x v∧n ∉ gs.map (·.1)∧∀ ep',Q (fr t) (put J D (.dct (bA (gs ++ [(n,⟨t,(x:Rat),v⟩)])) ep'))) ∨
  (∃ n v,dv=gu n v∧n∈gs.map (·.1)∧∀ ep',Q (fr t) (put J D (.dct (bA (nV n t v gs)) ep'))) ∨
  (dv=fS∧∀ ep',Q (fr t) (put J D (.dct (bA (gQ t gs)) ep'))) ∨
  (∃ n,dv=fC n∧n∈gs.map (·.1)∧∀ ep',Q (fr t) (put J D (.dct (bA (j6 n gs)) ep'))) ∨
  (∃ m,dv=B' m∧Q (fr m) J))
theorem CJ:(("join":Str)="go")=False:=eq_false (by decide +kernel)
theorem Cp:(("turn":Str)="go")=False:=eq_false (by decide +kernel)
theorem CW:(("about":Str)="go")=False:=eq_false (by decide +kernel)
theorem C4 {c:iF} {a u:gw} {D:En} {τ:Sr} {J:Hq} (hc:∀ R:Bool→Hq→Prop,R false J→c τ J R) (hu:u D τ J):AY (wu c a nH) u D τ J :=
 ⟨fun τ' J'=>τ'=τ∧J'=J,hc _ (by rw [if_neg (by decide)];exact ⟨rfl,rfl⟩),fun τ' J' h=>by obtain ⟨rfl,rfl⟩:=h;exact hu⟩
theorem eE {c:iF} {a u:gw} {D:En} {τ:Sr} {J:Hq} (M:Sr→Hq→Prop) (hc:∀ R:Bool→Hq→Prop,R true J→c τ J R) (ha:a { D with nx:=M } τ J) (hu:∀ τ' J',M τ' J'→u D τ' J'):AY (wu c a nH) u D τ J :=
 ⟨M,hc _ (by rw [if_pos rfl];exact ha),hu⟩
theorem uD {x y:Str} {i:Nat} {dv:PV} {τ:Sr} {J:Hq} (h:τ[i]?=some (some dv)) (h0:dY J dv (.int 0)=some (.str x)) (R:Bool→Hq→Prop) (hr:R (decide (x=y)) J):rB (xb (C2 id) (xb F7 (yj i) (rC (.int 0))) (rC (.str y))) τ J R :=
 ⟨dv,h,.str x,h0,⟨rfl,by simp [fF,dep]⟩,rfl,_,rfl,by rw [eq_str];exact hr⟩
theorem cA {x y:Str} {i:Nat} {dv:PV} {τ:Sr} {J:Hq} {a u:gw} {D:En} (h:τ[i]?=some (some dv)) (h0:dY J dv (.int 0)=some (.str x)) (n:decide (x=y)=false) (hu:u D τ J):AY (wu (rB (xb (C2 id) (xb F7 (yj i) (rC (.int 0))) (rC (.str y)))) a nH) u D τ J:=C4 (fun R hr'=>uD h h0 R (by rw [n];exact hr')) hu
theorem ot {x:Str} {i:Nat} {dv:PV} {τ:Sr} {J:Hq} (h:τ[i]?=some (some dv)) (h0:dY J dv (.int 0)=some (.str x)) (R:Bool→Hq→Prop) (hr:R true J):rB (xb (C2 id) (xb F7 (yj i) (rC (.int 0))) (rC (.str x))) τ J R:=uD h h0 R (by rw [decide_eq_true rfl];exact hr)
def dJ (t:Rat) (gs:List (Str × aQ)) (i:Nat):List (Str × aQ):=gQ t (gs.take i) ++ gs.drop i
theorem n4 (t:Rat) (gs:List (Str × aQ)) (i:Nat):(dJ t gs i).map (·.1)=gs.map (·.1):=by
 unfold dJ gQ
 rw [List.map_append,List.map_map]
 have:((gs.take i).map ((fun x:Str × aQ=>x.1) ∘ fun x=>(x.1,(⟨t,x.2.at t,-x.2.v⟩:aQ))))=(gs.take i).map (·.1):=List.map_congr_left fun _ _=>rfl
 rw [this,← List.map_append,List.take_append_drop]
theorem rR (t:Rat) (gs:List (Str × aQ)) (hnd:(gs.map (·.1)).Nodup) (i:Nat) (h:i < gs.length):(dJ t gs i).map (fun x=>if x.1=gs[i].1 then (x.1,(⟨t,gs[i].2.at t,-gs[i].2.v⟩:aQ)) else x)=dJ t gs (i + 1):=by
 have hd:gs.drop i=gs[i] :: gs.drop (i + 1):=List.drop_eq_getElem_cons h
 have ht:gs.take (i + 1)=gs.take i ++ [gs[i]]:=by rw [List.take_add_one,List.getElem?_eq_getElem h];rfl
 have hn2:(gs.map (·.1))=(gs.take i).map (·.1) ++ (gs[i].1 :: (gs.drop (i + 1)).map (·.1)):=by
  rw [← List.map_cons (f:=fun x:Str × aQ=>x.1),← hd,← List.map_append,List.take_append_drop]
 rw [hn2,List.nodup_append] at hnd
 unfold dJ gQ
 rw [hd,ht,List.map_append,List.map_append,List.map_cons,if_pos rfl,List.append_assoc]
 congr 1
 ·rw [List.map_map]
  refine List.map_congr_left fun x hx=>?_
  show (if x.1=gs[i].1 then _ else _)=_
  rw [if_neg (hnd.2.2 x.1 (List.mem_map.mpr ⟨x,hx,rfl⟩) gs[i].1 (by simp))]
 ·show _ :: _=_ :: _
  congr 1
  have hno:=(List.nodup_cons.mp hnd.2.1).1
  have:∀ x∈gs.drop (i + 1),(if x.1=gs[i].1 then (x.1,(⟨t,gs[i].2.at t,-gs[i].2.v⟩:aQ)) else x)=x:=fun x hx=>if_neg fun z=>hno (by rw [← z];exact List.mem_map.mpr ⟨x,hx,rfl⟩)
  rw [List.map_congr_left this,List.map_id']
  rfl
theorem Cq:(("leave":Str)="go")=False:=eq_false (by decide +kernel)
theorem wy {f:Addr} {fd:FuncData} (F:bX K "_law_acted" "_law_acted" kY f fd) (Z:bP mg) (C_at:a9 P w K mg base 2 "_law_at" ["_law_leg","_law_moment"] i9):aI P w K mg base (cU P w) 3 f fd ["_law_legs","_law_clock","_law_deed_here"] (dz K t8):=by
 simp_arith [qz]
 ·obtain ⟨D,gs,ep,t,dv,rfl,_⟩:=h;rfl
 obtain ⟨D,gs,ep,t,dv,rfl,hD,hnd,hlen,st,sl,h⟩:=h
 refine ⟨_,(dk (aU (aD (cR hr.aT) (ak ar (rv 2) ag (fun _ _=>rfl)) bz (L2.ax _)) (aq (oB lh (rv 0) (ak ar (rv 2) ag (fun _ _=>rfl)) (bS (af (rv 1) (af (bS (af (ak ar (rv 2) ag (fun _ _=>rfl)) (af ag ah))) (af (ak ar (rv 2) ag (fun _ _=>rfl)) ah)))))) aJ)
   (dk (aU (aD (cR hr.aT) (ak ar (rv 2) ag (fun _ _=>rfl)) bz (L2.ax _)) (aq (a8 (kD PySem.F.plainAttrs_dict PySem.F.slot_dict_pop PySem.F.type_dict_pop Bc (rv 0) (af (ak ar (rv 2) ag (fun _ _=>rfl)) ah)))) aJ)
   (dk (aU (aD (cR hr.aT) (ak ar (rv 2) ag (fun _ _=>rfl)) bz (L2.ax _)) (aq (oB lh (rv 0) (ak ar (rv 2) ag (fun _ _=>rfl)) (bS (af (rv 1) (af (aP C_at B hr (by decide) rfl (af (ak dB (rv 0) (ak ar (rv 2) ag (fun _ _=>rfl)) (fun _ _=>rfl)) (af (rv 1) ah))) (af (ak ar (rv 2) ag (fun _ _=>rfl)) ah)))))) aJ)
   (dk (aU (aD (cR hr.aT) (ak ar (rv 2) ag (fun _ _=>rfl)) bz (L2.ax _)) (aq (eL bY rfl (fq (jV (pZ rfl) rfl Z.list boot_list (af (rv 0) ah))) (bt (i:=3) qz.nd rfl (Or.inl rfl)) (aq (oB lh (rv 0) (rv 3) (bS (af (rv 1) (af (aP C_at B hr (by decide) rfl (af (ak dB (rv 0) (rv 3) (fun _ _=>rfl)) (af (rv 1) ah))) (af (nY j2 (ak ar (ak dB (rv 0) (rv 3) (fun _ _=>rfl)) ag (fun _ _=>rfl))) ah)))))))) aJ)
   (ai (aU (aD (cR hr.aT) (ak ar (rv 2) ag (fun _ _=>rfl)) bz (L2.ax _)) (aq (aB (ak ar (rv 2) ag (fun _ _=>rfl)))) aJ)
   (aq (aB (rv 1)))))))),?_⟩
 rcases h with ⟨n,x,v,rfl,hn,q⟩ | ⟨n,v,rfl,hn,q⟩ | ⟨rfl,q⟩ | ⟨n,rfl,hn,q⟩ | ⟨m,rfl,q⟩
 ·have i0:∀ J,dY J (d5 n x v) (.int 0)=some (.str "join"):=fun J=>cS _ _
  have i1:∀ J,dY J (d5 n x v) (.int 1)=some (.str n):=fun J=>d7 _ _ _
  have i2:∀ J,dY J (d5 n x v) (.int 2)=some (.int x):=fun J=>iz _ _ _ _
  have i3:∀ J,dY J (d5 n x v) (.int 3)=some (.int v):=fun J=>rfl
  refine eE (fun τ' J'=>∃ ep',τ'=[some (.ref D),some (fr t),some (d5 n x v),none]∧J'=put J D (.dct (bA (gs ++ [(n,⟨t,(x:Rat),v⟩)])) ep')) (ot rfl (i0 _)) ?_ ?_
  ·simp_all! only [i1,i2,i3,hD,Ex,qa]
   refine ⟨aV (by unfold bA;rw [List.length_map];omega),fun ep'=>⟨ep',?_⟩⟩
   have epu:pf (bA gs) n (aQ.mk t (x:Rat) v).V=bA (gs ++ [(n,⟨t,(x:Rat),v⟩)]):=si (f:=aQ.V) (l:=⟨t,(x:Rat),v⟩) hn
   rw [epu]
  rintro τ' J' ⟨ep',rfl,rfl⟩
  refine cA rfl (i0 _) (by decide +kernel) ?_
  refine cA rfl (i0 _) (by decide +kernel) ?_
  refine cA rfl (i0 _) (by decide +kernel) ?_
  simp_all! only [i0,CJ,if_false]
  exact q ep'
 ·have i0:∀ J,dY J (gu n v) (.int 0)=some (.str "turn"):=fun J=>cS _ _
  have i1:∀ J,dY J (gu n v) (.int 1)=some (.str n):=fun J=>d7 _ _ _
  have i2:∀ J,dY J (gu n v) (.int 2)=some (.int v):=fun J=>iz _ _ _ _
  refine cA rfl (i0 _) (by decide +kernel) ?_
  refine cA rfl (i0 _) (by decide +kernel) ?_
  refine eE (fun τ' J'=>∃ ep',τ'=[some (.ref D),some (fr t),some (gu n v),none]∧J'=put J D (.dct (bA (nV n t v gs)) ep')) (ot rfl (i0 _)) ?_ ?_
  ·obtain ⟨l,hl,hvl⟩:=oi (f:=aQ.V) hnd hn
   have hvl:iS (bA gs) n=some l.V:=hvl
   have sll:=sl _ hl
   simp_all! only [i1,i2,hD,hvl]
   refine ⟨l,t,rfl,sll.m,sll.p,st,sll.v,?_⟩
   simp_all! only [i1,i2,hD,qa]
   refine ⟨aV (by unfold bA;rw [List.length_map];omega),fun ep'=>⟨ep',?_⟩⟩
   rw [yo hn]
   have:(gs.map fun x=>if x.1=n then (x.1,(⟨t,l.at t,v⟩:aQ)) else x)=nV n t v gs:=List.map_congr_left fun x hx=>by
    by_cases z:x.1=n
    ·have hx':iS (bA gs) n=some x.2.V:=fZ (f:=aQ.V) hnd (by rw [← z];exact hx)
     rw [hvl] at hx'
     have ex:l=x.2:=by have:=Option.some.inj hx';rw [Gz] at this;exact this
     rw [if_pos z,if_pos z,ex]
    ·rw [if_neg z,if_neg z]
   rw [this]
  rintro τ' J' ⟨ep',rfl,rfl⟩
  refine cA rfl (i0 _) (by decide +kernel) ?_
  simp_all! only [i0,Cp,if_false]
  exact q ep'
 ·have i0:∀ J,dY J fS (.int 0)=some (.str "about"):=fun J=>cS _ _
  refine cA rfl (i0 _) (by decide +kernel) ?_
  refine cA rfl (i0 _) (by decide +kernel) ?_
  refine cA rfl (i0 _) (by decide +kernel) ?_
  refine eE (fun τ' J'=>∃ u ep',τ'=[some (.ref D),some (fr t),some fS,u]∧J'=put J D (.dct (bA (gQ t gs)) ep')) (ot rfl (i0 _)) ?_ ?_
  ·simp_all! only [hD]
   have hkv:(bA gs).map (fun kv=>PV.str kv.1)=gs.map fun x=>PV.str x.1:=by unfold bA;rw [List.map_map];rfl
   rw [hkv]
   obtain ⟨Inv,hInv⟩:∃ Inv:Nat→Sr→Hq→Prop,∀ i τ J',Inv i τ J'↔∃ (u:Option PV) (ep':Nat),τ=[some (.ref D),some (fr t),some fS,u]∧J'=put J D (.dct (bA (dJ t gs i)) ep'):=⟨_,fun _ _ _=>Iff.rfl⟩
   refine fz Inv ((hInv _ _ _).mpr ⟨_,ep,rfl,by show J=put J D (.dct (bA gs) ep);rw [so hD]⟩) (fun _ _ _ _=>trivial) ?_ ?_
   ·intro i x τ J' hx hv
    obtain ⟨u,ep',rfl,rfl⟩:=(hInv _ _ _).mp hv
    clear hv
    have hi:i < gs.length:=by have:=(List.getElem?_eq_some_iff.mp hx).1;simpa using this
    rw [List.getElem?_map,List.getElem?_eq_getElem hi] at hx
    cases hx
    have hnd':((dJ t gs i).map (·.1)).Nodup:=by rw [n4];exact hnd
    have hmem:gs[i]∈dJ t gs i:=by unfold dJ;rw [List.drop_eq_getElem_cons hi];exact List.mem_append.mpr (.inr List.mem_cons_self)
    have hva:iS (bA (dJ t gs i)) gs[i].1=some gs[i].2.V:=fZ (f:=aQ.V) hnd' hmem
    have hstep:=rR t gs hnd i hi
    have hin:gs[i].1∈(dJ t gs i).map (·.1):=List.mem_map.mpr ⟨_,hmem,rfl⟩
    have hlen':(dJ t gs i).length=gs.length:=by have:=congrArg List.length (n4 t gs i);rw [List.length_map,List.length_map] at this;exact this
    have sll:=sl _ (List.getElem_mem hi)
    generalize gs[i]=y at hva hstep hin sll ⊢
    simp_all! only [av,hva]
    refine ⟨y.2,t,rfl,sll.m,sll.p,st,sll.v,?_⟩
    simp_all! only [av,hva,kC,qa]
    refine ⟨aV (by unfold bA;rw [List.length_map];omega),fun ep2=>(hInv _ _ _).mpr ⟨_,ep2,rfl,?_⟩⟩
    rw [dN,yo hin,hstep]
   ·intro τ J' hv
    obtain ⟨u,ep',rfl,rfl⟩:=(hInv _ _ _).mp hv
    refine ⟨u,rfl,ep',?_⟩
    rw [List.length_map]
    unfold dJ
    rw [List.take_length,List.drop_length,List.append_nil]
  rintro τ' J' ⟨u,ep',rfl,rfl⟩
  simp_all! only [i0,CW,if_false]
  exact q ep'
 ·have i0:∀ J,dY J (fC n) (.int 0)=some (.str "leave"):=fun J=>cS _ _
  have i1:∀ J,dY J (fC n) (.int 1)=some (.str n):=fun J=>d7 _ _ _
  refine cA rfl (i0 _) (by decide +kernel) ?_
  refine eE (fun τ' J'=>∃ ep',τ'=[some (.ref D),some (fr t),some (fC n),none]∧J'=put J D (.dct (bA (j6 n gs)) ep')) (ot rfl (i0 _)) ?_ ?_
  ·obtain ⟨l,hl,hvl⟩:=oi (f:=aQ.V) hnd hn
   have hvl:iS (bA gs) n=some l.V:=hvl
   simp_all! only [i1,hD,hvl]
   have edr:xH (bA gs) n=bA (j6 n gs):=by unfold xH bA j6;rw [List.filter_map];rfl
   intro ep'
   exact ⟨ep',by rw [edr]⟩
  rintro τ' J' ⟨ep',rfl,rfl⟩
  refine cA rfl (i0 _) (by decide +kernel) ?_
  refine cA rfl (i0 _) (by decide +kernel) ?_
  simp_all! only [i0,Cq,if_false]
  exact q ep'
 ·have i0:∀ J,dY J (B' m) (.int 0)=some (.str "go"):=fun J=>cS _ _
  have i1:∀ J,dY J (B' m) (.int 1)=some (fr m):=fun J=>d7 _ _ _
  refine cA rfl (i0 _) (by decide +kernel) ?_
  refine cA rfl (i0 _) (by decide +kernel) ?_
  refine cA rfl (i0 _) (by decide +kernel) ?_
  refine cA rfl (i0 _) (by decide +kernel) ?_
  simp_all! only [i0,i1,if_true]
  exact q
abbrev oz:Stmt:=(top 56)
theorem Bh:L2.aw ["_law_lane","_law_deed_here"] ["_law_lane","_law_deed_here"] (L2.aj oz):=dD
def yu (cN cL T:Addr):cj:=fun xs J Q _=>∃ p L dv,xs=[.ref p,dv]∧aW cN cL J p L∧bM L ∧
 ((∃ n x v,dv=d5 n x v∧J T=some .tab∧good n=true∧ER x v∧n ∉ L.cs.map Cf.n∧L.row.length < 12∧L.cs.length < 100∧n.length≤sizeLine∧∀ J' L',aW cN cL J' p L'→bM L'→L.joined n x v L'→Mv J J' (L.own p) (L'.own p)→Q (.fl []) J') ∨
  (∃ n v,dv=gu n v∧n∈L.row∧v.natAbs≤1000∧(∀ c∈L.cs,c.w.length < 200)∧∀ J' L',aW cN cL J' p L'→bM L'→L'.cs=L.cs.map (cy n L.t v)→L'.t=L.t→Mv J J' (L.own p) (L'.own p)→Q (.fl []) J') ∨
  (dv=fS∧(∀ c∈L.cs,c.w.length < 200)∧∀ J' L',aW cN cL J' p L'→bM L'→L'.cs=L.cs.map (c7 L.t)→L'.t=L.t→Mv J J' (L.own p) (L'.own p)→Q (.fl []) J') ∨
  (∃ n,dv=fC n∧n∈L.row∧∀ J' L',aW cN cL J' p L'→bM L'→L'.cs=L.cs.map (bp n L.t)→L'.t=L.t→Mv J J' (L.own p) (L'.own p)→Q (.fl []) J') ∨
  (∃ m:Rat,dv=B' m∧fN m.num m.den=true∧L.t≤m∧∀ J' o',aW cN cL J' p { L with t:=m,o:=o',row:=b_ m L.fs }→bM { L with t:=m,o:=o',row:=b_ m L.fs }→Mv J J' (L.own p) (Ln.own { L with t:=m,o:=o',row:=b_ m L.fs } p)→Q (.fl ((lV L.t (L.fs.map (key L.t)) m).map aA.v)) J'))
theorem yW {cN cL T eB eF eT eU eC eM eP f:Addr} {fd:FuncData} (F:bX K "_law_done" "_law_done" oz f fd) (Z:bP mg) (m_Lane_join:cP P w K mg base cN 8 "join" ["self","name","place","pace"] (vB cN cL T eB eF eT eU)) (m_Lane_leave:cP P w K mg base cN 2 "leave" ["self","name"] (rd cN cL eC)) (m_Lane_turn:cP P w K mg base cN 8 "turn" ["self","name","pace"] (uz cN cL eC eF)) (m_Lane_about:cP P w K mg base cN 8 "about" ["self"] (qh cN cL)) (m_Lane_go_to:cP P w K mg base cN 8 "go_to" ["self","moment"] (Cu cN cL eM eP)):aI P w K mg base (cU P w) 9 f fd ["_law_lane","_law_deed_here"] (dz K (yu cN cL T)):=by
 simp_arith [Bh]
 ·obtain ⟨p,L,dv,rfl,_⟩:=h;rfl
 obtain ⟨p,L,dv,rfl,b,ok,h⟩:=h
 have bo:=b.ob
 refine ⟨_,(dk (aU (aD (cR hr.aT) (ak ar (rv 1) ag (fun _ _=>rfl)) bz (L2.ax _)) (aq (a8 (ba (pl:=_) m_Lane_join B hr (by decide) (rv 0) (af (ak ar (rv 1) ag (fun _ _=>rfl)) (af (ak ar (rv 1) ag (fun _ _=>rfl)) (af (ak ar (rv 1) ag (fun _ _=>rfl)) ah)))))) aJ)
   (dk (aU (aD (cR hr.aT) (ak ar (rv 1) ag (fun _ _=>rfl)) bz (L2.ax _)) (aq (a8 (ba (pl:=_) m_Lane_leave B hr (by decide) (rv 0) (af (ak ar (rv 1) ag (fun _ _=>rfl)) ah)))) aJ)
   (dk (aU (aD (cR hr.aT) (ak ar (rv 1) ag (fun _ _=>rfl)) bz (L2.ax _)) (aq (a8 (ba (pl:=_) m_Lane_turn B hr (by decide) (rv 0) (af (ak ar (rv 1) ag (fun _ _=>rfl)) (af (ak ar (rv 1) ag (fun _ _=>rfl)) ah))))) aJ)
   (dk (aU (aD (cR hr.aT) (ak ar (rv 1) ag (fun _ _=>rfl)) bz (L2.ax _)) (aq (a8 (eZ (pl:=_) m_Lane_about B hr (by decide) (rv 0)))) aJ)
   (ai (aU (aD (cR hr.aT) (ak ar (rv 1) ag (fun _ _=>rfl)) bz (L2.ax _)) (aq (aB (ba (pl:=_) m_Lane_go_to B hr (by decide) (rv 0) (af (ak ar (rv 1) ag (fun _ _=>rfl)) ah)))) aJ)
   (aq (aB (vw ah)))))))),?_⟩
 rcases h with ⟨n,x,v,rfl,hT,hg,hb,hn,hr12,hc,hl,q⟩ | ⟨n,v,rfl,hn,hv,hw,q⟩ | ⟨rfl,hw,q⟩ | ⟨n,rfl,hn,q⟩ | ⟨m,rfl,hg,hm,q⟩
 ·have i0:∀ J,dY J (d5 n x v) (.int 0)=some (.str "join"):=fun J=>cS _ _
  have i1:∀ J,dY J (d5 n x v) (.int 1)=some (.str n):=fun J=>d7 _ _ _
  have i2:∀ J,dY J (d5 n x v) (.int 2)=some (.int x):=fun J=>iz _ _ _ _
  have i3:∀ J,dY J (d5 n x v) (.int 3)=some (.int v):=fun J=>rfl
  refine eE (fun τ' J'=>τ'=[some (.ref p),some (d5 n x v)]∧Q (.fl []) J') (ot rfl (i0 _)) ?_ ?_
  ·simp_all! only [bo,i1,i2,i3]
   exact ⟨e9 _ _ _ _,p,L,n,x,v,rfl,b,ok,hT,hl,hc,(fun z=>by rw [hg] at z;cases z),(fun _ z=>absurd hb z),(fun _ _ z=>absurd z hn),(fun _ _ _ z=>by omega),fun _ _ _ _ J1 L1 b1 ok1 jn mv=>q J1 L1 b1 ok1 jn mv⟩
  rintro τ' J' ⟨rfl,hq⟩
  refine cA rfl (i0 _) (by decide +kernel) ?_
  refine cA rfl (i0 _) (by decide +kernel) ?_
  refine cA rfl (i0 _) (by decide +kernel) ?_
  simp_all! only [i0,CJ,if_false]
  exact hq
 ·have i0:∀ J,dY J (gu n v) (.int 0)=some (.str "turn"):=fun J=>cS _ _
  have i1:∀ J,dY J (gu n v) (.int 1)=some (.str n):=fun J=>d7 _ _ _
  have i2:∀ J,dY J (gu n v) (.int 2)=some (.int v):=fun J=>iz _ _ _ _
  refine cA rfl (i0 _) (by decide +kernel) ?_
  refine cA rfl (i0 _) (by decide +kernel) ?_
  refine eE (fun τ' J'=>τ'=[some (.ref p),some (gu n v)]∧Q (.fl []) J') (ot rfl (i0 _)) ?_ ?_
  ·simp_all! only [bo,i1,i2]
   exact ⟨e9 _ _ _ _,p,L,n,v,rfl,b,ok,hw,fun z=>absurd hn z,fun _ z=>absurd hv z,fun _ _ J1 L1 b1 ok1 e t1 mv=>q J1 L1 b1 ok1 e t1 mv⟩
  rintro τ' J' ⟨rfl,hq⟩
  refine cA rfl (i0 _) (by decide +kernel) ?_
  simp_all! only [i0,Cp,if_false]
  exact hq
 ·have i0:∀ J,dY J fS (.int 0)=some (.str "about"):=fun J=>cS _ _
  refine cA rfl (i0 _) (by decide +kernel) ?_
  refine cA rfl (i0 _) (by decide +kernel) ?_
  refine cA rfl (i0 _) (by decide +kernel) ?_
  refine eE (fun τ' J'=>τ'=[some (.ref p),some (fS)]∧Q (.fl []) J') (ot rfl (i0 _)) ?_ ?_
  ·simp_all! only [bo]
   exact ⟨e9 _ _ _ _,p,L,rfl,b,ok,hw,fun J1 L1 b1 ok1 e t1 mv=>q J1 L1 b1 ok1 e t1 mv⟩
  rintro τ' J' ⟨rfl,hq⟩
  simp_all! only [i0,CW,if_false]
  exact hq
 ·have i0:∀ J,dY J (fC n) (.int 0)=some (.str "leave"):=fun J=>cS _ _
  have i1:∀ J,dY J (fC n) (.int 1)=some (.str n):=fun J=>d7 _ _ _
  refine cA rfl (i0 _) (by decide +kernel) ?_
  refine eE (fun τ' J'=>τ'=[some (.ref p),some (fC n)]∧Q (.fl []) J') (ot rfl (i0 _)) ?_ ?_
  ·simp_all! only [bo,i1]
   exact ⟨e9 _ _ _ _,p,L,n,rfl,b,ok,fun z=>absurd hn z,fun _ J1 L1 b1 ok1 e t1 mv=>q J1 L1 b1 ok1 e t1 mv⟩
  rintro τ' J' ⟨rfl,hq⟩
  refine cA rfl (i0 _) (by decide +kernel) ?_
  refine cA rfl (i0 _) (by decide +kernel) ?_
  simp_all! only [i0,Cq,if_false]
  exact hq
 ·have i0:∀ J,dY J (B' m) (.int 0)=some (.str "go"):=fun J=>cS _ _
  have i1:∀ J,dY J (B' m) (.int 1)=some (fr m):=fun J=>d7 _ _ _
  refine cA rfl (i0 _) (by decide +kernel) ?_
  refine cA rfl (i0 _) (by decide +kernel) ?_
  refine cA rfl (i0 _) (by decide +kernel) ?_
  refine cA rfl (i0 _) (by decide +kernel) ?_
  simp_all! only [i0,i1,if_true,bo]
  refine ⟨e9 _ _ _ _,p,L,m.num,m.den,rfl,b,ok,(fun z=>by rw [hg] at z;cases z),fun m' e1 e2 _=>?_⟩
  obtain rfl:m'=m:=Rat.ext e1 (by omega)
  exact ⟨fun z=>absurd z (Rat.not_lt.mpr hm),fun _ J1 o1 b1 ok1 mv1=>q J1 o1 b1 ok1 mv1⟩
abbrev lZ:Stmt:=(top 53)
theorem kP:L2.aw ["_law_row","_law_mode","_law_names_here","_law_used","_law_legs","_law_clock","_law_there","_law_fresh","_law_name"] ["_law_row","_law_mode","_law_names_here","_law_used","_law_legs","_law_clock"] (L2.aj lZ):=dD
def Et (names used:List Str) (gs:List (Str × aQ)) (t:Rat) (dv:PV):Prop :=
 (∃ n x v,dv=d5 n x v∧n∈names∧n ∉ used∧gs.length < 12∧x.natAbs≤1000000∧v.natAbs≤1000) ∨
 (∃ n v,dv=gu n v∧n∈gs.map (·.1)∧v.natAbs≤1000)∨dv=fS∨(∃ n,dv=fC n∧n∈gs.map (·.1))∨∃ m,dv=B' m∧Later t m
def xV:cj:=fun xs J Q _=>∃ (r0 r1 r2 r3 r4 r5 m:Int) (names used:List Str) (U D:Addr) (gs:List (Str × aQ)) (ep:Nat) (t:Rat),xs=[.fl [.int r0,.int r1,.int r2,.int r3,.int r4,.int r5],.int m,.fl (names.map .str),.ref U,.ref D,fr t]∧J U=some (.lst (used.map .str))∧J D=some (.dct (bA gs) ep)∧names.length≤40∧gs.length≤100 ∧
 0≤r1∧0≤r2∧0≤r3∧r3 < 2001∧0≤r4∧r4 < 2 ^ 60∧0≤r5∧0≤m∧m < 4∧Sz 900 t∧∀ dv,Et names used gs t dv→Q dv J
theorem oI {c:iF} {a u:gw} {D:En} {τ:Sr} {J:Hq} (b:Prop) [Decidable b] (hc:∀ R:Bool→Hq→Prop,R (decide b) J→c τ J R) (h1:b→∀ N,a { D with nx:=N } τ J) (h2:¬ b→u D τ J):cm (wu c a nH) u D τ J:=by
 refine hc _ ?_
 by_cases h:b
 ·rw [decide_eq_true h,if_pos rfl];exact h1 h _
 ·rw [decide_eq_false h,if_neg (by decide)];exact h2 h
theorem A_ {R:Bool→Hq→Prop} {b c:Bool} {J:Hq} (h:R b J) (e:b=true↔c=true):R c J:=by rw [← Bool.eq_iff_iff.mpr e];exact h
theorem pQ {xs:List Str} {r:Int} (h0:0≤r) (hl:0 < xs.length):∃ n∈xs,cH (xs.map PV.str) (r % (xs.length:Int))=some (.str n):=by
 obtain ⟨j,hj⟩:∃ j:Nat,r % (xs.length:Int)=j:=⟨(r % (xs.length:Int)).toNat,by have:=Int.emod_nonneg r (b:=(xs.length:Int)) (by omega);omega⟩
 have hjl:j < xs.length:=by have:=Int.emod_lt_of_pos r (b:=(xs.length:Int)) (by omega);omega
 exact ⟨xs[j],List.getElem_mem hjl,by rw [hj];exact a_ (by rw [List.getElem?_map,List.getElem?_eq_getElem hjl];rfl)⟩
theorem zN {f:Addr} {fd:FuncData} (F:bX K "_law_deed" "_law_deed" lZ f fd) (Z:bP mg) (C_placed:a9 P w K mg base 1 "_law_placed" ["_law_number","_law_mode"] nN) (C_paced:a9 P w K mg base 1 "_law_paced" ["_law_number","_law_mode"] ra) (C_later:a9 P w K mg base 2 "_law_later" ["_law_clock","_law_number","_law_bottom","_law_mode"] uV):aI P w K mg base (cU P w) 3 f fd ["_law_row","_law_mode","_law_names_here","_law_used","_law_legs","_law_clock"] (dz K xV):=by
 simp_arith [kP]
 ·obtain ⟨r0,r1,r2,r3,r4,r5,m,names,used,U,D,gs,ep,t,rfl,_⟩:=h;rfl
 obtain ⟨r0,r1,r2,r3,r4,r5,m,names,used,U,D,gs,ep,t,rfl,hU,hD,hnl,hgl,r10,r20,r30,r31,r40,r41,r50,m0,m1,st,q⟩:=h
 have hkv:(bA gs).map (fun kv=>PV.str kv.1)=(gs.map (·.1)).map PV.str:=by unfold bA;rw [List.map_map,List.map_map];rfl
 refine ⟨_,(ai (aG (i:=6) kP.nd rfl (Or.inl rfl) (jV (pZ rfl) rfl Z.list boot_list (af (rv 4) ah)))
   (ai (Dp (i:=7) (L2.aj lZ) ["_law_row","_law_mode","_law_names_here","_law_used","_law_legs","_law_clock","_law_there","_law_fresh","_law_name"] [("_law_used",3)] rfl rfl rfl kP.nd rfl (Or.inl rfl) (fq (rv 2)) (fun _ _ _ _ _ _=>(rv 0)) (fun _ _ _ _ _ _=>(aD uf (rv 0) (rv 1) (by with_unfolding_all rfl))))
   (ai (aU (dw (d4 (aD kE (aO bW rfl Z.len boot_len (af (rv 7) ah)) ag (L2.ax _)) (d4 (aD d6 (aO bW rfl Z.len boot_len (af (rv 6) ah)) ag (L2.ax _)) (dn (dw (iw (aD d6 (ak ar (rv 0) ag (fun _ _=>rfl)) ag (L2.ax _)) (gY (dw (d4 (aD d6 (aO bW rfl Z.len boot_len (af (rv 6) ah)) ag (L2.ax _)) (dn (aD d6 (ak ar (rv 0) ag (fun _ _=>rfl)) ag (L2.ax _)))))))))))) (ai (aG (i:=8) kP.nd rfl (Or.inl rfl) (ak ar (rv 7) (aK dG (ak ar (rv 0) ag (fun _ _=>rfl)) (aO bW rfl Z.len boot_len (af (rv 7) ah))) (fun _ _=>rfl)))
   (aq (aB (bS (af bz (af (rv 8) (af (aP C_placed B hr (by decide) rfl (af (ak ar (rv 0) ag (fun _ _=>rfl)) (af (rv 1) ah))) (af (aP C_paced B hr (by decide) rfl (af (ak ar (rv 0) ag (fun _ _=>rfl)) (af (rv 1) ah))) ah)))))))) aJ)
   (ai (aU (dw (d4 (aD DH (ak ar (rv 0) ag (fun _ _=>rfl)) (bS (af ag (af ag ah))) (by with_unfolding_all rfl)) (dn (aD kE (aO bW rfl Z.len boot_len (af (rv 6) ah)) ag (L2.ax _))))) (aq (aB (bS (af bz (af (ak ar (rv 6) (aK dG (ak ar (rv 0) ag (fun _ _=>rfl)) (aO bW rfl Z.len boot_len (af (rv 6) ah))) (fun _ _=>rfl)) (af (aP C_paced B hr (by decide) rfl (af (ak ar (rv 0) ag (fun _ _=>rfl)) (af (rv 1) ah))) ah)))))) aJ)
   (ai (aU (dw (d4 (aD (cR hr.aT) (ak ar (rv 0) ag (fun _ _=>rfl)) ag (L2.ax _)) (dn (aD kE (aO bW rfl Z.len boot_len (af (rv 6) ah)) ag (L2.ax _))))) (aq (aB (bS (af bz (af (ak ar (rv 6) (aK dG (ak ar (rv 0) ag (fun _ _=>rfl)) (aO bW rfl Z.len boot_len (af (rv 6) ah))) (fun _ _=>rfl)) ah))))) aJ)
   (ai (aU (aD (cR hr.aT) (ak ar (rv 0) ag (fun _ _=>rfl)) ag (L2.ax _)) (aq (aB (bS (af bz ah)))) aJ)
   (aq (aB (bS (af bz (af (aP C_later B hr (by decide) rfl (af (rv 5) (af (ak ar (rv 0) ag (fun _ _=>rfl)) (af (ak ar (rv 0) ag (fun _ _=>rfl)) (af (rv 1) ah))))) ah))))))))))),?_⟩
 simp_all! only [hD,hkv,qX]
 obtain ⟨pn,hpn⟩:∃ pn:Str→Bool,∀ x,pn x=!decide (x∈used):=⟨_,fun _=>rfl⟩
 refine ⟨fun x=>match x with | .str s=>pn s | _=>false,id,⟨by rw [List.length_map];exact Nat.lt_of_le_of_lt hnl (by decide),fun J' sub=>⟨trivial,fun x hx=>?_⟩⟩,?_⟩
 ·obtain ⟨s,hs,rfl⟩:=List.mem_map.mp hx
  have hU':=sub _ _ hU
  simp_all! only [kL]
  refine ⟨⟨s,used,rfl,by show (match J' U with | some (.lst xs)=>some xs | _=>none)=_;rw [hU'],⟨_,rfl,(hpn s).symm,rfl⟩⟩,fun _=>trivial⟩
 have ef:((names.map PV.str).filter fun x=>match x with | .str s=>pn s | _=>false).map id=(names.filter pn).map PV.str:=by rw [List.map_id,List.filter_map];rfl
 rw [ef]
 have hfr:∀ n∈names.filter pn,n∈names∧n ∉ used:=fun n hn=>by
  obtain ⟨h1,h2⟩:=List.mem_filter.mp hn
  rw [hpn] at h2
  exact ⟨h1,by simpa using h2⟩
 generalize names.filter pn=fresh at hfr ⊢
 have gl:(gs.map (·.1)).length=gs.length:=List.length_map _
 generalize hgn:gs.map (·.1)=gn at gl q ⊢
 refine oI (0 < fresh.length∧gs.length < 12∧(r0 < 3∨gs.length < 2∧r0 < 8)) (fun R hR=>?_) (fun hb N=>?_) (fun hb=>?_)
 ·simp_all! only [List.length_map]
  (repeat' split) <;> exact A_ hR (by simp only [decide_eq_true_eq,Bool.false_eq_true,eq_self,iff_true,iff_false];omega)
 ·obtain ⟨n,hn,ha⟩:=pQ r10 hb.1
  simp_all! only [List.length_map,ha]
  refine ⟨by omega,r2,m,rfl,r20,fun x hx=>⟨r3,m,rfl,r30,r31,fun v hv=>?_⟩⟩
  exact q _ (.inl ⟨n,x,v,rfl,(hfr n hn).1,(hfr n hn).2,hb.2.1,hx,hv⟩)
 refine oI ((r0=3∨r0=4)∧0 < gs.length) (fun R hR=>?_) (fun hb N=>?_) (fun hb=>?_)
 ·simp_all! only [List.length_map]
  refine ⟨r0,[3,4],rfl,rfl,_,rfl,?_⟩
  (repeat' split) <;> exact A_ hR (by simp only [decide_eq_true_eq,Bool.false_eq_true,id_eq,List.mem_cons,List.not_mem_nil,or_false,eq_self,iff_true,iff_false] at *;omega)
 ·obtain ⟨n,hn,ha⟩:=pQ (xs:=gn) r10 (by omega)
  simp_all! only [List.length_map,ha]
  refine ⟨by omega,r3,m,rfl,r30,r31,fun v hv=>?_⟩
  exact q _ (.inr (.inl ⟨n,v,rfl,by rw [hgn];exact hn,hv⟩))
 refine oI (r0=5∧2 < gs.length) (fun R hR=>?_) (fun hb N=>?_) (fun hb=>?_)
 ·simp_all! only [List.length_map]
  (repeat' split) <;> exact A_ hR (by simp only [decide_eq_true_eq,Bool.false_eq_true,eq_self,iff_true,iff_false];omega)
 ·obtain ⟨n,hn,ha⟩:=pQ (xs:=gn) r10 (by omega)
  simp_all! only [List.length_map,ha]
  exact ⟨by omega,q _ (.inr (.inr (.inr (.inl ⟨n,rfl,by rw [hgn];exact hn⟩))))⟩
 refine oI (r0=6) (fun R hR=>?_) (fun hb N=>?_) (fun hb=>?_)
 ·simp_all! only []
  exact A_ hR (by simp only [decide_eq_true_eq,Bool.false_eq_true])
 ·simp_all! only []
  exact q _ (.inr (.inr (.inl rfl)))
 simp_all! only []
 exact ⟨t,r4,r5,m,rfl,r40,r50,m0,m1,r41,st,fun m' hm'=>q _ (.inr (.inr (.inr (.inr ⟨m',rfl,hm'⟩))))⟩
theorem xK {m:Rat} (h0:0≤m) (hd:m.den≤60) (h1:m.num≤1000000 * (m.den:Int)):fN m.num m.den=true:=by
 refine decide_eq_true ⟨by omega,by have:=m.den_pos;omega,?_,Rat.num_nonneg.mpr h0,h1⟩
 have:=m.reduced
 unfold Int.gcd
 exact this
theorem wN {c q:Rat} (h:Later c q) (hc:c.den≤60):q.den≤60:=by
 rcases h with rfl | ⟨u,s,u0,u1,s0,s1,rfl⟩
 ·exact hc
 ·have:=oC (t:=(c.num * (u:Int)).fdiv (c.den:Int) + (s:Int)) (b:=(u:Int)) (by omega)
  omega
theorem D5 {q:Rat}:q.num≤1000000 * (q.den:Int)↔q≤1000000:=by
 rw [Rat.le_iff]
 have h3:(1000000:Rat).num=1000000:=rfl
 have h4:((1000000:Rat).den:Int)=1:=rfl
 rw [h3,h4]
 omega
abbrev ph:Stmt:=(top 59)
theorem ff:L2.aw ["_law_lane","_law_names_here","_law_cells","_law_mode","_law_legs","_law_used","_law_clock","_law_cell_here","_law_row","_law_deed_here"] ["_law_lane","_law_names_here","_law_cells","_law_mode"] (L2.aj ph):=dD
structure Wk (cN cL:Addr) (J0:Hq) (S0:Addr→Prop) (J:Hq) (p:Addr) (L:Ln) (D U:Addr) (gs:List (Str × aQ)) (ep:Nat) (used:List Str) (k:Nat):Prop where
 b:aW cN cL J p L
 ok:bM L
 rl:Rl L gs
 hD:J D=some (.dct (bA gs) ep)
 hU:J U=some (.lst (used.map .str))
 nD:¬ L.own p D
 nU:¬ L.own p U
 mv:Mv J0 J S0 (fun a=>L.own p a∨a=D∨a=U)
 td:L.t.den≤60
 tl:L.t≤((500 * k:Nat):Rat)
 wl:∀ c∈L.cs,c.w.length≤1 + k
theorem Rl.go {L:Ln} {gs:List (Str × aQ)} (h:Rl L gs) {m:Rat} (hm:L.t≤m) {o:Addr} {row:List Str}:Rl { L with t:=m,o:=o,row:=row } gs:=⟨h.nm,h.ln,h.ck,fun x hx=>Rat.le_trans (h.le x hx) hm,h.ct⟩
theorem zf {c q:Rat} (h:Later c q) (c0:0≤c):q≤c + 500:=by
 rcases h with rfl | ⟨u,s,u0,u1,s0,s1,rfl⟩
 ·grind
 rw [Rat.divInt_eq_div]
 have hu:(0:Rat) < ((u:Int):Rat):=by exact_mod_cast (show (0:Int) < u by omega)
 have h1:((s:Int):Rat)≤500 * ((u:Int):Rat):=by exact_mod_cast (show (s:Int)≤500 * u by omega)
 have hd:(0:Rat) < ((c.den:Int):Rat):=by exact_mod_cast (show (0:Int) < c.den by have:=c.den_pos;omega)
 have h2:((((c.num * (u:Int)).fdiv (c.den:Int)):Int):Rat)≤c * ((u:Int):Rat):=by
  have e1:(c.num * (u:Int)).fdiv (c.den:Int) * (c.den:Int)≤c.num * u:=by
   rw [Int.fdiv_eq_ediv_of_nonneg _ (by omega)]
   exact Int.ediv_mul_le _ (by have:=c.den_pos;omega)
  have e2:((((c.num * (u:Int)).fdiv (c.den:Int)):Int):Rat) * ((c.den:Int):Rat)≤(c.num:Rat) * ((u:Int):Rat):=by
   rw [← Rat.intCast_mul,← Rat.intCast_mul];exact Rat.intCast_le_intCast.mpr e1
  have e3:(c.num:Rat)=c * ((c.den:Int):Rat):=cast_eq c
  rw [e3] at e2
  generalize ((((c.num * (u:Int)).fdiv (c.den:Int)):Int):Rat)=x at e2 ⊢
  generalize ((c.den:Int):Rat)=y at e2 hd
  generalize ((u:Int):Rat)=z at e2 ⊢
  by_cases k:c * z < x
  ·have:0 < (x - c * z) * y:=Rat.mul_pos (by grind) hd
   grind
  ·grind
 rw [Rat.intCast_add]
 generalize ((((c.num * (u:Int)).fdiv (c.den:Int)):Int):Rat)=a at h2 ⊢
 generalize ((s:Int):Rat)=x at h1 ⊢
 generalize ((u:Int):Rat)=y at h1 h2 hu ⊢
 have e:(a + x) / y * y=a + x:=by grind
 generalize (a + x) / y=z at e ⊢
 by_cases k:c + 500 < z
 ·have:0 < (z - (c + 500)) * y:=Rat.mul_pos (by grind) hu
  grind
 ·grind
section
variable {cN cL:Addr} {J0 J:Hq} {S0:Addr→Prop} {p:Addr} {L:Ln} {D U:Addr} {gs:List (Str × aQ)} {ep:Nat} {used:List Str} {k:Nat}
theorem Wk.ne (h:Wk cN cL J0 S0 J p L D U gs ep used k):U≠D:=fun e=>by have:=h.hU;rw [e,h.hD] at this;cases this
theorem Wk.kept (h:Wk cN cL J0 S0 J p L D U gs ep used k) {T:Addr} {o:HQ} (hT:J0 T=some o) (nT:¬ S0 T):J T=some o:=h.mv.keep _ _ hT nT
theorem Wk.next (h:Wk cN cL J0 S0 J p L D U gs ep used k) {J1:Hq} {L1:Ln} {gs1:List (Str × aQ)} {k1:Nat} (b1:aW cN cL J1 p L1) (ok1:bM L1) (mv:Mv J J1 (L.own p) (L1.own p)) (rl1:Rl L1 gs1) (td:L1.t.den≤60) (tl:L1.t≤((500 * k1:Nat):Rat)) (wl:∀ c∈L1.cs,c.w.length≤1 + k1) (ep':Nat):Wk cN cL J0 S0 (put J1 D (.dct (bA gs1) ep')) p L1 D U gs1 ep' used k1:=by
 have new:∀ {x o},J x=some o→¬ L.own p x→¬ L1.own p x:=fun hx nx z=>by
  rcases mv.own _ z with q | q
  ·exact nx q
  ·rw [hx] at q;cases q
 have nD1:=new h.hD h.nD
 have hD1:=mv.keep _ _ h.hD h.nD
 have hU1:=mv.keep _ _ h.hU h.nU
 have mv1:Mv J J1 (fun a=>L.own p a∨a=D∨a=U) (fun a=>L1.own p a∨a=D∨a=U) :=
  ⟨fun a o e n=>mv.keep a o e fun z=>n (.inl z),fun a z=>z.elim (fun z=>(mv.own a z).imp .inl id) (fun z=>.inl (.inr z)),mv.mono⟩
 refine ⟨b1.keep fun a u ow e=>?_,ok1,rl1,av,?_,nD1,new h.hU h.nU,(h.mv.trans mv1).trans (eO (.inr (.inl rfl)) fun a z=>.inl z),td,tl,wl⟩
 ·rw [au (fun z=>by subst z;exact nD1 ow)];exact e
 ·rw [au h.ne];exact hU1
theorem Wk.push (h:Wk cN cL J0 S0 J p L D U gs ep used k) (n:Str):Wk cN cL J0 S0 (put J U (.lst ((used ++ [n]).map .str))) p L D U gs ep (used ++ [n]) k:=by
 refine ⟨h.b.keep fun a u ow e=>?_,h.ok,h.rl,?_,av,h.nD,h.nU,h.mv.trans (eO (.inr (.inr rfl)) fun a z=>.inl z),h.td,h.tl,h.wl⟩
 ·rw [au (fun z=>by subst z;exact h.nU ow)];exact e
 ·rw [au (fun e=>h.ne e.symm)];exact h.hD
theorem Wk.up (h:Wk cN cL J0 S0 J p L D U gs ep used k):Sz 900 L.t∧(gs.map (·.1)).Nodup∧gs.length≤12∧∀ x∈gs,ko 900 x.2 :=
 ⟨h.ok.A3,h.rl.nd h.ok.toaS,by rw [h.rl.len];exact h.ok.F0,fun x hx=>(h.rl.sz x hx).mono (by decide)⟩
end
theorem sk {q:Rat} {k:Nat} (hk:k≤2000) (h:q≤((500 * k:Nat):Rat)):q≤1000000:=by
 refine Rat.le_trans h ?_
 have:((500 * k:Nat):Rat)≤((1000000:Nat):Rat):=by exact_mod_cast (show 500 * k≤1000000 by omega)
 exact this
theorem t6 {a b:Rat} {k:Nat} (h:b≤a + 500) (ha:a≤((500 * k:Nat):Rat)):b≤((500 * (k + 1):Nat):Rat):=by
 have e:((500 * (k + 1):Nat):Rat)=((500 * k:Nat):Rat) + 500:=by
  rw [show 500 * (k + 1)=500 * k + 500 by omega];exact Rat.natCast_add _ _
 rw [e];grind
theorem BL {a:Rat} {k:Nat} (ha:a≤((500 * k:Nat):Rat)):a≤((500 * (k + 1):Nat):Rat):=t6 (a:=a) (by grind) ha
def xq (cN cL T:Addr):cj:=fun xs J Q _=>∃ (p:Addr) (L0:Ln) (names:List Str) (cells:List Int) (m:Int),xs=[.ref p,.fl (names.map .str),.fl (cells.map .int),.int m]∧aW cN cL J p L0∧bM L0∧L0.cs=[]∧L0.t=0∧J T=some .tab∧names.length≤40∧(∀ n∈names,good n=true)∧cells.length≤40∧0≤m∧m < 4 ∧
 ∀ J' L D U gs ep used,Wk cN cL J (L0.own p) J' p L D U gs ep used cells.length→L.cs.map Cf.n=used→(∀ n∈used,n∈names)→used.length≤cells.length→Q (.tup [.ref D,fr L.t,.ref U]) J'
theorem AZ {n:Str} (hg:good n=true):n.length≤sizeLine:=by
 have h8:n.cps.size≤8:=by
  unfold good at hg
  rw [Bool.and_eq_true,Bool.and_eq_true] at hg
  exact of_decide_eq_true hg.1.2
 exact Nat.le_trans h8 (by decide)
theorem zL {cN cL T f:Addr} {fd:FuncData} (F:bX K "_law_walk" "_law_walk" ph f fd) (Z:bP mg) (C_digits:a9 P w K mg base 1 "_law_digits" ["_law_cell_here","_law_sizes"] tF) (C_deed:a9 P w K mg base 3 "_law_deed" ["_law_row","_law_mode","_law_names_here","_law_used","_law_legs","_law_clock"] xV) (C_done:a9 P w K mg base 9 "_law_done" ["_law_lane","_law_deed_here"] (yu cN cL T)) (C_acted:a9 P w K mg base 3 "_law_acted" ["_law_legs","_law_clock","_law_deed_here"] t8):aI P w K mg base (cU P w) 10 f fd ["_law_lane","_law_names_here","_law_cells","_law_mode"] (dz K (xq cN cL T)):=by
 simp_arith [ff]
 ·obtain ⟨p,L0,names,cells,m,rfl,_⟩:=h;rfl
 obtain ⟨p,L0,names,cells,m,rfl,b,ok,cs0,t0,hT,hnl,hng,hcl,m0,m1,q⟩:=h
 refine ⟨_,(ai (aG (i:=4) ff.nd rfl (Or.inl rfl) tV)
   (ai (aG (i:=5) ff.nd rfl (Or.inl rfl) (jJ ah))
   (ai (aG (i:=6) ff.nd rfl (Or.inl rfl) (bS (af ag (af ag ah))))
   (ai (eL bY rfl (fq (rv 2)) (bt (i:=7) ff.nd rfl (Or.inl rfl)) (ai (aG (i:=8) ff.nd rfl (Or.inl rfl) (aP C_digits B hr (by decide) rfl (af (rv 7) (af (vw (y4 [.int 10,.int 97,.int 2000001,.int 2001,.int 400000,.int 60] rfl [.int 10,.int 97,.int 2000001,.int 2001,.int 400000,.int 60] rfl)) ah))))
   (ai (aG (i:=9) ff.nd rfl (Or.inl rfl) (aP C_deed B hr (by decide) rfl (af (rv 8) (af (rv 3) (af (rv 1) (af (rv 5) (af (rv 4) (af (rv 6) ah))))))))
   (dk (aU (aD (cR hr.aT) (ak ar (rv 9) ag (fun _ _=>rfl)) bz (L2.ax _)) (aq (a8 (kD PySem.F.plainAttrs_list PySem.F.slot_list_append PySem.F.type_list_append kg (rv 5) (af (ak ar (rv 9) ag (fun _ _=>rfl)) ah)))) aJ)
   (ai (a8 (aP C_done B hr (by decide) rfl (af (rv 0) (af (rv 9) ah))))
   (aq (aG (i:=6) ff.nd rfl (Or.inl rfl) (aP C_acted B hr (by decide) rfl (af (rv 4) (af (rv 6) (af (rv 9) ah)))))))))))
   (aq (aB (bS (af (rv 4) (af (rv 6) (af (rv 5) ah)))))))))),?_⟩
 simp_all! only []
 intro D hD ep
 simp_all! only []
 intro U hU
 have nDU:D≠U:=fun e=>by subst e;rw [av] at hU;cases hU
 have hU0:J U=none:=by rw [au (fun e=>nDU e.symm)] at hU;exact hU
 have w0:Wk cN cL J (L0.own p) (put (put J D (.dct [] ep)) U (.lst [])) p L0 D U [] ep [] 0:=by
  refine ⟨(b.fresh hD).fresh hU,ok,⟨by unfold Ln.fs Ln.wb;rw [cs0];rfl,(by simp),(by simp),(by simp),(by rw [cs0];simp)⟩,by rw [au nDU];exact av,av,fun z=>b.some z hD,fun z=>b.some z hU0,?_,by rw [t0];decide,by rw [t0];decide,by rw [cs0];simp⟩
  have hh:=(Mv.vG (S:=L0.own p) (o:=.dct [] ep) hD).trans (Mv.vG (o:=.lst []) hU)
  exact ⟨hh.keep,fun a z=>hh.own a (z.elim (fun z=>.inl (.inl z)) fun z=>z.elim (fun z=>.inl (.inr z)) .inr),hh.mono⟩
 generalize put (put J D (.dct [] ep)) U (.lst [])=J1 at w0 ⊢
 clear hU hU0
 simp_all! only []
 obtain ⟨Inv,hInv⟩:∃ Inv:Nat→Sr→Hq→Prop,∀ i τ J',Inv i τ J'↔∃ (L:Ln) (gs:List (Str × aQ)) (ep:Nat) (used:List Str) (u7 u8 u9:Option PV),τ=[some (.ref p),some (.fl (names.map .str)),some (.fl (cells.map .int)),some (.int m),some (.ref D),some (.ref U),some (fr L.t),u7,u8,u9]∧Wk cN cL J (L0.own p) J' p L D U gs ep used i∧L.cs.map Cf.n=used∧(∀ n∈used,n∈names)∧used.length≤i:=⟨_,fun _ _ _=>Iff.rfl⟩
 refine fz Inv ((hInv _ _ _).mpr ⟨L0,[],ep,[],_,_,_,by rw [t0];rfl,w0,by rw [cs0];rfl,(by simp),Nat.le_refl _⟩) (fun _ _ _ _=>trivial) ?_ ?_
 ·intro i x τ J' hx hv
  obtain ⟨L,gs,ep,used,u7,u8,u9,rfl,wk,hun,hus,hul⟩:=(hInv _ _ _).mp hv
  clear hv
  have hi:i < cells.length:=by have:=(List.getElem?_eq_some_iff.mp hx).1;simpa using this
  rw [List.getElem?_map,List.getElem?_eq_getElem hi] at hx
  cases hx
  generalize cells[i]=c
  simp_all! only []
  refine ⟨c,[10,97,2000001,2001,400000,60],rfl,rG (by decide),by decide,fun ds hG=>?_⟩
  obtain ⟨r0,ds,rfl,_,_,hG⟩:=hG.cons
  obtain ⟨r1,ds,rfl,r10,_,hG⟩:=hG.cons
  obtain ⟨r2,ds,rfl,r20,_,hG⟩:=hG.cons
  obtain ⟨r3,ds,rfl,r30,r31,hG⟩:=hG.cons
  obtain ⟨r4,ds,rfl,r40,r41,hG⟩:=hG.cons
  obtain ⟨r5,ds,rfl,r50,_,hG⟩:=hG.cons
  cases hG.nil
  obtain ⟨st,gnd,gl,gsz⟩:=wk.up
  simp_all! only []
  refine ⟨r0,r1,r2,r3,r4,r5,m,names,used,U,D,gs,ep,L.t,rfl,wk.hU,wk.hD,hnl,by omega,r10,r20,r30,r31,r40,by omega,r50,m0,m1,st,fun dv hdv=>?_⟩
  have hT':∀ {J1:Hq} {L1 gs1 ep1 us k1},Wk cN cL J (L0.own p) J1 p L1 D U gs1 ep1 us k1→J1 T=some .tab:=fun wk'=>wk'.kept hT (b.Gi hT)
  have hw200:∀ c∈L.cs,c.w.length < 200:=fun c hc=>by have:=wk.wl c hc;omega
  have tl1:L.t≤((500 * (i + 1):Nat):Rat):=BL wk.tl
  have hfl:L.fs.length=gs.length:=wk.rl.len.symm
  have hrow:∀ n,n∈gs.map (·.1)→n∈L.row:=fun n hn=>(wk.ok.rm n).mpr (by rw [← wk.rl.nm];exact hn)
  simp_all! only []
  rcases hdv with ⟨n,x,v,rfl,hn,hnu,hgl,hx,hv⟩ | ⟨n,v,rfl,hn,hv⟩ | rfl | ⟨n,rfl,hn⟩ | ⟨m',rfl,hm'⟩
  ·have i0:∀ J,dY J (d5 n x v) (.int 0)=some (.str "join"):=fun J=>cS _ _
   have i1:∀ J,dY J (d5 n x v) (.int 1)=some (.str n):=fun J=>d7 _ _ _
   refine eE (fun τ' J2=>τ'=[some (.ref p),some (.fl (names.map .str)),some (.fl (cells.map .int)),some (.int m),some (.ref D),some (.ref U),some (fr L.t),some (.int c),some (.fl [.int r0,.int r1,.int r2,.int r3,.int r4,.int r5]),some (d5 n x v)]∧J2=put J' U (.lst ((used ++ [n]).map .str))) (ot rfl (i0 _)) ?_ ?_
   ·simp_all! only [i1,wk.hU,List.length_map]
    exact ⟨Nat.lt_of_lt_of_le (show used.length < 100 by omega) (by decide),by rw [List.map_append];rfl⟩
   rintro τ' J2 ⟨rfl,rfl⟩
   have wk2:=wk.push n
   generalize put J' U (.lst ((used ++ [n]).map .str))=J2 at wk2 ⊢
   have hnc:n ∉ L.cs.map Cf.n:=by rw [hun];exact hnu
   have hcl':L.cs.length < 100:=by have:=congrArg List.length hun;rw [List.length_map] at this;omega
   have hnf:n ∉ L.fs.map (·.1):=fun z=>hnc (by
    rw [dS,List.mem_map] at z
    obtain ⟨c',hc',e'⟩:=z
    exact List.mem_map.mpr ⟨c',(Ln.cx.mp hc').1,e'⟩)
   simp_all! only []
   refine ⟨p,L,_,rfl,wk2.b,wk2.ok,.inl ⟨n,x,v,rfl,hT' wk2,hng n hn,⟨hx,hv⟩,hnc,by rw [wk.ok.row,qk];omega,hcl',AZ (hng n hn),fun J3 L3 b3 ok3 jn mv3=>?_⟩⟩
   have rl3:=wk2.rl.join ok3.toaS hv hx jn wk.ok.t0 wk.ok.ts hnf
   obtain ⟨a,r,ecs,et⟩:=jn
   simp_all! only []
   refine ⟨D,gs,ep,L.t,_,rfl,mv3.keep _ _ wk2.hD wk2.nD,gnd,by omega,st,gsz,.inl ⟨n,x,v,rfl,by rw [wk.rl.nm];exact hnf,fun ep'=>?_⟩⟩
   refine (hInv _ _ _).mpr ⟨L3,_,ep',used ++ [n],_,_,_,by rw [et],wk2.next b3 ok3 mv3 rl3 (by rw [et];exact wk.td) (by rw [et];exact tl1) (fun c hc=>?_) ep',?_,fun y hy=>?_,by rw [List.length_append];show used.length + 1≤_;omega⟩
   ·rw [ecs] at hc
    rcases List.mem_append.mp hc with hc | hc
    ·have:=wk.wl c hc;omega
    ·rw [List.mem_singleton] at hc;subst hc;show 1≤_;omega
   ·rw [ecs,List.map_append,hun];rfl
   ·rcases List.mem_append.mp hy with hy | hy
    ·exact hus y hy
    ·rw [List.mem_singleton] at hy;subst hy;exact hn
  ·have i0:∀ J,dY J (gu n v) (.int 0)=some (.str "turn"):=fun J=>cS _ _
   refine cA rfl (i0 _) (by decide +kernel) ?_
   simp_all! only []
   refine ⟨p,L,_,rfl,wk.b,wk.ok,.inr (.inl ⟨n,v,rfl,hrow n hn,hv,hw200,fun J3 L3 b3 ok3 e t1 mv3=>?_⟩)⟩
   simp_all! only []
   refine ⟨D,gs,ep,L.t,_,rfl,mv3.keep _ _ wk.hD wk.nD,gnd,by omega,st,gsz,.inr (.inl ⟨n,v,rfl,hn,fun ep'=>?_⟩)⟩
   refine (hInv _ _ _).mpr ⟨L3,_,ep',used,_,_,_,by rw [t1],wk.next b3 ok3 mv3 (wk.rl.turn wk.ok.toaS hv e t1) (by rw [t1];exact wk.td) (by rw [t1];exact tl1) (fun c hc=>?_) ep',by rw [e,df (fun c=>(i4 n L.t v c).1)];exact hun,hus,by omega⟩
   rw [e] at hc
   obtain ⟨c0,h0,rfl⟩:=List.mem_map.mp hc
   have h1:=wk.wl c0 h0
   unfold cy
   split
   ·have:=gm c0.w L.t v
    show (turned c0.w L.t v).length≤_
    omega
   ·omega
  ·have i0:∀ J,dY J fS (.int 0)=some (.str "about"):=fun J=>cS _ _
   refine cA rfl (i0 _) (by decide +kernel) ?_
   simp_all! only []
   refine ⟨p,L,_,rfl,wk.b,wk.ok,.inr (.inr (.inl ⟨rfl,hw200,fun J3 L3 b3 ok3 e t1 mv3=>?_⟩))⟩
   simp_all! only []
   refine ⟨D,gs,ep,L.t,_,rfl,mv3.keep _ _ wk.hD wk.nD,gnd,by omega,st,gsz,.inr (.inr (.inl ⟨rfl,fun ep'=>?_⟩))⟩
   refine (hInv _ _ _).mpr ⟨L3,_,ep',used,_,_,_,by rw [t1],wk.next b3 ok3 mv3 (wk.rl.about wk.ok.toaS e t1) (by rw [t1];exact wk.td) (by rw [t1];exact tl1) (fun c hc=>?_) ep',by rw [e,df (fun c=>(qo L.t c).1)];exact hun,hus,by omega⟩
   rw [e] at hc
   obtain ⟨c0,h0,rfl⟩:=List.mem_map.mp hc
   have h1:=wk.wl c0 h0
   unfold c7
   split
   ·have:=gm c0.w L.t (-c0.cur.v)
    show (turned c0.w L.t (-c0.cur.v)).length≤_
    omega
   ·omega
  ·have i0:∀ J,dY J (fC n) (.int 0)=some (.str "leave"):=fun J=>cS _ _
   refine cA rfl (i0 _) (by decide +kernel) ?_
   simp_all! only []
   refine ⟨p,L,_,rfl,wk.b,wk.ok,.inr (.inr (.inr (.inl ⟨n,rfl,hrow n hn,fun J3 L3 b3 ok3 e t1 mv3=>?_⟩)))⟩
   simp_all! only []
   refine ⟨D,gs,ep,L.t,_,rfl,mv3.keep _ _ wk.hD wk.nD,gnd,by omega,st,gsz,.inr (.inr (.inr (.inl ⟨n,rfl,hn,fun ep'=>?_⟩)))⟩
   refine (hInv _ _ _).mpr ⟨L3,_,ep',used,_,_,_,by rw [t1],wk.next b3 ok3 mv3 (wk.rl.leave e t1) (by rw [t1];exact wk.td) (by rw [t1];exact tl1) (fun c hc=>?_) ep',by rw [e,df (fun c=>(dT n L.t c).1)];exact hun,hus,by omega⟩
   rw [e] at hc
   obtain ⟨c0,h0,rfl⟩:=List.mem_map.mp hc
   have h1:=wk.wl c0 h0
   rw [(dT n L.t c0).2.2.2];omega
  ·have i0:∀ J,dY J (B' m') (.int 0)=some (.str "go"):=fun J=>cS _ _
   refine cA rfl (i0 _) (by decide +kernel) ?_
   have tl3:=t6 (zf hm' wk.ok.t0) wk.tl
   have td3:=wN hm' wk.td
   have hg:fN m'.num m'.den=true:=xK (Rat.le_trans wk.ok.t0 (hm'.le)) td3 (D5.mpr (sk (by omega) tl3))
   simp_all! only []
   refine ⟨p,L,_,rfl,wk.b,wk.ok,.inr (.inr (.inr (.inr ⟨m',rfl,hg,hm'.le,fun J3 o3 b3 ok3 mv3=>?_⟩)))⟩
   simp_all! only []
   have hD3:=mv3.keep _ _ wk.hD wk.nD
   refine ⟨D,gs,ep,L.t,_,rfl,hD3,gnd,by omega,st,gsz,.inr (.inr (.inr (.inr ⟨m',rfl,?_⟩)))⟩
   have w3:=wk.next b3 ok3 mv3 (wk.rl.go hm'.le) td3 tl3 (fun c hc=>by have:=wk.wl c hc;omega) ep
   rw [so hD3] at w3
   exact (hInv _ _ _).mpr ⟨_,_,ep,used,_,_,_,rfl,w3,hun,hus,by omega⟩
 ·intro τ J' hv
  obtain ⟨L,gs,ep,used,u7,u8,u9,rfl,wk,hun,hus,hul⟩:=(hInv _ _ _).mp hv
  simp_all! only []
  rw [List.length_map] at wk hul
  exact q J' L D U gs ep used wk hun hus hul
def qp (ns:List Int) (k:Int):Int:=if k < (ns.length:Int) then ns.getD k.toNat 0 else 5 + 17 * k
def ux:cj:=fun xs J Q _=>∃ (ns:List Int) (k:Int),xs=[.fl (ns.map .int),.int k]∧0≤k∧k < 1000∧Q (.int (qp ns k)) J
theorem yr {f:Addr} {fd:FuncData} (F:bX K "_law_cell" "_law_cell" oA f fd) (Z:bP mg):aI P w K mg base (cU P w) 1 f fd ["_law_script","_law_k"] (dz K ux):=by
 simp_arith [BZ]
 ·obtain ⟨ns,k,rfl,_⟩:=h;rfl
 obtain ⟨ns,k,rfl,h0,h1,q⟩:=h
 unfold qp at q
 refine ⟨_,(ai (aU (aD d6 (rv 1) (aO bW rfl Z.len boot_len (af (rv 0) ah)) (L2.ax _)) (aq (aB (ak ar (rv 0) (rv 1) (fun _ _=>rfl)))) aJ)
   (aq (aB (aK dj ag (aK bK ag (rv 1)))))),?_⟩
 simp_arith! only [cm,List.length_map]
 split
 ·rename_i c
  rw [if_pos c] at q
  obtain ⟨j,rfl⟩:=Int.eq_ofNat_of_zero_le h0
  have hj:j < ns.length:=by omega
  refine ⟨.int ns[j],a_ (by rw [List.getElem?_map,List.getElem?_eq_getElem hj];rfl),?_⟩
  simpa [List.getD,hj] using q
 ·rename_i c
  rw [if_neg c] at q
  exact ⟨.of (.small (x:=17) (by decide) (by decide)) (.small (x:=k) (by omega) (by omega)),q⟩
def HA:PV→Int
 | .int i=>i
 | _=>0
theorem yV (ss:List Str):iD (ss.map .str) none (some (-1))=(ss.dropLast).map PV.str:=by
 unfold iD
 rw [HT.qM,List.drop_zero,Nat.sub_zero,List.map_dropLast,List.dropLast_eq_take]
 have e:HT.c8 (ss.map PV.str).length (ss.map PV.str).length (some (-1))=(ss.map PV.str).length - 1:=by
  show (if (-1:Int) < 0 then (-1 + ((ss.map PV.str).length:Int)).toNat else min (-1:Int).toNat (ss.map PV.str).length)=_
  rw [if_pos (by decide)];omega
 rw [e]
def dX (x:Ky × Ky):Rat:=x.2.p - x.1.p
def stepK (o:Option (Ky × Ky)) (x:Ky × Ky):Option (Ky × Ky) :=
 match o with
 | none=>some x
 | some y=>if dX x < dX y then some x else some y
def dA (ps:List (Ky × Ky)):Option (Ky × Ky):=ps.foldl stepK none
def nW:Option (Ky × Ky)→PV
 | none=>.non
 | some x=>(aA.mk (dX x) x.1.n x.2.n).v
theorem eQ (ps:List (Ky × Ky)) (x:Ky × Ky):dA (ps ++ [x])=stepK (dA ps) x:=by unfold dA;rw [List.foldl_append];rfl
theorem jP:∀ (ps:List (Ky × Ky)) (x:Ky × Ky),dA ps=some x→x∈ps:=by
 refine fun ps=>snoc_ind (p:=fun ps=>∀ x,dA ps=some x→x∈ps) (fun x h=>nomatch h) (fun ps y ih x h=>?_) ps
 rw [eQ] at h
 cases hb:dA ps with
 | none=>rw [hb] at h;cases h;simp
 | some z =>
  rw [hb] at h
  unfold stepK at h
  simp only at h
  split at h
  ·cases h;simp
  ·cases h;exact List.mem_append.mpr (.inl (ih _ hb))
theorem qQ:∀ (ps:List (Ky × Ky)),∀ x∈ps,∃ b,dA ps=some b∧dX b≤dX x:=by
 refine fun ps=>snoc_ind (p:=fun ps=>∀ x∈ps,∃ b,dA ps=some b∧dX b≤dX x) (fun x h=>nomatch h) (fun ps y ih x h=>?_) ps
 rw [eQ]
 cases hb:dA ps with
 | none =>
  rcases List.mem_append.mp h with h | h
  ·obtain ⟨b,e,_⟩:=ih x h;rw [hb] at e;cases e
  ·rw [List.mem_singleton] at h;subst h;exact ⟨x,rfl,Rat.le_refl⟩
 | some z =>
  unfold stepK
  simp only
  split
  ·rename_i c
   rcases List.mem_append.mp h with h | h
   ·obtain ⟨b,e,k⟩:=ih x h
    rw [hb] at e;cases e
    exact ⟨y,rfl,Rat.le_trans (Rat.le_of_lt c) k⟩
   ·rw [List.mem_singleton] at h;subst h;exact ⟨x,rfl,Rat.le_refl⟩
  ·rename_i c
   rcases List.mem_append.mp h with h | h
   ·obtain ⟨b,e,k⟩:=ih x h
    rw [hb] at e;cases e
    exact ⟨_,rfl,k⟩
   ·rw [List.mem_singleton] at h;subst h;exact ⟨_,rfl,Rat.not_lt.mp c⟩
theorem uA {L:Ln} (ok:bM L) {a:Ky} (ha:a∈bJ (L.fs.map (key L.t))) {c:Cf} (hc:c∈L.cs) (e:c.n=a.n):c.cur.at L.t=a.p:=by
 obtain ⟨x,hx,rfl⟩:=List.mem_map.mp ((aX _ _).mp ha)
 obtain ⟨c0,hc0,rfl⟩:=List.mem_map.mp hx
 have:=ok.uniq hc (Ln.cx.mp hc0).1 e
 rw [this];rfl
theorem pG {L:Ln} (ok:bM L) {a:Ky} (ha:a∈bJ (L.fs.map (key L.t))):Sz 3000 a.p:=by
 obtain ⟨x,hx,rfl⟩:=List.mem_map.mp ((aX _ _).mp ha)
 obtain ⟨c0,hc0,rfl⟩:=List.mem_map.mp hx
 exact fT (ok.G0 (Ln.cx.mp hc0).1) ok.A3
abbrev dg:Stmt:=(L2.inClass (top 42) 14)
theorem bL:L2.aw ["self","best","hind","fore","gap"] ["self"] (L2.aj dg):=dD
def l4 (cN cL:Addr):cj:=fun xs J Q E=>∃ p L,xs=[.ref p]∧aW cN cL J p L∧bM L∧Q (nW (dA ((bJ (L.fs.map (key L.t))).zip (bJ (L.fs.map (key L.t))).tail))) J
theorem kO {cN cL eC f:Addr} {fd:FuncData} (F:bX K "closest" "Lane.closest" dg f fd) (Z:bP mg) (KD_Lane:c_ K mg "Lane" cN) (NA_Lane_row:az K cN "row") (m_Lane_place:cP P w K mg base cN 5 "place" ["self","name"] (rT cN cL eC)) (C_minus:a9 P w K mg base 3 "minus" ["one","two"] (rQ fun p q=>p - q)) (C_less:a9 P w K mg base 1 "less" ["one","two"] cu):aI P w K mg base (cU P w) 6 f fd ["self"] (dz K (l4 cN cL)):=by
 simp_arith [bL]
 ·obtain ⟨p,L,rfl,_⟩:=h;rfl
 obtain ⟨p,L,rfl,b,ok,q⟩:=h
 refine ⟨_,(ai (aG (i:=1) bL.nd rfl (Or.inl rfl) fY)
   (ai (eL bY rfl (C_ rfl Z.zip (af (aR KD_Lane.cl NA_Lane_row (rv 0)) (af (fK xG (aR KD_Lane.cl NA_Lane_row (rv 0)) (hV ag) g9) ah))) (lX (n:=2) rfl (cb (bt (i:=2) bL.nd rfl (Or.inl rfl)) (cb (bt (i:=3) bL.nd rfl (Or.inl rfl)) jA))) (ai (aG (i:=4) bL.nd rfl (Or.inl rfl) (aP C_minus B hr (by decide) rfl (af (ba (pl:=_) m_Lane_place B hr (by decide) (rv 0) (af (rv 3) ah)) (af (ba (pl:=_) m_Lane_place B hr (by decide) (rv 0) (af (rv 2) ah)) ah))))
   (aq (aU (dw (iw (aD xp (rv 1) fY (L2.ax _)) (gY (bV (aP C_less B hr (by decide) rfl (af (rv 4) (af (ak ar (rv 1) ag (fun _ _=>rfl)) ah))))))) (aq (aG (i:=1) bL.nd rfl (Or.inl rfl) (bS (af (rv 4) (af (rv 2) (af (rv 3) ah)))))) aJ))))
   (aq (aB (rv 1))))),?_⟩
 obtain ⟨ks,hks⟩:∃ ks,bJ (L.fs.map (key L.t))=ks:=⟨_,rfl⟩
 have hrow:L.row.map PV.str=ks.map fun k=>PV.str k.n:=by rw [← hks];exact ok.keys
 have hct:iD (ks.map fun k=>PV.str k.n) (some 1) none=ks.tail.map fun k=>PV.str k.n:=by
  cases ks with
  | nil=>rfl
  | cons x ks=>exact rK (((x :: ks).map fun k=>PV.str k.n)) 1 (by simp)
 rw [hks] at q
 have bo:=b.ob
 simp_all! only [IY,bo,b.rw,oG,hrow,hct]
 have ez:((ks.map fun k=>PV.str k.n).zip (ks.tail.map fun k=>PV.str k.n)).map (fun p=>PV.tup [p.1,p.2])=(ks.zip ks.tail).map fun p=>PV.tup [.str p.1.n,.str p.2.n]:=by rw [List.zip_map,List.map_map];rfl
 rw [ez]
 generalize hps:ks.zip ks.tail=ps at q ⊢
 have hpm:∀ x∈ps,x.1∈ks∧x.2∈ks:=fun x hx=>by
  rw [← hps] at hx
  obtain ⟨i,h3,h4⟩:=jx.mp (show (x.1,x.2)∈_ from hx)
  exact ⟨List.mem_of_getElem? h3,List.mem_of_getElem? h4⟩
 have gsz:∀ x∈ps,Sz 6001 (dX x):=fun x hx=>by
  have:=hpm x hx
  rw [← hks] at this
  exact (pG ok this.2).sub (pG ok this.1)
 obtain ⟨Inv,hInv⟩:∃ Inv:Nat→Sr→Hq→Prop,∀ i τ J',Inv i τ J'↔∃ (u2 u3 u4:Option PV),τ=[some (.ref p),some (nW (dA (ps.take i))),u2,u3,u4]∧J'=J:=⟨_,fun _ _ _=>Iff.rfl⟩
 refine fz Inv ((hInv _ _ _).mpr ⟨_,_,_,rfl,rfl⟩) (fun i τ J' h=>?_) ?_ ?_
 ·obtain ⟨_,_,_,_,rfl⟩:=(hInv _ _ _).mp h
  rw [b.rw,hrow]
 ·intro i x τ J' hx hv
  obtain ⟨u2,u3,u4,rfl,rfl⟩:=(hInv _ _ _).mp hv
  clear hv
  have hi:i < ps.length:=by have:=(List.getElem?_eq_some_iff.mp hx).1;rw [List.length_map] at this;exact this
  rw [List.getElem?_map,List.getElem?_eq_getElem hi] at hx
  cases hx
  have et:ps.take (i + 1)=ps.take i ++ [ps[i]]:=by rw [List.take_add_one,List.getElem?_eq_getElem hi];rfl
  have hxm:=List.getElem_mem hi
  generalize ps[i]=x at et hxm ⊢
  obtain ⟨h1,h2⟩:=hpm x hxm
  rw [← hks] at h1 h2
  have sx:=gsz x hxm
  have s1:=pG ok h1
  have s2:=pG ok h2
  simp_all! only [bo]
  refine ⟨e9 _ _ _ _,p,L,x.2.n,rfl,b,ok.toaS,fun c hc e hg=>?_,fun z=>absurd (h_ ok h2) z⟩
  rw [uA ok h2 hc e]
  simp_all! only [bo]
  refine ⟨e9 _ _ _ _,p,L,x.1.n,rfl,b,ok.toaS,fun c' hc' e' hg'=>?_,fun z=>absurd (h_ ok h1) z⟩
  rw [uA ok h1 hc' e']
  refine ⟨x.2.p,x.1.p,rfl,s2.mono (by decide),s1.mono (by decide),?_⟩
  have eg:((fun p q=>p - q) x.2.p x.1.p:Rat)=dX x:=rfl
  rw [eg]
  cases hb:dA (ps.take i) with
  | none =>
   simp_all! only [nW]
   exact (hInv _ _ _).mpr ⟨_,_,_,by rw [et,eQ,hb];rfl,rfl⟩
  | some y =>
   have sy:=gsz y (List.mem_of_mem_take (jP _ _ hb))
   simp_all! only [nW,aA.v]
   refine ⟨_,_,rfl,sx.mono (by decide),sy.mono (by decide),?_⟩
   simp_all! only []
   have e2:dA (ps.take (i + 1))=if dX x < dX y then some x else some y:=by rw [et,eQ,hb];rfl
   split
   ·rename_i c
    rw [if_pos c] at e2
    exact (hInv _ _ _).mpr ⟨_,_,_,by rw [e2];rfl,rfl⟩
   ·rename_i c
    rw [if_neg c] at e2
    exact (hInv _ _ _).mpr ⟨_,_,_,by rw [e2];rfl,rfl⟩
 ·intro τ J' hv
  obtain ⟨u2,u3,u4,rfl,rfl⟩:=(hInv _ _ _).mp hv
  rw [List.length_map,List.take_length]
  simp_all! only []
  exact q
def iG (q:Rat):Rat:=if q < 0 then -q else q
theorem BU (p q:Rat):Rat.divInt (if q.num * (p.den:Int) - p.num * (q.den:Int) < 0 then -(q.num * (p.den:Int) - p.num * (q.den:Int)) else q.num * (p.den:Int) - p.num * (q.den:Int)) ((p.den:Int) * (q.den:Int))=iG (q - p):=by
 have h:=AA q p
 unfold iG
 by_cases c:q < p
 ·have c':0 < p.num * (q.den:Int) - q.num * (p.den:Int):=by rw [h];exact c
  rw [if_pos (by omega),if_pos (by grind),Int.neg_sub,sub_eq]
  grind
 ·have c':¬ 0 < p.num * (q.den:Int) - q.num * (p.den:Int):=by rw [h];exact c
  rw [if_neg (by omega),if_neg (by grind),Int.mul_comm (p.den:Int) (q.den:Int),sub_eq]
abbrev vC:Stmt:=(top 60)
theorem sA:L2.aw ["_law_legs","_law_one","_law_other","_law_clock","_law_here","_law_there"] ["_law_legs","_law_one","_law_other","_law_clock"] (L2.aj vC):=dD
def xY:cj:=fun xs J Q _=>∃ (D:Addr) (gs:List (Str × aQ)) (ep:Nat) (t:Rat) (n n':Str) (l l':aQ),xs=[.ref D,.str n,.str n',fr t]∧J D=some (.dct (bA gs) ep)∧(gs.map (·.1)).Nodup∧(n,l)∈gs∧(n',l')∈gs∧ko 240 l∧ko 240 l'∧Sz 240 t∧Q (fr (iG (l'.at t - l.at t))) J
theorem BO {f:Addr} {fd:FuncData} (F:bX K "_law_gap" "_law_gap" vC f fd) (Z:bP mg) (C_at:a9 P w K mg base 2 "_law_at" ["_law_leg","_law_moment"] i9) (C_low:a9 P w K mg base 1 "_law_low" ["_law_top","_law_bottom"] iR):aI P w K mg base (cU P w) 3 f fd ["_law_legs","_law_one","_law_other","_law_clock"] (dz K xY):=by
 simp_arith [sA]
 ·obtain ⟨D,gs,ep,t,n,n',l,l',rfl,_⟩:=h;rfl
 obtain ⟨D,gs,ep,t,n,n',l,l',rfl,hD,hnd,hm,hm',sl,sl',st,q⟩:=h
 have hvn:iS (bA gs) n=some l.V:=fZ (f:=aQ.V) hnd hm
 have hvn':iS (bA gs) n'=some l'.V:=fZ (f:=aQ.V) hnd hm'
 have sa:=sl.nu st
 have sa':=sl'.nu st
 refine ⟨_,(ai (aG (i:=4) sA.nd rfl (Or.inl rfl) (aP C_at B hr (by decide) rfl (af (ak dB (rv 0) (rv 1) (fun _ _=>rfl)) (af (rv 3) ah))))
   (ai (aG (i:=5) sA.nd rfl (Or.inl rfl) (aP C_at B hr (by decide) rfl (af (ak dB (rv 0) (rv 2) (fun _ _=>rfl)) (af (rv 3) ah))))
   (aq (aB (aP C_low B hr (by decide) rfl (af (aO oF rfl Z.abs boot_abs (af (aK dF (aK bK (ak ar (rv 5) ag (fun _ _=>rfl)) (ak ar (rv 4) ag (fun _ _=>rfl))) (aK bK (ak ar (rv 4) ag (fun _ _=>rfl)) (ak ar (rv 5) ag (fun _ _=>rfl)))) ah)) (af (aK bK (ak ar (rv 4) ag (fun _ _=>rfl)) (ak ar (rv 5) ag (fun _ _=>rfl))) ah))))))),?_⟩
 simp_all! only [hD,hvn]
 refine ⟨l,t,rfl,sl.m.mono (by decide),sl.p.mono (by decide),st.mono (by decide),sl.v,?_⟩
 simp_all! only [hD,hvn']
 refine ⟨l',t,rfl,sl'.m.mono (by decide),sl'.p.mono (by decide),st.mono (by decide),sl'.v,?_⟩
 simp_all! only [iR]
 refine ⟨.of sa'.num sa.den,.of sa.num sa'.den,.of sa.den sa'.den,Int.mul_pos (iI _) (iI _),(Bd.mul (k:=1580) sa.den sa'.den).mono (by decide),?_⟩
 rw [BU]
 exact q
theorem HF {a b:Ky} (h:a.lt b=true):a.p≤b.p:=by
 unfold Ky.lt at h
 split at h
 ·rename_i e;rw [e];exact Rat.le_refl
 ·exact Rat.le_of_lt (of_decide_eq_true h)
theorem zF {ks:List Ky} (s:jj Ky.lt ks) {i j:Nat} {a b:Ky} (ha:ks[i]?=some a) (hb:ks[j]?=some b) (h:i≤j):a.p≤b.p:=by
 rcases Nat.lt_or_ge i j with c | c
 ·obtain ⟨h1,rfl⟩:=List.getElem?_eq_some_iff.mp ha
  obtain ⟨h2,rfl⟩:=List.getElem?_eq_some_iff.mp hb
  exact HF (List.pairwise_iff_getElem.mp s i j h1 h2 c)
 ·obtain rfl:i=j:=by omega
  rw [ha] at hb;cases hb;exact Rat.le_refl
theorem zo {q:Rat} (h:0≤q):iG q=q:=by unfold iG;rw [if_neg (Rat.not_lt.mpr h)]
theorem xk (p q:Rat):iG (p - q)=iG (q - p):=by unfold iG;grind
theorem AJ {ks:List Ky} (s:jj Ky.lt ks) {y:Ky × Ky} (hy:dA (ks.zip ks.tail)=some y) {a b:Ky} (ha:a∈ks) (hb:b∈ks) (ne:a≠b):dX y≤iG (b.p - a.p):=by
 have one:∀ {i j:Nat} {a b:Ky},ks[i]?=some a→ks[j]?=some b→i < j→dX y≤iG (b.p - a.p):=fun {i j a b} ha hb h=>by
  obtain ⟨hj,_⟩:=List.getElem?_eq_some_iff.mp hb
  have hc:ks[i + 1]?=some (ks[i + 1]'(by omega)):=List.getElem?_eq_getElem (by omega)
  generalize ks[i + 1]'(by omega)=c at hc
  obtain ⟨z,hz,hle⟩:=qQ (ks.zip ks.tail) (a,c) (jx.mpr ⟨i,ha,hc⟩)
  rw [hy] at hz;cases hz
  have h1:=zF s hc hb h
  have h2:=zF s ha hc (by omega)
  rw [zo (by grind)]
  have:dX (a,c)=c.p - a.p:=rfl
  grind
 obtain ⟨i,hi⟩:=List.mem_iff_getElem?.mp ha
 obtain ⟨j,hj⟩:=List.mem_iff_getElem?.mp hb
 rcases Nat.lt_trichotomy i j with c | c | c
 ·exact one hi hj c
 ·subst c;rw [hi] at hj;exact absurd (Option.some.inj hj) ne
 ·rw [xk];exact one hj hi c
abbrev qN:Stmt:=(top 61)
theorem cF:L2.aw ["_law_script","_law_head","_law_names_here","_law_lane","_law_cells","_law_legs","_law_clock","_law_used","_law_found","_law_row","_law_best","_law_k","_law_gap_here","_law_one","_law_other"] ["_law_script"] (L2.aj qN):=dD
theorem BB {cN cL T f:Addr} {fd:FuncData} (F:bX K "law" "law" qN f fd) (Z:bP mg) (C_cell:a9 P w K mg base 1 "_law_cell" ["_law_script","_law_k"] ux) (C_digits:a9 P w K mg base 1 "_law_digits" ["_law_cell_here","_law_sizes"] tF) (C_names:a9 P w K mg base 2 "_law_names" ["_law_cell_here","_law_many"] pX) (C_walk:a9 P w K mg base 10 "_law_walk" ["_law_lane","_law_names_here","_law_cells","_law_mode"] (xq cN cL T)) (M_Lane:wY P w K mg base cN 1 "Lane" ["self"] (vp cN cL)) (C_order:a9 P w K mg base 3 "_law_order" ["_law_legs","_law_moment"] rj) (C_part:a9 P w K mg base 2 "_law_part" ["_law_found","_law_due"] og) (C_gap:a9 P w K mg base 3 "_law_gap" ["_law_legs","_law_one","_law_other","_law_clock"] xY) (m_Lane_closest:cP P w K mg base cN 6 "closest" ["self"] (l4 cN cL)) :
  aI P w K mg base (cU P w) 11 f fd ["_law_script"] (dz K (tK [T])):=by
 simp_arith [cF]
 ·obtain ⟨ns,rfl,_⟩:=h;rfl
 obtain ⟨ns,rfl,hl,hT,hJ,q⟩:=h
 have hT:J T=some .tab:=hT T (by simp)
 refine ⟨_,(ai (aG (i:=1) cF.nd rfl (Or.inl rfl) (aP C_digits B hr (by decide) rfl (af (aP C_cell B hr (by decide) rfl (af (rv 0) (af ag ah))) (af (vw (af ag (af ag (af ag ah)))) ah))))
   (ai (aG (i:=2) cF.nd rfl (Or.inl rfl) (aP C_names B hr (by decide) rfl (af (aP C_cell B hr (by decide) rfl (af (rv 0) (af ag ah))) (af (aK dj ag (ak ar (rv 1) ag (fun _ _=>rfl))) ah))))
   (ai (aG (i:=3) cF.nd rfl (Or.inl rfl) (qj M_Lane B hr (by decide) rfl))
   (ai (GN (i:=4) (L2.aj qN) ["_law_script","_law_head","_law_names_here","_law_lane","_law_cells","_law_legs","_law_clock","_law_used","_law_found","_law_row","_law_best","_law_k","_law_gap_here","_law_one","_law_other"] [("_law_script",0)] rfl rfl rfl cF.nd rfl (Or.inl rfl) (v3 rfl Z.range (af (ak ar (rv 1) ag (fun _ _=>rfl)) ah)) (fun _ _ _ _ _ _=>(aP C_cell FH hr (by decide) rfl (af (rv 1) (af (aK dj ag (rv 0)) ah)))))
   (ai (o_ (aP C_walk B hr (by decide) rfl (af (rv 3) (af (fK xG (rv 2) g9 (hV (nY j2 ag))) (af (rv 4) (af (ak ar (rv 1) ag (fun _ _=>rfl)) ah))))) (lX (n:=3) rfl (cb (bt (i:=5) cF.nd rfl (Or.inl rfl)) (cb (bt (i:=6) cF.nd rfl (Or.inl rfl)) (cb (bt (i:=7) cF.nd rfl (Or.inl rfl)) jA)))))
   (ai (aG (i:=8) cF.nd rfl (Or.inl rfl) (eZ (pl:=_) m_Lane_closest B hr (by decide) (rv 3)))
   (ai (aG (i:=9) cF.nd rfl (Or.inl rfl) (aP C_order B hr (by decide) rfl (af (rv 5) (af (rv 6) ah))))
   (ai (aU (aD d6 (aO bW rfl Z.len boot_len (af (rv 9) ah)) ag (L2.ax _)) (aq (aB (d3 xp (rv 8) fY (L2.ax _)))) aJ)
   (ai (aG (i:=10) cF.nd rfl (Or.inl rfl) (bS (af (aP C_gap B hr (by decide) rfl (af (rv 5) (af (ak ar (rv 9) ag (fun _ _=>rfl)) (af (ak ar (rv 9) ag (fun _ _=>rfl)) (af (rv 6) ah))))) (af (ak ar (rv 9) ag (fun _ _=>rfl)) (af (ak ar (rv 9) ag (fun _ _=>rfl)) ah)))))
   (ai (eL bY rfl (vS rfl Z.range (af ag (af (aK dF (aO bW rfl Z.len boot_len (af (rv 9) ah)) ag) ah))) (bt (i:=11) cF.nd rfl (Or.inl rfl)) (ai (aG (i:=12) cF.nd rfl (Or.inl rfl) (aP C_gap B hr (by decide) rfl (af (rv 5) (af (ak ar (rv 9) (rv 11) (fun _ _=>rfl)) (af (ak ar (rv 9) (aK dj (rv 11) ag) (fun _ _=>rfl)) (af (rv 6) ah))))))
   (aq (aU (aD d6 (aK bK (ak ar (rv 12) ag (fun _ _=>rfl)) (ak ar (ak ar (rv 10) ag (fun _ _=>rfl)) ag (fun _ _=>rfl))) (aK bK (ak ar (ak ar (rv 10) ag (fun _ _=>rfl)) ag (fun _ _=>rfl)) (ak ar (rv 12) ag (fun _ _=>rfl))) (L2.ax _)) (aq (aG (i:=10) cF.nd rfl (Or.inl rfl) (bS (af (rv 12) (af (ak ar (rv 9) (rv 11) (fun _ _=>rfl)) (af (ak ar (rv 9) (aK dj (rv 11) ag) (fun _ _=>rfl)) ah)))))) aJ))))
   (ai (aU (dw (iw (dZ (bV (aO j7 rfl Z.isinstance boot_isinstance (af (rv 8) (af (nF rfl Z.tuple boot_tuple) ah))))) (iw (aD (iu hr.aT) (aO bW rfl Z.len boot_len (af (rv 8) ah)) ag (L2.ax _)) (gY (dZ (bV (aP C_part B hr (by decide) rfl (af (ak ar (rv 8) ag (fun _ _=>rfl)) (af (ak ar (rv 10) ag (fun _ _=>rfl)) ah))))))))) (aq (aB kA)) aJ)
   (ai (aU (dw (iw (dZ (bV (aO j7 rfl Z.isinstance boot_isinstance (af (ak ar (rv 8) ag (fun _ _=>rfl)) (af (nF rfl Z.str boot_str) ah))))) (iw (dZ (bV (aO j7 rfl Z.isinstance boot_isinstance (af (ak ar (rv 8) ag (fun _ _=>rfl)) (af (nF rfl Z.str boot_str) ah))))) (gY (aD (iu hr.aT) (rv 8) (rv 10) (L2.ax _)))))) (aq (aB kA)) aJ)
   (ai (eL bY rfl (kZ (rv 5)) (bt (i:=13) cF.nd rfl (Or.inl rfl)) (aq (eL bY rfl (kZ (rv 5)) (bt (i:=14) cF.nd rfl (Or.inl rfl)) (ai (aG (i:=12) cF.nd rfl (Or.inl rfl) (aP C_gap B hr (by decide) rfl (af (rv 5) (af (rv 13) (af (rv 14) (af (rv 6) ah))))))
   (aq (aU (dw (d4 (aD (iu hr.aT) (rv 13) (rv 14) (L2.ax _)) (dn (aD d6 (aK bK (ak ar (rv 12) ag (fun _ _=>rfl)) (ak ar (ak ar (rv 10) ag (fun _ _=>rfl)) ag (fun _ _=>rfl))) (aK bK (ak ar (ak ar (rv 10) ag (fun _ _=>rfl)) ag (fun _ _=>rfl)) (ak ar (rv 12) ag (fun _ _=>rfl))) (L2.ax _))))) (aq (aB kA)) aJ))))))
   (aq (aB kA))))))))))))))),?_⟩
 simp_all! only []
 refine ⟨ns,0,rfl,by decide,by decide,_,[21,7,4],rfl,rG (by decide),by decide,fun ds hD=>?_⟩
 obtain ⟨d0,ds,rfl,d00,d01,hD⟩:=hD.cons
 obtain ⟨d1,ds,rfl,d10,d11,hD⟩:=hD.cons
 obtain ⟨d2,ds,rfl,d20,d21,hD⟩:=hD.cons
 cases hD.nil
 simp_all! only []
 refine ⟨ns,1,rfl,by decide,by decide,_,3 + d1,rfl,by omega,by omega,fun names nl nd ng=>?_⟩
 simp_all! only []
 intro p hp
 refine ⟨p,rfl,av,fun J1 d e o b mv=>?_⟩
 have mvJ:Mv J J1 (fun _=>False) (Ln.own ⟨0,d,e,o,[],[]⟩ p):=by
  refine (Mv.vG (S:=fun _=>False) hp).trans ⟨fun a u h n=>mv.keep a u h fun z=>n (.inr z),fun a z=>(mv.own a z).imp .inr id,mv.mono⟩
 have ok0:bM ⟨0,d,e,o,[],[]⟩:=⟨⟨List.nodup_nil,(by simp),(by simp),(by simp),(by simp),(by simp),Rat.le_refl,JS _,(by show 0≤100;decide),(by intro n;simp [Ln.fs,Ln.wb]),List.nodup_nil,(by show 0≤12;decide)⟩,rfl⟩
 have hT1:J1 T=some .tab:=mvJ.keep _ _ hT fun z=>z
 simp_all! only [qX]
 refine ⟨by omega,by omega,fun _=>true,fun x=>.int (qp ns (8 + HA x)),⟨by rw [fI];exact aV (by omega),fun J' _=>⟨trivial,fun x hx=>⟨⟨rfl,rfl⟩,fun _=>?_⟩⟩⟩,?_⟩
 ·obtain ⟨i,hi⟩:=List.mem_iff_getElem?.mp hx
  obtain ⟨i1,rfl⟩:=(mh _ _ _ _).mp hi
  simp_all! only []
  exact ⟨ns,_,rfl,by omega,by omega,rfl,rfl⟩
 obtain ⟨cs,hcs,hcl⟩:∃ cs:List Int,((lK 0 d0.toNat).filter fun _=>true).map (fun x=>PV.int (qp ns (8 + HA x)))=cs.map .int∧cs.length≤21:=⟨((lK 0 d0.toNat).filter fun _=>true).map (fun x=>qp ns (8 + HA x)),by rw [List.map_map];rfl,by
  rw [List.length_map]
  exact Nat.le_trans (List.length_filter_le _ _) (by rw [fI];omega)⟩
 rw [hcs]
 simp_all! only [yV]
 have hnl:names.dropLast.length≤40:=by rw [List.length_dropLast];omega
 refine ⟨p,_,names.dropLast,cs,d2,rfl,b,ok0,rfl,rfl,hT1,hnl,(fun n hn=>ng n (List.dropLast_subset _ hn)),by omega,d20,d21,fun J2 L D U gs ep used wk hun hus hul=>?_⟩
 have hT2:J2 T=some .tab:=wk.kept hT1 (b.Gi hT1)
 obtain ⟨st,gnd,gl,gsz⟩:=wk.up
 clear mvJ mv hT1 hcs
 simp_all! only []
 have hD:=wk.hD
 have bo:=wk.b.ob
 have gsz2:∀ x∈gs,ko 240 x.2:=wk.rl.sz
 have st2:Sz 240 L.t:=(uj wk.ok.ts).mono (by decide)
 simp_all! only [bo]
 refine ⟨e9 _ _ _ _,p,L,rfl,wk.b,wk.ok,?_⟩
 have kgn:((gs.map (key L.t)).map Ky.n).Nodup:=by rw [cI];exact gnd
 have eks:bJ (L.fs.map (key L.t))=bJ (gs.map (key L.t)):=qC wk.ok.knd kgn (wk.rl.same L.t)
 rw [eks]
 have hord:b_ L.t gs=(bJ (gs.map (key L.t))).map Ky.n:=rfl
 have ksr:=cY kgn
 have kmem:∀ a,a∈bJ (gs.map (key L.t))↔∃ x∈gs,key L.t x=a:=fun a=>by rw [aX,List.mem_map]
 have kl:(bJ (gs.map (key L.t))).length≤12:=by rw [gW,List.length_map];exact gl
 have knn:∀ {a b:Ky},a∈bJ (gs.map (key L.t))→b∈bJ (gs.map (key L.t))→a.n=b.n→a=b:=fun ha hb e=>gM kgn _ ((aX _ _).mp ha) _ ((aX _ _).mp hb) e
 simp_all! only []
 refine ⟨D,gs,ep,L.t,rfl,hD,gnd,by omega,st,gsz,?_⟩
 rw [hord]
 generalize bJ (gs.map (key L.t))=ks at ksr kmem kl knn ⊢
 have gapOf:∀ {a b:Ky},a∈ks→b∈ks→∀ (R:PV→Hq→Prop),R (fr (iG (b.p - a.p))) J2→xY [.ref D,.str a.n,.str b.n,fr L.t] J2 R E2:=fun {a b} ha hb R hR=>by
  obtain ⟨⟨n,l⟩,hx,rfl⟩:=(kmem a).mp ha
  obtain ⟨⟨n',l'⟩,hx',rfl⟩:=(kmem b).mp hb
  exact ⟨D,gs,ep,L.t,n,n',l,l',rfl,hD,gnd,hx,hx',gsz2 _ hx,gsz2 _ hx',st2,hR⟩
 have asz:∀ {a b:Ky},a∈ks→b∈ks→Sz 9000 (iG (b.p - a.p)):=fun {a b} ha hb=>by
  obtain ⟨⟨n,l⟩,hx,rfl⟩:=(kmem a).mp ha
  obtain ⟨⟨n',l'⟩,hx',rfl⟩:=(kmem b).mp hb
  have h1:Sz 1581 (l'.at L.t - l.at L.t):=((gsz2 _ hx').nu st2).sub ((gsz2 _ hx).nu st2)
  have h2:Sz 1581 (l.at L.t - l'.at L.t):=((gsz2 _ hx).nu st2).sub ((gsz2 _ hx').nu st2)
  show Sz 9000 (iG (l'.at L.t - l.at L.t))
  unfold iG
  split
  ·rw [show -(l'.at L.t - l.at L.t)=l.at L.t - l'.at L.t by grind];exact h2.mono (by decide)
  ·exact h1.mono (by decide)
 have hrow:(ks.map Ky.n).map PV.str=ks.map fun k=>PV.str k.n:=by rw [List.map_map];rfl
 rw [hrow]
 simp_all! only [List.length_map]
 by_cases c:(ks.length:Int) < 2
 ·rw [if_pos c]
  have e0:ks.zip ks.tail=[]:=List.eq_nil_of_length_eq_zero (by rw [List.length_zip,List.length_tail];omega)
  rw [e0]
  exact q J2 (by simpa using hT2)
 rw [if_neg c]
 obtain ⟨ps,hps⟩:∃ ps,ks.zip ks.tail=ps:=⟨_,rfl⟩
 have hpl:ps.length + 1=ks.length:=by rw [← hps,List.length_zip,List.length_tail];omega
 have kat:∀ {i:Nat} {k:Ky},ks[i]?=some k→cH (ks.map fun k=>PV.str k.n) (i:Int)=some (.str k.n):=fun h=>a_ (by rw [List.getElem?_map,h];rfl)
 have two:∀ i,i < ps.length→∃ a b,ks[i]?=some a∧ks[i + 1]?=some b∧ps[i]?=some (a,b)∧iG (b.p - a.p)=dX (a,b):=fun i hi=>by
  obtain ⟨a,ha⟩:∃ a,ks[i]?=some a:=⟨_,List.getElem?_eq_getElem (by omega)⟩
  obtain ⟨b,hb⟩:∃ b,ks[i + 1]?=some b:=⟨_,List.getElem?_eq_getElem (by omega)⟩
  refine ⟨_,_,ha,hb,?_,zo ?_⟩
  ·rw [← hps,List.getElem?_zip_eq_some]
   exact ⟨ha,by rw [List.getElem?_tail];exact hb⟩
  ·have:=zF ksr ha hb (by omega)
   grind
 have EF:∀ y∈ps,Sz 9000 (dX y):=fun y hy=>by
  obtain ⟨i,hi⟩:=List.mem_iff_getElem?.mp hy
  obtain ⟨a,b,ha,hb,hab,eg⟩:=two i (List.getElem?_eq_some_iff.mp hi).1
  rw [hi] at hab;cases hab
  rw [← eg]
  exact asz (List.mem_of_getElem? ha) (List.mem_of_getElem? hb)
 rw [hps]
 obtain ⟨a,b,ha,hb,hab,eg⟩:=two 0 (by omega)
 have h0:cH (ks.map fun k=>PV.str k.n) 0=some (.str a.n):=kat ha
 have h1:cH (ks.map fun k=>PV.str k.n) 1=some (.str b.n):=kat hb
 simp_all! only [h0,h1]
 refine gapOf (List.mem_of_getElem? ha) (List.mem_of_getElem? hb) _ ?_
 rw [eg]
 have etb:PV.tup [fr (dX (a,b)),.str a.n,.str b.n]=(aA.mk (dX (a,b)) a.n b.n).v:=rfl
 simp_all! only [h0,h1,List.length_map,etb]
 refine ⟨by decide,by decide,by omega,by omega,?_⟩
 have b1:dA (ps.take 1)=some (a,b):=by
  rw [List.take_add_one,List.take_zero,hab];rfl
 obtain ⟨fv,hfv⟩:∃ fv,nW (dA ps)=fv:=⟨_,rfl⟩
 rw [hfv]
 obtain ⟨Inv,hInv⟩:∃ Inv:Nat→Sr→Hq→Prop,∀ i τ J',Inv i τ J'↔∃ (y:Ky × Ky) (u11 u12:Option PV),dA (ps.take (i + 1))=some y∧τ=[some (.fl (ns.map .int)),some (.fl [.int d0,.int d1,.int d2]),some (.fl (names.map .str)),some (.ref p),some (.fl (cs.map .int)),some (.ref D),some (fr L.t),some (.ref U),some fv,some (.fl (ks.map fun k=>PV.str k.n)),some (aA.mk (dX y) y.1.n y.2.n).v,u11,u12,none,none]∧J'=J2:=⟨_,fun _ _ _=>Iff.rfl⟩
 refine Au Inv ((hInv _ _ _).mpr ⟨(a,b),_,_,b1,rfl,rfl⟩) ?_ ?_
 ·intro i τ J' hi hv
  obtain ⟨y,u11,u12,hy,rfl,rfl⟩:=(hInv _ _ _).mp hv
  clear hv
  have hi':i + 1 < ps.length:=by omega
  obtain ⟨a,b,ha,hb,hab,eg⟩:=two (i + 1) hi'
  have h0:cH (ks.map fun k=>PV.str k.n) (1 + (i:Int))=some (.str a.n):=by rw [show (1 + (i:Int))=((i + 1:Nat):Int) by omega];exact kat ha
  have h1:cH (ks.map fun k=>PV.str k.n) (1 + (i:Int) + 1)=some (.str b.n):=by rw [show (1 + (i:Int) + 1)=((i + 1 + 1:Nat):Int) by omega];exact kat hb
  have sy:=EF y (List.mem_of_mem_take (jP _ _ hy))
  have sx:=EF (a,b) (List.mem_of_getElem? hab)
  simp_all! only [h0,h1]
  refine gapOf (List.mem_of_getElem? ha) (List.mem_of_getElem? hb) _ ?_
  rw [eg]
  simp_all! only [n6,fG,h0,h1]
  refine ⟨.of sx.num sy.den,.of sy.num sx.den,?_⟩
  have e2:dA (ps.take (i + 1 + 1))=if dX (a,b) < dX y then some (a,b) else some y:=by rw [List.take_add_one,hab];exact (eQ _ _).trans (by rw [hy];rfl)
  split
  ·rename_i c
   rw [if_pos c] at e2
   exact (hInv _ _ _).mpr ⟨_,_,_,e2,rfl,rfl⟩
  ·rename_i c
   rw [if_neg c] at e2
   exact (hInv _ _ _).mpr ⟨_,_,_,e2,rfl,rfl⟩
 ·intro τ J' hv
  obtain ⟨y,u11,u12,hy,rfl,rfl⟩:=(hInv _ _ _).mp hv
  clear hv hInv Inv
  rw [show ((ks.length:Int) - 1 - 1).toNat + 1=ps.length by omega,List.take_length] at hy
  rw [hy] at hfv
  subst hfv
  have sy:=EF y (jP _ _ hy)
  have hkv:(bA gs).map (fun kv=>PV.str kv.1)=gs.map fun x=>PV.str x.1:=by unfold bA;rw [List.map_map];rfl
  simp_all! only [nW,n6,uE,uq,GO,Cv,Ft,yL,Ge,og,hD,hkv]
  rw [if_pos (show ((3:Nat):Int)=3 from rfl)]
  simp_all! only [n6,uE,uq,GO,Cv,Ft,yL,Ge,hD,hkv]
  obtain ⟨Inv,hInv⟩:∃ Inv:Nat→Sr→Hq→Prop,∀ i τ Ja,Inv i τ Ja↔∃ (u11 u12 u13 u14:Option PV),τ=[some (.fl (ns.map .int)),some (.fl [.int d0,.int d1,.int d2]),some (.fl (names.map .str)),some (.ref p),some (.fl (cs.map .int)),some (.ref D),some (fr L.t),some (.ref U),some (aA.mk (dX y) y.1.n y.2.n).v,some (.fl (ks.map fun k=>PV.str k.n)),some (aA.mk (dX y) y.1.n y.2.n).v,u11,u12,u13,u14]∧Ja=J':=⟨_,fun _ _ _=>Iff.rfl⟩
  refine fz Inv ((hInv _ _ _).mpr ⟨_,_,_,_,rfl,rfl⟩) (fun i τ Ja h=>?_) ?_ ?_
  ·obtain ⟨_,_,_,_,_,rfl⟩:=(hInv _ _ _).mp h
   exact hD
  ·intro i x τ Ja hx hv
   obtain ⟨u11,u12,u13,u14,rfl,rfl⟩:=(hInv _ _ _).mp hv
   clear hv
   obtain ⟨⟨n,l⟩,hmem,rfl⟩:=List.mem_map.mp (List.mem_of_getElem? hx)
   clear hx
   simp_all! only [hD,hkv]
   obtain ⟨In2,hIn2⟩:∃ In2:Nat→Sr→Hq→Prop,∀ i τ Jb,In2 i τ Jb↔∃ (u11 u12 u14:Option PV),τ=[some (.fl (ns.map .int)),some (.fl [.int d0,.int d1,.int d2]),some (.fl (names.map .str)),some (.ref p),some (.fl (cs.map .int)),some (.ref D),some (fr L.t),some (.ref U),some (aA.mk (dX y) y.1.n y.2.n).v,some (.fl (ks.map fun k=>PV.str k.n)),some (aA.mk (dX y) y.1.n y.2.n).v,u11,u12,some (.str n),u14]∧Jb=Ja:=⟨_,fun _ _ _=>Iff.rfl⟩
   refine fz In2 ((hIn2 _ _ _).mpr ⟨_,_,_,rfl,rfl⟩) (fun i τ Jb h=>?_) ?_ ?_
   ·obtain ⟨_,_,_,_,rfl⟩:=(hIn2 _ _ _).mp h
    exact hD
   ·intro j x τ Jb hx hv
    obtain ⟨u11,u12,u14,rfl,rfl⟩:=(hIn2 _ _ _).mp hv
    clear hv
    obtain ⟨⟨n',l'⟩,hmem',rfl⟩:=List.mem_map.mp (List.mem_of_getElem? hx)
    clear hx
    have ka:=(kmem _).mpr ⟨_,hmem,rfl⟩
    have kb:=(kmem _).mpr ⟨_,hmem',rfl⟩
    have sx:=asz ka kb
    simp_all! only []
    refine gapOf ka kb _ ?_
    simp_all! only [n6,fG]
    split
    ·exact (hIn2 _ _ _).mpr ⟨_,_,_,rfl,rfl⟩
    ·rename_i ne
     have hle:=AJ ksr (by rw [hps];exact hy) ka kb (fun e=>ne (congrArg Ky.n e))
     refine ⟨.of sx.num sy.den,.of sy.num sx.den,?_⟩
     rw [if_neg (Rat.not_lt.mpr hle)]
     exact (hIn2 _ _ _).mpr ⟨_,_,_,rfl,rfl⟩
   ·intro τ Jb hv
    obtain ⟨u11,u12,u14,rfl,rfl⟩:=(hIn2 _ _ _).mp hv
    exact (hInv _ _ _).mpr ⟨_,_,_,_,rfl,rfl⟩
  ·intro τ Ja hv
   obtain ⟨u11,u12,u13,u14,rfl,rfl⟩:=(hInv _ _ _).mp hv
   simp_all! only []
   exact q Ja (by simpa using hT2)
end
theorem D0 {P:Program} {w:World} {K:PySem.W.Frag} {mg:Str→Option Value} (Z:bP mg) (N:lJ K mg) {t_FARTHEST:Tok} (g_FARTHEST:mg "FARTHEST"=some (.int 1000000 t_FARTHEST)) {t_FASTEST:Tok} (g_FASTEST:mg "FASTEST"=some (.int 1000 t_FASTEST)) {t_FINEST:Tok} (g_FINEST:mg "FINEST"=some (.int 60 t_FINEST)) {t_LATEST:Tok} (g_LATEST:mg "LATEST"=some (.int 1000000 t_LATEST)) {t_LONGEST:Tok} (g_LONGEST:mg "LONGEST"=some (.int 8 t_LONGEST)) {t_MOST:Tok} (g_MOST:mg "MOST"=some (.int 12 t_MOST)) {t_SIGNS:Tok} (g_SIGNS:mg "SIGNS"=some (.str "abcdefghijklmnopqrstuvwxyz0123456789" t_SIGNS)) {e_BadMoment:Addr} (O_BadMoment:Own K mg "BadMoment" e_BadMoment) {e_BadName:Addr} (O_BadName:Own K mg "BadName" e_BadName) {e_Full:Addr} (O_Full:Own K mg "Full" e_Full) {e_NoCraft:Addr} (O_NoCraft:Own K mg "NoCraft" e_NoCraft) {e_NotThere:Addr} (O_NotThere:Own K mg "NotThere" e_NotThere) {e_Past:Addr} (O_Past:Own K mg "Past" e_Past) {e_Taken:Addr} (O_Taken:Own K mg "Taken" e_Taken) {e_TooFar:Addr} (O_TooFar:Own K mg "TooFar" e_TooFar) {c_Log:Addr} (KD_Log:c_ K mg "Log" c_Log) {c_Lane:Addr} (KD_Lane:c_ K mg "Lane" c_Lane) {c_Bells:Addr} (KD_Bells:c_ K mg "Bells" c_Bells) (NA_Log_rows:az K c_Log "rows") (NA_Log_gone:az K c_Log "gone") (NA_Lane_now:az K c_Lane "now") (NA_Lane_logs:az K c_Lane "logs") (NA_Lane_row:az K c_Lane "row") (NA_Bells_rows:az K c_Bells "rows") (D_cell:Def K mg "_law_cell" oA) (D_digits:Def K mg "_law_digits" i5) (D_shared:Def K mg "shared" jk) (D_fraction:Def K mg "fraction" fW) (D_low:Def K mg "_law_low" vf) (D_less:Def K mg "less" pe) (D_plus:Def K mg "plus" pL) (D_minus:Def K mg "minus" kS) (D_times:Def K mg "times" kQ) {T_good_name:Addr} (D_good_name:r8 K mg "good_name" fh T_good_name) (D_names:Def K mg "_law_names" ie) (D_place_on:Def K mg "place_on" f9) (D_last_by:Def K mg "last_by" ia) (D_lies_behind:Def K mg "lies_behind" dQ) (D_in_order:Def K mg "in_order" fU) (D_rings_ahead:Def K mg "rings_ahead" dO) (D_meeting:Def K mg "meeting" hZ) (D_in_lowest_terms:Def K mg "in_lowest_terms" cq) (D_good_moment:Def K mg "good_moment" dM) (D_whole:Def K mg "_law_whole" lj) (D_part:Def K mg "_law_part" pA) (D_placed:Def K mg "_law_placed" jm) (D_paced:Def K mg "_law_paced" k8) (D_at:Def K mg "_law_at" Al) (D_later:Def K mg "_law_later" lq) (D_before:Def K mg "_law_before" i_) (D_order:Def K mg "_law_order" jt) (D_gap:Def K mg "_law_gap" vC) (D_acted:Def K mg "_law_acted" kY) (D_done:Def K mg "_law_done" oz) (D_deed:Def K mg "_law_deed" lZ) (D_walk:Def K mg "_law_walk" ph) (MD_Log___init__:bD K c_Log "__init__" "Log.__init__" dt) (MD_Log_turn:bD K c_Log "turn" "Log.turn" f6) (MD_Log_leave:bD K c_Log "leave" "Log.leave" fj) (MD_Log_there:bD K c_Log "there" "Log.there" fe) (MD_Log_leg_at:bD K c_Log "leg_at" "Log.leg_at" d8) (MD_Lane___init__:bD K c_Lane "__init__" "Lane.__init__" c5) (MD_Lane_must_be_there:bD K c_Lane "must_be_there" "Lane.must_be_there" bO) (MD_Lane_leg_of:bD K c_Lane "leg_of" "Lane.leg_of" dP) (MD_Lane_settle:bD K c_Lane "settle" "Lane.settle" cX) (MD_Lane_join:bD K c_Lane "join" "Lane.join" fg) (MD_Lane_place:bD K c_Lane "place" "Lane.place" eD) (MD_Lane_closest:bD K c_Lane "closest" "Lane.closest" dg) (MD_Bells___init__:bD K c_Bells "__init__" "Bells.__init__" cM) (MD_Bells_drop:bD K c_Bells "drop" "Bells.drop" di) (MD_Bells_put:bD K c_Bells "put" "Bells.put" fo) (MD_Bells_told:bD K c_Bells "told" "Bells.told" ed) (MD_Lane_meets:bD K c_Lane "meets" "Lane.meets" eu) (MD_Lane_foretold:bD K c_Lane "foretold" "Lane.foretold" c4) (MD_Lane_go_to:bD K c_Lane "go_to" "Lane.go_to" d9) (MD_Lane_turn:bD K c_Lane "turn" "Lane.turn" fm) (MD_Lane_about:bD K c_Lane "about" "Lane.about" eA) (MD_Lane_leave:bD K c_Lane "leave" "Lane.leave" eh) {f:Addr} {fd:FuncData} (F:bX K "law" "law" qN f fd) (base:Heap) (Bm:BMain mg base) :
  aI P w K mg base (cU P w) 11 f fd ["_law_script"] (dz K (tK [T_good_name])):=by
 have L_cell:=D_cell.e_ (P:=P) (w:=w) (base:=base) (fun _ _ F=>yr F Z) fun _ _ _ _ _ _=>iT fun _ _=>rfl
 have C_digits:=D_digits.yM (P:=P) (w:=w) (base:=base) (fun _ _ F=>vD F Z.toxa) fun _ _ _ _ _ _=>iT fun _ _=>rfl
 have L_digits:=pY C_digits
 have C_shared:=D_shared.yM (P:=P) (w:=w) (base:=base) (fun _ _ F=>vK F Z.toxa) fun _ _ _ _ _ _=>iT fun _ _=>rfl
 have L_shared:=rM C_shared
 have C_fraction:=D_fraction.yM (P:=P) (w:=w) (base:=base) (fun _ _ F=>qi F Z.toxa C_shared) fun _ _ _ _ _ _=>iT fun _ _=>rfl
 have L_fraction:=mW C_fraction
 have C_low:=D_low.yM (P:=P) (w:=w) (base:=base) (fun _ _ F=>Ec F Z.toxa) fun _ _ _ _ _ _=>iT fun _ _=>rfl
 have L_low:=ye C_low
 have C_less:=D_less.yM (P:=P) (w:=w) (base:=base) (fun _ _ F=>Bn F Z.toxa) fun _ _ _ _ _ _=>iT fun _ _=>rfl
 have L_less:=wM C_less
 have C_plus:=D_plus.yM (P:=P) (w:=w) (base:=base) (fun _ _ F=>AD F Z.toxa C_fraction) fun _ _ _ _ _ _=>iT fun _ _=>rfl
 have C_minus:=D_minus.yM (P:=P) (w:=w) (base:=base) (fun _ _ F=>yG F Z.toxa C_fraction) fun _ _ _ _ _ _=>iT fun _ _=>rfl
 have C_times:=D_times.yM (P:=P) (w:=w) (base:=base) (fun _ _ F=>yA F Z.toxa C_fraction) fun _ _ _ _ _ _=>iT fun _ _=>rfl
 have L_plus:=vJ C_plus
 have L_minus:=tI C_minus
 have L_times:=sh C_times
 have C_good_name:=D_good_name.yM (P:=P) (w:=w) (base:=base) (fun _ _ _ F=>oE F Z.toxa Bm g_LONGEST g_SIGNS) fun _ _ _ _ _ _=>zX fun _=>rfl
 have L_good_name:=lN C_good_name
 have C_names:=D_names.yM (P:=P) (w:=w) (base:=base) (fun _ _ F=>yR F Z.toxa C_digits) fun _ _ _ _ _ _=>iT fun _ _=>rfl
 have L_names:=sR C_names
 have L_place_on:=D_place_on.e_ (P:=P) (w:=w) (base:=base) (fun _ _ F=>oO F Z L_plus L_minus L_times) fun _ _ _ _ _ _=>iT fun _ _=>rfl
 have L_last_by:=D_last_by.e_ (P:=P) (w:=w) (base:=base) (fun _ _ F=>pV F Z L_less) fun _ _ _ _ _ _=>iT fun _ _=>rfl
 have L_lies_behind:=D_lies_behind.e_ (P:=P) (w:=w) (base:=base) (fun _ _ F=>kI F Z L_place_on L_less) fun _ _ _ _ _ _=>JA fun _ _ _ _ _=>rfl
 have L_in_order:=D_in_order.e_ (P:=P) (w:=w) (base:=base) (fun _ _ F=>pO F Z L_lies_behind) fun _ _ _ _ _ _=>iT fun _ _=>rfl
 have M_Log:=MD_Log___init__.IL (P:=P) (w:=w) (base:=base) KD_Log (fun _ _ F=>qR F KD_Log NA_Log_rows NA_Log_gone) fun _ _ _ _ _ _=>EL fun _ _ _ _=>rfl
 have m_Log_turn:=MD_Log_turn.pJ (P:=P) (w:=w) (base:=base) (mg:=mg) KD_Log.cl (fun _ _ F=>p9 F Z KD_Log NA_Log_rows L_place_on) fun _ _ _ _ _ _=>GW fun _ _ _=>rfl
 have m_Log_leave:=MD_Log_leave.pJ (P:=P) (w:=w) (base:=base) (mg:=mg) KD_Log.cl (fun _ _ F=>pI F Z KD_Log NA_Log_gone) fun _ _ _ _ _ _=>iT fun _ _=>rfl
 have m_Log_there:=MD_Log_there.pJ (P:=P) (w:=w) (base:=base) (mg:=mg) KD_Log.cl (fun _ _ F=>pS F Z KD_Log NA_Log_rows NA_Log_gone L_less) fun _ _ _ _ _ _=>iT fun _ _=>rfl
 have m_Log_leg_at:=MD_Log_leg_at.pJ (P:=P) (w:=w) (base:=base) (mg:=mg) KD_Log.cl (fun _ _ F=>mS F Z KD_Log NA_Log_rows O_NotThere m_Log_there L_last_by) fun _ _ _ _ _ _=>iT fun _ _=>rfl
 have M_Lane:=MD_Lane___init__.IL (P:=P) (w:=w) (base:=base) KD_Lane (fun _ _ F=>n9 F (cL:=c_Log) N KD_Lane NA_Lane_now NA_Lane_logs NA_Lane_row) fun _ _ _ _ _ _=>zX fun _=>rfl
 have m_Lane_must_be_there:=MD_Lane_must_be_there.pJ (P:=P) (w:=w) (base:=base) (mg:=mg) KD_Lane.cl (fun _ _ F=>gx F Z (cL:=c_Log) KD_Lane NA_Lane_row O_NoCraft) fun _ _ _ _ _ _=>iT fun _ _=>rfl
 have m_Lane_leg_of:=MD_Lane_leg_of.pJ (P:=P) (w:=w) (base:=base) (mg:=mg) KD_Lane.cl (fun _ _ F=>mj F Z KD_Lane NA_Lane_logs NA_Lane_now m_Lane_must_be_there m_Log_leg_at) fun _ _ _ _ _ _=>iT fun _ _=>rfl
 have m_Lane_settle:=MD_Lane_settle.pJ (P:=P) (w:=w) (base:=base) (mg:=mg) KD_Lane.cl (fun _ _ F=>lL F Z KD_Lane NA_Lane_row NA_Lane_now m_Lane_leg_of L_in_order) fun _ _ _ _ _ _=>zX fun _=>rfl
 have m_Lane_join:=MD_Lane_join.pJ (P:=P) (w:=w) (base:=base) (mg:=mg) KD_Lane.cl (fun _ _ F=>oM F Z KD_Lane NA_Lane_row NA_Lane_now NA_Lane_logs g_FARTHEST g_FASTEST g_MOST O_BadName O_TooFar O_Taken O_Full L_good_name M_Log m_Lane_settle) fun _ _ _ _ _ _=>EL fun _ _ _ _=>rfl
 have m_Lane_place:=MD_Lane_place.pJ (P:=P) (w:=w) (base:=base) (mg:=mg) KD_Lane.cl (fun _ _ F=>mY F Z KD_Lane NA_Lane_now m_Lane_leg_of L_place_on) fun _ _ _ _ _ _=>iT fun _ _=>rfl
 have m_Lane_closest:=MD_Lane_closest.pJ (P:=P) (w:=w) (base:=base) (mg:=mg) KD_Lane.cl (fun _ _ F=>kO F Z KD_Lane NA_Lane_row m_Lane_place L_minus L_less) fun _ _ _ _ _ _=>zX fun _=>rfl
 have L_rings_ahead:=D_rings_ahead.e_ (P:=P) (w:=w) (base:=base) (fun _ _ F=>kG F Z L_less) fun _ _ _ _ _ _=>iT fun _ _=>rfl
 have M_Bells:=MD_Bells___init__.IL (P:=P) (w:=w) (base:=base) KD_Bells (fun _ _ F=>mI F KD_Bells NA_Bells_rows) fun _ _ _ _ _ _=>zX fun _=>rfl
 have m_Bells_drop:=MD_Bells_drop.pJ (P:=P) (w:=w) (base:=base) (mg:=mg) KD_Bells.cl (fun _ _ F=>mK F Z KD_Bells NA_Bells_rows) fun _ _ _ _ _ _=>GW fun _ _ _=>rfl
 have m_Bells_put:=MD_Bells_put.pJ (P:=P) (w:=w) (base:=base) (mg:=mg) KD_Bells.cl (fun _ _ F=>oZ F Z KD_Bells NA_Bells_rows m_Bells_drop L_rings_ahead) fun _ _ _ _ _ _=>EL fun _ _ _ _=>rfl
 have m_Bells_told:=MD_Bells_told.pJ (P:=P) (w:=w) (base:=base) (mg:=mg) KD_Bells.cl (fun _ _ F=>mE F Z KD_Bells NA_Bells_rows) fun _ _ _ _ _ _=>zX fun _=>rfl
 have L_meeting:=D_meeting.e_ (P:=P) (w:=w) (base:=base) (fun _ _ F=>rA F Z N L_place_on L_minus L_fraction) fun _ _ _ _ _ _=>iT fun _ _=>rfl
 have m_Lane_meets:=MD_Lane_meets.pJ (P:=P) (w:=w) (base:=base) (mg:=mg) KD_Lane.cl (fun _ _ F=>mV F Z KD_Lane NA_Lane_now m_Lane_leg_of L_meeting L_less) fun _ _ _ _ _ _=>GW fun _ _ _=>rfl
 have L_in_lowest_terms:=D_in_lowest_terms.e_ (P:=P) (w:=w) (base:=base) (fun _ _ F=>ij F Z L_shared) fun _ _ _ _ _ _=>zX fun _=>rfl
 have L_good_moment:=D_good_moment.e_ (P:=P) (w:=w) (base:=base) (fun _ _ F=>kH F Z g_FINEST g_LATEST L_in_lowest_terms) fun _ _ _ _ _ _=>zX fun _=>rfl
 have m_Lane_foretold:=MD_Lane_foretold.pJ (P:=P) (w:=w) (base:=base) (mg:=mg) KD_Lane.cl (fun _ _ F=>kj F Z KD_Lane NA_Lane_now NA_Lane_row O_BadMoment O_Past L_good_moment L_less M_Bells m_Lane_meets m_Bells_put m_Bells_told) fun _ _ _ _ _ _=>iT fun _ _=>rfl
 have m_Lane_go_to:=MD_Lane_go_to.pJ (P:=P) (w:=w) (base:=base) (mg:=mg) KD_Lane.cl (fun _ _ F=>mL F Z KD_Lane NA_Lane_now m_Lane_foretold m_Lane_settle) fun _ _ _ _ _ _=>iT fun _ _=>rfl
 have m_Lane_turn:=MD_Lane_turn.pJ (P:=P) (w:=w) (base:=base) (mg:=mg) KD_Lane.cl (fun _ _ F=>oT F Z KD_Lane NA_Lane_logs NA_Lane_now g_FASTEST O_TooFar m_Lane_must_be_there m_Log_turn m_Lane_settle) fun _ _ _ _ _ _=>GW fun _ _ _=>rfl
 have m_Lane_about:=MD_Lane_about.pJ (P:=P) (w:=w) (base:=base) (mg:=mg) KD_Lane.cl (fun _ _ F=>mH F Z KD_Lane NA_Lane_row NA_Lane_logs NA_Lane_now m_Lane_leg_of m_Log_turn m_Lane_settle) fun _ _ _ _ _ _=>zX fun _=>rfl
 have m_Lane_leave:=MD_Lane_leave.pJ (P:=P) (w:=w) (base:=base) (mg:=mg) KD_Lane.cl (fun _ _ F=>mF F Z KD_Lane NA_Lane_logs NA_Lane_now NA_Lane_row m_Lane_must_be_there m_Log_leave) fun _ _ _ _ _ _=>iT fun _ _=>rfl
 have L_whole:=D_whole.e_ (P:=P) (w:=w) (base:=base) (fun _ _ F=>w8 F Z) fun _ _ _ _ _ _=>zX fun _=>rfl
 have L_part:=D_part.e_ (P:=P) (w:=w) (base:=base) (fun _ _ F=>xQ F Z L_whole) fun _ _ _ _ _ _=>iT fun _ _=>rfl
 have L_placed:=D_placed.e_ (P:=P) (w:=w) (base:=base) (fun _ _ F=>tD F Z) fun _ _ _ _ _ _=>iT fun _ _=>rfl
 have L_paced:=D_paced.e_ (P:=P) (w:=w) (base:=base) (fun _ _ F=>vV F Z) fun _ _ _ _ _ _=>iT fun _ _=>rfl
 have L_at:=D_at.e_ (P:=P) (w:=w) (base:=base) (fun _ _ F=>Dq F Z L_low) fun _ _ _ _ _ _=>iT fun _ _=>rfl
 have L_later:=D_later.e_ (P:=P) (w:=w) (base:=base) (fun _ _ F=>vH F Z L_low) fun _ _ _ _ _ _=>EL fun _ _ _ _=>rfl
 have L_before:=D_before.e_ (P:=P) (w:=w) (base:=base) (fun _ _ F=>sX F Z) fun _ _ _ _ _ _=>iT fun _ _=>rfl
 have L_order:=D_order.e_ (P:=P) (w:=w) (base:=base) (fun _ _ F=>wj F Z L_at L_before) fun _ _ _ _ _ _=>iT fun _ _=>rfl
 have L_gap:=D_gap.e_ (P:=P) (w:=w) (base:=base) (fun _ _ F=>BO F Z L_at L_low) fun _ _ _ _ _ _=>EL fun _ _ _ _=>rfl
 have L_acted:=D_acted.e_ (P:=P) (w:=w) (base:=base) (fun _ _ F=>wy F Z L_at) fun _ _ _ _ _ _=>GW fun _ _ _=>rfl
 have L_done:=D_done.e_ (P:=P) (w:=w) (base:=base) (fun _ _ F=>yW F Z m_Lane_join m_Lane_leave m_Lane_turn m_Lane_about m_Lane_go_to) fun _ _ _ _ _ _=>iT fun _ _=>rfl
 have L_deed:=D_deed.e_ (P:=P) (w:=w) (base:=base) (fun _ _ F=>zN F Z L_placed L_paced L_later) fun _ _ _ _ _ _=>JE fun _ _ _ _ _ _=>rfl
 have L_walk:=D_walk.e_ (P:=P) (w:=w) (base:=base) (fun _ _ F=>zL F Z L_digits L_deed L_done L_acted) fun _ _ _ _ _ _=>EL fun _ _ _ _=>rfl
 exact BB F Z L_cell L_digits L_names L_walk M_Lane L_order L_part L_gap m_Lane_closest
end Ov
namespace PySem.W.Fast
def tw12632669854876293286:=()
def tw12343523568172259831:=()
def tw2448746240324263299:=()
def tw1768983956223210202:=()
def tw11453412628369252390:=()
def tw12687097307369445507:=()
def tw15569672712491982590:=()
def tw1971033759052884146:=()
def tw7692082606832007076:=()
def tw5826958592945992673:=()
def tw15759027008752370091:=()
def tw15043642693789948681:=()
def tw2321528875511351940:=()
def tw9788019891022662891:=()
def tw15127843200575918757:=()
def tw5616703263761873912:=()
def tw11020465741153463926:=()
def tw1806633244485309641:=()
def tw4939584416106871385:=()
def tw13812866304344985471:=()
def tw2708847227267539810:=()
def tw862144661416605030:=()
def tw13646653074751233043:=()
def tw6784669203701818113:=()
def tw3409836283321542946:=()
def tw4928593219174256590:=()
def tw603135423949307124:=()
def tw9107745574602438566:=()
def tw2641197047159792300:=()
def tw16229081602037802599:=()
def tw13974418646058777860:=()
def tw99548274994818406:=()
def tw9181277453819037691:=()
def tw458092973581128272:=()
def tw3763825448480534517:=()
def tw17082984494528267888:=()
def tw5412128866343005847:=()
def tw15001656845386782510:=()
def tw17041903217029086206:=()
def tw11189634293665373080:=()
def tw17447673993338691156:=()
def tw9947376678596159826:=()
def tw8943483412999918828:=()
def tw5322526994479914485:=()
def tw2155008247939574934:=()
def tw7145905417092376752:=()
def tw4802877591814570289:=()
def tw16779543405794283863:=()
def tw18418468249306952284:=()
def tw13650286701048579100:=()
def tw12566136126869541079:=()
def tw4363977828092755992:=()
def tw12905767618343528566:=()
def tw5660252916347395316:=()
def tw11998947632953463357:=()
def tw10925231145558824817:=()
def tw13489971814645493813:=()
def tw1479488505567769226:=()
def tw4457524235370806054:=()
def tw10442303383969892140:=()
def tw11317939254939688856:=()
def tw7155185029487807192:=()
def tw11550889486525318896:=()
def tw12522399478983451812:=()
def tw17912411457351985353:=()
def tw10257039600483571792:=()
def tw8403075564775462435:=()
def tw10289521721113045355:=()
def tw7075485886329341244:=()
def tw2749901530705914687:=()
def tw6434626847577315249:=()
def tw1315659720814810380:=()
def tw14231905606936639971:=()
def tw14179531777586261499:=()
def tw10497026868778078018:=()
def tw1074531067262982262:=()
def tw17375750853825366962:=()
def tw12828277858824224741:=()
def tw17344538021500843638:=()
def tw6754640747899638234:=()
def tw17814004625584425016:=()
def tw11011785150612946818:=()
def tw16668242390485257574:=()
def tw18128518330787302383:=()
def tw1957510164971421479:=()
def tw997835422528286251:=()
def tw18151159935755165767:=()
def tw16793160543976916453:=()
def tw11206405428463637741:=()
def tw5381204019321782397:=()
def tw1487253580559025983:=()
def tw8579097040270676208:=()
def tw1441825972782501835:=()
def tw17585882200490310997:=()
def tw6247289330800876210:=()
def tw15421937636176090923:=()
def tw3464403589506113084:=()
def tw16103357928917792522:=()
def tw5489956108153325088:=()
def tw721877633237895127:=()
def tw902644017759791849:=()
def tw3309167959823489302:=()
def tw5329645001224683083:=()
def tw2501509277220370692:=()
def tw2004913091222167865:=()
def tw7571221213116685147:=()
def tw550660675309492001:=()
def tw13349271728650546850:=()
def tw16204199782224016075:=()
def tw14680114980332564253:=()
def tw4128997926586427275:=()
def tw14428820812975431768:=()
def tw12090917270919418850:=()
def tw13146187834805409936:=()
def tw16337397350458905178:=()
def tw18305517712453249521:=()
def tw18126387874014522409:=()
def tw6676748185476950537:=()
def tw4273370526394019165:=()
def tw15831972367099099462:=()
def tw17535886793032738322:=()
def tw4449898054613612775:=()
def tw14573743502929125215:=()
def tw17271292898698074466:=()
def tw3950247677265674103:=()
def tw8782930902607349447:=()
def tw13262833044976697860:=()
def tw2797252403644538355:=()
def tw17563159039760175620:=()
def tw8027950448941484182:=()
def tw6468445578738032769:=()
def tw1631611914617174242:=()
def tw9365558954651724411:=()
def tw7766162809719488031:=()
def tw9589377348752103941:=()
def tw4804863874030051682:=()
def tw7675887834619189628:=()
def tw11206518135947685503:=()
def tw13474832241079672159:=()
def tw8349117308181490067:=()
def tw14379437070138161875:=()
def tw6787776343304217452:=()
def tw12576482762227836963:=()
def tw16618396420100915567:=()
def tw16584884609981542587:=()
def tw2597643798998270955:=()
def tw12436578175093605717:=()
def tw6227113326647870846:=()
def tw15287259962530805861:=()
def tw2259380621862276577:=()
def tw1914286545199973247:=()
def tw16943325753098998843:=()
def tw12918961837427973251:=()
def tw5188404729530392996:=()
def tw16521236843992317568:=()
def tw5699569819368229060:=()
def tw2112572363687422216:=()
def tw6187358322529245442:=()
def tw957141318763812235:=()
def tw6423884379210624092:=()
def tw15413676724594077847:=()
def tw11771506319400307064:=()
def tw10529625611959541746:=()
def tw11813227254214438421:=()
def tw8241239592491448175:=()
def tw14313439349243979933:=()
def tw10162434824920344694:=()
def tw11494606869386194083:=()
def tw2065775761497594551:=()
def tw9309073008721835703:=()
def tw2097569802027718481:=()
def tw14076036827833153032:=()
def tw13976905715334641974:=()
def tw13569947994109258008:=()
def tw15664228822938320800:=()
def tw14621785878148502165:=()
def tw1773325882904898657:=()
def tw3479469760509826939:=()
def tw16130710110501568461:=()
def tw15453749047964347917:=()
def tw9577039213173343109:=()
def tw13119244693619002577:=()
def tw4498653107587362797:=()
def tw7300450363637960563:=()
def tw15792965423074278670:=()
def tw5947743347096286200:=()
def tw17262609352346892274:=()
def tw14983598614986475987:=()
def tw6629506924878531801:=()
def tw4261758735772072304:=()
def tw14221523300404344905:=()
def tw1432574069284759411:=()
def tw11010004387206819928:=()
def tw18042046036603166476:=()
def tw16429722610483538115:=()
def tw4901595579782685824:=()
def tw12297309140068067737:=()
def tw11717140848511088919:=()
def tw5757919390572296235:=()
def tw353924900856403401:=()
def tw16213935555556303138:=()
def tw12513467011743783461:=()
def tw6032712392433635778:=()
def tw1790656976587175497:=()
def tw11090549263018251975:=()
def tw490331892903949749:=()
def tw104972064099203215:=()
def tw5856952752656326153:=()
def tw7451742787635428979:=()
def tw1797862756734707770:=()
def tw10386679687313660664:=()
def tw3808561763584837617:=()
def tw17643728435258866743:=()
def tw1403745273694537597:=()
def tw13617610195336185282:=()
def tw8615533136833267381:=()
def tw16578164232059652951:=()
def tw11250480794157174551:=()
def tw5129186617057744822:=()
def tw16878149566711797920:=()
def tw15705994906401226685:=()
def tw5255319121234153171:=()
def tw7874524210879932178:=()
def tw408342090550189388:=()
def tw1439219905602872498:=()
def tw17563620185319913529:=()
def tw8965587117522627686:=()
def tw8231269087711312130:=()
def tw15249709601416859842:=()
def tw6241541794419915551:=()
def tw15680885744673296899:=()
def tw7520065703430080227:=()
def tw9192674742453020002:=()
def tw6801464098425136109:=()
def tw16547604887357625383:=()
def tw12514993126953203442:=()
def tw11669040582533505920:=()
def tw7497851125065385194:=()
def tw18054442586586538580:=()
def tw9756340993430869732:=()
def tw7083386511713979099:=()
def tw388405131933036728:=()
def tw14612483060405997295:=()
def tw17941342937168260395:=()
def tw1532103780165570951:=()
def tw14321279759996923572:=()
def tw7205403927937716580:=()
def tw2706843497913370154:=()
def tw17532175661835842253:=()
def tw10469821137835256286:=()
def tw4652028027227046289:=()
def tw14481575298057104191:=()
def tw5798177231052171211:=()
def tw10242850998131057125:=()
def tw2390793223394858107:=()
def tw8138033313351689291:=()
def tw8997757742496596086:=()
def tw7147692130241391402:=()
def tw6396817115248654415:=()
def tw4032828390995375222:=()
def tw3364700904429109028:=()
def tw17461872413678070060:=()
def tw10793959994139471738:=()
def tw6837397382780241678:=()
def tw16825684594334761337:=()
def tw7919072319562234583:=()
def tw10693918993317329310:=()
def tw9720751599858072756:=()
def tw12081859874679568250:=()
def tw18207717614205210278:=()
def tw15282417590034414609:=()
def tw12092463815570214995:=()
def tw7584006427497072505:=()
def tw14069833088272597775:=()
def tw15157303590419180546:=()
def tw11113265252433544084:=()
def tw17224213862061148497:=()
def tw12868599164625585698:=()
def tw3974768415141152835:=()
def tw17651407687800857061:=()
def tw12866883863690530949:=()
def tw3615951604503352467:=()
def tw5619821611805451953:=()
def tw74788391722540331:=()
def tw1317036500370363336:=()
def tw15216908359079632043:=()
def tw4192813151751294796:=()
def tw12190355021663865236:=()
def tw12440068546233041483:=()
def tw3158811978550806951:=()
def tw12299253359120674714:=()
def tw12634676516010036256:=()
def tw5083418724200776888:=()
def tw18434350283339071255:=()
def tw16608174109021083689:=()
def tw13245747005169653674:=()
def tw5795209246998341745:=()
def tw12167754039619381156:=()
def tw17806299783545372352:=()
def tw13351110640450880202:=()
def tw7826045300808475687:=()
def tw17381547620224679891:=()
def tw13190837810644735662:=()
def tw10513016833356243493:=()
def tw3941055124326080512:=()
def tw2796520422094842214:=()
def tw8170508536262890108:=()
def tw617426963810117592:=()
def tw6001007061931527249:=()
def tw15394488554482774707:=()
def tw1372127302506473204:=()
def tw6648769481329690430:=()
def tw16540263698869559570:=()
def tw5157618047466752875:=()
def tw9680227276889983646:=()
def tw7880169754555768894:=()
def tw4822263386475929569:=()
def tw15188355689829104731:=()
def tw13101444958268850321:=()
def tw10228366962131137713:=()
def tw3694318264079010683:=()
def tw8649303390852760241:=()
def tw7751084679926021042:=()
def tw6889787638837603799:=()
def tw6326649391654361026:=()
def tw12020697134880964407:=()
def tw6517528747367778772:=()
def tw5917158847894865828:=()
def tw5563875268669237226:=()
def tw3860659127294239861:=()
def tw3134303144394084726:=()
def tw18357373407843262807:=()
def tw18256349257956304110:=()
def tw16814633666748746445:=()
def tw16634424174058901275:=()
def tw13860195927444285742:=()
def tw8122826588159764597:=()
def tw6544394732287024451:=()
def tw4258631149944597790:=()
def tw11335695848389319149:=()
def tw6434459360013505071:=()
def tw8864845758110515906:=()
def tw7478475503461017622:=()
def tw4019619714066995613:=()
def tw1788374398885700915:=()
def tw12684198976291082164:=()
def tw10536117286958250521:=()
def tw2591148836847301068:=()
def tw1533569795174938247:=()
def tw2294238408434931211:=()
def tw15327126452231632610:=()
def tw13909488111987207387:=()
def tw1241214119709313903:=()
def tw11315771914471246785:=()
def tw8310508071083800637:=()
def tw5928299558356525556:=()
def tw3199020194197338954:=()
def tw11124203744972072450:=()
def tw5018862240664682339:=()
def tw4873270764632306501:=()
def tw11061463074490906806:=()
def tw8819219027911700601:=()
def tw3700502365079916005:=()
def tw10101929678620930655:=()
def tw14011473594478321413:=()
def tw113620923013255926:=()
def tw18147061024449728629:=()
def tw10770627636132038127:=()
def tw17740749331450612881:=()
def tw2888213047517069601:=()
def tw15276212346747337040:=()
def tw3621125946721276952:=()
def tw7387341739071873000:=()
def tw6836391882909128810:=()
def tw15505394793857353245:=()
def tw16952838835135317662:=()
def tw11118034952899582562:=()
def tw17706601135618021588:=()
def tw9286231390686591980:=()
def tw1819031967480733652:=()
def tw8524134785157053336:=()
def tw4549859962027485228:=()
def tw3403311084796971122:=()
def tw11447690792165530731:=()
def tw8475525645610983837:=()
def tw7577965461024564720:=()
def tw5371323671198829970:=()
def tw11831161175613760297:=()
def tw7967070014859707435:=()
def tw9300685363736923266:=()
def tw7514585238892314820:=()
def tw6761843731073819134:=()
def tw4483270342563964533:=()
def tw14794660954911578686:=()
def tw12461261962826571957:=()
def tw11644697516613181340:=()
def tw9701266335869179108:=()
def tw12198212133787981355:=()
def tw14402366578597575208:=()
def tw18338241716176682266:=()
def tw12978786082276144224:=()
def tw3687074169907889125:=()
def tw1819967458616778550:=()
def tw14755359458146061501:=()
def tw9530392574122366626:=()
def tw7788558648741816261:=()
def tw15261984819292434832:=()
def tw1321695772671448822:=()
def tw16356356762885988448:=()
def tw4565030334831620458:=()
def tw8527472829854165692:=()
def tw13729631128176902732:=()
def tw13706624791016878844:=()
def tw11156704829050685317:=()
def tw3101233614538190650:=()
def tw769998598608837271:=()
def tw1495333349676272553:=()
def tw7293191023874142445:=()
def tw5085848370627621013:=()
def tw5017653576218199697:=()
def tw8785990883256365457:=()
def tw10470999538025597888:=()
def tw1661324198910711360:=()
def tw4067237512066479475:=()
def tw8865074776601844487:=()
def tw8106949618586724605:=()
def tw6636942263976606353:=()
def tw11968668470217330141:=()
def tw207153273209206031:=()
def tw8483430277975559252:=()
def tw13146658941476408214:=()
def tw188589828837971652:=()
def tw12410584409495638228:=()
def tw8979043027466679659:=()
def tw8424709891591398055:=()
def tw7431040791059176930:=()
def tw6867292612060433673:=()
def tw4010479905760115613:=()
def tw2310141642423746792:=()
def tw2667158502605408115:=()
def tw191861378304519287:=()
def tw990350706119823551:=()
def tw17288040629450993854:=()
def tw6290506100057312219:=()
def tw12377815616437476660:=()
def tw18348167948180858791:=()
def tw3905649690319096588:=()
def tw10568369745304456471:=()
def tw9458378322993667594:=()
def tw17689779540005517890:=()
def tw340318916309053715:=()
def tw18186785831770960597:=()
def tw16776972477480291835:=()
def tw6661759735887481922:=()
def tw3100367680991998330:=()
def tw3087956929764190362:=()
def tw10700025048881775521:=()
def tw9829568615665411046:=()
def tw97627006358868541:=()
def tw5329303342146670340:=()
def tw11497828607383476385:=()
def tw11423090732955876189:=()
def tw10664655833267983541:=()
def tw8020997032955724771:=()
def tw5351726008245494803:=()
def tw3470784786864912956:=()
def tw17917314019273562867:=()
def tw14464472640067275900:=()
def tw12739364560573236767:=()
def tw12396277019427695002:=()
def tw12028716828067689845:=()
def tw10012188659502667580:=()
def tw14128591258422498465:=()
def tw15923956418624149053:=()
def tw12100913497911489264:=()
def tw17143781972987966683:=()
def tw16262027210052794871:=()
def tw14647542860320347224:=()
def tw13450957276545871109:=()
def tw3190859263856504674:=()
def tw179474908504139513:=()
def tw15372682787173618824:=()
def tw15241007799493788038:=()
def tw9397041029384720466:=()
def tw7007281538749992717:=()
def tw6417859155472560675:=()
def tw5833773631677310079:=()
def tw3917817452031823310:=()
def tw2877290234945963754:=()
def tw15351651743485556250:=()
def tw15277572394071116424:=()
def tw15013012349026373668:=()
def tw14548102043532428074:=()
def tw14327826626073541992:=()
def tw13875722438577282301:=()
def tw12630990534693659631:=()
def tw12178681094212948759:=()
def tw10514720361187695760:=()
def tw10426478653270424027:=()
def tw10101560660644972305:=()
def tw9279012341420135283:=()
def tw5505476186991110557:=()
def tw8031170920525957868:=()
def tw3619518418605267876:=()
def tw3229599678909906753:=()
def tw1904965447305512391:=()
def tw56847650525182967:=()
def tw4070991504927040173:=()
def tw10699564061931780693:=()
def tw8467411694806553089:=()
def tw827350479541949859:=()
def tw7775533262373650832:=()
def tw5367308356250957489:=()
def tw5132316780126793309:=()
def tw4646678199696549024:=()
def tw4551220938597172704:=()
def tw3958914999055533284:=()
def tw2449676326213380477:=()
def tw18209247854205740561:=()
def tw16364522101732841318:=()
def tw14876969554642391166:=()
def tw14812297688334820725:=()
def tw14758023707276368588:=()
def tw14688357735042857740:=()
def tw13918510915012060338:=()
def tw10606851461923853562:=()
def tw5062943960216683459:=()
def tw11055693866832826827:=()
def tw11677999452980370969:=()
def tw917886440003121693:=()
def tw9166036031962111114:=()
def tw7916706501200054496:=()
def tw6788880307194284725:=()
def tw5640517087103205370:=()
def tw2468876564116868323:=()
def tw18288820353623640099:=()
def tw1551205411053513477:=()
def tw15206441124259954172:=()
def tw1390723889187986364:=()
def tw10929173427055474807:=()
def tw10703076864854521927:=()
def tw10526530241244288962:=()
def tw6519013577326367810:=()
def tw5811018274406039398:=()
def tw4473618787756703126:=()
def tw4221102922779259335:=()
def tw2950262914979751196:=()
def tw2004907391875430762:=()
def tw16681963238684574151:=()
def tw15733614332411569464:=()
def tw15092847929629852783:=()
def tw11909084246421910781:=()
def tw11708929296216414675:=()
def tw11029708852590642600:=()
def tw12146928851413843319:=()
def tw13804130663831825346:=()
def tw9925424637880237631:=()
def tw5002052658536953690:=()
def tw4795752811165194428:=()
def tw2410672923391616202:=()
def tw17535848753296363854:=()
def tw1629897955588461173:=()
def tw16189427628309363286:=()
def tw10503920681874101050:=()
def tw9344763123146166882:=()
def tw8705102183749402511:=()
def tw562362138970729000:=()
def tw4843821343031762092:=()
def tw4644625859875406496:=()
def tw372196356687172426:=()
def tw3179019641538607713:=()
def tw2147005473271405319:=()
def tw17988568089470315419:=()
def tw17527771335676607209:=()
def tw13568692320275194245:=()
def tw12661858953149219989:=()
def tw9973614291048306013:=()
def tw990250255380441066:=()
def tw9877324107059939907:=()
def tw9835001412152697825:=()
def tw9828098416982954137:=()
def tw9820141000821985175:=()
def tw978269663254177783:=()
def tw9772211437998734989:=()
def tw9682013953972145696:=()
def tw9553502529840264139:=()
def tw9522460684484442563:=()
def tw9427783312826935929:=()
def tw9417596776790456998:=()
def tw9278006002289704898:=()
def tw9243093365003220852:=()
def tw9224482977904729888:=()
def tw9178439198806970625:=()
def tw9093999709991022860:=()
def tw9079942731808129762:=()
def tw9079119405542152095:=()
def tw900362887555340002:=()
def tw8784391130663038486:=()
def tw8769532393599373313:=()
def tw8744508890401183337:=()
def tw8717834243660942878:=()
def tw868523013035227660:=()
def tw8662536425320619444:=()
def tw8640610050808340848:=()
def tw8614002424867534026:=()
def tw8573460808258836523:=()
def tw8435523208312697334:=()
def tw8325939557986643353:=()
def tw8307575679105482110:=()
def tw8253915886625501270:=()
def tw818425722894884521:=()
def tw8140717745741254825:=()
def tw8014997137933304060:=()
def tw7990596613695591892:=()
def tw7950265378485565266:=()
def tw7856916818094594712:=()
def tw7843705577985083968:=()
def tw7722240797498122002:=()
def tw7705679386637033058:=()
def tw7687351157411901263:=()
def tw7514086064507880158:=()
def tw7376849554082274396:=()
def tw7294669563868614633:=()
def tw7264432890325569481:=()
def tw7212953447410422669:=()
def tw7143372537634607537:=()
def tw7140957779038720744:=()
def tw7114486738785499925:=()
def tw6993176918297505365:=()
def tw698208049418578063:=()
def tw6976643886439058551:=()
def tw6975194233407617530:=()
def tw6925729603118925872:=()
def tw6748426902511008958:=()
def tw673353540796326030:=()
def tw6600596360523251071:=()
def tw6580788378248526276:=()
def tw6563380119018535979:=()
def tw642418397912084196:=()
def tw6392795811914623361:=()
def tw6310230554975474939:=()
def tw6275463149431868103:=()
def tw6156666267892440924:=()
def tw6053370165333746409:=()
def tw5775694898341811823:=()
def tw5600540450883470954:=()
def tw5525403664715825114:=()
def tw5244907903377006592:=()
def tw5192643035762172173:=()
def tw5125559028948346894:=()
def tw5015899268121948302:=()
def tw4855119383770413095:=()
def tw4828375454025812190:=()
def tw4823382442753658524:=()
def tw4683951519637776026:=()
def tw4683830160433265345:=()
def tw4405312233110002380:=()
def tw4386758656275469130:=()
def tw4357742287546603968:=()
def tw4284255668211941460:=()
def tw4270604564879063265:=()
def tw4193264230218272562:=()
def tw4178379624059567406:=()
def tw4155692033870119040:=()
def tw3897388820100579138:=()
def tw3843407877192333822:=()
def tw3826276558385010945:=()
def tw3737248668128208584:=()
def tw3732739195555195648:=()
def tw3582118284765582513:=()
def tw3570206560463405030:=()
def tw3533483934861704356:=()
def tw3431743693157076777:=()
def tw3411671832229169893:=()
def tw3410151063077027216:=()
def tw3396280253878976002:=()
def tw335134995685799550:=()
def tw3342517373364904845:=()
def tw3319955073009523657:=()
def tw3053558973344184787:=()
def tw3053436746368850392:=()
def tw2756282262963400577:=()
def tw2707394982008966263:=()
def tw2660754602903185214:=()
def tw2652949645096696719:=()
def tw2633734906128102598:=()
def tw2554046862832428527:=()
def tw236234108342375293:=()
def tw2166919555149836257:=()
def tw2063484426941234555:=()
def tw1930410021662270862:=()
def tw18425477383181458000:=()
def tw18408578234888776553:=()
def tw18312901396987134085:=()
def tw18258990396074496214:=()
def tw18123518148478093138:=()
def tw17905780576897841981:=()
def tw17774578228994969444:=()
def tw1771794904759552020:=()
def tw17694131799305748131:=()
def tw17631828751945430509:=()
def tw17575992311307804692:=()
def tw17545441998125988855:=()
def tw17431298006132410379:=()
def tw17372205458154749299:=()
def tw17180923062216381000:=()
def tw17110838443020180713:=()
def tw17012943083976517676:=()
def tw16949366480078163448:=()
def tw16828601003553572929:=()
def tw16643704135091577304:=()
def tw16495128445309317260:=()
def tw16112376040232402094:=()
def tw16081925205971577639:=()
def tw16047045913520997295:=()
def tw16000568634851607420:=()
def tw15962218242903443740:=()
def tw15919635637746747099:=()
def tw15798078766668208648:=()
def tw15794176056731652795:=()
def tw15766244973509373644:=()
def tw15728783341715085355:=()
def tw15717515873947619023:=()
def tw15708567933241468898:=()
def tw15513216331963550707:=()
def tw15492809930249806782:=()
def tw15363357012302220924:=()
def tw15274691935236591101:=()
def tw15259783452169409366:=()
def tw15157554749974976871:=()
def tw15112699580539623487:=()
def tw15095641513479403447:=()
def tw14912102482383920456:=()
def tw1484826688440363114:=()
def tw14659869819180845075:=()
def tw14611648917268236761:=()
def tw14608351293015091749:=()
def tw14598295294237554743:=()
def tw14593476656443427146:=()
def tw1443391697107349104:=()
def tw14356902538787551296:=()
def tw14310255838846937336:=()
def tw14259006997823119180:=()
def tw14037466265852081519:=()
def tw14001660265150824999:=()
def tw13930100773035335800:=()
def tw13803242129722470426:=()
def tw13543000267505326798:=()
def tw13517427246567513690:=()
def tw13468671840614563990:=()
def tw13369424603603649263:=()
def tw13349599880806888714:=()
def tw13281149835059826668:=()
def tw13193352447349172178:=()
def tw13165386716060558722:=()
def tw13161304902359303402:=()
def tw13143890133425431957:=()
def tw12992407780627212172:=()
def tw12978094737448632402:=()
def tw12860242862546440536:=()
def tw12833678143063115374:=()
def tw12827744032744272162:=()
def tw1282371043268492743:=()
def tw12717601571398586878:=()
def tw12710198127176085690:=()
def tw12634212174644500997:=()
def tw12624139179774620186:=()
def tw12543275795672564997:=()
def tw12327528610340392405:=()
def tw12241963651973368206:=()
def tw12129919984986354709:=()
def tw11980932861954974476:=()
def tw11809158247111586776:=()
def tw11670663146325014932:=()
def tw11618603670988153596:=()
def tw11409331178731851165:=()
def tw11365378407075443618:=()
def tw11223733152351928126:=()
def tw11140630731413424956:=()
def tw11108957883160589882:=()
def tw10924066570394588297:=()
def tw10894967666707161014:=()
def tw10815697077293440235:=()
def tw10788627399185353572:=()
def tw10760309136917201907:=()
def tw10612024940222405282:=()
def tw10574667945611404596:=()
def tw10508660519677185556:=()
def tw10219793043662892351:=()
def tw10213046112800864780:=()
def tw10060958443815074596:=()
def tw10015688128769283173:=()
def tw1000960152077539143:=()
end PySem.W.Fast
open PySem PySem.W PyProof.Rows
set_option hygiene false
local macro_rules | `(tactic| simp_arith)=>`(tactic| (dsimp only [L2.bQ];refine' Ov.Dy KX G ?a ?l ?c ?k;(case a=>k_is);(case l=>k_is);(case c=>k_is);(case k=>k_is)))
set_option maxRecDepth 100000 in
set_option maxHeartbeats 0 in
theorem PySem.Challenge.cw_overhaul_k24_the_closest_two_holds : PySem.Challenge.rw_overhaul_k24_the_closest_two.Holds := by
 w_on;o_law;k_head;(case hw=>w_witness2)
 k_fill
 refine Ov.yQ (l:=PySem.Challenge.rw_overhaul_k24_the_closest_two) (n:=63) (k:=11) (x:="_law_script") (sp:=Ov.zp) ["good_name"] rfl (by decide) rfl ⟨rfl,by decide,by decide⟩ (fun w h Y=>PySem.W.kIn_of Y) ?Nm ?F (fun tabs K H a ns hl hT hS hA hK=>⟨a,ns,rfl,hS,hl,hT,hA,hK,fun _ e=>⟨rfl,e⟩⟩)
 case Nm=>decide +kernel
 case F =>
  intro w mg fa h KX G hmg
  have D_cell:Ov.Def (L2.bQ KX) mg "_law_cell" Ov.oA:=by simp_arith
  have D_digits:Ov.Def (L2.bQ KX) mg "_law_digits" Ov.i5:=by simp_arith
  have D_shared:Ov.Def (L2.bQ KX) mg "shared" Ov.jk:=by simp_arith
  have D_fraction:Ov.Def (L2.bQ KX) mg "fraction" Ov.fW:=by simp_arith
  have D_low:Ov.Def (L2.bQ KX) mg "_law_low" Ov.vf:=by simp_arith
  have D_less:Ov.Def (L2.bQ KX) mg "less" Ov.pe:=by simp_arith
  have D_plus:Ov.Def (L2.bQ KX) mg "plus" Ov.pL:=by simp_arith
  have D_minus:Ov.Def (L2.bQ KX) mg "minus" Ov.kS:=by simp_arith
  have D_times:Ov.Def (L2.bQ KX) mg "times" Ov.kQ:=by simp_arith
  obtain ⟨T_good_name,D_good_name⟩:∃ T,Ov.r8 (L2.bQ KX) mg "good_name" Ov.fh T:=by
   dsimp only [L2.bQ]
   refine' ⟨_,Ov.A2 KX G ?ga ?gl ?gc ?gk ?gt ?gp ?gb ?ge ?go⟩
   (case ga=>k_is);(case gl=>k_is);(case gc=>k_is);(case gk=>k_is);(case gt=>k_is);(case gp=>rfl);(case gb=>kernel_rfl);(case ge=>decide);(case go=>kernel_rfl)
  have D_names:Ov.Def (L2.bQ KX) mg "_law_names" Ov.ie:=by simp_arith
  have D_place_on:Ov.Def (L2.bQ KX) mg "place_on" Ov.f9:=by simp_arith
  have D_last_by:Ov.Def (L2.bQ KX) mg "last_by" Ov.ia:=by simp_arith
  have D_lies_behind:Ov.Def (L2.bQ KX) mg "lies_behind" Ov.dQ:=by simp_arith
  have D_in_order:Ov.Def (L2.bQ KX) mg "in_order" Ov.fU:=by simp_arith
  have D_rings_ahead:Ov.Def (L2.bQ KX) mg "rings_ahead" Ov.dO:=by simp_arith
  have D_meeting:Ov.Def (L2.bQ KX) mg "meeting" Ov.hZ:=by simp_arith
  have D_in_lowest_terms:Ov.Def (L2.bQ KX) mg "in_lowest_terms" Ov.cq:=by simp_arith
  have D_good_moment:Ov.Def (L2.bQ KX) mg "good_moment" Ov.dM:=by simp_arith
  have D_whole:Ov.Def (L2.bQ KX) mg "_law_whole" Ov.lj:=by simp_arith
  have D_part:Ov.Def (L2.bQ KX) mg "_law_part" Ov.pA:=by simp_arith
  have D_placed:Ov.Def (L2.bQ KX) mg "_law_placed" Ov.jm:=by simp_arith
  have D_paced:Ov.Def (L2.bQ KX) mg "_law_paced" Ov.k8:=by simp_arith
  have D_at:Ov.Def (L2.bQ KX) mg "_law_at" Ov.Al:=by simp_arith
  have D_later:Ov.Def (L2.bQ KX) mg "_law_later" Ov.lq:=by simp_arith
  have D_before:Ov.Def (L2.bQ KX) mg "_law_before" Ov.i_:=by simp_arith
  have D_order:Ov.Def (L2.bQ KX) mg "_law_order" Ov.jt:=by simp_arith
  have D_gap:Ov.Def (L2.bQ KX) mg "_law_gap" Ov.vC:=by simp_arith
  have D_acted:Ov.Def (L2.bQ KX) mg "_law_acted" Ov.kY:=by simp_arith
  have D_done:Ov.Def (L2.bQ KX) mg "_law_done" Ov.oz:=by simp_arith
  have D_deed:Ov.Def (L2.bQ KX) mg "_law_deed" Ov.lZ:=by simp_arith
  have D_walk:Ov.Def (L2.bQ KX) mg "_law_walk" Ov.ph:=by simp_arith
  have D_law:Ov.Def (L2.bQ KX) mg "law" Ov.qN:=by simp_arith
  obtain ⟨c_Log,KD_Log,NA_Log_rows,NA_Log_gone,MD_Log___init__,MD_Log_turn,MD_Log_leave,MD_Log_there,MD_Log_leg_at⟩:∃ C,Ov.c_ (L2.bQ KX) mg "Log" C∧L2.az (L2.bQ KX) C "rows"∧L2.az (L2.bQ KX) C "gone"∧Ov.bD (L2.bQ KX) C "__init__" "Log.__init__" Ov.dt∧Ov.bD (L2.bQ KX) C "turn" "Log.turn" Ov.f6∧Ov.bD (L2.bQ KX) C "leave" "Log.leave" Ov.fj∧Ov.bD (L2.bQ KX) C "there" "Log.there" Ov.fe∧Ov.bD (L2.bQ KX) C "leg_at" "Log.leg_at" Ov.d8:=by
   dsimp only [L2.bQ]
   refine' ⟨_,Ov.pz KX G ?a ?pg ?hd ?po ?sa ?mk ?kc,?n0,?n1,Ov.bq ?m0a ?m0i ?m0l ?m0c ?m0k,Ov.bq ?m1a ?m1i ?m1l ?m1c ?m1k,Ov.bq ?m2a ?m2i ?m2l ?m2c ?m2k,Ov.bq ?m3a ?m3i ?m3l ?m3c ?m3k,Ov.bq ?m4a ?m4i ?m4l ?m4c ?m4k⟩
   (case a=>k_is);(case pg=>k_is);(case hd=>k_is);(case po=>k_is);(case sa=>k_is);(case mk=>k_is);(case kc=>k_is)
   (case n0=>(show PySem.W.findIn _ _ _=_;k_is))
   (case n1=>(show PySem.W.findIn _ _ _=_;k_is))
   (case m0a=>k_is);(case m0i=>k_is);(case m0l=>k_is);(case m0c=>k_is);(case m0k=>k_is)
   (case m1a=>k_is);(case m1i=>k_is);(case m1l=>k_is);(case m1c=>k_is);(case m1k=>k_is)
   (case m2a=>k_is);(case m2i=>k_is);(case m2l=>k_is);(case m2c=>k_is);(case m2k=>k_is)
   (case m3a=>k_is);(case m3i=>k_is);(case m3l=>k_is);(case m3c=>k_is);(case m3k=>k_is)
   (case m4a=>k_is);(case m4i=>k_is);(case m4l=>k_is);(case m4c=>k_is);(case m4k=>k_is)
  obtain ⟨c_Lane,KD_Lane,NA_Lane_now,NA_Lane_logs,NA_Lane_row,MD_Lane___init__,MD_Lane_must_be_there,MD_Lane_leg_of,MD_Lane_settle,MD_Lane_join,MD_Lane_place,MD_Lane_closest,MD_Lane_meets,MD_Lane_foretold,MD_Lane_go_to,MD_Lane_turn,MD_Lane_about,MD_Lane_leave⟩:∃ C,Ov.c_ (L2.bQ KX) mg "Lane" C∧L2.az (L2.bQ KX) C "now"∧L2.az (L2.bQ KX) C "logs"∧L2.az (L2.bQ KX) C "row"∧Ov.bD (L2.bQ KX) C "__init__" "Lane.__init__" Ov.c5∧Ov.bD (L2.bQ KX) C "must_be_there" "Lane.must_be_there" Ov.bO∧Ov.bD (L2.bQ KX) C "leg_of" "Lane.leg_of" Ov.dP∧Ov.bD (L2.bQ KX) C "settle" "Lane.settle" Ov.cX∧Ov.bD (L2.bQ KX) C "join" "Lane.join" Ov.fg∧Ov.bD (L2.bQ KX) C "place" "Lane.place" Ov.eD∧Ov.bD (L2.bQ KX) C "closest" "Lane.closest" Ov.dg∧Ov.bD (L2.bQ KX) C "meets" "Lane.meets" Ov.eu∧Ov.bD (L2.bQ KX) C "foretold" "Lane.foretold" Ov.c4∧Ov.bD (L2.bQ KX) C "go_to" "Lane.go_to" Ov.d9∧Ov.bD (L2.bQ KX) C "turn" "Lane.turn" Ov.fm∧Ov.bD (L2.bQ KX) C "about" "Lane.about" Ov.eA∧Ov.bD (L2.bQ KX) C "leave" "Lane.leave" Ov.eh:=by
   dsimp only [L2.bQ]
   refine' ⟨_,Ov.pz KX G ?a ?pg ?hd ?po ?sa ?mk ?kc,?n0,?n1,?n2,Ov.bq ?m0a ?m0i ?m0l ?m0c ?m0k,Ov.bq ?m1a ?m1i ?m1l ?m1c ?m1k,Ov.bq ?m2a ?m2i ?m2l ?m2c ?m2k,Ov.bq ?m3a ?m3i ?m3l ?m3c ?m3k,Ov.bq ?m4a ?m4i ?m4l ?m4c ?m4k,Ov.bq ?m5a ?m5i ?m5l ?m5c ?m5k,Ov.bq ?m6a ?m6i ?m6l ?m6c ?m6k,Ov.bq ?m7a ?m7i ?m7l ?m7c ?m7k,Ov.bq ?m8a ?m8i ?m8l ?m8c ?m8k,Ov.bq ?m9a ?m9i ?m9l ?m9c ?m9k,Ov.bq ?m10a ?m10i ?m10l ?m10c ?m10k,Ov.bq ?m11a ?m11i ?m11l ?m11c ?m11k,Ov.bq ?m12a ?m12i ?m12l ?m12c ?m12k⟩
   (case a=>k_is);(case pg=>k_is);(case hd=>k_is);(case po=>k_is);(case sa=>k_is);(case mk=>k_is);(case kc=>k_is)
   (case n0=>(show PySem.W.findIn _ _ _=_;k_is))
   (case n1=>(show PySem.W.findIn _ _ _=_;k_is))
   (case n2=>(show PySem.W.findIn _ _ _=_;k_is))
   (case m0a=>k_is);(case m0i=>k_is);(case m0l=>k_is);(case m0c=>k_is);(case m0k=>k_is)
   (case m1a=>k_is);(case m1i=>k_is);(case m1l=>k_is);(case m1c=>k_is);(case m1k=>k_is)
   (case m2a=>k_is);(case m2i=>k_is);(case m2l=>k_is);(case m2c=>k_is);(case m2k=>k_is)
   (case m3a=>k_is);(case m3i=>k_is);(case m3l=>k_is);(case m3c=>k_is);(case m3k=>k_is)
   (case m4a=>k_is);(case m4i=>k_is);(case m4l=>k_is);(case m4c=>k_is);(case m4k=>k_is)
   (case m5a=>k_is);(case m5i=>k_is);(case m5l=>k_is);(case m5c=>k_is);(case m5k=>k_is)
   (case m6a=>k_is);(case m6i=>k_is);(case m6l=>k_is);(case m6c=>k_is);(case m6k=>k_is)
   (case m7a=>k_is);(case m7i=>k_is);(case m7l=>k_is);(case m7c=>k_is);(case m7k=>k_is)
   (case m8a=>k_is);(case m8i=>k_is);(case m8l=>k_is);(case m8c=>k_is);(case m8k=>k_is)
   (case m9a=>k_is);(case m9i=>k_is);(case m9l=>k_is);(case m9c=>k_is);(case m9k=>k_is)
   (case m10a=>k_is);(case m10i=>k_is);(case m10l=>k_is);(case m10c=>k_is);(case m10k=>k_is)
   (case m11a=>k_is);(case m11i=>k_is);(case m11l=>k_is);(case m11c=>k_is);(case m11k=>k_is)
   (case m12a=>k_is);(case m12i=>k_is);(case m12l=>k_is);(case m12c=>k_is);(case m12k=>k_is)
  obtain ⟨c_Bells,KD_Bells,NA_Bells_rows,MD_Bells___init__,MD_Bells_drop,MD_Bells_put,MD_Bells_told⟩:∃ C,Ov.c_ (L2.bQ KX) mg "Bells" C∧L2.az (L2.bQ KX) C "rows"∧Ov.bD (L2.bQ KX) C "__init__" "Bells.__init__" Ov.cM∧Ov.bD (L2.bQ KX) C "drop" "Bells.drop" Ov.di∧Ov.bD (L2.bQ KX) C "put" "Bells.put" Ov.fo∧Ov.bD (L2.bQ KX) C "told" "Bells.told" Ov.ed:=by
   dsimp only [L2.bQ]
   refine' ⟨_,Ov.pz KX G ?a ?pg ?hd ?po ?sa ?mk ?kc,?n0,Ov.bq ?m0a ?m0i ?m0l ?m0c ?m0k,Ov.bq ?m1a ?m1i ?m1l ?m1c ?m1k,Ov.bq ?m2a ?m2i ?m2l ?m2c ?m2k,Ov.bq ?m3a ?m3i ?m3l ?m3c ?m3k⟩
   (case a=>k_is);(case pg=>k_is);(case hd=>k_is);(case po=>k_is);(case sa=>k_is);(case mk=>k_is);(case kc=>k_is)
   (case n0=>(show PySem.W.findIn _ _ _=_;k_is))
   (case m0a=>k_is);(case m0i=>k_is);(case m0l=>k_is);(case m0c=>k_is);(case m0k=>k_is)
   (case m1a=>k_is);(case m1i=>k_is);(case m1l=>k_is);(case m1c=>k_is);(case m1k=>k_is)
   (case m2a=>k_is);(case m2i=>k_is);(case m2l=>k_is);(case m2c=>k_is);(case m2k=>k_is)
   (case m3a=>k_is);(case m3i=>k_is);(case m3l=>k_is);(case m3c=>k_is);(case m3k=>k_is)
  have Z:Ov.bP mg:=by
   refine' ⟨Ov.xa.mk (PySem.W.mg_none_of KX G ?z0) (PySem.W.mg_none_of KX G ?z1) (PySem.W.mg_none_of KX G ?z2) (PySem.W.mg_none_of KX G ?z3) (PySem.W.mg_none_of KX G ?z4) (PySem.W.mg_none_of KX G ?z5) (PySem.W.mg_none_of KX G ?z6) (PySem.W.mg_none_of KX G ?z7) (PySem.W.mg_none_of KX G ?z8) (PySem.W.mg_none_of KX G ?z9),PySem.W.mg_none_of KX G ?w0,PySem.W.mg_none_of KX G ?w1,PySem.W.mg_none_of KX G ?w2,PySem.W.mg_none_of KX G ?w3,PySem.W.mg_none_of KX G ?w4⟩
   (case z0=>k_is);(case z1=>k_is);(case z2=>k_is);(case z3=>k_is);(case z4=>k_is);(case z5=>k_is);(case z6=>k_is);(case z7=>k_is);(case z8=>k_is);(case z9=>k_is);(case w0=>k_is);(case w1=>k_is);(case w2=>k_is);(case w3=>k_is);(case w4=>k_is)
  have N:Ov.lJ (L2.bQ KX) mg:=by
   dsimp only [L2.bQ]
   refine' Ov.v9 KX G ?a ?l
   (case a=>k_is);(case l=>k_is)
  obtain ⟨e_BadMoment,O_BadMoment⟩:∃ C,Ov.Own (L2.bQ KX) mg "BadMoment" C:=by
   dsimp only [L2.bQ]
   refine' ⟨_,Ov.gS KX G ?a ?b⟩
   (case a=>k_is);(case b=>kernel_rfl)
  obtain ⟨e_BadName,O_BadName⟩:∃ C,Ov.Own (L2.bQ KX) mg "BadName" C:=by
   dsimp only [L2.bQ]
   refine' ⟨_,Ov.gS KX G ?a ?b⟩
   (case a=>k_is);(case b=>kernel_rfl)
  obtain ⟨e_Full,O_Full⟩:∃ C,Ov.Own (L2.bQ KX) mg "Full" C:=by
   dsimp only [L2.bQ]
   refine' ⟨_,Ov.gS KX G ?a ?b⟩
   (case a=>k_is);(case b=>kernel_rfl)
  obtain ⟨e_NoCraft,O_NoCraft⟩:∃ C,Ov.Own (L2.bQ KX) mg "NoCraft" C:=by
   dsimp only [L2.bQ]
   refine' ⟨_,Ov.gS KX G ?a ?b⟩
   (case a=>k_is);(case b=>kernel_rfl)
  obtain ⟨e_NotThere,O_NotThere⟩:∃ C,Ov.Own (L2.bQ KX) mg "NotThere" C:=by
   dsimp only [L2.bQ]
   refine' ⟨_,Ov.gS KX G ?a ?b⟩
   (case a=>k_is);(case b=>kernel_rfl)
  obtain ⟨e_Past,O_Past⟩:∃ C,Ov.Own (L2.bQ KX) mg "Past" C:=by
   dsimp only [L2.bQ]
   refine' ⟨_,Ov.gS KX G ?a ?b⟩
   (case a=>k_is);(case b=>kernel_rfl)
  obtain ⟨e_Taken,O_Taken⟩:∃ C,Ov.Own (L2.bQ KX) mg "Taken" C:=by
   dsimp only [L2.bQ]
   refine' ⟨_,Ov.gS KX G ?a ?b⟩
   (case a=>k_is);(case b=>kernel_rfl)
  obtain ⟨e_TooFar,O_TooFar⟩:∃ C,Ov.Own (L2.bQ KX) mg "TooFar" C:=by
   dsimp only [L2.bQ]
   refine' ⟨_,Ov.gS KX G ?a ?b⟩
   (case a=>k_is);(case b=>kernel_rfl)
  obtain ⟨t_FARTHEST,g_FARTHEST⟩:∃ t,mg "FARTHEST"=some (.int 1000000 t):=by
   refine' Ov.const_int KX G ?cz ?cw
   (case cz=>k_is);(case cw=>kernel_rfl)
  obtain ⟨t_FASTEST,g_FASTEST⟩:∃ t,mg "FASTEST"=some (.int 1000 t):=by
   refine' Ov.const_int KX G ?cz ?cw
   (case cz=>k_is);(case cw=>kernel_rfl)
  obtain ⟨t_FINEST,g_FINEST⟩:∃ t,mg "FINEST"=some (.int 60 t):=by
   refine' Ov.const_int KX G ?cz ?cw
   (case cz=>k_is);(case cw=>kernel_rfl)
  obtain ⟨t_LATEST,g_LATEST⟩:∃ t,mg "LATEST"=some (.int 1000000 t):=by
   refine' Ov.const_int KX G ?cz ?cw
   (case cz=>k_is);(case cw=>kernel_rfl)
  obtain ⟨t_LONGEST,g_LONGEST⟩:∃ t,mg "LONGEST"=some (.int 8 t):=by
   refine' Ov.const_int KX G ?cz ?cw
   (case cz=>k_is);(case cw=>kernel_rfl)
  obtain ⟨t_MOST,g_MOST⟩:∃ t,mg "MOST"=some (.int 12 t):=by
   refine' Ov.const_int KX G ?cz ?cw
   (case cz=>k_is);(case cw=>kernel_rfl)
  obtain ⟨t_SIGNS,g_SIGNS⟩:∃ t,mg "SIGNS"=some (.str "abcdefghijklmnopqrstuvwxyz0123456789" t):=by
   refine' Ov.wI KX G ?cz ?cw
   (case cz=>k_is);(case cw=>kernel_rfl)
  obtain ⟨fd,F,hb⟩:=Ov.Eo D_law hmg (fun _ _ _ _ _ _ _=>rfl)
  exact ⟨fd,[T_good_name],hb,(fun T hT=>by simp only [List.mem_cons,List.not_mem_nil,or_false] at hT;rcases hT with rfl <;> first | exact ⟨_,by simp,_,D_good_name⟩),fun base _ _ Bm=>Ov.wA (Ov.D0 Z N g_FARTHEST g_FASTEST g_FINEST g_LATEST g_LONGEST g_MOST g_SIGNS O_BadMoment O_BadName O_Full O_NoCraft O_NotThere O_Past O_Taken O_TooFar KD_Log KD_Lane KD_Bells NA_Log_rows NA_Log_gone NA_Lane_now NA_Lane_logs NA_Lane_row NA_Bells_rows D_cell D_digits D_shared D_fraction D_low D_less D_plus D_minus D_times D_good_name D_names D_place_on D_last_by D_lies_behind D_in_order D_rings_ahead D_meeting D_in_lowest_terms D_good_moment D_whole D_part D_placed D_paced D_at D_later D_before D_order D_gap D_acted D_done D_deed D_walk MD_Log___init__ MD_Log_turn MD_Log_leave MD_Log_there MD_Log_leg_at MD_Lane___init__ MD_Lane_must_be_there MD_Lane_leg_of MD_Lane_settle MD_Lane_join MD_Lane_place MD_Lane_closest MD_Bells___init__ MD_Bells_drop MD_Bells_put MD_Bells_told MD_Lane_meets MD_Lane_foretold MD_Lane_go_to MD_Lane_turn MD_Lane_about MD_Lane_leave F base Bm)⟩
