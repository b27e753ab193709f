import PyProof.Rows.All
import Wide.All
import OpenK.AllK
import Wide.FinOn
import Lean
import PyProof.EqAt
import PyProof.EqKinds
import PyProof.TupleCall
import PyProof.NeKinds
import PyProof.CompFree
import PyProof.ListRange
import PyProof.Rows.SortWalk
import PyProof.ExcArgsOwn
import PyProof.ExcAttrAll.ValueError
import KE.KTryMore
import PyProof.GenCompD
import PyProof.StrWalks
import PyProof.ConsumeS
import PyProof.StrOps2
import PyProof.CompMap
import KE.KRevIter
import PyProof.ZipIter
import PyProof.DictWalks
import PyProof.DictCompW
import PyProof.DictRoads
import PyProof.MeetsDictList
import KE.KDictList
import PyProof.EnumFor
import PyProof.EnumMake
import PyProof.WalksEnum
import PySem.Challenge.RW_overhaul_k32_whole_order_kept
noncomputable section
set_option Elab.async false
set_option linter.all false
set_option maxRecDepth 100000
namespace L2
open PySem PySem.Spec PyProof.Rows
abbrev Key:=Sum Int Str
def CZ:Key→Value→Bool
 | .inl k,v=>Value.isInt k v
 | .inr x,v=>Value.isStrOf x v
def Hr (w:World):Key→Int
 | .inl k=>hashInt k
 | .inr x=>hashStr w x
theorem bN:∀ {k:Key} {v:Value},CZ k v=true→(∃ i t,k=Sum.inl i∧v=Value.int i t)∨(∃ x t,k=Sum.inr x∧v=Value.str x t)
 | .inl i,v,h=>by
  obtain ⟨t,e⟩:=Value.isInt_shape (k:=i) (v:=v) h
  exact .inl ⟨i,t,rfl,e⟩
 | .inr x,v,h=>by
  obtain ⟨t,e⟩:=Value.isStrOf_shape (x:=x) (v:=v) h
  exact .inr ⟨x,t,rfl,e⟩
theorem Em (a b:Int):decide ((Sum.inl a:Key)=Sum.inl b)=(a == b):=by
 by_cases e:a=b
 ·subst e;simp
 ·have h:¬ (Sum.inl a:Key)=Sum.inl b:=fun q=>e (Sum.inl.inj q)
  rw [decide_eq_false h]
  exact (beq_eq_false_iff_ne.mpr e).symm
theorem C7 (a b:Str):decide ((Sum.inr a:Key)=Sum.inr b)=decide (a=b):=by
 by_cases e:a=b
 ·subst e;simp
 ·have h:¬ (Sum.inr a:Key)=Sum.inr b:=fun q=>e (Sum.inr.inj q)
  rw [decide_eq_false h,decide_eq_false e]
theorem Di (a:Int) (b:Str):decide ((Sum.inl a:Key)=Sum.inr b)=false:=decide_eq_false (fun q=>nomatch q)
theorem DG (a:Str) (b:Int):decide ((Sum.inr a:Key)=Sum.inl b)=false:=decide_eq_false (fun q=>nomatch q)
def Az (prog:Program) (w:World):PySem.KeyKind prog w Key where
 is:=CZ
 hash:=Hr w
 inj:=fun v a b ha hb=>by
  rcases bN ha with ⟨i,t,rfl,rfl⟩ | ⟨x,t,rfl,rfl⟩
  ·rcases bN hb with ⟨j,u,rfl,e⟩ | ⟨y,u,rfl,e⟩
   ·injection e with e1 _;rw [e1]
   ·exact nomatch e
  ·rcases bN hb with ⟨j,u,rfl,e⟩ | ⟨y,u,rfl,e⟩
   ·exact nomatch e
   ·injection e with e1 _;rw [e1]
 byValue:=fun k v h=>by
  rcases bN h with ⟨i,t,rfl,rfl⟩ | ⟨x,t,rfl,rfl⟩ <;> rfl
 pyHash:=fun hv h=>by
  rcases bN hv with ⟨i,t,rfl,rfl⟩ | ⟨x,t,rfl,rfl⟩
  ·exact wpAny_pyHash_int h
  ·exact wpAny_pyHash_str h
 eqBool:=fun hu hv h=>by
  rcases bN hu with ⟨i,t,rfl,rfl⟩ | ⟨x,t,rfl,rfl⟩
  ·rcases bN hv with ⟨j,u,rfl,rfl⟩ | ⟨y,u,rfl,rfl⟩
   ·rw [Em] at h;exact wpAny_eqBool_int h
   ·rw [Di] at h;exact SeqAt.EqAt.int_str i t y u _ _ _ _ h
  ·rcases bN hv with ⟨j,u,rfl,rfl⟩ | ⟨y,u,rfl,rfl⟩
   ·rw [DG] at h;exact SeqAt.EqAt.str_int x t j u _ _ _ _ h
   ·rw [C7] at h;exact wpAny_eqBool_str h
 «strs»:=fun k x t v h=>by
  rcases bN h with ⟨i,u,rfl,e⟩ | ⟨y,u,rfl,e⟩
  ·exact nomatch e
  ·injection e with e1 _
   subst e1
   cases v <;> rfl
end L2
namespace L2
open PySem PySem.Spec PyProof.Rows
inductive V where
 | non | bl (b:Bool) | int (i:Int) | str (x:Str) | byt (b:Array UInt8) | flt (b:UInt64) | ref (a:Addr) | ty (n:String)
 deriving DecidableEq
def RelV:V→Value→Prop
 | .non,u=>u=Value.none
 | .bl b,u=>u=Value.bool b
 | .int i,u=>∃ t,u=Value.int i t
 | .str x,u=>∃ t,u=Value.str x t
 | .byt b,u=>∃ t,u=Value.bytes b t
 | .flt b,u=>∃ t,u=Value.float b t
 | .ref a,u=>u=Value.ref a
 | .ty n,u=>u=Value.type n
abbrev Vals:List V→List Value→Prop:=Paired RelV
theorem Vals.length {xs:List V} {us:List Value} (r:Vals xs us):xs.length=us.length:=Paired.length r
theorem Vals.get:∀ {xs:List V} {us:List Value} {i:Nat} {x:V},Vals xs us→xs[i]?=some x→∃ u,us[i]?=some u∧RelV x u
 | _,_,_,_,.nil,e=>by simp at e
 | _,_,0,_,.cons r _,e=>by simp at e;subst e;exact ⟨_,rfl,r⟩
 | _,_,i + 1,x,.cons _ t,e=>by
  obtain ⟨u,h1,h2⟩:=Vals.get (i:=i) (x:=x) t (by simpa using e)
  exact ⟨u,by simpa using h1,h2⟩
theorem Vals.set {x:V} {u:Value} (r:RelV x u):∀ {xs:List V} {us:List Value} (i:Nat),Vals xs us→Vals (xs.set i x) (us.set i u)
 | _,_,_,.nil=>.nil
 | _,_,0,.cons _ t=>.cons r t
 | _,_,i + 1,.cons q t=>.cons q (Vals.set r i t)
theorem Vals.append:∀ {xs ys:List V} {us ws:List Value},Vals xs us→Vals ys ws→Vals (xs ++ ys) (us ++ ws)
 | _,_,_,_,.nil,s=>s
 | _,_,_,_,.cons r t,s=>.cons r (Vals.append t s)
theorem Vals.take:∀ {xs:List V} {us:List Value} (n:Nat),Vals xs us→Vals (xs.take n) (us.take n)
 | _,_,0,_=>.nil
 | _,_,_ + 1,.nil=>.nil
 | _,_,n + 1,.cons r t=>.cons r (Vals.take n t)
theorem Vals.drop:∀ {xs:List V} {us:List Value} (n:Nat),Vals xs us→Vals (xs.drop n) (us.drop n)
 | _,_,0,r=>r
 | _,_,_ + 1,.nil=>.nil
 | _,_,n + 1,.cons _ t=>Vals.drop n t
theorem Vals.none_of:∀ {xs:List V} {us:List Value} {i:Nat},Vals xs us→xs[i]?=none→us[i]?=none:=fun {xs us i} r e=>by
 have h1:=r.length
 have h2:xs.length≤i:=List.getElem?_eq_none_iff.mp e
 exact List.getElem?_eq_none_iff.mpr (by omega)
def mD:Option V→Option Value→Prop
 | some v,some u=>RelV v u
 | none,none=>True
 | _,_=>False
def KV {κ:Type}:List (κ × V)→List (κ × Value)→Prop:=Paired fun (p:κ × V) (q:κ × Value)=>p.1=q.1∧RelV p.2 q.2
def kV:Key→V
 | .inl i=>.int i
 | .inr x=>.str x
inductive HO where
 | lst (xs:List V)
 | tup (xs:List V)
 | dK (kvs:List (Key × V)) | dE (kvs:List (Str × V)) (ep:Nat)
 | set (S:Int→Bool) (n:Nat)
 | ins (C dx:Addr) (fs:List (Str × V))
 | own (x:Addr)
 | xd (fs:List (Str × V))
 | met (f x:Addr)
 | EH (lo hi:Int)
 | mr (o:Obj) (u:HO)
 | tbl (ps:Array Value)
 | ext (φ:Heap→Prop)
abbrev Hp:=Addr→Option HO
def upd (H:Hp) (a:Addr) (o:HO):Hp:=fun b=>if b=a then some o else H b
theorem aA {H:Hp} {a:Addr} {o:HO}:upd H a o a=some o:=by unfold upd;rw [if_pos rfl]
theorem aH {H:Hp} {a b:Addr} {o:HO} (h:b≠a):upd H a o b=H b:=by unfold upd;rw [if_neg h]
theorem bF {H:Hp} {a b:Addr} {o:HO} (h:H a=some o) (h':H b=none):a≠b:=by
 intro e;subst e;rw [h] at h';cases h'
section
variable (P:Program) (w:World)
def cb (H:Hp) (h:Heap) (a:Addr):HO→Prop
 | .lst xs=>xs.length≤sizeLine∧∃ (its:List Value) (n:Nat),Vals xs its∧h.get? a=some { cls:=.type "list",data:=.seq its.toArray n }
 | .tup xs=>xs.length≤sizeLine∧∃ its:List Value,Vals xs its∧IsTup h a its.toArray
 | .dK kvs=>kvs.length≤sizeLine∧(a == sysModules)=false∧∃ vs,KV kvs vs∧h.DictOf (Az P w) a vs
 | .dE kvs ep=>kvs.length≤sizeLine∧(a == sysModules)=false∧∃ vs,KV kvs vs∧h.DictAt (strKind P w) a vs ep
 | .set S n=>h.SetOf (intKind P w) a S n
 | .ins C dx fs=>H dx=some (.own a)∧fs.length≤1000∧dx≠a∧h.get? a=some (PySem.W.instObj C dx) ∧
   ∃ mA,h.Ns1 dx mA∧(∀ f,mD (fs.lookup f) (mA f))∧PySem.Within mA (fs.map (·.1))
 | .own _=>∃ o,h.get? a=some o
 | .xd fs=>∃ mA,h.Ns1 a mA∧∀ f,mD (fs.lookup f) (mA f)
 | .EH lo hi=>∃ t u v,h.get? a=some { cls:=.type "range",data:=.fields #[.int lo t,.int hi u,.int 1 v] }
 | .mr o u=>h.get? a=some o∧cb H h a u
 | .tbl ps=>h.get? a=some { cls:=.none,data:=.fields ps }
 | .met f x=>h.get? a=some (PySem.W.methodObj (.ref f) (.ref x))
 | .ext φ=>φ h∧(∃ o,h.get? a=some o)∧∀ h1 h2:Heap,φ h1→(∀ o,h1.get? a=some o→h2.get? a=some o)→φ h2
def iB (H:Hp) (h:Heap):Prop:=∀ a o,H a=some o→cb P w H h a o
end
section
variable {P:Program} {w:World} {H H':Hp} {h h':Heap} {a:Addr} {o:HO}
theorem cb.lt (x:cb P w H h a o):a < h.objs.size:=by
 cases o with
 | lst xs=>obtain ⟨_,_,_,_,e⟩:=x;exact Heap.lt_size e
 | tup xs=>obtain ⟨_,_,_,p⟩:=x;exact p.lt
 | dK kvs=>obtain ⟨_,_,_,_,o,_,_,e,_⟩:=x;exact Heap.lt_size e
 | dE kvs ep=>obtain ⟨_,_,_,_,o,_,e,_⟩:=x;exact Heap.lt_size e
 | set S n=>obtain ⟨o,_,_,_,e,_⟩:=x;exact Heap.lt_size e
 | ins C dx fs=>obtain ⟨_,_,_,e,_⟩:=x;exact Heap.lt_size e
 | own y=>obtain ⟨_,e⟩:=x;exact Heap.lt_size e
 | xd fs=>obtain ⟨_,⟨_,_,_,e,_⟩,_⟩:=x;exact Heap.lt_size e
 | EH lo hi=>obtain ⟨_,_,_,e⟩:=x;exact Heap.lt_size e
 | mr ob u=>obtain ⟨e,_⟩:=x;exact Heap.lt_size e
 | tbl ps=>exact Heap.lt_size (show h.get? a=some _ from x)
 | met f y=>exact Heap.lt_size (show h.get? a=some _ from x)
 | ext φ=>obtain ⟨_,⟨_,e⟩,_⟩:=x;exact Heap.lt_size e
theorem cb.me (x:cb P w H h a o) (k:∀ b u,(b=a∨H b=some (.own a))→h.get? b=some u→h'.get? b=some u)
  (ho:∀ b,H b=some (.own a)→H' b=some (.own a)) (ht:∀ b xs,H b=some (.tup xs)→H' b=some (.tup xs)):cb P w H' h' a o:=by
 induction o with
 | lst xs=>obtain ⟨z,its,n,r,e⟩:=x;exact ⟨z,its,n,r,k _ _ (.inl rfl) e⟩
 | tup xs=>obtain ⟨z,its,r,ob,e,c⟩:=x;exact ⟨z,its,r,ob,k _ _ (.inl rfl) e,c⟩
 | dK kvs=>obtain ⟨z,y,vs,r,ob,es,ep,e,c⟩:=x;exact ⟨z,y,vs,r,ob,es,ep,k _ _ (.inl rfl) e,c⟩
 | dE kvs ep=>obtain ⟨z,y,vs,r,ob,es,e,c⟩:=x;exact ⟨z,y,vs,r,ob,es,k _ _ (.inl rfl) e,c⟩
 | set S n=>obtain ⟨ob,es,ep,t,e,c⟩:=x;exact ⟨ob,es,ep,t,k _ _ (.inl rfl) e,c⟩
 | ins C dx fs =>
  obtain ⟨d,z,ne,e,mA,⟨od,es,ep,e2,c⟩,r⟩:=x
  exact ⟨ho _ d,z,ne,k _ _ (.inl rfl) e,mA,⟨od,es,ep,k _ _ (.inr d) e2,c⟩,r⟩
 | own y=>obtain ⟨ob,e⟩:=x;exact ⟨ob,k _ _ (.inl rfl) e⟩
 | xd fs=>obtain ⟨mA,⟨od,es,ep,e,c⟩,r⟩:=x;exact ⟨mA,⟨od,es,ep,k _ _ (.inl rfl) e,c⟩,r⟩
 | EH lo hi=>obtain ⟨t,u,v,e⟩:=x;exact ⟨t,u,v,k _ _ (.inl rfl) e⟩
 | mr ob u ih=>obtain ⟨e,q⟩:=x;exact ⟨k _ _ (.inl rfl) e,ih q⟩
 | tbl ps =>
  have e:h.get? a=some { cls:=.none,data:=.fields ps }:=x
  show h'.get? a=some { cls:=.none,data:=.fields ps }
  exact k a _ (.inl rfl) e
 | met f y =>
  have e:h.get? a=some (PySem.W.methodObj (.ref f) (.ref y)):=x
  show h'.get? a=some (PySem.W.methodObj (.ref f) (.ref y))
  exact k a _ (.inl rfl) e
 | ext φ=>obtain ⟨p,⟨o,e⟩,st⟩:=x;exact ⟨st _ _ p fun o q=>k _ _ (.inl rfl) q,⟨o,k _ _ (.inl rfl) e⟩,st⟩
theorem iB.lt (x:iB P w H h) (e:H a=some o):a < h.objs.size:=(x a o e).lt
theorem iB.fresh (x:iB P w H h) (e:h.objs.size≤a):H a=none:=by
 cases q:H a with
 | none=>rfl
 | some u=>exact absurd (Nat.lt_of_lt_of_le (x.lt q) e) (Nat.lt_irrefl _)
theorem iB.kept (x:iB P w H h) (k:∀ b u,h.get? b=some u→h'.get? b=some u):iB P w H h':=fun a o e =>
 (x a o e).me (fun b u _ q=>k b u q) (fun _ q=>q) fun _ _ q=>q
theorem iB.laid (x:iB P w H h) (k:∀ b u,h.get? b=some u→h'.get? b=some u) (hp:h.objs.size≤a) (new:cb P w (upd H a o) h' a o):iB P w (upd H a o) h':=fun b u e=>by
 have hn:=x.fresh hp
 by_cases hb:b=a
 ·subst hb;rw [aA] at e;cases e;exact new
 ·rw [aH hb] at e
  exact (x b u e).me (fun c v _ q=>k c v q) (fun c q=>by rw [aH (bF q hn)];exact q) fun c xs q=>by rw [aH (bF q hn)];exact q
end
def Rd (H:Hp) (a:Addr) (u:HO):Prop:=H a=some u∨∃ o,H a=some (.mr o u)
theorem Rd.of {H:Hp} {a:Addr} {u:HO} (h:H a=some u):Rd H a u:=.inl h
theorem Rd.ok {P:Program} {w:World} {H:Hp} {h:Heap} {a:Addr} {u:HO} (r:Rd H a u) (x:iB P w H h):cb P w H h a u:=by
 rcases r with r | ⟨o,r⟩
 ·exact x a u r
 ·obtain ⟨_,q⟩:=x a _ r
  exact q
def GX:Option HO→Prop
 | some (.lst _)=>True
 | some (.dK _)=>True
 | some (.dE _ _)=>True
 | some (.set _ _)=>True
 | some (.ins _ _ _)=>True
 | some (.ext _)=>True
 | _=>False
section
variable {P:Program} {w:World} {H:Hp} {h h':Heap} {x e:Addr} {o':HO}
theorem iB.write (ok:iB P w H h) (mu:GX (H x)) (he:e=x∨H e=some (.own x)) (k:∀ b u,b≠e→h.get? b=some u→h'.get? b=some u) (heo:∃ u,h'.get? e=some u)
  (new:cb P w (upd H x o') h' x o'):iB P w (upd H x o') h':=fun b u q=>by
 have nown:∀ c y,H c=some (.own y)→c≠x:=fun c y r z=>by subst z;rw [r] at mu;exact mu
 have ntup:∀ c xs,H c=some (.tup xs)→c≠x:=fun c xs r z=>by subst z;rw [r] at mu;exact mu
 by_cases hb:b=x
 ·subst hb;rw [aA] at q;cases q;exact new
 ·rw [aH hb] at q
  by_cases hbe:b=e
  ·have q':H b=some (.own x):=by
    rcases he with z | z
    ·exact absurd (hbe.trans z) hb
    ·rw [hbe];exact z
   rw [q] at q';cases q'
   obtain ⟨v,hv⟩:=heo
   exact ⟨v,by rw [hbe];exact hv⟩
  ·refine (ok b u q).me (fun c v hc r=>k c v ?_ r) (fun c r=>by rw [aH (nown c b r)];exact r) fun c xs r=>by rw [aH (ntup c xs r)];exact r
   rcases hc with rfl | hc
   ·exact hbe
   ·rintro rfl
    rcases he with z | z
    ·exact nown c b hc z
    ·rw [hc] at z;cases z;exact hb rfl
end
structure Un (fs ex:List Addr) (H H':Hp) (h h':Heap):Prop where
 keep:∀ b o,h.get? b=some o→H b=none→b ∉ fs→b ∉ ex→h'.get? b=some o
 slot:∀ b o,h.get? b=some o→H b=none→b∈fs→b ∉ ex→∃ sl,h'.get? b=some { o with slots:=sl }
 free:∀ b o,h.get? b=some o→H b=none→b ∉ ex→H' b=none
 there:∀ b o,h.get? b=some o→b ∉ ex→∃ o',h'.get? b=some o'
 tups:∀ b xs,H b=some (.tup xs)→H' b=some (.tup xs)
 frzs:∀ b o u,H b=some (.mr o u)→H' b=some (.mr o u)
 tbls:∀ b ps,H b=some (.tbl ps)→∃ more,H' b=some (.tbl (ps ++ more))
section
variable {fs fs' ex ex':List Addr} {H H1 H2:Hp} {h h1 h2 h':Heap} {a x e:Addr} {o:HO}
theorem Un.any (u:Un fs ex H H1 h h1) {b:Addr} {ob:Obj} (q:h.get? b=some ob) (n:H b=none) (hx:b ∉ ex):∃ sl,h1.get? b=some { ob with slots:=sl }:=by
 by_cases hb:b∈fs
 ·exact u.slot b ob q n hb hx
 ·exact ⟨ob.slots,u.keep b ob q n hb hx⟩
theorem Un.trans (a:Un fs ex H H1 h h1) (b:Un fs ex H1 H2 h1 h2):Un fs ex H H2 h h2 where
 keep:=fun c ob q n hc hx=>b.keep c ob (a.keep c ob q n hc hx) (a.free c ob q n hx) hc hx
 slot:=fun c ob q n hc hx=>by
  obtain ⟨sl,e1⟩:=a.slot c ob q n hc hx
  obtain ⟨sl',e2⟩:=b.slot c _ e1 (a.free c ob q n hx) hc hx
  exact ⟨sl',e2⟩
 free:=fun c ob q n hx=>by
  obtain ⟨o',e1⟩:=a.there c ob q hx
  exact b.free c o' e1 (a.free c ob q n hx) hx
 there:=fun c ob q hx=>by
  obtain ⟨o',e1⟩:=a.there c ob q hx
  exact b.there c o' e1 hx
 tups:=fun c xs q=>b.tups c xs (a.tups c xs q)
 frzs:=fun c ob xs q=>b.frzs c ob xs (a.frzs c ob xs q)
 tbls:=fun c ps q=>by
  obtain ⟨m1,e1⟩:=a.tbls c ps q
  obtain ⟨m2,e2⟩:=b.tbls c _ e1
  exact ⟨m1 ++ m2,by rw [e2,Array.append_assoc]⟩
theorem Un.kept (k:∀ b u,h.get? b=some u→h'.get? b=some u):Un fs ex H H h h' :=
 ⟨fun b ob q _ _ _=>k b ob q,fun b ob q _ _ _=>⟨ob.slots,k b ob q⟩,fun _ _ _ n _=>n,fun b ob q _=>⟨ob,k b ob q⟩,fun _ _ q=>q,fun _ _ _ q=>q,fun _ ps q=>⟨#[],by rw [q];simp⟩⟩
theorem Un.refl:Un fs ex H H h h:=Un.kept fun _ _ q=>q
theorem Un.laid (k:∀ b u,h.get? b=some u→h'.get? b=some u) (hp:h.objs.size≤a) (hn:H a=none):Un fs ex H (upd H a o) h h' where
 keep:=fun b u q _ _ _=>k b u q
 slot:=fun b u q _ _ _=>⟨u.slots,k b u q⟩
 free:=fun b u q n _=>by rw [aH (Nat.ne_of_lt (Nat.lt_of_lt_of_le (Heap.lt_size q) hp))];exact n
 there:=fun b u q _=>⟨u,k b u q⟩
 tups:=fun b xs q=>by rw [aH (bF q hn)];exact q
 frzs:=fun b u xs q=>by rw [aH (bF q hn)];exact q
 tbls:=fun b ps q=>⟨#[],by rw [aH (bF q hn),q];simp⟩
theorem Un.write (mu:GX (H x)) (he:e=x∨H e=some (.own x)) (k:∀ b u,b≠e→h.get? b=some u→h'.get? b=some u) (heo:∃ u,h'.get? e=some u):Un fs ex H (upd H x o) h h':=by
 have hx:∀ b,H b=none→b≠x:=fun b n z=>by subst z;rw [n] at mu;exact mu
 have hb:∀ b,H b=none→b≠e:=fun b n z=>by
  subst z
  rcases he with r | r
  ·exact hx b n r
  ·rw [n] at r;cases r
 have hm:∀ b u,H b=some u→¬ GX (some u)→b≠x:=fun b u q nm z=>by subst z;rw [q] at mu;exact nm mu
 refine ⟨fun b u q n _ _=>k b u (hb b n) q,fun b u q n _ _=>⟨u.slots,k b u (hb b n) q⟩,fun b u q n _=>by rw [aH (hx b n)];exact n,fun b u q _=>?_,
  fun b xs q=>by rw [aH (hm b _ q fun z=>z)];exact q,fun b u xs q=>by rw [aH (hm b _ q fun z=>z)];exact q,fun b ps q=>⟨#[],by rw [aH (hm b _ q fun z=>z),q];simp⟩⟩
 by_cases hbe:b=e
 ·subst hbe;exact heo
 ·exact ⟨u,k b u hbe q⟩
theorem Un.mono (u:Un fs ex H H1 h h1) (hs:∀ b∈fs,b∈fs') (hx:∀ b∈ex,b∈ex'):Un fs' ex' H H1 h h1 :=
 ⟨fun b ob q n hb he=>u.keep b ob q n (fun z=>hb (hs b z)) fun z=>he (hx b z),fun _ _ q n _ he=>u.any q n fun z=>he (hx _ z),fun b ob q n he=>u.free b ob q n fun z=>he (hx b z),fun b ob q he=>u.there b ob q fun z=>he (hx b z),u.tups,u.frzs,u.tbls⟩
end
def G7 (h:Heap) (H:Hp):List Addr:=(List.range h.objs.size).filter fun a=>(H a).isSome
def mZ (h:Heap) (H:Hp):Heap:=PySem.W.hideAll h (G7 h H)
theorem w_ (h:Heap) (H:Hp):(mZ h H).objs.size=h.objs.size:=PySem.W.hideAll_size _ _
theorem zD {h:Heap} {H:Hp} {b:Addr} {o:Obj} (e:h.get? b=some o) (n:H b=none):(mZ h H).get? b=some o :=
 PySem.W.hideAll_get _ e fun hm=>by
  have q:(H b).isSome=true:=(List.mem_filter.mp hm).2
  rw [n] at q;simp at q
theorem BW {h:Heap} {H:Hp} {b:Addr} {o:Obj} (e:(mZ h H).get? b=some o):h.get? b=some o∧H b=none:=by
 have e':h.get? b=some o:=PySem.W.of_hideAll (G7 h H) e
 refine ⟨e',?_⟩
 cases q:H b with
 | none=>rfl
 | some x =>
  have hm:b∈G7 h H:=List.mem_filter.mpr ⟨List.mem_range.mpr (Heap.lt_size e'),by simp [q]⟩
  have z:(mZ h H).get? b=none:=PySem.W.hideAll_none (G7 h H) hm
  rw [z] at e;cases e
def AM (g h:Heap) (L:Addr):List (Addr × Obj):=(List.range h.objs.size).filterMap fun a=>if a=L∨(g.get? a).isSome=true then none else (h.get? a).map fun o=>(a,o)
def rest (g h:Heap) (L d:Addr):List (Addr × Obj):=(AM g h L).filter fun p=>decide (p.1≠d)
end L2
namespace L2
open PySem PySem.Spec PyProof.Rows
structure Mod (K:PySem.W.Frag) (mg:Str→Option Value) (base:Heap):Prop where
 kin:K.In base
 glob:base.Ns mainGlobals mg
 blt:∃ mb,base.Ns builtinsNs mb∧∀ x:Str,x≠"__name__"→mb x=bootBuiltins x
 nolimit:base.NoLimit
structure Cx where
 prog:Program
 w:World
 K:PySem.W.Frag
 mg:Str→Option Value
 base:Heap
 A:Around
 N:List Str
 s₀:Shared
 H₀:Hp
 env:Env
 outer:List Env
 stack:List Env
 ex:List Addr
 fn:Str→Bool
 calm:Bool
 pn:List (Addr × Obj)
 xe:Value→Shared→Prop
def gj (l:List Env):List Addr:=l.filterMap (·.frame)
abbrev Cx.fs (X:Cx):List Addr:=gj X.outer
def qW (sc:Scope) (x:Str):Prop:=sc.names.lookup x=some .local∨sc.names.lookup x=some .cell∨sc.names.lookup x=some .free
def Loc (sc:Scope) (x:Str):Prop:=sc.names.lookup x=some .local∨sc.names.lookup x=some .cell
def Look (env:Env) (h:Heap) (m:Str→Option Value) (x:Str) (u:Value):Prop :=
 (env.kindOf x=some .local∧m x=some u)∨((env.kindOf x=some .cell∨env.kindOf x=some .free)∧∃ c,env.cells.lookup x=some c∧h.IsCell c (some u))
structure Cx.Ok (X:Cx):Prop where
 mod:Mod X.K X.mg X.base
 kind:X.env.scope.kind=.function
 glob:X.env.globals=mainGlobals
 blt:X.env.builtins=builtinsNs
 above:X.s₀.heap.objs.size≤X.env.locals
 inj:∀ x y c,X.env.cells.lookup x=some c→X.env.cells.lookup y=some c→x=y
 has:∀ x,(X.env.kindOf x=some .cell∨X.env.kindOf x=some .free)→∃ c,X.env.cells.lookup x=some c
 cab:∀ x c,X.fn x=true→X.env.cells.lookup x=some c→X.s₀.heap.objs.size≤c
 hd:X.calm=true→X.A.handled=none
 frames:X.A.frames=some X.stack
 stk:X.stack=X.outer∨(X.stack=X.env :: X.outer∧X.env.frame=some X.env.locals)
 exf:∀ b∈X.ex,b≠X.env.locals∧∀ x c,X.env.cells.lookup x=some c→c≠b
 bs:∀ b o,X.base.get? b=some o→X.s₀.heap.get? b=some o∧X.H₀ b=none
 bsz:X.base.objs.size≤X.s₀.heap.objs.size
 noex:∀ b o,X.base.get? b=some o→b ∉ X.ex
 exfs:∀ b∈X.ex,b ∉ X.fs
 ju:X.s₀.heap.FunFrames X.base X.outer
 frf:∀ b∈X.fs,X.H₀ b=none
structure Inv (X:Cx) (pins:List (Addr × Obj)) (σ:List (Option V)) (H:Hp) (s:Shared):Prop where
 ok:X.Ok
 os:s.os=X.s₀.os
 bare:AllBare s.gens
 base:Un X.fs X.ex X.H₀ H X.s₀.heap s.heap
 loc:∃ m,s.heap.Ns X.env.locals m∧∀ (i:Nat) (x:Str) (v:V),X.N[i]?=some x→σ[i]?=some (some v)→qW X.env.scope x→∃ u,RelV v u∧Look X.env s.heap m x u
 cell:∀ x c,X.env.cells.lookup x=some c→∃ v,s.heap.IsCell c v
 free:H X.env.locals=none
 freeC:∀ x c,X.env.cells.lookup x=some c→H c=none
 pin:∀ p∈X.pn ++ pins,s.heap.get? p.1=some p.2∧H p.1=none∧p.1≠X.env.locals∧p.1 ∉ X.fs∧∀ v,p.2.data≠.cell v
 hok:iB X.prog X.w H s.heap
 len:σ.length=X.N.length
section
variable {X:Cx} {pins:List (Addr × Obj)} {σ:List (Option V)} {H H':Hp} {s:Shared} {h':Heap}
theorem Cx.Ok.IE (ok:X.Ok) {b:Addr} {o:Obj} (e:X.base.get? b=some o):b ∉ X.fs:=fun hb=>by
 have:=(ok.ju.mem hb).1
 rw [e] at this;cases this
theorem Inv.bs (I:Inv X pins σ H s):∀ b o,X.base.get? b=some o→s.heap.get? b=some o∧H b=none:=fun b o e =>
 ⟨I.base.keep b o (I.ok.bs b o e).1 (I.ok.bs b o e).2 (I.ok.IE e) (I.ok.noex b o e),I.base.free b o (I.ok.bs b o e).1 (I.ok.bs b o e).2 (I.ok.noex b o e)⟩
theorem Inv.bk (I:Inv X pins σ H s):∀ b o,X.base.get? b=some o→s.heap.get? b=some o:=fun b o e=>(I.bs b o e).1
theorem Inv.mod (I:Inv X pins σ H s):Mod X.K X.mg X.base:=I.ok.mod
theorem Inv.i7 (I:Inv X pins σ H s):X.K.In s.heap:=I.ok.mod.kin.keeps I.bk
theorem Inv.nolimit (I:Inv X pins σ H s):s.heap.NoLimit:=I.ok.mod.nolimit.keeps I.bk
theorem Inv.lt (I:Inv X pins σ H s):X.env.locals < s.heap.objs.size:=let ⟨_,hn,_⟩:=I.loc;hn.lt
theorem Inv.sz (I:Inv X pins σ H s):X.s₀.heap.objs.size≤s.heap.objs.size:=Nat.le_trans I.ok.above (Nat.le_of_lt I.lt)
theorem Inv.HL (I:Inv X pins σ H s) {a:Addr} (h:s.heap.objs.size≤a):a ∉ X.fs:=fun hb=>by
 obtain ⟨_,o,ho,_⟩:=I.ok.ju.mem hb
 exact absurd (Nat.lt_of_lt_of_le (Heap.lt_size ho) (Nat.le_trans I.sz h)) (Nat.lt_irrefl _)
theorem Inv.DL (I:Inv X pins σ H s):∀ x c,X.env.cells.lookup x=some c→c≠X.env.locals:=fun x c e z=>by
 obtain ⟨v,o,ho,hd⟩:=I.cell x c e
 obtain ⟨m,⟨o',es,ep,ho',hd',_⟩,_⟩:=I.loc
 rw [z,ho'] at ho;cases ho;rw [hd'] at hd;cases hd
theorem Inv.ju (I:Inv X pins σ H s):s.heap.FunFrames X.base X.outer:=by
 have all:∀ (l:List Env),(∀ b∈gj l,b∈X.fs)→X.s₀.heap.FunFrames X.base l→s.heap.FunFrames X.base l:=by
  intro l
  induction l with
  | nil=>intro _ _;trivial
  | cons env r ih =>
   intro hs hl
   obtain ⟨hk,⟨L,o,hf,hn,ho,hd⟩,hr⟩:=hl
   have hL:L∈X.fs:=hs L (by unfold gj;rw [List.filterMap_cons,hf];exact List.mem_cons_self)
   obtain ⟨sl,e⟩:=I.base.slot L o ho (I.ok.frf L hL) hL fun z=>I.ok.exfs L z hL
   exact ⟨hk,⟨L,_,hf,hn,e,hd⟩,ih (fun b hb=>hs b (by unfold gj;rw [List.filterMap_cons,hf];exact List.mem_cons_of_mem _ hb)) hr⟩
 exact all X.outer (fun _ hb=>hb) I.ok.ju
theorem Inv.stack (I:Inv X pins σ H s):s.heap.FunFrames X.base X.stack:=by
 rcases I.ok.stk with e | ⟨e,hf⟩
 ·rw [e];exact I.ju
 ·rw [e]
  obtain ⟨m,hn,_⟩:=I.loc
  refine .cons (by rw [I.ok.kind];decide) hf hn ?_ I.ju
  exact Heap.get?_none_of_le (Nat.le_trans I.ok.bsz I.ok.above)
theorem Inv.iA (I:Inv X pins σ H s):∀ b∈gj X.stack,b∈X.env.locals :: X.fs:=fun b hb=>by
 rcases I.ok.stk with e | ⟨e,hf⟩
 ·rw [e] at hb;exact List.mem_cons_of_mem _ hb
 ·rw [e] at hb
  unfold gj at hb
  rw [List.filterMap_cons,hf] at hb
  exact hb
theorem Inv.oQ (I:Inv X pins σ H s):∀ b∈gj X.stack,H b=none:=fun b hb=>by
 rcases List.mem_cons.mp (I.iA b hb) with e | hb
 ·rw [e];exact I.free
 ·obtain ⟨_,o,ho,_⟩:=I.ok.ju.mem hb
  exact I.base.free b o ho (I.ok.frf b hb) fun z=>I.ok.exfs b z hb
theorem Inv.step {g':Array GenState} {t':Nat} {d':Drawn} {ch:List Addr} (I:Inv X pins σ H s)
  (hch:∀ b∈ch,(b∈X.ex∨X.s₀.heap.objs.size≤b)∧b≠X.env.locals∧(∀ x c,X.env.cells.lookup x=some c→c≠b)∧∀ p∈X.pn ++ pins,p.1≠b)
  (keep:∀ b o,b≠X.env.locals→b ∉ X.fs→b ∉ ch→s.heap.get? b=some o→H b=none→h'.get? b=some o)
  (slot:∀ b o,b≠X.env.locals→b∈X.fs→b ∉ ch→s.heap.get? b=some o→H b=none→∃ sl,h'.get? b=some { o with slots:=sl }) (free:∀ b o,b ∉ ch→s.heap.get? b=some o→H b=none→H' b=none)
  (there:∀ b o,b ∉ ch→s.heap.get? b=some o→∃ o',h'.get? b=some o')
  (tups:∀ b xs,H b=some (.tup xs)→H' b=some (.tup xs)) (frzs:∀ b o u,H b=some (.mr o u)→H' b=some (.mr o u)) (tbls:∀ b ps,H b=some (.tbl ps)→∃ more,H' b=some (.tbl (ps ++ more)))
  (ns:∀ m,s.heap.Ns X.env.locals m→h'.Ns X.env.locals m) (hok:iB X.prog X.w H' h') (hg:AllBare g') :
  Inv X pins σ H' { s with heap:=h',gens:=g',drawn:=d',toks:=t' }:=by
 have neL:∀ b o,X.s₀.heap.get? b=some o→b≠X.env.locals:=fun b o e=>Nat.ne_of_lt (Nat.lt_of_lt_of_le (Heap.lt_size e) I.ok.above)
 have neC:∀ b o,X.s₀.heap.get? b=some o→b ∉ X.ex→b ∉ ch:=fun b o e hx hb=>by
  rcases (hch b hb).1 with z | z
  ·exact hx z
  ·exact absurd (Nat.lt_of_lt_of_le (Heap.lt_size e) z) (Nat.lt_irrefl _)
 have cellK:∀ x c,X.env.cells.lookup x=some c→∀ v,s.heap.IsCell c v→h'.IsCell c v:=fun x c e v ⟨o,ho,hd⟩=>by
  have nch:c ∉ ch:=fun z=>(hch c z).2.2.1 x c e rfl
  by_cases hc:c∈X.fs
  ·obtain ⟨sl,q⟩:=slot c o (I.DL x c e) hc nch ho (I.freeC x c e)
   exact ⟨_,q,hd⟩
  ·exact ⟨o,keep c o (I.DL x c e) hc nch ho (I.freeC x c e),hd⟩
 refine ⟨I.ok,I.os,hg,⟨fun b o e n hb hx=>?_,fun b o e n hb hx=>?_,fun b o e n hx=>?_,fun b o e hx=>?_,fun b xs e=>tups b xs (I.base.tups b xs e),fun b o xs e=>frzs b o xs (I.base.frzs b o xs e),fun b ps e=>?_⟩,?_,fun x c e=>?_,?_,fun x c e=>?_,fun p hp=>?_,hok,I.len⟩
 ·exact keep b o (neL b o e) hb (neC b o e hx) (I.base.keep b o e n hb hx) (I.base.free b o e n hx)
 ·obtain ⟨sl,e1⟩:=I.base.slot b o e n hb hx
  obtain ⟨sl',e2⟩:=slot b _ (neL b o e) hb (neC b o e hx) e1 (I.base.free b o e n hx)
  exact ⟨sl',e2⟩
 ·obtain ⟨o',e1⟩:=I.base.there b o e hx
  exact free b o' (neC b o e hx) e1 (I.base.free b o e n hx)
 ·obtain ⟨o',e1⟩:=I.base.there b o e hx
  exact there b o' (neC b o e hx) e1
 ·obtain ⟨m1,e1⟩:=I.base.tbls b ps e
  obtain ⟨m2,e2⟩:=tbls b _ e1
  exact ⟨m1 ++ m2,by rw [e2,Array.append_assoc]⟩
 ·obtain ⟨m,hn,hl⟩:=I.loc
  refine ⟨m,ns m hn,fun i x v e1 e2 e3=>?_⟩
  obtain ⟨u,r,l⟩:=hl i x v e1 e2 e3
  refine ⟨u,r,?_⟩
  rcases l with l | ⟨k,c,e,z⟩
  ·exact .inl l
  ·exact .inr ⟨k,c,e,cellK x c e _ z⟩
 ·obtain ⟨v,z⟩:=I.cell x c e
  exact ⟨v,cellK x c e v z⟩
 ·obtain ⟨m,⟨o,_,_,ho,_⟩,_⟩:=I.loc
  exact free _ o (fun z=>(hch _ z).2.1 rfl) ho I.free
 ·obtain ⟨v,o,ho,hd⟩:=I.cell x c e
  exact free c o (fun z=>(hch c z).2.2.1 x c e rfl) ho (I.freeC x c e)
 ·obtain ⟨e,n,ne,nf,d⟩:=I.pin p hp
  have nch:p.1 ∉ ch:=fun z=>(hch p.1 z).2.2.2 p hp rfl
  exact ⟨keep p.1 p.2 ne nf nch e n,free p.1 p.2 nch e n,ne,nf,d⟩
theorem Inv.un {t':Nat} (I:Inv X pins σ H s) (u:Un X.fs [] H H' s.heap h') (hok:iB X.prog X.w H' h'):Inv X pins σ H' { s with heap:=h',toks:=t' }:=by
 obtain ⟨m,⟨o,es,ep,ho,r⟩,_⟩:=id I.loc
 obtain ⟨sl,hL⟩:=u.any ho I.free (by simp)
 exact I.step (g':=s.gens) (d':=s.drawn) (ch:=[]) (fun _ z=>nomatch z) (fun b o _ hb _ e n=>u.keep b o e n hb (by simp)) (fun b o _ hb _ e n=>u.slot b o e n hb (by simp)) (fun b o _ e n=>u.free b o e n (by simp)) (fun b o _ e=>u.there b o e (by simp)) u.tups u.frzs u.tbls (fun m' hm=>by
  obtain ⟨o',es',ep',ho',r'⟩:=hm
  rw [ho] at ho';cases ho'
  exact ⟨_,es',ep',hL,r'⟩) hok I.bare
theorem Inv.call {g':Array GenState} {t':Nat} {d':Drawn} {ch:List Addr} (I:Inv X pins σ H s) (u:Un (gj X.stack) ch H H' s.heap h') (hok:iB X.prog X.w H' h') (hg:AllBare g')
  (hch:∀ b∈ch,(b∈X.ex∨X.s₀.heap.objs.size≤b)∧b≠X.env.locals∧(∀ x c,X.env.cells.lookup x=some c→c≠b)∧∀ p∈X.pn ++ pins,p.1≠b) :
  Inv X pins σ H' { s with heap:=h',gens:=g',drawn:=d',toks:=t' }:=by
 obtain ⟨m,⟨o,es,ep,ho,r⟩,_⟩:=id I.loc
 obtain ⟨sl,hL⟩:=u.any ho I.free fun z=>(hch _ z).2.1 rfl
 exact I.step (ch:=ch) hch (fun b o hL hb hc e n=>u.keep b o e n (fun z=>(List.mem_cons.mp (I.iA b z)).elim hL hb) hc) (fun b o _ _ hc e n=>u.any e n hc) (fun b o hc e n=>u.free b o e n hc) (fun b o hc e=>u.there b o e hc) u.tups u.frzs u.tbls (fun m' hm=>by
  obtain ⟨o',es',ep',ho',r'⟩:=hm
  rw [ho] at ho';cases ho'
  exact ⟨_,es',ep',hL,r'⟩) hok hg
theorem Inv.turned {t':Nat} {it:Addr} (I:Inv X pins σ H s) (k:∀ b o,b≠it→s.heap.get? b=some o→h'.get? b=some o) (hn:H it=none) (hL:it≠X.env.locals)
  (h1:it∈X.ex∨X.s₀.heap.objs.size≤it) (h2:∀ x c,X.env.cells.lookup x=some c→c≠it) (h3:∀ p∈X.pn ++ pins,p.1≠it):Inv X pins σ H { s with heap:=h',toks:=t' }:=by
 have nit:∀ b u,H b=some u→b≠it:=fun b u e z=>by rw [z,hn] at e;cases e
 refine I.step (g':=s.gens) (d':=s.drawn) (ch:=[it]) (fun b hb=>?_) (fun b o _ _ hc e _=>k b o (fun z=>hc (by simp [z])) e) (fun b o _ _ hc e _=>⟨o.slots,k b o (fun z=>hc (by simp [z])) e⟩) (fun _ _ _ _ n=>n)
  (fun b o hc e=>⟨o,k b o (fun z=>hc (by simp [z])) e⟩) (fun _ _ e=>e) (fun _ _ _ e=>e) (fun b ps e=>⟨#[],by rw [e];simp⟩) (fun m hm=>?_) (fun b u e=>?_) I.bare
 ·have e:b=it:=by simpa using hb
  subst e
  exact ⟨h1,hL,h2,h3⟩
 ·obtain ⟨o,es,ep,ho,r⟩:=hm
  exact ⟨o,es,ep,k _ o (Ne.symm hL) ho,r⟩
 ·refine (I.hok b u e).me (fun c v hc q=>k c v ?_ q) (fun _ q=>q) fun _ _ q=>q
  rcases hc with z | z
  ·rw [z];exact nit b u e
  ·exact nit c _ z
theorem Inv.tok (I:Inv X pins σ H s) (t:Nat):Inv X pins σ H { s with toks:=t }:=I.un (h':=s.heap) (t':=t) Un.refl I.hok
theorem Inv.kept {t':Nat} (I:Inv X pins σ H s) (k:∀ b u,s.heap.get? b=some u→h'.get? b=some u):Inv X pins σ H { s with heap:=h',toks:=t' }:=I.un (Un.kept k) (I.hok.kept k)
theorem Inv.laid {a:Addr} {o:HO} {t':Nat} (I:Inv X pins σ H s) (k:∀ b u,s.heap.get? b=some u→h'.get? b=some u) (hp:s.heap.objs.size≤a) (new:cb X.prog X.w (upd H a o) h' a o) :
  Inv X pins σ (upd H a o) { s with heap:=h',toks:=t' }:=I.un (Un.laid k hp (I.hok.fresh hp)) (I.hok.laid k hp new)
theorem Inv.write {x e:Addr} {o:HO} {t':Nat} (I:Inv X pins σ H s) (mu:GX (H x)) (he:e=x∨H e=some (.own x)) (k:∀ b u,b≠e→s.heap.get? b=some u→h'.get? b=some u) (heo:∃ u,h'.get? e=some u)
  (new:cb X.prog X.w (upd H x o) h' x o):Inv X pins σ (upd H x o) { s with heap:=h',toks:=t' }:=I.un (Un.write mu he k heo) (I.hok.write mu he k heo new)
theorem Inv.vF {pins':List (Addr × Obj)} (I:Inv X pins σ H s) (h:∀ p∈pins',s.heap.get? p.1=some p.2∧H p.1=none∧p.1≠X.env.locals∧p.1 ∉ X.fs∧∀ v,p.2.data≠.cell v):Inv X pins' σ H s :=
 ⟨I.ok,I.os,I.bare,I.base,I.loc,I.cell,I.free,I.freeC,fun p hp=>(List.mem_append.mp hp).elim (fun z=>I.pin p (List.mem_append_left _ z)) (h p),I.hok,I.len⟩
theorem qX {N:List Str} (hN:N.Nodup) {i j:Nat} {x:Str} (a:N[i]?=some x) (b:N[j]?=some x):i=j:=by
 obtain ⟨h1,e1⟩:=List.getElem?_eq_some_iff.mp a
 obtain ⟨h2,e2⟩:=List.getElem?_eq_some_iff.mp b
 exact (List.getElem_inj hN).mp (e1.trans e2.symm)
theorem jE {M:Model} {A:Around} {E:Value→Shared→Prop} {i:Nat} {x:Str} {v:V} {u:Value} {Q:Unit→Shared→Prop} (I:Inv X pins σ H s) (hN:X.N.Nodup) (hi:X.N[i]?=some x) (hx:Loc X.env.scope x) (r:RelV v u)
  (h:∀ s',Inv X pins (σ.set i (some v)) H s'→(∃ a,Heap.SameBut a s.heap s'.heap∧(a=X.env.locals∨X.env.cells.lookup x=some a))→Q () s') (hf:X.fn x=true∨X.env.scope.names.lookup x=some .local:=by first | exact .inl rfl | exact .inr rfl | assumption):wpAny M A (storeName X.env x u) Q E s:=by
 obtain ⟨m,hn,hl⟩:=id I.loc
 have hcls:(X.env.scope.kind == .class || (X.env.scope.kind == .module && X.env.locals != X.env.globals))=false:=by rw [I.ok.kind];rfl
 have hiσ:i < σ.length:=by rw [I.len];exact (List.getElem?_eq_some_iff.mp hi).1
 have DL:=I.DL
 have tracked:∀ {a:Addr} {h':Heap},(∃ o,s.heap.get? a=some o∧H a=none)→Heap.SameBut a s.heap h'→iB X.prog X.w H h':=fun {a h'} ha hs b ob e=>by
  obtain ⟨_,_,hfree⟩:=ha
  refine (I.hok b ob e).me (fun c w' hc q=>(hs.2 c ?_).trans q) (fun _ q=>q) fun _ _ q=>q
  rintro rfl
  rcases hc with rfl | hc
  ·rw [hfree] at e;cases e
  ·rw [hfree] at hc;cases hc
 rcases hx with hk | hk
 ·refine wpAny_storeName_local hk hn (fun h' hn' hs=>?_) hcls
  obtain ⟨oL,_,_,hoL,_⟩:=id hn
  refine h _ ⟨I.ok,I.os,I.bare,⟨fun b o e n hb hx=>?_,fun b o e n hb hx=>?_,I.base.free,fun b o e hx=>?_,I.base.tups,I.base.frzs,I.base.tbls⟩,⟨_,hn',fun j y v' e1 e2 e3=>?_⟩,fun y c e=>?_,I.free,I.freeC,fun p hp=>?_,tracked ⟨oL,hoL,I.free⟩ hs,by simpa using I.len⟩ ⟨_,hs,.inl rfl⟩
  ·exact (hs.2 b (Nat.ne_of_lt (Nat.lt_of_lt_of_le (Heap.lt_size e) I.ok.above))).trans (I.base.keep b o e n hb hx)
  ·obtain ⟨sl,e1⟩:=I.base.slot b o e n hb hx
   exact ⟨sl,(hs.2 b (Nat.ne_of_lt (Nat.lt_of_lt_of_le (Heap.lt_size e) I.ok.above))).trans e1⟩
  ·obtain ⟨o',e1⟩:=I.base.there b o e hx
   exact ⟨o',(hs.2 b (Nat.ne_of_lt (Nat.lt_of_lt_of_le (Heap.lt_size e) I.ok.above))).trans e1⟩
  ·by_cases hj:j=i
   ·subst hj
    rw [hi] at e1;cases e1
    rw [List.getElem?_set_self hiσ] at e2
    cases e2
    exact ⟨u,r,.inl ⟨hk,by simp⟩⟩
   ·rw [List.getElem?_set_ne (Ne.symm hj)] at e2
    obtain ⟨u',r',q⟩:=hl j y v' e1 e2 e3
    refine ⟨u',r',?_⟩
    rcases q with ⟨k,e⟩ | ⟨k,c,e,z⟩
    ·refine .inl ⟨k,?_⟩
     have:y≠x:=fun e=>hj (qX hN e1 (e ▸ hi))
     simp [this,e]
    ·exact .inr ⟨k,c,e,z.sameBut hs (DL y c e)⟩
  ·obtain ⟨w',z⟩:=I.cell y c e
   exact ⟨w',z.sameBut hs (DL y c e)⟩
  ·obtain ⟨e,n,ne,nf,d⟩:=I.pin p hp
   exact ⟨(hs.2 p.1 ne).trans e,n,ne,nf,d⟩
 ·have hfn:X.fn x=true:=by
   rcases hf with z | z
   ·exact z
   ·rw [z] at hk;cases hk
  obtain ⟨c,hc⟩:=I.ok.has x (.inl hk)
  obtain ⟨w',z⟩:=I.cell x c hc
  refine wpAny_storeName_cell I.ok.kind hk hc z (fun h' hc' hs=>?_)
  obtain ⟨oc,hoc,hocd⟩:=id z
  refine h { s with heap:=h' } ⟨I.ok,I.os,I.bare,⟨fun b o e n hb hx=>?_,fun b o e n hb hx=>?_,I.base.free,fun b o e hx=>?_,I.base.tups,I.base.frzs,I.base.tbls⟩,⟨m,hn.sameBut hs (Ne.symm (DL x c hc)),fun j y v' e1 e2 e3=>?_⟩,fun y c' e=>?_,I.free,I.freeC,fun p hp=>?_,tracked ⟨oc,hoc,I.freeC x c hc⟩ hs,by simpa using I.len⟩ ⟨c,hs,.inr hc⟩
  ·exact (hs.2 b (Nat.ne_of_lt (Nat.lt_of_lt_of_le (Heap.lt_size e) (I.ok.cab x c hfn hc)))).trans (I.base.keep b o e n hb hx)
  ·obtain ⟨sl,e1⟩:=I.base.slot b o e n hb hx
   exact ⟨sl,(hs.2 b (Nat.ne_of_lt (Nat.lt_of_lt_of_le (Heap.lt_size e) (I.ok.cab x c hfn hc)))).trans e1⟩
  ·obtain ⟨o',e1⟩:=I.base.there b o e hx
   exact ⟨o',(hs.2 b (Nat.ne_of_lt (Nat.lt_of_lt_of_le (Heap.lt_size e) (I.ok.cab x c hfn hc)))).trans e1⟩
  ·by_cases hj:j=i
   ·subst hj
    rw [hi] at e1;cases e1
    rw [List.getElem?_set_self hiσ] at e2
    cases e2
    exact ⟨u,r,.inr ⟨.inl hk,c,hc,hc'⟩⟩
   ·rw [List.getElem?_set_ne (Ne.symm hj)] at e2
    obtain ⟨u',r',q⟩:=hl j y v' e1 e2 e3
    refine ⟨u',r',?_⟩
    rcases q with q | ⟨k,c',e,z'⟩
    ·exact .inl q
    ·refine .inr ⟨k,c',e,z'.sameBut hs ?_⟩
     rintro rfl
     exact hj (qX hN e1 (I.ok.inj _ _ _ e hc ▸ hi))
  ·by_cases hcc:c'=c
   ·subst hcc;exact ⟨_,hc'⟩
   ·obtain ⟨w2,z2⟩:=I.cell y c' e
    exact ⟨w2,z2.sameBut hs hcc⟩
  ·obtain ⟨e,n,ne,nf,d⟩:=I.pin p hp
   refine ⟨(hs.2 p.1 ?_).trans e,n,ne,nf,d⟩
   intro q
   rw [q,hoc] at e
   have q':oc=p.2:=Option.some.inj e
   exact d w' (by rw [← q'];exact hocd)
theorem dN {M:Model} {A:Around} {E:Value→Shared→Prop} {i:Nat} {x:Str} {v:V} {u:Value} {Q:Unit→Shared→Prop} (I:Inv X pins σ H s) (hN:X.N.Nodup) (hi:X.N[i]?=some x) (hx:Loc X.env.scope x) (r:RelV v u)
  (h:∀ s',Inv X pins (σ.set i (some v)) H s'→Q () s') (hf:X.fn x=true∨X.env.scope.names.lookup x=some .local:=by first | exact .inl rfl | exact .inr rfl | assumption):wpAny M A (storeName X.env x u) Q E s :=
 jE I hN hi hx r (fun s' I' _=>h s' I') hf
theorem Inv.Fi {s':Shared} {ch:List Addr} (I:Inv X pins σ H s) (ho:s'.os=s.os) (u:Un (gj X.stack) ch H H' s.heap s'.heap) (hok:iB X.prog X.w H' s'.heap) (hg:AllBare s'.gens)
  (hch:∀ b∈ch,(b∈X.ex∨X.s₀.heap.objs.size≤b)∧b≠X.env.locals∧(∀ x c,X.env.cells.lookup x=some c→c≠b)∧∀ p∈X.pn ++ pins,p.1≠b):Inv X pins σ H' s':=by
 obtain ⟨h',g',d',t',o'⟩:=s'
 have e:o'=s.os:=ho
 subst e
 exact I.call (g':=g') (t':=t') (d':=d') u hok hg hch
end
abbrev XK:=Value→Option Addr→Hp→Prop
abbrev St:=List (Option V)
abbrev VK:=V→Hp→Prop
abbrev TE:=St→Hp→VK→Prop
abbrev TT:=St→Hp→(Bool→Hp→Prop)→Prop
abbrev TA:=St→Hp→(List V→Hp→Prop)→Prop
structure Ends where
 nx:St→Hp→Prop
 rt:VK
 bk:St→Hp→Prop:=fun _ _=>False
 ct:St→Hp→Prop:=fun _ _=>False
abbrev TS:=Ends→St→Hp→Prop
def EP (X:Cx) (pins:List (Addr × Obj)) (σ:St) (Q:VK) (u:Value) (s':Shared):Prop:=∃ v H',Inv X pins σ H' s'∧RelV v u∧Q v H'
def TP (X:Cx) (pins:List (Addr × Obj)) (σ:St) (Q:Bool→Hp→Prop) (b:Bool) (s':Shared):Prop:=∃ H',Inv X pins σ H' s'∧Q b H'
def AP (X:Cx) (pins:List (Addr × Obj)) (σ:St) (Q:List V→Hp→Prop) (us:List Value) (s':Shared):Prop:=∃ vs H',Inv X pins σ H' s'∧Vals vs us∧Q vs H'
def SP (X:Cx) (pins:List (Addr × Obj)) (D:Ends) (f:Flow) (s':Shared):Prop :=
 match f with
 | .next=>∃ σ' H',Inv X pins σ' H' s'∧D.nx σ' H'
 | .brk=>∃ σ' H',Inv X pins σ' H' s'∧D.bk σ' H'
 | .cont=>∃ σ' H',Inv X pins σ' H' s'∧D.ct σ' H'
 | .ret u=>∃ v σ' H',Inv X pins σ' H' s'∧RelV v u∧D.rt v H'
def PE (X:Cx) (e:Expr) (t:TE):Prop :=
 ∀ (pins:List (Addr × Obj)) (s:Shared) (σ:St) (H:Hp) (Q:VK),Inv X pins σ H s→t σ H Q→wpAny (model X.prog X.w) X.A (eval e X.env) (EP X pins σ Q) X.xe s
def PT (X:Cx) (e:Expr) (t:TT):Prop :=
 ∀ (pins:List (Addr × Obj)) (s:Shared) (σ:St) (H:Hp) (Q:Bool→Hp→Prop),Inv X pins σ H s→t σ H Q→wpAny (model X.prog X.w) X.A (isTrue e X.env (eval e X.env)) (TP X pins σ Q) X.xe s
def PW (X:Cx) (e:Expr) (t:TT):Prop :=
 ∀ (whole:Sem Value) (pins:List (Addr × Obj)) (s:Shared) (σ:St) (H:Hp) (Q:Bool→Hp→Prop),Inv X pins σ H s→t σ H Q→wpAny (model X.prog X.w) X.A (isTrue e X.env whole) (TP X pins σ Q) X.xe s
theorem PW.pt {X:Cx} {e:Expr} {t:TT} (h:PW X e t):PT X e t:=h _
def PA (X:Cx) (es:List Expr) (t:TA):Prop :=
 ∀ (pos:Pos) (pins:List (Addr × Obj)) (s:Shared) (σ:St) (H:Hp) (Q:List V→Hp→Prop),Inv X pins σ H s→t σ H Q→wpAny (model X.prog X.w) X.A (spliced (backTo pos (starEach es X.env))) (AP X pins σ Q) X.xe s
def PS (X:Cx) (st:Stmt) (t:TS):Prop :=
 ∀ (pins:List (Addr × Obj)) (s:Shared) (σ:St) (H:Hp) (D:Ends),Inv X pins σ H s→t D σ H→wpAny (model X.prog X.w) X.A (exec st X.env) (SP X pins D) X.xe s
def m9 (X:Cx) (st:List Stmt) (t:TS):Prop :=
 ∀ (pins:List (Addr × Obj)) (s:Shared) (σ:St) (H:Hp) (D:Ends),Inv X pins σ H s→t D σ H→wpAny (model X.prog X.w) X.A (execs st X.env) (SP X pins D) X.xe s
theorem bx {α:Type} {t:Sem α} {Q Q':α→Shared→Prop} {M:Model} {A:Around} {E:Value→Shared→Prop} {s:Shared} (h:wpAny M A t Q E s) (hQ:∀ a s,Q a s→Q' a s):wpAny M A t Q' E s:=wpAny_mono h hQ fun _ _ x=>x
end L2
namespace L2
open PySem PySem.Spec PyProof.Rows
section
variable {X:Cx}
def vT (i:Nat):TE:=fun σ H Q=>∃ v,σ[i]?=some (some v)∧Q v H
def tC (v:V):TE:=fun _ H Q=>Q v H
theorem sE {i:Nat} {x:Str} {pos:Pos} (hN:X.N[i]?=some x) (hv:qW X.env.scope x) (hd:(x == ("__debug__":Str))=false:=by decide) (hcd:(x == ("__classdict__":Str))=false:=by decide):PE X (.Name x pos) (vT i):=by
 intro pins s σ H Q I h
 obtain ⟨v,e,h⟩:=h
 obtain ⟨m,hn,hl⟩:=I.loc
 obtain ⟨u,r,l⟩:=hl i x v hN e hv
 have fin:EP X pins σ Q u s:=⟨v,H,I,r,h⟩
 rcases l with ⟨hk,hm⟩ | ⟨hk,c,hc,hcell⟩
 ·exact wpAny_Name (wpAny_loadName_local I.ok.kind hk hn hm fin) hd
 ·rcases hk with hk | hk
  ·exact wpAny_Name (wpAny_loadName_cell I.ok.kind hk hc hcell fin) hd
  ·exact wpAny_Name (wpAny_loadName_free I.ok.kind hk hc hcell fin hcd) hd
theorem aD {i j pos}:PE X (.Constant (.int i) j pos) (tC (.int i)):=fun _ _ _ H _ I h=>wpAny_Constant_int ⟨.int i,H,I.tok _,⟨_,rfl⟩,h⟩
theorem rh {b j pos}:PE X (.Constant (.bool b) j pos) (tC (.bl b)):=fun _ _ _ H _ I h=>Constant_bool ⟨.bl b,H,I,rfl,h⟩
theorem sF {j pos}:PE X (.Constant .none j pos) (tC .non):=fun _ _ _ H _ I h=>Constant_none ⟨.non,H,I,rfl,h⟩
theorem jT {x j pos}:PE X (.Constant (.str x) j pos) (tC (.str x)):=fun _ _ _ H _ I h=>Calls.Constant_str ⟨.str x,H,I.tok _,⟨_,rfl⟩,h⟩
def Gl (X:Cx) (x:Str):Prop:=X.env.kindOf x=some .globalImplicit
theorem jA {E:Value→Shared→Prop} {pins:List (Addr × Obj)} {s:Shared} {σ:St} {H:Hp} {x:Str} {u:Value} {pos:Pos} {Q:Value→Shared→Prop} (I:Inv X pins σ H s) (hg:Gl X x) (hm:X.mg x=some u) (h:Q u s)
  (hd:(x == ("__debug__":Str))=false:=by decide):wpAny (model X.prog X.w) X.A (eval (.Name x pos) X.env) Q E s :=
 Calls.Name_function_global I.ok.kind hg (Calls.loadGlobal_global (by rw [I.ok.glob];exact I.mod.glob.keeps I.bk) hm h) hd
theorem j1 {E:Value→Shared→Prop} {pins:List (Addr × Obj)} {s:Shared} {σ:St} {H:Hp} {x:Str} {u:Value} {pos:Pos} {Q:Value→Shared→Prop} (I:Inv X pins σ H s) (hg:Gl X x) (hm:X.mg x=none) (hv:bootBuiltins x=some u) (h:Q u s)
  (hn:x≠"__name__":=by decide) (hd:(x == ("__debug__":Str))=false:=by decide):wpAny (model X.prog X.w) X.A (eval (.Name x pos) X.env) Q E s:=by
 obtain ⟨mb,h1,h2⟩:=I.mod.blt
 exact Calls.Name_function_global I.ok.kind hg (Calls.loadGlobal_builtin (by rw [I.ok.glob];exact I.mod.glob.keeps I.bk) hm (by rw [I.ok.blt];exact h1.keeps I.bk) ((h2 x hn).trans hv) h) hd
theorem k9 {x:Str} {v:V} {u:Value} {pos:Pos} (hg:Gl X x) (hm:X.mg x=some u) (r:RelV v u) (hd:(x == ("__debug__":Str))=false:=by decide):PE X (.Name x pos) (tC v) :=
 fun _ _ _ H _ I h=>jA I hg hm ⟨v,H,I,r,h⟩ hd
theorem pj {x:Str} {v:V} {u:Value} {pos:Pos} (hg:Gl X x) (hm:X.mg x=none) (hv:bootBuiltins x=some u) (r:RelV v u) (hn:x≠"__name__":=by decide) (hd:(x == ("__debug__":Str))=false:=by decide):PE X (.Name x pos) (tC v) :=
 fun _ _ _ H _ I h=>j1 I hg hm hv ⟨v,H,I,r,h⟩ hn hd
variable {a b:Expr} {ta tb:TE} {pos:Pos}
def tB (t:TE):TT:=fun σ H Q=>t σ H fun x H1=>∃ c,x=.bl c∧Q c H1
theorem tF {e:Expr} {t:TE} (h:PE X e t) (he:∀ whole,isTrue e X.env whole=(do let v ← whole;standAt e.pos;holding [v] (truthy v)):=by intro _;rfl):PT X e (tB t):=by
 intro pins s σ H Q I hw
 refine isTrue_plain (bx (h pins s σ H _ I hw) fun v s1 ⟨x,H1,I1,r1,q1⟩=>?_) (he _)
 obtain ⟨d,rfl,q⟩:=q1
 cases r1
 exact wpAny_truthy_bool ⟨H1,I1,q⟩
variable {tA tB':TT} {rest:List Expr}
def yK (t u:TT):TT:=fun σ H Q=>t σ H fun c H1=>if c=true then u σ H1 Q else Q false H1
def ET (t u:TT):TT:=fun σ H Q=>t σ H fun c H1=>if c=true then Q true H1 else u σ H1 Q
def BU (t:TT):TT:=fun σ H Q=>t σ H fun c H1=>Q (!c) H1
theorem kI (ha:PT X a tA):PW X (.BoolOp .And [a] pos) tA:=by
 intro wh pins s σ H Q I h
 refine isTrue_and (bx (ha pins s σ H Q I h) fun c s1 e=>?_)
 cases c with
 | true=>exact isTrue_and_nil e
 | false=>exact e
theorem pK (ha:PT X a tA):PW X (.BoolOp .Or [a] pos) tA:=by
 intro wh pins s σ H Q I h
 refine isTrue_or (bx (ha pins s σ H Q I h) fun c s1 e=>?_)
 cases c with
 | false=>exact isTrue_or_nil e
 | true=>exact e
theorem oz (ha:PT X a tA) (hb:PW X (.BoolOp .And (b :: rest) pos) tB'):PW X (.BoolOp .And (a :: b :: rest) pos) (yK tA tB'):=by
 intro wh pins s σ H Q I h
 refine isTrue_and (bx (ha pins s σ H _ I h) fun c s1 ⟨H1,I1,q1⟩=>?_)
 cases c with
 | true=>exact hb wh pins s1 σ H1 Q I1 q1
 | false=>exact ⟨H1,I1,q1⟩
theorem vI (ha:PT X a tA) (hb:PW X (.BoolOp .Or (b :: rest) pos) tB'):PW X (.BoolOp .Or (a :: b :: rest) pos) (ET tA tB'):=by
 intro wh pins s σ H Q I h
 refine isTrue_or (bx (ha pins s σ H _ I h) fun c s1 ⟨H1,I1,q1⟩=>?_)
 cases c with
 | true=>exact ⟨H1,I1,q1⟩
 | false=>exact hb wh pins s1 σ H1 Q I1 q1
theorem sZ (ha:PT X a tA):PT X (.UnaryOp .Not a pos) (BU tA):=by
 intro pins s σ H Q I h
 exact isTrue_not (ha pins s σ H (fun c H1=>Q (!c) H1) I h)
def uK (ta tb:TE):TE:=fun σ H Q=>ta σ H fun x H1=>∃ c,x=.bl c∧if c=true then tb σ H1 Q else Q (.bl false) H1
def AY (ta tb:TE):TE:=fun σ H Q=>ta σ H fun x H1=>∃ c,x=.bl c∧if c=true then Q (.bl true) H1 else tb σ H1 Q
def uS (ta:TE):TE:=fun σ H Q=>ta σ H fun x H1=>∃ c,x=.bl c∧Q (.bl (!c)) H1
theorem se {op} {t:TE} (h:PE X a t):PE X (.BoolOp op [a] pos) t:=fun pins s σ H Q I hw=>BoolOp_one (h pins s σ H Q I hw)
theorem rZ (ha:PE X a ta) (hb:PE X (.BoolOp .And (b :: rest) pos) tb):PE X (.BoolOp .And (a :: b :: rest) pos) (uK ta tb):=by
 intro pins s σ H Q I h
 refine BoolOp_and (bx (ha pins s σ H _ I h) fun v s1 ⟨x,H1,I1,r1,q1⟩=>?_)
 obtain ⟨c,rfl,q1⟩:=q1
 cases r1
 refine wpAny_truthy_bool ?_
 cases c with
 | true=>exact hb pins s1 σ H1 Q I1 q1
 | false=>exact ⟨.bl false,H1,I1,rfl,q1⟩
theorem xD (ha:PE X a ta) (hb:PE X (.BoolOp .Or (b :: rest) pos) tb):PE X (.BoolOp .Or (a :: b :: rest) pos) (AY ta tb):=by
 intro pins s σ H Q I h
 refine BoolOp_or (bx (ha pins s σ H _ I h) fun v s1 ⟨x,H1,I1,r1,q1⟩=>?_)
 obtain ⟨c,rfl,q1⟩:=q1
 cases r1
 refine wpAny_truthy_bool ?_
 cases c with
 | false=>exact hb pins s1 σ H1 Q I1 q1
 | true=>exact ⟨.bl true,H1,I1,rfl,q1⟩
theorem sD (ha:PE X a ta):PE X (.UnaryOp .Not a pos) (uS ta):=by
 intro pins s σ H Q I h
 refine UnaryOp_ (bx (ha pins s σ H _ I h) fun v s1 ⟨x,H1,I1,r1,q1⟩=>?_)
 obtain ⟨c,rfl,q1⟩:=q1
 cases r1
 exact not_of (wpAny_truthy_bool ⟨.bl (!c),H1,I1,rfl,q1⟩)
def Hc (t:TT) (ta tb:TE):TE:=fun σ H Q=>t σ H fun c H1=>if c=true then ta σ H1 Q else tb σ H1 Q
theorem l6 {c:Expr} (hc:PT X c tA) (ha:PE X a ta) (hb:PE X b tb):PE X (.IfExp c a b pos) (Hc tA ta tb):=by
 intro pins s σ H Q I h
 refine wpAny_IfExp (bx (hc pins s σ H _ I h) fun d s1 ⟨H1,I1,q1⟩=>?_)
 cases d with
 | true=>exact ha pins s1 σ H1 Q I1 q1
 | false=>exact hb pins s1 σ H1 Q I1 q1
end
end L2
namespace L2
open PySem PySem.Spec PyProof.Rows
def cR (K:PySem.W.Frag) (H:Hp) (a:Addr) (xs:List V):Prop :=
 Rd H a (.lst xs) ∨
  ∃ (o:Obj) (its:Array Value) (n:Nat),K.lookup a=some o∧o.cls=.type "list"∧o.dict=none∧o.data=.seq its n∧its.size≤sizeLine∧Vals xs its.toList
def fz (K:PySem.W.Frag) (H:Hp) (a:Addr) (xs:List V):Prop :=
 Rd H a (.tup xs) ∨
  ∃ (o:Obj) (its:Array Value) (n:Nat),K.lookup a=some o∧o.cls=.type "tuple"∧o.data=.seq its n∧its.size≤sizeLine∧Vals xs its.toList
def Ht:Value→Option V
 | .none=>some .non
 | .bool b=>some (.bl b)
 | .int i _=>some (.int i)
 | .str x _=>some (.str x)
 | .bytes b _=>some (.byt b)
 | .float b _=>some (.flt b)
 | .ref a=>some (.ref a)
 | .type n=>some (.ty n)
 | _=>none
theorem RelV.abs {x:V} {u:Value} (r:RelV x u):Ht u=some x:=by
 cases x with
 | non=>cases r;rfl
 | bl _=>cases r;rfl
 | int _=>obtain ⟨t,rfl⟩:=r;rfl
 | str _=>obtain ⟨t,rfl⟩:=r;rfl
 | byt _=>obtain ⟨t,rfl⟩:=r;rfl
 | flt _=>obtain ⟨t,rfl⟩:=r;rfl
 | ref _=>cases r;rfl
 | ty _=>cases r;rfl
theorem RelV.inj {x y:V} {u:Value} (r:RelV x u) (q:RelV y u):x=y:=Option.some.inj (r.abs.symm.trans q.abs)
theorem Vals.inj:∀ {xs ys:List V} {us:List Value},Vals xs us→Vals ys us→xs=ys
 | _,_,_,.nil,.nil=>rfl
 | _,_,_,.cons r t,.cons r' t'=>by rw [r.inj r',Vals.inj t t']
section
variable {X:Cx} {pins:List (Addr × Obj)} {σ:St} {H:Hp} {s:Shared} {a:Addr} {xs ys:List V}
theorem cR.of {K:PySem.W.Frag} (h:H a=some (.lst xs)):cR K H a xs:=.inl (.inl h)
theorem fz.of {K:PySem.W.Frag} (h:H a=some (.tup xs)):fz K H a xs:=.inl (.inl h)
theorem Inv.list (I:Inv X pins σ H s) (h:cR X.K H a xs):∃ its:List Value,Vals xs its∧PlainL s.heap a its.toArray∧xs.length≤sizeLine:=by
 rcases h with h | ⟨o,its,n,hk,hc,hd,hs,hz,r⟩
 ·obtain ⟨z,its,n,r,e⟩:=h.ok I.hok
  exact ⟨its,r,⟨_,n,e,rfl,rfl,rfl⟩,z⟩
 ·refine ⟨its.toList,r,⟨o,n,I.i7 a o hk,hc,hd,by simpa using hs⟩,?_⟩
  have e:=r.length
  simp only [Array.length_toList] at e
  omega
theorem Inv.tuple (I:Inv X pins σ H s) (h:fz X.K H a xs):∃ its:List Value,Vals xs its∧IsTup s.heap a its.toArray∧xs.length≤sizeLine:=by
 rcases h with h | ⟨o,its,n,hk,hc,hs,hz,r⟩
 ·obtain ⟨z,its,r,p⟩:=h.ok I.hok
  exact ⟨its,r,p,z⟩
 ·refine ⟨its.toList,r,⟨o,I.i7 a o hk,hc,n,by simpa using hs⟩,?_⟩
  have e:=r.length
  simp only [Array.length_toList] at e
  omega
theorem Inv.lV (I:Inv X pins σ H s) (h:cR X.K H a xs) (h':cR X.K H a ys):xs=ys:=by
 obtain ⟨its,r,⟨o,n,e,_,_,d⟩,_⟩:=I.list h
 obtain ⟨its',r',⟨o',n',e',_,_,d'⟩,_⟩:=I.list h'
 rw [e] at e';cases e'
 rw [d] at d'
 injection d' with d1 _
 have:its=its':=by simpa using congrArg Array.toList d1
 subst this
 exact r.inj r'
theorem Inv.wZ (I:Inv X pins σ H s) (h:fz X.K H a xs) (h':fz X.K H a ys):xs=ys:=by
 obtain ⟨its,r,⟨o,e,_,n,d⟩,_⟩:=I.tuple h
 obtain ⟨its',r',⟨o',e',_,n',d'⟩,_⟩:=I.tuple h'
 rw [e] at e';cases e'
 rw [d] at d'
 injection d' with d1 _
 have:its=its':=by simpa using congrArg Array.toList d1
 subst this
 exact r.inj r'
end
abbrev Cx.jW (X:Cx) (E:Value→Shared→Prop):Cx:={ X with xe:=E }
abbrev Cx.yS (X:Cx):Cx:=X.jW fun _ _=>False
theorem Cx.Ok.jW {X:Cx} (ok:X.Ok) (E:Value→Shared→Prop):(X.jW E).Ok :=
 ⟨ok.mod,ok.kind,ok.glob,ok.blt,ok.above,ok.inj,ok.has,ok.cab,ok.hd,ok.frames,ok.stk,ok.exf,ok.bs,ok.bsz,ok.noex,ok.exfs,ok.ju,ok.frf⟩
theorem Cx.Ok.fv {X:Cx} {E:Value→Shared→Prop} (ok:(X.jW E).Ok):X.Ok :=
 ⟨ok.mod,ok.kind,ok.glob,ok.blt,ok.above,ok.inj,ok.has,ok.cab,ok.hd,ok.frames,ok.stk,ok.exf,ok.bs,ok.bsz,ok.noex,ok.exfs,ok.ju,ok.frf⟩
section
variable {X:Cx} {pins:List (Addr × Obj)} {σ:St} {H:Hp} {s:Shared} {E:Value→Shared→Prop}
theorem Inv.jW (I:Inv X pins σ H s) (E:Value→Shared→Prop):Inv (X.jW E) pins σ H s:=⟨I.ok.jW E,I.os,I.bare,I.base,I.loc,I.cell,I.free,I.freeC,I.pin,I.hok,I.len⟩
theorem Inv.fv (I:Inv (X.jW E) pins σ H s):Inv X pins σ H s:=⟨I.ok.fv,I.os,I.bare,I.base,I.loc,I.cell,I.free,I.freeC,I.pin,I.hok,I.len⟩
theorem SP.fv {D:Ends} {f:Flow} {s':Shared} (h:SP (X.jW E) pins D f s'):SP X pins D f s':=by
 cases f with
 | next=>obtain ⟨σ',H',I,q⟩:=h;exact ⟨σ',H',I.fv,q⟩
 | brk=>obtain ⟨σ',H',I,q⟩:=h;exact ⟨σ',H',I.fv,q⟩
 | cont=>obtain ⟨σ',H',I,q⟩:=h;exact ⟨σ',H',I.fv,q⟩
 | ret u=>obtain ⟨v,σ',H',I,r,q⟩:=h;exact ⟨v,σ',H',I.fv,r,q⟩
theorem PE.yS {e:Expr} {t:TE} (h:PE X.yS e t):PE X e t:=fun pins s σ H Q I hw =>
 wpAny_mono (h pins s σ H Q (I.jW _) hw) (fun _ _ ⟨v,H',I',r,q⟩=>⟨v,H',I'.fv,r,q⟩) fun _ _ z=>False.elim z
theorem PT.yS {e:Expr} {t:TT} (h:PT X.yS e t):PT X e t:=fun pins s σ H Q I hw =>
 wpAny_mono (h pins s σ H Q (I.jW _) hw) (fun _ _ ⟨H',I',q⟩=>⟨H',I'.fv,q⟩) fun _ _ z=>False.elim z
theorem m9.yS {st:List Stmt} {t:TS} (h:m9 X.yS st t):m9 X st t:=fun pins s σ H D I hw =>
 wpAny_mono (h pins s σ H D (I.jW _) hw) (fun _ _ q=>q.fv) fun _ _ z=>False.elim z
end
section
variable {X:Cx} {st:Stmt} {rest:List Stmt} {t u:TS} {e:Expr} {te:TE} {pos:Pos}
def uL:TS:=fun D σ H=>D.nx σ H
def By (t u:TS):TS:=fun D σ H=>t { D with nx:=u D } σ H
theorem er:m9 X [] uL:=fun _ _ σ H _ I h=>wpAny_execs_nil ⟨σ,H,I,h⟩
theorem aM (h1:PS X st t) (h2:m9 X rest u):m9 X (st :: rest) (By t u):=by
 intro pins s σ H D I h
 refine wpAny_execs_cons (bx (h1 pins s σ H { D with nx:=u D } I h) fun f s1 q=>?_)
 cases f with
 | next =>
  obtain ⟨σ',H',I',q⟩:=q
  exact h2 pins s1 σ' H' D I' q
 | ret v=>exact q
 | brk=>exact q
 | cont=>exact q
theorem bc (h1:PS X st t):m9 X [st] t:=by
 intro pins s σ H D I h
 refine wpAny_execs_cons (bx (h1 pins s σ H D I h) fun f s1 q=>?_)
 cases f with
 | next=>exact wpAny_execs_nil q
 | ret v=>exact q
 | brk=>exact q
 | cont=>exact q
def EA:TS:=fun D σ H=>D.bk σ H
def Gs:TS:=fun D σ H=>D.ct σ H
theorem Inv.quiet {pins:List (Addr × Obj)} {σ:St} {H:Hp} {s:Shared} (I:Inv X pins σ H s):interactive X.env=false:=by simp [interactive,I.ok.kind]
def vD (te:TE):TS:=fun D σ H=>te σ H fun _ H1=>D.nx σ H1
theorem gL (he:PE X e te) (hs:swapsWith e none pos.line X.env=pure false:=by rfl):PS X (.Expr e pos) (vD te):=by
 intro pins s σ H D I h
 exact wpAny_Expr_any (bx (he pins s σ H _ I h) fun v s1 ⟨x,H1,I1,r1,q1⟩=>⟨σ,H1,I1,q1⟩) I.quiet hs
def BB (te:TE):TS:=fun D σ H=>te σ H D.rt
theorem cM (he:PE X e te):PS X (.Return (some e) pos) (BB te):=by
 intro pins s σ H D I h
 exact wpAny_Return_some (bx (he pins s σ H _ I h) fun v s1 ⟨x,H1,I1,r1,q1⟩=>⟨x,σ,H1,I1,r1,q1⟩)
def ui:TS:=fun D _ H=>D.rt .non H
theorem oS:PS X (.Return none pos) ui:=fun _ _ σ H _ I h=>wpAny_Return_none ⟨.non,σ,H,I,rfl,h⟩
def AO (c:TT) (t u:TS):TS:=fun D σ H=>c σ H fun b H1=>if b=true then t D σ H1 else u D σ H1
theorem i4 {c:Expr} {a b:List Stmt} {tc:TT} (hc:PT X c tc) (ha:m9 X a t) (hb:m9 X b u):PS X (.If c a b pos) (AO tc t u):=by
 intro pins s σ H D I h
 refine wpAny_If (bx (hc pins s σ H _ I h) fun d s1 ⟨H1,I1,q1⟩=>?_)
 cases d with
 | true=>exact ha pins s1 σ H1 D I1 q1
 | false=>exact hb pins s1 σ H1 D I1 q1
def tE:TS:=fun _ _ _=>False
theorem jC {sts:List Stmt}:m9 X sts tE:=fun _ _ _ _ _ _ h=>h.elim
end
abbrev TG:=V→St→Hp→(St→Hp→Prop)→Prop
abbrev lH:=List V→St→Hp→(St→Hp→Prop)→Prop
def PG (X:Cx) (target:Expr) (t:TG):Prop :=
 ∀ (pins:List (Addr × Obj)) (s:Shared) (σ:St) (H:Hp) (v:V) (u:Value) (Q:St→Hp→Prop),Inv X pins σ H s→RelV v u→t v σ H Q →
  wpAny (model X.prog X.w) X.A (assign target X.env u) (fun _ s'=>∃ σ' H',Inv X pins σ' H' s'∧Q σ' H') X.xe s
def CD (X:Cx) (ts:List Expr) (t:lH):Prop :=
 ∀ (pins:List (Addr × Obj)) (s:Shared) (σ:St) (H:Hp) (vs:List V) (us:List Value) (Q:St→Hp→Prop),Inv X pins σ H s→Vals vs us→t vs σ H Q →
  wpAny (model X.prog X.w) X.A (assignInOrder ((assignEach ts X.env).map (·.2)) us) (fun _ s'=>∃ σ' H',Inv X pins σ' H' s'∧Q σ' H') X.xe s
abbrev g_:=V→V→V→Hp→(Hp→Prop)→Prop
def g8 (X:Cx) (t:g_):Prop :=
 ∀ (pins:List (Addr × Obj)) (s:Shared) (σ:St) (H:Hp) (o i v:V) (ov iv u:Value) (Q:Hp→Prop),Inv X pins σ H s→RelV o ov→RelV i iv→RelV v u→t o i v H Q →
  wpAny (model X.prog X.w) X.A (setItem ov iv u) (fun _ s'=>∃ H',Inv X pins σ H' s'∧Q H') X.xe s
abbrev G1:=V→V→Hp→VK→Prop
def Ie (X:Cx) (op:Operator) (t:G1):Prop :=
 ∀ (pins:List (Addr × Obj)) (s:Shared) (σ:St) (H:Hp) (x y:V) (v u:Value) (Q:VK),Inv X pins σ H s→RelV x v→RelV y u→t x y H Q →
  wpAny (model X.prog X.w) X.A (inplaceOp op v u) (EP X pins σ Q) X.xe s
section
variable {X:Cx} {pos:Pos}
def lJ (i:Nat):TG:=fun v σ H Q=>Q (σ.set i (some v)) H
theorem gY {i:Nat} {x:Str} (hN:X.N.Nodup) (hi:X.N[i]?=some x) (hx:Loc X.env.scope x) (hf:X.fn x=true∨X.env.scope.names.lookup x=some .local:=by first | exact .inl rfl | exact .inr rfl | assumption):PG X (.Name x pos) (lJ i):=by
 intro pins s σ H v u Q I r h
 exact wpAny_assign_Name (dN I hN hi hx r (fun s' I'=>⟨_,H,I',h⟩) hf)
def Am:lH:=fun vs σ H Q=>vs=[]∧Q σ H
def uC (t:TG) (u:lH):lH:=fun vs σ H Q=>∃ v r,vs=v :: r∧t v σ H fun σ' H'=>u r σ' H' Q
theorem oB:CD X [] Am:=by
 intro pins s σ H vs us Q I r h
 obtain ⟨e,h⟩:=h
 subst e
 cases r
 exact assignInOrder_nil ⟨σ,H,I,h⟩
theorem lD {e:Expr} {es:List Expr} {t:TG} {u:lH} (h1:PG X e t) (h2:CD X es u)
  (hs:(assignEach (e :: es) X.env).map (·.2)=assign e X.env :: (assignEach es X.env).map (·.2):=by rfl):CD X (e :: es) (uC t u):=by
 intro pins s σ H vs us Q I r h
 obtain ⟨v,vr,e1,h⟩:=h
 subst e1
 cases r with
 | cons r rr =>
  rw [hs]
  refine assignInOrder_cons (bx (h1 pins s σ H _ _ _ I r h) fun _ s1 ⟨σ1,H1,I1,q1⟩=>?_)
  exact h2 pins s1 σ1 H1 _ _ Q I1 rr q1
def BJ (K:PySem.W.Frag) (n:Nat) (t:lH):TG:=fun v σ H Q=>∃ a xs,v=.ref a∧fz K H a xs∧xs.length=n∧t xs σ H Q
theorem sM {es:List Expr} {k:Nat} {t:lH} {n:Nat} (hc:X.calm=true) (h:CD X es t)
  (hn:(assignEach es X.env).length=n:=by rfl) (hst:(assignEach es X.env).findIdx? (·.1)=none:=by rfl):PG X (.Tuple es k pos) (BJ X.K n t):=by
 intro pins s σ H v u Q I r hw
 obtain ⟨a,xs,e1,hq,hl,hw⟩:=hw
 subst e1
 cases r
 obtain ⟨its,rv,ht,hz⟩:=I.tuple hq
 refine assign_Tuple_tuple (I.ok.hd hc) ht (by simp [hn,← hl,rv.length]) hst fun h' hx=>?_
 have I1:Inv X pins σ H { s with heap:=h' }:=I.kept (t':=s.toks) fun b o e=>hx b o (Nat.ne_of_lt (Heap.lt_size e)) e
 exact h pins _ σ H xs _ Q I1 (by simpa using rv) hw
def Aw (to ti:TE) (t:g_):TG:=fun v σ H Q=>to σ H fun o H1=>ti σ H1 fun i H2=>t o i v H2 fun H3=>Q σ H3
theorem pe {o i:Expr} {to ti:TE} {t:g_} (ho:PE X o to) (hi:PE X i ti) (hs:g8 X t)
  (ha:∀ v,assign (.Subscript o i pos) X.env v=(do
   let ov ← holding [v] (eval o X.env)
   let iv ← holding [v,ov] (eval i X.env)
   standAt pos
   holding [v,ov,iv] (setItem ov iv v)
   release [v,ov,iv] []):=by intro _;rfl):PG X (.Subscript o i pos) (Aw to ti t):=by
 intro pins s σ H v u Q I r h
 rw [ha]
 refine wpAny_bind (wpAny_holding (bx (ho pins s σ H _ I h) fun ov s1 ⟨x,H1,I1,r1,q1⟩=>?_))
 refine wpAny_bind (wpAny_holding (bx (hi pins s1 σ H1 _ I1 q1) fun iv s2 ⟨y,H2,I2,r2,q2⟩=>?_))
 refine wpAny_bind (wpAny_standAt (wpAny_bind (wpAny_holding (bx (hs pins s2 σ H2 x y v ov iv u _ I2 r1 r2 r q2) fun _ s3 ⟨H3,I3,q3⟩=>?_))))
 exact wpAny_release ⟨σ,H3,I3,q3⟩
def sR (te:TE) (g:TG):TS:=fun D σ H=>te σ H fun x H1=>g x σ H1 D.nx
theorem oP {tg e:Expr} {te:TE} {g:TG} (he:PE X e te) (hg:PG X tg g) (hs:swapsWithSole [tg] e pos.line X.env=pure false:=by rfl) (hw:swappedStores [tg] e X.env=pure none:=by rfl)
  (h1:(assignEach [tg] X.env).map (·.2)=[assign tg X.env]:=by rfl):PS X (.Assign [tg] e pos) (sR te g):=by
 intro pins s σ H D I h
 refine wpAny_Assign_stores (bx (he pins s σ H _ I h) fun v s1 ⟨x,H1,I1,r1,q1⟩=>?_) hs hw
 rw [h1]
 exact bx (hg pins s1 σ H1 x v _ I1 r1 q1) fun _ s2 q=>q
theorem bV {i:Nat} {x:Str} {e:Expr} {te:TE} {pos':Pos} (hN:X.N.Nodup) (hi:X.N[i]?=some x) (hx:Loc X.env.scope x) (he:PE X e te) (hs:swapsWith e (some (.Name x pos')) pos.line X.env=pure false:=by rfl) (hf:X.fn x=true∨X.env.scope.names.lookup x=some .local:=by first | exact .inl rfl | exact .inr rfl | assumption) :
  PS X (.Assign [.Name x pos'] e pos) (sR te (lJ i)):=by
 intro pins s σ H D I h
 refine wpAny_Assign_Name (bx (he pins s σ H _ I h) fun v s1 ⟨y,H1,I1,r1,q1⟩=>?_) hs
 exact dN I1 hN hi hx r1 (fun s2 I2=>⟨_,H1,I2,q1⟩) hf
def Bh (i j:Nat) (ta:TA):TS:=fun D σ H=>ta σ H fun vs H1=>∃ v w,vs=[v,w]∧D.nx ((σ.set i (some v)).set j (some w)) H1
theorem j4 {i j:Nat} {x y:Str} {a b:Expr} {ta:TA} {px py pt:Pos} {kt k2 pt2} (hc:X.calm=true) (hN:X.N.Nodup) (hi:X.N[i]?=some x) (hj:X.N[j]?=some y) (hij:i≠j)
  (hx:X.env.scope.names.lookup x=some .local) (hy:X.env.scope.names.lookup y=some .local) (ha:PA X [a,b] ta)
  (hw:swappedStores [.Tuple [.Name x px,.Name y py] kt pt] (.Tuple [a,b] k2 pt2) X.env=pure (some [x,y]))
  (hs:swapsWithSole [.Tuple [.Name x px,.Name y py] kt pt] (.Tuple [a,b] k2 pt2) pos.line X.env=pure false:=by rfl) :
  PS X (.Assign [.Tuple [.Name x px,.Name y py] kt pt] (.Tuple [a,b] k2 pt2) pos) (Bh i j ta):=by
 intro pins s σ H D I h
 rw [exec_Assign_arm]
 refine wpAny_bind (wpAny_standAt ?_)
 rw [hs]
 refine wpAny_bind (wpAny_pure ?_)
 rw [if_neg (by decide)]
 refine wpAny_bind (Tuple_ (bx (ha _ pins s σ H _ I h) fun us s1 ⟨vs,H1,I1,r1,q1⟩=>?_))
 obtain ⟨v,w,e1,q1⟩:=q1
 subst e1
 obtain ⟨u1,u2,rfl,rv,rw'⟩:∃ u1 u2,us=[u1,u2]∧RelV v u1∧RelV w u2:=by
  cases r1 with
  | cons p q =>
   cases q with
   | cons p' q' =>
    cases q'
    exact ⟨_,_,rfl,p,p'⟩
 refine wpAny_newObj_type ?_ (by show 2≤sizeLine;decide)
 have I2:Inv X pins σ H1 { s1 with heap:=s1.heap.push { cls:=.type "tuple",data:=.seq [u1,u2].toArray } }:=I1.kept (t':=s1.toks) fun b o e=>Heap.get?_push_of_some _ e
 rw [hw]
 refine wpAny_bind (wpAny_pure ?_)
 show wpAny (model X.prog X.w) X.A (do rule "assign.swapped-stores";let items ← unpackItems (.ref s1.heap.objs.size) 2 none;assignInOrder [fun v=>bindName X.env y v,fun v=>bindName X.env x v] items.reverse;pure Flow.next) _ _ _
 refine wpAny_bind (wpAny_rule (wpAny_bind (unpackItems_tuple (items:=#[u1,u2]) (I.ok.hd hc) (IsTup.new s1.heap _) fun h' hx'=>?_)))
 have I3:=I2.kept (h':=h') (t':=s1.toks) fun b o e=>hx' b o (Nat.ne_of_lt (Heap.lt_size e)) e
 show wpAny _ _ (assignInOrder [fun v=>bindName X.env y v,fun v=>bindName X.env x v] [u2,u1] >>= fun _=>pure Flow.next) _ _ _
 refine wpAny_bind (assignInOrder_cons (wpAny_bindName (dN I3 hN hj (.inl hy) rw' (fun s2 I4=>?_) (.inr hy))))
 refine assignInOrder_cons (wpAny_bindName (dN I4 hN hi (.inl hx) rv (fun s3 I5=>assignInOrder_nil (wpAny_pure ?_)) (.inr hx)))
 rw [List.set_comm _ _ (Ne.symm hij)] at I5
 exact ⟨_,H1,I5,q1⟩
def HM (i:Nat) (te:TE) (ti:G1):TS:=fun D σ H=>∃ x,σ[i]?=some (some x)∧te σ H fun y H1=>ti x y H1 fun z H2=>D.nx (σ.set i (some z)) H2
theorem Ew {i:Nat} {x:Str} {e:Expr} {te:TE} {op:Operator} {ti:G1} {pos':Pos} (hN:X.N.Nodup) (hi:X.N[i]?=some x) (hx:Loc X.env.scope x) (he:PE X e te) (ho:Ie X op ti) (hf:X.fn x=true∨X.env.scope.names.lookup x=some .local:=by first | exact .inl rfl | exact .inr rfl | assumption) :
  PS X (.AugAssign (.Name x pos') op e pos) (HM i te ti):=by
 intro pins s σ H D I h
 obtain ⟨v,e1,h⟩:=h
 obtain ⟨m,hn,hl⟩:=I.loc
 have vis:qW X.env.scope x:=by rcases hx with k | k;exact .inl k;exact .inr (.inl k)
 obtain ⟨u,r,l⟩:=hl i x v hi e1 vis
 refine wpAny_AugAssign_Name ?_
 have go:wpAny (model X.prog X.w) X.A (eval e X.env) (fun w s₂=>wpAny (model X.prog X.w) X.A (inplaceOp op u w) (fun r s₃=>wpAny (model X.prog X.w) X.A (storeName X.env x r) (fun _=>SP X pins D .next) X.xe s₃) X.xe s₂) X.xe s:=by
  refine bx (he pins s σ H _ I h) fun w s1 ⟨y,H1,I1,r1,q1⟩=>?_
  refine bx (ho pins s1 σ H1 v y u w _ I1 r r1 q1) fun z s2 ⟨zv,H2,I2,r2,q2⟩=>?_
  exact dN I2 hN hi hx r2 (fun s3 I3=>⟨_,H2,I3,q2⟩) hf
 rcases l with ⟨hk,hm⟩ | ⟨hk,c,hc,hcell⟩
 ·exact wpAny_loadName_local I.ok.kind hk hn hm go
 ·rcases hk with hk | hk
  ·exact wpAny_loadName_cell I.ok.kind hk hc hcell go
  ·rcases hx with k | k
   ·have:X.env.scope.names.lookup x=some .free:=hk
    rw [k] at this;cases this
   ·have:X.env.scope.names.lookup x=some .free:=hk
    rw [k] at this;cases this
def JD (f:Int→Int→Int):G1:=fun x y H Q=>∃ i j,x=.int i∧y=.int j∧Q (.int (f i j)) H
theorem Ed:Ie X .Sub (JD fun i j=>i - j):=by
 intro pins s σ H x y v u Q I r1 r2 h
 obtain ⟨i,j,e1,e2,q⟩:=h
 subst e1;subst e2
 obtain ⟨t,rfl⟩:=r1
 obtain ⟨t',rfl⟩:=r2
 exact isub_int ⟨.int _,H,I.tok _,⟨_,rfl⟩,q⟩
end
section
variable {X:Cx} {pos:Pos}
def o9 (c:TT) (tb:TS):TS:=fun D σ H=>∃ W:Nat→St→Hp→Prop,(∃ m,W m σ H)∧∀ m σ H,W m σ H →
 c σ H fun b H1=>if b=true then ∃ N:St→Hp→Prop,(∀ σ' H',N σ' H'→∃ m',m' < m∧W m' σ' H')∧tb { D with nx:=N,ct:=N,bk:=D.nx } σ H1 else D.nx σ H1
theorem gE {c:Expr} {body:List Stmt} {tc:TT} {tb:TS} (hp:PassesOwn (model X.prog X.w) X.A X.env X.xe) (hc:PT X c tc) (hb:m9 X body tb):PS X (.While c body [] pos) (o9 tc tb):=by
 intro pins s σ H D I h
 obtain ⟨W,⟨m0,w0⟩,turn⟩:=h
 refine wpAny_While (codeAny_whileLoop (fun n s'=>∃ σ' H',Inv X pins σ' H' s'∧W n σ' H') ?_ m0 ⟨σ,H,I,w0⟩)
 rintro n s1 ⟨σ1,H1,I1,w1⟩
 refine wpAny_passesOwn hp (bx (hc pins s1 σ1 H1 _ I1 (turn n σ1 H1 w1)) fun b s2 ⟨H2,I2,q2⟩=>?_)
 cases b with
 | true =>
  obtain ⟨N,hN,q2⟩:=q2
  rw [if_pos rfl]
  refine wpAny_passesOwn hp (bx (hb pins s2 σ1 H2 _ I2 q2) fun f s3 q3=>?_)
  cases f with
  | next =>
   obtain ⟨σ3,H3,I3,n3⟩:=q3
   obtain ⟨m',hm,w3⟩:=hN σ3 H3 n3
   exact ⟨m',hm,σ3,H3,I3,w3⟩
  | cont =>
   obtain ⟨σ3,H3,I3,n3⟩:=q3
   obtain ⟨m',hm,w3⟩:=hN σ3 H3 n3
   exact ⟨m',hm,σ3,H3,I3,w3⟩
  | brk=>exact q3
  | ret v=>exact q3
 | false =>
  rw [if_neg Bool.false_ne_true]
  exact wpAny_execs_nil ⟨σ1,H2,I2,q2⟩
end
structure It where
 go:Nat→Hp→Prop
 yld:Nat→Hp→V→Hp→Prop
 stop:Nat→Hp→Prop
def gf (X:Cx) (pins:List (Addr × Obj)) (H:Hp) (b:Addr):Prop :=
 H b=none∧b≠X.env.locals∧b ∉ X.fs∧(b∈X.ex∨X.s₀.heap.objs.size≤b)∧(∀ x c,X.env.cells.lookup x=some c→c≠b)∧∀ p∈X.pn ++ pins,p.1≠b
theorem Inv.A3 {X:Cx} {pins:List (Addr × Obj)} {σ:St} {H H':Hp} {s:Shared} {b:Addr} (I:Inv X pins σ H s) (hb:s.heap.objs.size≤b) (hn:H' b=none):gf X pins H' b:=by
 refine ⟨hn,Nat.ne_of_gt (Nat.lt_of_lt_of_le I.lt hb),I.HL hb,.inr (Nat.le_trans I.sz hb),fun x c e z=>?_,fun p hp z=>?_⟩
 ·obtain ⟨v,q⟩:=I.cell x c e
  exact absurd (Nat.lt_of_lt_of_le q.lt (by rw [z];exact hb)) (Nat.lt_irrefl _)
 ·exact absurd (Nat.lt_of_lt_of_le (Heap.lt_size (I.pin p hp).1) (by rw [z];exact hb)) (Nat.lt_irrefl _)
structure Turn (P:Program) (w:World) (K:PySem.W.Frag) (tg:Expr) (J:It) (fp:List Addr) (it:Addr) (tn:Nat→Heap→Prop):Prop where
 mem:it∈fp
 obj:∀ i h,tn i h→∀ b∈fp,∃ o,h.get? b=some o∧∀ v,o.data≠.cell v
 keep:∀ i h h',tn i h→(∀ b∈fp,∀ o,h.get? b=some o→h'.get? b=some o)→tn i h'
 item:∀ (X:Cx),X.prog=P→X.w=w→X.K=K→X.calm=true→∀ (i:Nat) (pins:List (Addr × Obj)) (s:Shared) (σ:St) (H:Hp) (E:Value→Shared→Prop),Inv X pins σ H s→(∀ b∈fp,gf X pins H b)→tn i s.heap→J.go i H →
  wpAny (model P w) X.A (pyNext (.ref it)) (fun r s1=>∃ u,r=some u ∧
   wpAny (model P w) X.A (letOwnedTupleGo tg (.ref it) u) (fun _ s2=>∃ x H',Inv X pins σ H' s2∧RelV x u∧J.yld i H x H'∧tn (i + 1) s2.heap∧∀ b∈fp,H' b=none) E s1) E s
 done:∀ (X:Cx),X.prog=P→X.w=w→X.K=K→X.calm=true→∀ (i:Nat) (pins:List (Addr × Obj)) (s:Shared) (σ:St) (H:Hp) (E:Value→Shared→Prop),Inv X pins σ H s→(∀ b∈fp,gf X pins H b)→tn i s.heap→J.stop i H →
  wpAny (model P w) X.A (pyNext (.ref it)) (fun r s1=>r=none∧Inv X pins σ H s1) E s
 self:∀ (A:Around) (i:Nat) (s:Shared) (Q:Value→Shared→Prop) (E:Value→Shared→Prop),tn i s.heap→Q (.ref it) s→wpAny (model P w) A (pyIter (.ref it)) Q E s
abbrev TI:=St→Hp→(It→Hp→Prop)→Prop
def Jg (X:Cx) (pins:List (Addr × Obj)) (σ:St) (tg:Expr) (R:It→Hp→Prop) (itv:Value) (s2:Shared):Prop :=
 ∃ (it:Addr) (fp:List Addr) (tn:Nat→Heap→Prop) (J:It) (H':Hp),itv=.ref it∧Inv X pins σ H' s2∧Turn X.prog X.w X.K tg J fp it tn∧tn 0 s2.heap∧(∀ b∈fp,gf X pins H' b)∧R J H'
def PI (X:Cx) (tg iter:Expr) (wi:TI):Prop :=
 ∀ (pins:List (Addr × Obj)) (s:Shared) (σ:St) (H:Hp) (R:It→Hp→Prop),Inv X pins σ H s→wi σ H R →
  wpAny (model X.prog X.w) X.A (eval iter X.env) (fun v s1=>wpAny (model X.prog X.w) X.A (pyIter v) (Jg X pins σ tg R) X.xe s1) X.xe s
theorem xX {M:Model} {A:Around} {E:Value→Shared→Prop} {s:Shared} {tg:Expr} {it:Addr} {u:Value} {o:Obj} {n:String} {vs:Array Value} {Q:Unit→Shared→Prop} (ho:s.heap.get? it=some o) (hc:o.cls=.type n) (hd:o.data=.fields vs)
  (hn:["enumerate","zip","dict_itemiterator","dict_reverseitemiterator","odict_iterator","itertools.zip_longest","itertools.pairwise"].contains n=false) (hQ:Q () s):wpAny M A (letOwnedTupleGo tg (.ref it) u) Q E s:=by
 unfold letOwnedTupleGo
 cases tg <;> first
  | exact wpAny_pure hQ
  | (cases u <;> first
    | exact wpAny_pure hQ
    | (refine wpAny_bind (wpAny_load ho ?_)
       rw [hc,hd]
       show wpAny M A (if (["enumerate","zip","dict_itemiterator","dict_reverseitemiterator","odict_iterator","itertools.zip_longest","itertools.pairwise"].contains n && vs[0]? == some (rawInt _))=true then _ else _) Q E s
       rw [if_neg (by intro h;rw [hn,Bool.false_and] at h;cases h)]
       exact wpAny_pure hQ))
def AE (K:PySem.W.Frag) (a:Addr):It :=
 ⟨fun i H=>∃ xs x,cR K H a xs∧xs[i]?=some x,fun i H x H'=>H'=H∧∀ xs,cR K H a xs→xs[i]?=some x,fun i H=>∃ xs,cR K H a xs∧xs.length≤i⟩
def Jr (K:PySem.W.Frag) (a:Addr):It :=
 ⟨fun i H=>∃ xs x,fz K H a xs∧xs[i]?=some x,fun i H x H'=>H'=H∧∀ xs,fz K H a xs→xs[i]?=some x,fun i H=>∃ xs,fz K H a xs∧xs.length≤i⟩
def yA (lo:Int) (n:Nat):It:=⟨fun i _=>i < n,fun i H x H'=>H'=H∧x=.int (lo + i),fun i _=>n≤i⟩
theorem vK {P:Program} {w:World} {K:PySem.W.Frag} {tg:Expr} (a it:Addr):Turn P w K tg (AE K a) [it] it (fun i h=>h.IsListIter it a i) where
 mem:=by simp
 obj:=fun i h st b hb=>by
  have e:b=it:=by simpa using hb
  subst e
  obtain ⟨o,e,c,d⟩:=st
  exact ⟨o,e,fun v z=>by rw [d] at z;cases z⟩
 keep:=fun i h h' st k=>st.at fun o e=>k it (by simp) o e
 item:=by
  intro X hP hw hK hc i pins s σ H E I hf st hg
  subst hP hw hK
  obtain ⟨xs,x,hq,hx⟩:=hg
  obtain ⟨its,rv,p,hz⟩:=I.list hq
  obtain ⟨u,hu,ru⟩:=rv.get hx
  obtain ⟨f0,f1,f2,f3,f4,f5⟩:=hf it (by simp)
  refine wpAny_pyNext_list_item st p.isList (x:=u) (by simpa using hu) fun h' st' sb=>?_
  have I1:Inv X pins σ H { s with heap:=h' }:=I.turned (t':=s.toks) (fun b o hb e=>(sb.2 b hb).trans e) f0 f1 f3 f4 f5
  obtain ⟨o,e,c,d⟩:=id st'
  exact ⟨u,rfl,xX (s:={ s with heap:=h' }) e c d (by decide) ⟨x,H,I1,ru,⟨rfl,fun ys hy=>by rw [I.lV hy hq];exact hx⟩,st',fun b hb=>(hf b hb).1⟩⟩
 done:=by
  intro X hP hw hK hc i pins s σ H E I hf st hg
  subst hP hw hK
  obtain ⟨xs,hq,hx⟩:=hg
  obtain ⟨its,rv,p,hz⟩:=I.list hq
  obtain ⟨f0,f1,f2,f3,f4,f5⟩:=hf it (by simp)
  have hl:=rv.length
  exact wpAny_pyNext_list_end (I.ok.hd hc) st p.isList (by simp;omega) fun h' eb=>⟨rfl,I.turned (t':=s.toks) (fun b o hb e=>eb b o hb e) f0 f1 f3 f4 f5⟩
 self:=fun _ _ _ _ _ st h=>wpAny_pyIter_listiter st h
theorem sd {P:Program} {w:World} {K:PySem.W.Frag} {tg:Expr} (it:Addr) (lo:Int) (n:Nat):Turn P w K tg (yA lo n) [it] it (fun i h=>IsRangeIter h it (lo + (i:Nat) * 1) ((n:Int) - (i:Nat)) 1) where
 mem:=by simp
 obj:=fun i h st b hb=>by
  have e:b=it:=by simpa using hb
  subst e
  exact ⟨_,st,fun v z=>by
   have z':Data.fields _=Data.cell v:=z
   cases z'⟩
 keep:=fun i h h' st k=>k it (by simp) _ st
 item:=by
  intro X hP hw hK hc i pins s σ H E I hf st hg
  subst hP hw hK
  obtain ⟨f0,f1,f2,f3,f4,f5⟩:=hf it (by simp)
  have W:=Walks.range (prog:=X.prog) (w:=X.w) (I.ok.hd hc) it lo 1 n
  refine W.item i s _ _ hg st fun v h' tk hv st' kk=>?_
  obtain ⟨t,rfl⟩:=hv
  have I1:Inv X pins σ H { s with heap:=h',toks:=tk }:=I.turned (fun b o hb e=>kk b o (by simpa using hb) e) f0 f1 f3 f4 f5
  refine ⟨_,rfl,xX (s:={ s with heap:=h',toks:=tk }) (n:="range_iterator") st' rfl rfl (by decide) ⟨.int (lo + i),H,I1,⟨t,?_⟩,⟨rfl,rfl⟩,st',fun b hb=>(hf b hb).1⟩⟩
  rw [Int.mul_one]
 done:=by
  intro X hP hw hK hc i pins s σ H E I hf st hg
  subst hP hw hK
  obtain ⟨f0,f1,f2,f3,f4,f5⟩:=hf it (by simp)
  exact wpAny_pyNext_range_end (I.ok.hd hc) st (by have:n≤i:=hg;omega) fun h' eb=>⟨rfl,I.turned (t':=s.toks) (fun b o hb e=>eb b o hb e) f0 f1 f3 f4 f5⟩
 self:=fun _ _ _ _ _ st h=>wpAny_pyIter_rangeiter st h
end L2
namespace L2
open PySem PySem.Spec PyProof.Rows
section
variable {X:Cx} {tg:Expr}
def vj (K:PySem.W.Frag) (tl:TE):TI:=fun σ H R=>tl σ H fun x H1=>∃ a,x=.ref a∧(∃ xs,cR K H1 a xs)∧R (AE K a) H1
def Ig (K:PySem.W.Frag) (tl:TE):TI:=fun σ H R=>tl σ H fun x H1=>∃ a,x=.ref a∧(∃ xs,fz K H1 a xs)∧R (Jr K a) H1
theorem iZ {l:Expr} {tl:TE} (hl:PE X l tl):PI X tg l (vj X.K tl):=by
 intro pins s σ H R I h
 refine bx (hl pins s σ H _ I h) fun v s1 ⟨x,H1,I1,r1,q1⟩=>?_
 obtain ⟨a,e,⟨xs,hq⟩,q⟩:=q1
 subst e
 cases r1
 obtain ⟨its,rv,p,hz⟩:=I1.list hq
 refine wpAny_pyIter_list p.isList ?_
 refine ⟨s1.heap.objs.size,[s1.heap.objs.size],_,_,H1,rfl,I1.kept (t':=s1.toks) fun b o e=>Heap.get?_push_of_some _ e,vK a _,⟨_,Heap.get?_push_size _ rfl,rfl,rfl⟩,fun b hb=>?_,q⟩
 have e:b=s1.heap.objs.size:=by simpa using hb
 subst e
 exact I1.A3 (Nat.le_refl _) (I1.hok.fresh (Nat.le_refl _))
theorem y3 {pins:List (Addr × Obj)} {σ:St} {H:Hp} {s:Shared} {R:It→Hp→Prop} {E:Value→Shared→Prop} {lo hi:Int} {t u v:Tok} {tk:Nat} (I:Inv X pins σ H s) (h1:-(2 ^ 62)≤lo) (h2:lo < 2 ^ 62) (h3:-(2 ^ 62)≤hi) (h4:hi < 2 ^ 62)
  (q:R (yA lo (hi - lo).toNat) H):wpAny (model X.prog X.w) X.A (pyIter (.ref s.heap.objs.size)) (Jg X pins σ tg R) E { s with heap:=s.heap.push { cls:=.type "range",data:=.fields #[.int lo t,.int hi u,.int 1 v] },toks:=tk }:=by
 refine wpAny_pyIter_range (IsRange.new ..) (small_one h1 h2 h3 h4) ?_
 have I1:Inv X pins σ H { s with heap:=s.heap.push { cls:=.type "range",data:=.fields #[.int lo t,.int hi u,.int 1 v] },toks:=tk }:=I.kept fun b o e=>Heap.get?_push_of_some _ e
 refine ⟨(s.heap.push { cls:=.type "range",data:=.fields #[.int lo t,.int hi u,.int 1 v] }).objs.size,[(s.heap.push { cls:=.type "range",data:=.fields #[.int lo t,.int hi u,.int 1 v] }).objs.size],_,_,H,rfl,
  I1.kept (t':=tk) fun b o e=>Heap.get?_push_of_some _ e,sd _ lo (hi - lo).toNat,?_,fun b hb=>?_,q⟩
 ·have e1:lo + ((0:Nat):Int) * 1=lo:=by simp
  have e2:(((hi - lo).toNat:Nat):Int) - ((0:Nat):Int)=Builtin.Range.rangeSize lo hi 1:=by rw [rangeSize_one];split <;> omega
  show IsRangeIter _ _ (lo + ((0:Nat):Int) * 1) ((((hi - lo).toNat:Nat):Int) - ((0:Nat):Int)) 1
  rw [e1,e2]
  exact Heap.get?_push_size _ rfl
 ·have e:b=(s.heap.push { cls:=.type "range",data:=.fields #[.int lo t,.int hi u,.int 1 v] }).objs.size:=by simpa using hb
  subst e
  exact I1.A3 (Nat.le_refl _) (I1.hok.fresh (Nat.le_refl _))
def uJ (ta:TA):TI:=fun σ H R=>ta σ H fun vs H1=>∃ j:Int,vs=[.int j]∧-(2 ^ 62)≤j∧j < 2 ^ 62∧R (yA 0 j.toNat) H1
def CT (ta:TA):TI:=fun σ H R=>ta σ H fun vs H1=>∃ i j:Int,vs=[.int i,.int j]∧(-(2 ^ 62)≤i∧i < 2 ^ 62∧-(2 ^ 62)≤j∧j < 2 ^ 62)∧R (yA i (j - i).toNat) H1
theorem eu {a:Expr} {ta:TA} {p pos:Pos} (hg:Gl X "range") (hm:X.mg "range"=none) (ha:PA X [a] ta) (hs:starEach [a] X.env=[(false,eval a X.env)]:=by rfl):PI X tg (.Call (.Name "range" p) [a] [] pos) (uJ ta):=by
 intro pins s σ H R I h
 refine Call_ (j1 I hg hm boot_range (PyProof.Rows.callWith_type1 (bx (ha pos pins s σ H _ I h) fun us s1 ⟨vs,H1,I1,r1,q1⟩=>?_) hs rfl))
 obtain ⟨j,e,q1,q2,q⟩:=q1
 subst e
 cases r1 with
 | cons r rr =>
  cases rr
  obtain ⟨t,rfl⟩:=r
  exact call_range_1 (y3 I1 (by omega) (by omega) q1 q2 (by simpa using q))
def Ej (wi:TI) (g:TG) (tb:TS):TS:=fun D σ H=>wi σ H fun J H1=>∃ W:Nat→Nat→St→Hp→Prop,(∃ m,W 0 m σ H1)∧∀ i m σ H,W i m σ H →
 (J.stop i H∧D.nx σ H)∨(J.go i H∧∃ N:St→Hp→Prop,(∀ σ' H',N σ' H'→∃ m',m' < m∧W (i + 1) m' σ' H')∧∀ x H',J.yld i H x H'→g x σ H' fun σ2 H2=>tb { D with nx:=N,ct:=N,bk:=D.nx } σ2 H2)
def pw (fp:List Addr) (h:Heap):List (Addr × Obj):=fp.filterMap fun b=>(h.get? b).map fun o=>(b,o)
theorem bA {fp:List Addr} {h:Heap} {b:Addr} {o:Obj} (hb:b∈fp) (e:h.get? b=some o):(b,o)∈pw fp h:=List.mem_filterMap.mpr ⟨b,hb,by rw [e];rfl⟩
theorem wy {fp:List Addr} {h:Heap} {p:Addr × Obj} (hp:p∈pw fp h):p.1∈fp∧h.get? p.1=some p.2:=by
 obtain ⟨b,hb,e⟩:=List.mem_filterMap.mp hp
 cases q:h.get? b with
 | none=>rw [q] at e;cases e
 | some o =>
  rw [q] at e
  have e':(b,o)=p:=Option.some.inj e
  subst e'
  exact ⟨hb,q⟩
theorem Inv.pinned {pins:List (Addr × Obj)} {σ:St} {H:Hp} {s:Shared} {fp:List Addr} (I:Inv X pins σ H s) (hf:∀ b∈fp,gf X pins H b) (ho:∀ b∈fp,∃ o,s.heap.get? b=some o∧∀ v,o.data≠.cell v):Inv X (pins ++ pw fp s.heap) σ H s :=
 I.vF fun p hp=>(List.mem_append.mp hp).elim (fun z=>I.pin p (List.mem_append_right _ z)) fun z=>by
  obtain ⟨hb,e⟩:=wy z
  obtain ⟨f0,f1,f2,_⟩:=hf p.1 hb
  obtain ⟨o,e',d⟩:=ho p.1 hb
  rw [e] at e';cases e'
  exact ⟨e,f0,f1,f2,d⟩
theorem Inv.dP {pins pl:List (Addr × Obj)} {σ:St} {H:Hp} {s:Shared} (I:Inv X (pins ++ pl) σ H s):Inv X pins σ H s:=I.vF fun p hp=>I.pin p (List.mem_append_right _ (List.mem_append_left _ hp))
theorem jR {iter:Expr} {body:List Stmt} {wi:TI} {g:TG} {tb:TS} {pos:Pos} (hp:PassesOwn (model X.prog X.w) X.A X.env X.xe) (hc:X.calm=true) (hi:PI X tg iter wi) (hg:PG X tg g) (hb:m9 X body tb)
  (hs:∀ x,foldedSetIterable iter X.env x=pure x:=by intro _;rfl):PS X (.For tg iter body [] pos) (Ej wi g tb):=by
 intro pins s σ H D I h
 refine wpAny_For (bx (hi pins s σ H _ I h) fun v s1 h1=>bx h1 fun itv s2 h2=>?_) hs
 obtain ⟨it,fp,tn,J,H2,e,I2,T,st2,f2,W,⟨m0,w0⟩,turn⟩:=h2
 subst e
 have stat:∀ {H':Hp},(∀ b∈fp,H' b=none)→∀ b∈fp,gf X pins H' b:=fun hn b hb=>⟨hn b hb,(f2 b hb).2⟩
 refine codeAny_forLoop_any (fun n s'=>∃ i σ' H',Inv X pins σ' H' s'∧tn i s'.heap∧(∀ b∈fp,H' b=none)∧W i n σ' H') ?_ m0 ⟨0,σ,H2,I2,st2,fun b hb=>(f2 b hb).1,w0⟩
 rintro n s3 ⟨i,σ3,H3,I3,st3,fr3,w3⟩
 rcases turn i n σ3 H3 w3 with ⟨stop,qn⟩ | ⟨go,N,hN,step⟩
 ·refine wpAny_passesOwn hp (bx (T.done X rfl rfl rfl hc i pins s3 σ3 H3 X.xe I3 (stat fr3) st3 stop) fun r s4 ⟨hr,I4⟩=>?_)
  subst hr
  exact wpAny_execs_nil ⟨σ3,H3,I4,qn⟩
 ·refine wpAny_passesOwn hp (bx (T.item X rfl rfl rfl hc i pins s3 σ3 H3 X.xe I3 (stat fr3) st3 go) fun r s4 ⟨u,hr,h4⟩=>?_)
  subst hr
  refine wpAny_passesOwn hp (bx h4 fun _ s5 ⟨x,H5,I5,r5,y5,st5,fr5⟩=>?_)
  have I5':=I5.pinned (stat fr5) (T.obj _ _ st5)
  refine wpAny_passesOwn hp (bx (hg _ s5 σ3 H5 x u _ I5' r5 (step x H5 y5)) fun _ s6 ⟨σ6,H6,I6,q6⟩=>?_)
  refine wpAny_passesOwn hp (bx (hb _ s6 σ6 H6 _ I6 q6) fun f s7 q7=>?_)
  have again:∀ {σ7:St} {H7:Hp},Inv X (pins ++ pw fp s5.heap) σ7 H7 s7→N σ7 H7→∃ m,m < n∧∃ i σ' H',Inv X pins σ' H' s7∧tn i s7.heap∧(∀ b∈fp,H' b=none)∧W i m σ' H':=fun {σ7 H7} I7 n7=>by
   obtain ⟨m',hm,w7⟩:=hN σ7 H7 n7
   refine ⟨m',hm,i + 1,σ7,H7,I7.dP,T.keep _ _ _ st5 fun b hb o e=>(I7.pin (b,o) (List.mem_append_right _ (List.mem_append_right _ (bA hb e)))).1,fun b hb=>?_,w7⟩
   obtain ⟨o,e,d⟩:=T.obj _ _ st5 b hb
   exact (I7.pin (b,o) (List.mem_append_right _ (List.mem_append_right _ (bA hb e)))).2.1
  cases f with
  | next=>obtain ⟨σ7,H7,I7,n7⟩:=q7;exact again I7 n7
  | cont=>obtain ⟨σ7,H7,I7,n7⟩:=q7;exact again I7 n7
  | brk=>obtain ⟨σ7,H7,I7,q7⟩:=q7;exact ⟨σ7,H7,I7.dP,q7⟩
  | ret v=>obtain ⟨x7,σ7,H7,I7,r7,q7⟩:=q7;exact ⟨x7,σ7,H7,I7.dP,r7,q7⟩
end
theorem x_ {K:PySem.W.Frag} {a:Addr} {xs:List V} {g:TG} {tb:TS} {D:Ends} {σ:St} {H:Hp} (Pv:Nat→St→Hp→Prop) (h0:Pv 0 σ H) (hl:∀ i σ H,i≤xs.length→Pv i σ H→cR K H a xs)
  (hs:∀ i x σ H,xs[i]?=some x→Pv i σ H→g x σ H fun σ2 H2=>tb { D with nx:=Pv (i + 1),ct:=Pv (i + 1),bk:=D.nx } σ2 H2) (hd:∀ σ H,Pv xs.length σ H→D.nx σ H) :
  ∃ W:Nat→Nat→St→Hp→Prop,(∃ m,W 0 m σ H)∧∀ i m σ H,W i m σ H →
   ((AE K a).stop i H∧D.nx σ H)∨((AE K a).go i H∧∃ N:St→Hp→Prop,(∀ σ' H',N σ' H'→∃ m',m' < m∧W (i + 1) m' σ' H')∧∀ x H',(AE K a).yld i H x H'→g x σ H' fun σ2 H2=>tb { D with nx:=N,ct:=N,bk:=D.nx } σ2 H2):=by
 refine ⟨fun i m σ H=>m=xs.length - i∧i≤xs.length∧Pv i σ H,⟨xs.length,by simp,Nat.zero_le _,h0⟩,?_⟩
 rintro i m σ H ⟨rfl,hi,p⟩
 have q:=hl i σ H hi p
 by_cases hlt:i < xs.length
 ·refine .inr ⟨⟨xs,xs[i],q,by simp [hlt]⟩,Pv (i + 1),fun σ' H' p'=>⟨xs.length - (i + 1),by omega,rfl,hlt,p'⟩,fun x H' y=>?_⟩
  obtain ⟨e,y⟩:=y
  subst e
  exact hs i x σ _ (y xs q) p
 ·have e:i=xs.length:=by omega
  subst e
  exact .inl ⟨⟨xs,q,Nat.le_refl _⟩,hd σ H p⟩
theorem nI {lo:Int} {n:Nat} {g:TG} {tb:TS} {D:Ends} {σ:St} {H:Hp} (Pv:Nat→St→Hp→Prop) (h0:Pv 0 σ H)
  (hs:∀ i σ H,i < n→Pv i σ H→g (.int (lo + i)) σ H fun σ2 H2=>tb { D with nx:=Pv (i + 1),ct:=Pv (i + 1),bk:=D.nx } σ2 H2) (hd:∀ σ H,Pv n σ H→D.nx σ H) :
  ∃ W:Nat→Nat→St→Hp→Prop,(∃ m,W 0 m σ H)∧∀ i m σ H,W i m σ H →
   ((yA lo n).stop i H∧D.nx σ H)∨((yA lo n).go i H∧∃ N:St→Hp→Prop,(∀ σ' H',N σ' H'→∃ m',m' < m∧W (i + 1) m' σ' H')∧∀ x H',(yA lo n).yld i H x H'→g x σ H' fun σ2 H2=>tb { D with nx:=N,ct:=N,bk:=D.nx } σ2 H2):=by
 refine ⟨fun i m σ H=>m=n - i∧i≤n∧Pv i σ H,⟨n,by simp,Nat.zero_le _,h0⟩,?_⟩
 rintro i m σ H ⟨rfl,hi,p⟩
 by_cases hlt:i < n
 ·refine .inr ⟨hlt,Pv (i + 1),fun σ' H' p'=>⟨n - (i + 1),by omega,rfl,hlt,p'⟩,fun x H' y=>?_⟩
  obtain ⟨e,y⟩:=y
  subst e y
  exact hs i σ _ hlt p
 ·have e:i=n:=by omega
  subst e
  exact .inl ⟨Nat.le_refl _,hd σ H p⟩
theorem q_ {c:TT} {tb:TS} {D:Ends} {σ:St} {H:Hp} (Pv:St→Hp→Prop) (μ:St→Hp→Nat) (h0:Pv σ H)
  (hs:∀ σ H,Pv σ H→c σ H fun b H1=>if b=true then tb { D with nx:=fun σ' H'=>Pv σ' H'∧μ σ' H' < μ σ H,ct:=fun σ' H'=>Pv σ' H'∧μ σ' H' < μ σ H,bk:=D.nx } σ H1 else D.nx σ H1)
  (mono:∀ σ H Q Q',(∀ b H1,Q b H1→Q' b H1)→c σ H Q→c σ H Q'):o9 c tb D σ H:=by
 refine ⟨fun m σ H=>m=μ σ H∧Pv σ H,⟨_,rfl,h0⟩,?_⟩
 rintro m σ H ⟨rfl,p⟩
 refine mono σ H _ _ (fun b H1 q=>?_) (hs σ H p)
 cases b with
 | true=>exact ⟨_,fun σ' H' ⟨p',l⟩=>⟨_,l,rfl,p'⟩,q⟩
 | false=>exact q
end L2
namespace L2
open PySem PySem.Spec PyProof.Rows
abbrev R2:=V→V→Hp→VK→Prop
def d_ (X:Cx) (f:Value→Value→Sem Value) (r:R2):Prop :=
 ∀ (pins:List (Addr × Obj)) (s:Shared) (σ:St) (H:Hp) (x y:V) (v u:Value) (Q:VK),Inv X pins σ H s→RelV x v→RelV y u→r x y H Q →
  wpAny (model X.prog X.w) X.A (f v u) (EP X pins σ Q) X.xe s
def rX (X:Cx) (f:Value→Sem Value) (r:V→Hp→VK→Prop):Prop :=
 ∀ (pins:List (Addr × Obj)) (s:Shared) (σ:St) (H:Hp) (x:V) (v:Value) (Q:VK),Inv X pins σ H s→RelV x v→r x H Q →
  wpAny (model X.prog X.w) X.A (f v) (EP X pins σ Q) X.xe s
def b7 (X:Cx) (f:Value) (r:List V→Hp→VK→Prop):Prop :=
 ∀ (pins:List (Addr × Obj)) (s:Shared) (σ:St) (H:Hp) (xs:List V) (us:List Value) (Q:VK),Inv X pins σ H s→Vals xs us→r xs H Q →
  wpAny (model X.prog X.w) X.A (call f us) (EP X pins σ Q) X.xe s
def Hl (X:Cx) (r:V→Hp→(Bool→Hp→Prop)→Prop):Prop :=
 ∀ (pins:List (Addr × Obj)) (s:Shared) (σ:St) (H:Hp) (x:V) (v:Value) (Q:Bool→Hp→Prop),Inv X pins σ H s→RelV x v→r x H Q →
  wpAny (model X.prog X.w) X.A (truthy v) (TP X pins σ Q) X.xe s
def xF (r:R2) (ta tb:TE):TE:=fun σ H Q=>ta σ H fun x H1=>tb σ H1 fun y H2=>r x y H2 Q
def Hb (r:V→Hp→VK→Prop) (ta:TE):TE:=fun σ H Q=>ta σ H fun x H1=>r x H1 Q
def rI (C:Int→Int→Prop) (g:Int→Int→V):R2:=fun x y H Q=>∃ i j,x=.int i∧y=.int j∧C i j∧Q (g i j) H
def Ab (g:Int→Int→V):R2:=fun x y H Q=>∃ i j,x=.int i∧y=.int j∧Q (g i j) H
def rU (g:Int→V):V→Hp→VK→Prop:=fun x H Q=>∃ i,x=.int i∧Q (g i) H
section
variable {X:Cx} {a b c:Expr} {ta tb tc:TE} {pos:Pos}
theorem C9 (ha:PE X a ta) (hb:PE X b tb) {pins:List (Addr × Obj)} {s:Shared} {σ:St} {H:Hp} {R:V→V→Hp→Prop} (I:Inv X pins σ H s)
  (h:ta σ H fun x H1=>tb σ H1 fun y H2=>R x y H2) {Q:Value→Shared→Prop} {f:Value→Value→Sem Value}
  (hf:∀ v u s2 x y H2,Inv X pins σ H2 s2→RelV x v→RelV y u→R x y H2→wpAny (model X.prog X.w) X.A (f v u) Q X.xe s2) :
  wpAny (model X.prog X.w) X.A (eval a X.env) (fun v s₁=>wpAny (model X.prog X.w) X.A (eval b X.env) (fun u s₂=>wpAny (model X.prog X.w) X.A (f v u) Q X.xe s₂) X.xe s₁) X.xe s:=by
 refine bx (ha pins s σ H _ I h) fun v s1 ⟨x,H1,I1,r1,q1⟩=>?_
 refine bx (hb pins s1 σ H1 _ I1 q1) fun u s2 ⟨y,H2,I2,r2,q2⟩=>?_
 exact hf v u s2 x y H2 I2 r1 r2 q2
theorem aX {op:Operator} {r:R2} (ho:d_ X (binaryOp op) r) (ha:PE X a ta) (hb:PE X b tb):PE X (.BinOp a op b pos) (xF r ta tb):=by
 intro pins s σ H Q I h
 exact wpAny_BinOp (C9 ha hb I h fun v u s2 x y H2 I2 rx ry q=>ho pins s2 σ H2 x y v u Q I2 rx ry q)
theorem vi {op:UnaryOp} {r:V→Hp→VK→Prop} (ho:rX X (unaryOp op) r) (ha:PE X a ta):PE X (.UnaryOp op a pos) (Hb r ta):=by
 intro pins s σ H Q I h
 exact UnaryOp_ (bx (ha pins s σ H _ I h) fun v s1 ⟨x,H1,I1,r1,q1⟩=>ho pins s1 σ H1 x v Q I1 r1 q1)
theorem GV {f:Value→Value→Sem Value} {C:Int→Int→Prop} {g:Int→Int→Int}
  (rule:∀ (i j:Int) (t u:Tok) (s:Shared) (Q:Value→Shared→Prop) (E:Value→Shared→Prop),C i j→Q (.int (g i j) s.toks) { s with toks:=s.toks + 1 }→wpAny (model X.prog X.w) X.A (f (.int i t) (.int j u)) Q E s) :
  d_ X f (rI C fun i j=>.int (g i j)):=by
 intro pins s σ H x y v u Q I rx ry h
 obtain ⟨i,j,rfl,rfl,hc,q⟩:=h
 obtain ⟨t,rfl⟩:=rx
 obtain ⟨t',rfl⟩:=ry
 exact rule i j t t' s _ _ hc ⟨.int (g i j),H,I.tok _,⟨_,rfl⟩,q⟩
theorem F8 {f:Value→Value→Sem Value} {g:Int→Int→Int}
  (rule:∀ (i j:Int) (t u:Tok) (s:Shared) (Q:Value→Shared→Prop) (E:Value→Shared→Prop),Q (.int (g i j) s.toks) { s with toks:=s.toks + 1 }→wpAny (model X.prog X.w) X.A (f (.int i t) (.int j u)) Q E s) :
  d_ X f (Ab fun i j=>.int (g i j)):=by
 intro pins s σ H x y v u Q I rx ry h
 obtain ⟨i,j,rfl,rfl,q⟩:=h
 obtain ⟨t,rfl⟩:=rx
 obtain ⟨t',rfl⟩:=ry
 exact rule i j t t' s _ _ ⟨.int (g i j),H,I.tok _,⟨_,rfl⟩,q⟩
theorem BL {f:Value→Value→Sem Value} {g:Int→Int→Bool}
  (rule:∀ (i j:Int) (t u:Tok) (s:Shared) (Q:Value→Shared→Prop) (E:Value→Shared→Prop),Q (.bool (g i j)) s→wpAny (model X.prog X.w) X.A (f (.int i t) (.int j u)) Q E s) :
  d_ X f (Ab fun i j=>.bl (g i j)):=by
 intro pins s σ H x y v u Q I rx ry h
 obtain ⟨i,j,rfl,rfl,q⟩:=h
 obtain ⟨t,rfl⟩:=rx
 obtain ⟨t',rfl⟩:=ry
 exact rule i j t t' s _ _ ⟨.bl (g i j),H,I,rfl,q⟩
def Ia (i j:Int):Prop:=0≤j∧j≤1000000∧i.natAbs < 2 ^ 64
def GJ (i j:Int):Prop:=(-(2 ^ 64) < i∧i < 2 ^ 64)∨(-(2 ^ 64) < j∧j < 2 ^ 64)
theorem GJ.ok {i j:Int} (h:GJ i j):IntMulOk i j:=by
 rcases h with ⟨h1,h2⟩ | ⟨h1,h2⟩
 ·exact .of_left (intBits_le_64 h1 h2)
 ·exact .of_right (intBits_le_64 h1 h2)
theorem fT:d_ X (binaryOp .Add) (Ab fun i j=>.int (i + j)):=F8 fun _ _ _ _ _ _ _ q=>add_int q
theorem sQ:d_ X (binaryOp .Sub) (Ab fun i j=>.int (i - j)):=F8 fun _ _ _ _ _ _ _ q=>sub_int q
theorem eW:d_ X (binaryOp .Mod) (rI (fun _ j=>0 < j) fun i j=>.int (i % j)):=GV fun i j _ _ _ _ _ hc q=>by
 have h1:(0:Int) < j:=hc
 exact mod_int' (by omega) (by rw [Int.fmod_eq_emod_of_nonneg i (by omega)];exact q)
theorem zd:d_ X (binaryOp .Pow) (rI Ia fun i j=>.int (i ^ j.toNat)):=GV fun _ _ _ _ _ _ _ hc q=>pow_int_small hc.1 hc.2.1 hc.2.2 q
theorem Jv {f:Value→Sem Value} {g:Int→Int}
  (rule:∀ (i:Int) (t:Tok) (s:Shared) (Q:Value→Shared→Prop) (E:Value→Shared→Prop),Q (.int (g i) s.toks) { s with toks:=s.toks + 1 }→wpAny (model X.prog X.w) X.A (f (.int i t)) Q E s) :
  rX X f (rU fun i=>.int (g i)):=by
 intro pins s σ H x v Q I rx h
 obtain ⟨i,rfl,q⟩:=h
 obtain ⟨t,rfl⟩:=rx
 exact rule i t s _ _ ⟨.int (g i),H,I.tok _,⟨_,rfl⟩,q⟩
theorem zC:rX X (unaryOp .USub) (rU fun i=>.int (-i)):=Jv fun _ _ _ _ _ q=>neg_int q
end
def xY:V→V→Bool
 | .non,.non=>true | .non,.int _=>true | .int _,.non=>true | .non,.bl _=>true | .bl _,.non=>true | .non,.str _=>true | .str _,.non=>true
 | .int _,.int _=>true | .bl _,.bl _=>true | .str _,.str _=>true | .byt _,.byt _=>true
 | .int _,.str _=>true | .str _,.int _=>true | .bl _,.str _=>true | .str _,.bl _=>true
 | _,_=>false
def II:R2:=fun x y H Q=>xY x y=true∧Q (.bl (decide (x=y))) H
def Ja:R2:=fun x y H Q=>xY x y=true∧Q (.bl (!decide (x=y))) H
theorem vC {i j:Int}:decide (V.int i=V.int j)=(i == j):=by
 rw [Bool.eq_iff_iff]
 simp
theorem zk {i j:Bool}:decide (V.bl i=V.bl j)=(i == j):=by
 rw [Bool.eq_iff_iff]
 simp
theorem uq {i j:Str}:decide (V.str i=V.str j)=(i == j):=by
 rw [Bool.eq_iff_iff]
 simp
theorem uf {i j:Array UInt8}:decide (V.byt i=V.byt j)=(i.toList == j.toList):=by
 rw [Bool.eq_iff_iff]
 cases i
 cases j
 simp
section
variable {X:Cx} {a b c:Expr} {ta tb tc:TE} {pos:Pos}
theorem aZ {pins:List (Addr × Obj)} {σ:St} {H:Hp} {s:Shared} {Q:VK} {k k':Bool} (I:Inv X pins σ H s) (q:Q (.bl k) H) (e:k=k'):EP X pins σ Q (.bool k') s:=by
 subst e
 exact ⟨.bl k,H,I,rfl,q⟩
theorem x8:d_ X (compareOp .Eq) II:=by
 intro pins s σ H x y v u Q I rx ry h
 obtain ⟨hs,q⟩:=h
 cases x with
 | non =>
  cases rx
  cases y with
  | non=>cases ry;exact PySem.EqNone.eq_none_none (aZ I q (by simp))
  | bl j=>cases ry;exact PySem.EqNone.eq_none_bool (aZ I q (by simp))
  | int j=>obtain ⟨t',rfl⟩:=ry;exact PySem.EqNone.eq_none_int (aZ I q (by simp))
  | str j=>obtain ⟨t',rfl⟩:=ry;exact PySem.EqNone.eq_none_str (aZ I q (by simp))
  | _=>exact absurd (show false=true from hs) Bool.false_ne_true
 | bl i =>
  cases rx
  cases y with
  | non=>cases ry;exact PySem.EqNone.eq_bool_none (aZ I q (by simp))
  | bl j=>cases ry;exact eq_bool (aZ I q zk)
  | str j=>obtain ⟨t',rfl⟩:=ry;exact PySem.EqMixed.eq_bool_str (aZ I q (by simp))
  | _=>exact absurd (show false=true from hs) Bool.false_ne_true
 | int i =>
  obtain ⟨t,rfl⟩:=rx
  cases y with
  | non=>cases ry;exact PySem.EqNone.eq_int_none (aZ I q (by simp))
  | int j=>obtain ⟨t',rfl⟩:=ry;exact eq_int (aZ I q vC)
  | str j=>obtain ⟨t',rfl⟩:=ry;exact PySem.EqMixed.eq_int_str (aZ I q (by simp))
  | _=>exact absurd (show false=true from hs) Bool.false_ne_true
 | str i =>
  obtain ⟨t,rfl⟩:=rx
  cases y with
  | non=>cases ry;exact PySem.EqNone.eq_str_none (aZ I q (by simp))
  | bl j=>cases ry;exact PySem.EqMixed.eq_str_bool (aZ I q (by simp))
  | int j=>obtain ⟨t',rfl⟩:=ry;exact PySem.EqMixed.eq_str_int (aZ I q (by simp))
  | str j=>obtain ⟨t',rfl⟩:=ry;exact eq_str (aZ I q uq)
  | _=>exact absurd (show false=true from hs) Bool.false_ne_true
 | byt i =>
  obtain ⟨t,rfl⟩:=rx
  cases y with
  | byt j=>obtain ⟨t',rfl⟩:=ry;exact PySem.W.eq_bytes (aZ I q uf)
  | _=>exact absurd (show false=true from hs) Bool.false_ne_true
 | _=>cases y <;> exact absurd (show false=true from hs) Bool.false_ne_true
theorem Ct:d_ X (compareOp .NotEq) Ja:=by
 intro pins s σ H x y v u Q I rx ry h
 obtain ⟨hs,q⟩:=h
 cases x with
 | non =>
  cases rx
  cases y with
  | non=>cases ry;exact PySem.EqNone.ne_none_none (aZ I q (by simp))
  | bl j=>cases ry;exact PySem.EqNone.ne_none_bool (aZ I q (by simp))
  | int j=>obtain ⟨t',rfl⟩:=ry;exact PySem.EqNone.ne_none_int (aZ I q (by simp))
  | str j=>obtain ⟨t',rfl⟩:=ry;exact PySem.EqNone.ne_none_str (aZ I q (by simp))
  | _=>exact absurd (show false=true from hs) Bool.false_ne_true
 | bl i =>
  cases rx
  cases y with
  | non=>cases ry;exact PySem.EqNone.ne_bool_none (aZ I q (by simp))
  | bl j=>cases ry;exact ne_bool (aZ I q (congrArg not zk))
  | str j=>obtain ⟨t',rfl⟩:=ry;exact PySem.EqMixed.ne_bool_str (aZ I q (by simp))
  | _=>exact absurd (show false=true from hs) Bool.false_ne_true
 | int i =>
  obtain ⟨t,rfl⟩:=rx
  cases y with
  | non=>cases ry;exact PySem.EqNone.ne_int_none (aZ I q (by simp))
  | int j=>obtain ⟨t',rfl⟩:=ry;exact ne_int (aZ I q (congrArg not vC))
  | str j=>obtain ⟨t',rfl⟩:=ry;exact PySem.EqMixed.ne_int_str (aZ I q (by simp))
  | _=>exact absurd (show false=true from hs) Bool.false_ne_true
 | str i =>
  obtain ⟨t,rfl⟩:=rx
  cases y with
  | non=>cases ry;exact PySem.EqNone.ne_str_none (aZ I q (by simp))
  | bl j=>cases ry;exact PySem.EqMixed.ne_str_bool (aZ I q (by simp))
  | int j=>obtain ⟨t',rfl⟩:=ry;exact PySem.EqMixed.ne_str_int (aZ I q (by simp))
  | str j=>obtain ⟨t',rfl⟩:=ry;exact ne_str (aZ I q (congrArg not uq))
  | _=>exact absurd (show false=true from hs) Bool.false_ne_true
 | byt i =>
  obtain ⟨t,rfl⟩:=rx
  cases y with
  | byt j=>obtain ⟨t',rfl⟩:=ry;exact PySem.W.ne_bytes (aZ I q (congrArg not uf))
  | _=>exact absurd (show false=true from hs) Bool.false_ne_true
 | _=>cases y <;> exact absurd (show false=true from hs) Bool.false_ne_true
theorem uH:d_ X (compareOp .Lt) (Ab fun i j=>.bl (decide (i < j))):=BL fun _ _ _ _ _ _ _ q=>lt_int q
theorem Ck:d_ X (compareOp .LtE) (Ab fun i j=>.bl (decide (i≤j))):=BL fun _ _ _ _ _ _ _ q=>le_int q
theorem CW:d_ X (compareOp .Gt) (Ab fun i j=>.bl (decide (j < i))):=BL fun _ _ _ _ _ _ _ q=>gt_int q
theorem CP:d_ X (compareOp .GtE) (Ab fun i j=>.bl (decide (j≤i))):=BL fun _ _ _ _ _ _ _ q=>ge_int q
theorem wK:d_ X (compareOp .Lt) (fun x y H Q=>∃ i j,x=.str i∧y=.str j∧Q (.bl (decide (i.cps.toList < j.cps.toList))) H):=by
 intro pins s σ H x y v u Q I rx ry h
 obtain ⟨i,j,rfl,rfl,q⟩:=h
 obtain ⟨t,rfl⟩:=rx
 obtain ⟨t',rfl⟩:=ry
 exact lt_str (aZ I q rfl)
theorem Ek:d_ X (compareOp .Is) (fun x y H Q=>y=.non∧Q (.bl (decide (x=.non))) H):=by
 intro pins s σ H x y v u Q I rx ry h
 obtain ⟨rfl,q⟩:=h
 cases ry
 refine is_none_gen (aZ I q ?_)
 cases x <;> first
  | (cases rx;rfl)
  | (obtain ⟨t,rfl⟩:=rx;rfl)
theorem Bz:d_ X (compareOp .IsNot) (fun x y H Q=>y=.non∧Q (.bl (!decide (x=.non))) H):=by
 intro pins s σ H x y v u Q I rx ry h
 obtain ⟨rfl,q⟩:=h
 cases ry
 refine isnot_none_gen (aZ I q ?_)
 cases x <;> first
  | (cases rx;rfl)
  | (obtain ⟨t,rfl⟩:=rx;rfl)
theorem ax (b:Expr) {op:CmpOp} (h:op≠.In:=by decide) (h2:op≠.NotIn:=by decide):behindInMarks op b=false:=by
 have e1:(op == CmpOp.In)=false:=by cases op <;> first | rfl | exact absurd rfl h
 have e2:(op == CmpOp.NotIn)=false:=by cases op <;> first | rfl | exact absurd rfl h2
 cases b <;> simp [behindInMarks,e1,e2]
theorem kQ {op:CmpOp} {r:R2} (ho:d_ X (compareOp op) r) (ha:PE X a ta) (hb:PE X b tb) (hm:behindInMarks op b=false):PE X (.Compare a [op] [b] pos) (xF r ta tb):=by
 intro pins s σ H Q I h
 exact wpAny_Compare1 (C9 ha hb I h fun v u s2 x y H2 I2 rx ry q=>ho pins s2 σ H2 x y v u Q I2 rx ry q) hm
def qM (t:TE):TT:=fun σ H Q=>t σ H fun x H'=>∃ k,x=.bl k∧Q k H'
theorem cE {op:CmpOp} {r:R2} (ho:d_ X (compareOp op) r) (ha:PE X a ta) (hb:PE X b tb) (hm:behindInMarks op b=false):PT X (.Compare a [op] [b] pos) (qM (xF r ta tb)):=by
 intro pins s σ H Q I h
 refine wpAny_isTrue_Compare1 (bx (ha pins s σ H _ I h) fun v s1 ⟨x,H1,I1,r1,q1⟩=>bx (hb pins s1 σ H1 _ I1 q1) fun u s2 ⟨y,H2,I2,r2,q2⟩ =>
  bx (ho pins s2 σ H2 x y v u _ I2 r1 r2 q2) fun c s3 ⟨z,H3,I3,r3,k,e,q3⟩=>?_) hm
 subst e
 cases r3
 exact wpAny_truthy_bool ⟨H3,I3,q3⟩
def sv (r r':R2) (ta tb tc:TE):TE:=fun σ H Q=>ta σ H fun x H1=>tb σ H1 fun y H2=>r x y H2 fun z H3=>∃ k,z=.bl k ∧
 (if k=true then tc σ H3 fun w' H4=>r' y w' H4 Q else Q (.bl false) H3)
theorem yo {op op':CmpOp} {r r':R2} (ho:d_ X (compareOp op) r) (ho':d_ X (compareOp op') r') (ha:PE X a ta) (hb:PE X b tb) (hc:PE X c tc)
  (hm:lastMarks [op,op'] [b,c]=false:=by with_unfolding_all rfl):PE X (.Compare a [op,op'] [b,c] pos) (sv r r' ta tb tc):=by
 intro pins s σ H Q I h
 refine Compare_chain (bx (ha pins s σ H _ I h) fun v s1 ⟨x,H1,I1,r1,q1⟩=>chain_link (bx (hb pins s1 σ H1 _ I1 q1) fun u s2 ⟨y,H2,I2,r2,q2⟩ =>
  bx (ho pins s2 σ H2 x y v u _ I2 r1 r2 q2) fun d s3 ⟨z,H3,I3,r3,k,e,q3⟩=>?_)) hm
 subst e
 cases r3
 refine wpAny_truthy_bool ?_
 cases k with
 | false=>exact ite_ff ⟨.bl false,H3,I3,rfl,q3⟩
 | true=>exact ite_tt (chain_last (bx (hc pins s3 σ H3 _ I3 q3) fun w' s4 ⟨z',H4,I4,r4,q4⟩=>ho' pins s4 σ H4 y z' u w' Q I4 r2 r4 q4))
theorem zp {op op':CmpOp} {r r':R2} (ho:d_ X (compareOp op) r) (ho':d_ X (compareOp op') r') (ha:PE X a ta) (hb:PE X b tb) (hc:PE X c tc)
  (hm:lastMarks [op,op'] [b,c]=false:=by with_unfolding_all rfl):PT X (.Compare a [op,op'] [b,c] pos) (qM (sv r r' ta tb tc)):=by
 intro pins s σ H Q I h
 refine isTrue_chain (bx (ha pins s σ H _ I h) fun v s1 ⟨x,H1,I1,r1,q1⟩=>test_link (bx (hb pins s1 σ H1 _ I1 q1) fun u s2 ⟨y,H2,I2,r2,q2⟩ =>
  bx (ho pins s2 σ H2 x y v u _ I2 r1 r2 q2) fun d s3 ⟨z,H3,I3,r3,k,e,q3⟩=>?_)) hm
 subst e
 cases r3
 refine wpAny_truthy_bool ?_
 cases k with
 | false =>
  obtain ⟨k',e',q'⟩:=q3
  cases e'
  exact ite_ff ⟨H3,I3,q'⟩
 | true =>
  refine ite_tt (test_last (bx (hc pins s3 σ H3 _ I3 q3) fun w' s4 ⟨z',H4,I4,r4,q4⟩=>bx (ho' pins s4 σ H4 y z' u w' _ I4 r2 r4 q4) fun d' s5 ⟨z2,H5,I5,r5,k2,e2,q5⟩=>?_))
  subst e2
  cases r5
  exact wpAny_truthy_bool ⟨H5,I5,q5⟩
def Dr (K:PySem.W.Frag) (x:V) (H:Hp) (k:Bool):Prop :=
 match x with
 | .non=>k=false
 | .bl b=>k=b
 | .int i=>k=(i != 0)
 | .str y=>y.length≤sizeLine∧k=((y.length:Int) != 0)
 | .byt y=>y.size≤sizeLine∧k=((y.size:Int) != 0)
 | .ref p=>(∃ xs,cR K H p xs∧k=!xs.isEmpty)∨(∃ xs,fz K H p xs∧k=!xs.isEmpty)∨∃ kvs ep,H p=some (.dE kvs ep)∧k=!kvs.isEmpty
 | _=>False
theorem tJ {κ:Type} {kvs:List (κ × V)} {vs:List (κ × Value)} (r:KV kvs vs):(!vs.isEmpty)=!kvs.isEmpty:=by
 cases r <;> rfl
theorem mj {xs:List V} {its:List Value} (r:Vals xs its):(!its.toArray.isEmpty)=!xs.isEmpty:=by
 cases r <;> simp
theorem ib:(sizeLine:Nat) < 2 ^ 63:=by rw [sizeLine_eq];decide
theorem DV:Hl X (fun x H Q=>∃ k,Dr X.K x H k∧Q k H):=by
 intro pins s σ H x v Q I rx h
 obtain ⟨k,e,q⟩:=h
 have hl:=ib
 have hs:sizeLine=16777216:=sizeLine_eq
 cases x with
 | non =>
  cases rx
  have e':k=false:=e
  subst e'
  exact truthy_none ⟨H,I,q⟩
 | bl b =>
  cases rx
  have e':k=b:=e
  subst e'
  exact wpAny_truthy_bool ⟨H,I,q⟩
 | int i =>
  obtain ⟨t,rfl⟩:=rx
  have e':k=(i != 0):=e
  subst e'
  exact PySem.P.truthy_int ⟨H,I,q⟩
 | str y =>
  obtain ⟨t,rfl⟩:=rx
  obtain ⟨hy,e'⟩:y.length≤sizeLine∧k=((y.length:Int) != 0):=e
  subst e'
  exact PySem.P.truthy_str (by omega) ⟨H,I.tok _,q⟩
 | byt y =>
  obtain ⟨t,rfl⟩:=rx
  obtain ⟨hy,e'⟩:y.size≤sizeLine∧k=((y.size:Int) != 0):=e
  subst e'
  exact PySem.W.truthy_bytes (by omega) ⟨H,I.tok _,q⟩
 | ref p =>
  cases rx
  have e':(∃ xs,cR X.K H p xs∧k=!xs.isEmpty)∨(∃ xs,fz X.K H p xs∧k=!xs.isEmpty)∨∃ kvs ep,H p=some (.dE kvs ep)∧k=!kvs.isEmpty:=e
  rcases e' with ⟨xs,hx,e'⟩ | ⟨xs,hx,e'⟩ | ⟨kvs,ep,hx,e'⟩
  ·subst e'
   obtain ⟨its,r,pl,hz⟩:=I.list hx
   have hlen:=r.length
   exact wpAny_truthy_list pl.isList (by simp only [List.size_toArray];omega) ⟨H,I.tok _,by rw [mj r];exact q⟩
  ·subst e'
   obtain ⟨its,r,pl,hz⟩:=I.tuple hx
   have hlen:=r.length
   exact truthy_tuple pl (by simp only [List.size_toArray];omega) ⟨H,I.tok _,by rw [mj r];exact q⟩
  ·subst e'
   obtain ⟨hz,hS,vs,r,m⟩:kvs.length≤sizeLine∧(p == sysModules)=false∧∃ vs,KV kvs vs∧s.heap.DictAt (strKind X.prog X.w) p vs ep:=I.hok p _ hx
   have hlen:kvs.length=vs.length:=Paired.length r
   exact wpAny_truthy_dict hS m.dictOf (by omega) ⟨H,I.tok _,by rw [tJ r];exact q⟩
 | _=>exact (show False from e).elim
theorem zY (ha:PE X a ta) (he:∀ whole,isTrue a X.env whole=(do let v ← whole;standAt a.pos;holding [v] (truthy v))) :
  PT X a (fun σ H Q=>ta σ H fun x H'=>∃ k,Dr X.K x H' k∧Q k H'):=by
 intro pins s σ H Q I h
 exact isTrue_plain (bx (ha pins s σ H _ I h) fun v s1 ⟨x,H1,I1,r1,q1⟩=>DV pins s1 σ H1 x v Q I1 r1 q1) (he _)
theorem vals1 {x:V} {us:List Value} (r:Vals [x] us):∃ u,us=[u]∧RelV x u:=by
 cases r with
 | cons r1 r2=>cases r2;exact ⟨_,rfl,r1⟩
theorem vals2 {x y:V} {us:List Value} (r:Vals [x,y] us):∃ u w',us=[u,w']∧RelV x u∧RelV y w':=by
 cases r with
 | cons r1 r2 =>
  cases r2 with
  | cons r3 r4=>cases r4;exact ⟨_,_,rfl,r1,r3⟩
theorem jb:b7 X (.builtin "abs") (fun xs H Q=>∃ i,xs=[.int i]∧Q (.int (if i < 0 then -i else i)) H):=by
 intro pins s σ H xs us Q I r h
 obtain ⟨i,rfl,q⟩:=h
 obtain ⟨u,rfl,t,rfl⟩:=vals1 r
 exact call_abs_int fun u tk=>⟨.int (if i < 0 then -i else i),H,I.tok _,⟨_,rfl⟩,q⟩
end
end L2
namespace L2
open PySem PySem.Spec PyProof.Rows
structure tq (h:Heap) (x dx C:Addr) (mA:Str→Option Value):Prop where
 obj:h.get? x=some (PySem.W.instObj C dx)
 ns:h.Ns1 dx mA
 ne:dx≠x
theorem wC {h:Heap} {dx:Addr} {mA:Str→Option Value} (n:h.Ns1 dx mA):∃ od,h.get? dx=some od∧∀ name,PySem.W.lookIn name od=some (mA name):=by
 obtain ⟨o,es,ep,ho,hd,hk,_,hm⟩:=n
 refine ⟨o,ho,fun name=>?_⟩
 have e:=hm name
 unfold nsFind findBy at e
 rw [← Array.find?_toList] at e
 unfold PySem.W.lookIn
 rw [hd]
 dsimp only
 split
 ·rename_i y q
  rw [q] at e
  exact congrArg some e
 ·rename_i q
  rw [q] at e
  have a:es.toList.any (·.refKey)=false:=by
   rw [List.any_eq_false]
   intro y hy
   obtain ⟨z,t,hkey⟩:=hk y (Array.mem_toList_iff.mp hy)
   simp [DictEntry.refKey,hkey]
  have a':¬ es.toList.any (·.refKey)=true:=by rw [a];exact Bool.false_ne_true
  rw [if_neg a']
  exact congrArg some e
theorem tq.look {h:Heap} {x dx C:Addr} {mA:Str→Option Value} (I:tq h x dx C mA):∃ od,PySem.W.InstAt h x (PySem.W.instObj C dx) C (some od)∧∀ name,PySem.W.lookIn name od=some (mA name) :=
 let ⟨od,ho,hl⟩:=wC I.ns
 ⟨od,⟨I.obj,rfl,rfl,ho⟩,hl⟩
section
variable {prog:Program} {w:World} {A:Around} {E:Value→Shared→Prop} {s:Shared} {K:PySem.W.Frag} {x dx C f:Addr} {mA:Str→Option Value} {name:Str} {v:Value}
theorem get_map {expr:Bool} {Q:Value→Shared→Prop} (X:K.In s.heap) (I:tq s.heap x dx C mA) (hg:PySem.W.plainGet K C name=true) (hh:PySem.W.hasDictIn K C=true)
  (ha:PySem.W.findIn K (.ref C) name=some none) (hv:mA name=some v) (hv':PySem.W.handedIn v=true) (h:Q v { s with toks:=s.toks + 1 }) :
  wpAny (model prog w) A (getAttr (.ref x) name expr) Q E s:=by
 obtain ⟨od,J,hl⟩:=I.look
 exact PySem.W.get_value X J (PySem.W.plainGet_of hg).1 (PySem.W.findObj_own hh ha rfl (by rw [hl,hv])) hv' h
theorem xC {pl:Sem Bool} {Q:Value × List Value→Shared→Prop} (X:K.In s.heap) (I:tq s.heap x dx C mA) (hg:PySem.W.plainGet K C name=true)
  (hf:PySem.W.findIn K (.ref C) name=some (some (.ref f))) (ht:PySem.W.isFn K (.ref f)=true) (hv:mA name=none) (h:Q (.ref f,[.ref x]) s) :
  wpAny (model prog w) A (getMethod (.ref x) name pl) Q E s:=by
 obtain ⟨od,J,hl⟩:=I.look
 exact PySem.W.method_fn X J (PySem.W.plainGet_of hg).1 (PySem.W.plainGet_of hg).2 hf (beq_iff_eq.mp ht) (by show (PySem.W.lookIn name od).map (·.isSome)=some false;rw [hl,hv];rfl) h
theorem Ap {ns:List Str} {Q:Unit→Shared→Prop} (X:K.In s.heap) (I:tq s.heap x dx C mA)
  (hs:PySem.W.findIn K (.ref C) "__setattr__"=some (some (.builtin "object.__setattr__"))) (hp:PySem.W.plainOver K C=true) (ht:PySem.W.takerIn K C name=some none) (hh:PySem.W.hasDictIn K C=true)
  (hw:PySem.Within mA ns) (hsz:ns.length≤sizeLine)
  (h:∀ h',tq h' x dx C (fun y=>if y=name then some v else mA y)→Heap.SameBut dx s.heap h'→Q () { s with heap:=h',toks:=s.toks + 2 }) :
  wpAny (model prog w) A (setAttr (.ref x) name v) Q E s:=by
 obtain ⟨od,J,hl⟩:=I.look
 refine PySem.W.set_plain X J hs (PySem.W.osa_open (s:={ s with toks:=s.toks + 1 }) (r:=none) X J hp ht fun b=>?_)
 obtain ⟨cd,hc,hd'⟩:=PySem.W.any_some hh
 have hx:s.heap.get? x=some ⟨.ref C,some dx,.plain,#[]⟩:=I.obj
 refine wpAny_bind (wpAny_pure (wpAny_bind (wpAny_bind (wpAny_loadPart hx (wpAny_bind (PySem.W.Looks.here (s:={ s with toks:=s.toks + 1 }) (PySem.W.looks_clsIn X hc) ?_))))))
 rw [hd']
 refine wpAny_pure (a:=some dx) (wpAny_bind (wpAny_pure (wpAny_bind ?_)))
 refine wpAny_nsSet1 (s:={ s with toks:=s.toks + 1 }) I.ns fun h' hn2 hs2=>?_
 obtain ⟨oD,esD,epD,hoD,hdD,hcD⟩:=hn2.count (PySem.Within.cons name v hw)
 refine wpAny_bind (wpAny_lookBehind hoD (by rw [hdD];exact pastItsLine_dict (Nat.le_trans hcD (by rw [List.length_cons];omega))) ?_)
 exact wpAny_pure (h _ ⟨(hs2.2 _ (Ne.symm I.ne)).trans I.obj,hn2,I.ne⟩ hs2)
theorem zf {R:Result→Shared→Prop} {vs:List Value} {kw:List (Str × Value)} (X:K.In s.heap) (hm:PySem.W.makesIn K C=true)
  (hi:PySem.W.findIn K (.ref C) "__init__"=some (some (.ref f))) (hf:PySem.W.typeIn K (.ref f)=some (.type "function"))
  (h:codeAny (model prog w) (A.under (.builtin "type.__call__" ⟨.ref C :: vs,kw⟩)) (.call (.ref f) ⟨.ref (s.heap.objs.size + 1) :: vs,kw⟩) (PySem.W.InitBack (s.heap.objs.size + 1) R)
   { s with heap:=(s.heap.push PySem.W.emptyDict).push (PySem.W.instObj C s.heap.objs.size) }) :
  codeAny (model prog w) A (.call (.ref C) ⟨vs,kw⟩) R s:=by
 obtain ⟨hh,g,d,t,os⟩:=s
 exact PySem.W.make_core (PySem.W.makes_of X hm) (PySem.W.looks_findIn X hi) (fun self=>PySem.W.bind_fn X self hf) (.inl rfl) h
end
def dy (f:Str) (v:V):List (Str × V)→List (Str × V)
 | []=>[(f,v)]
 | (g,x) :: r=>if g=f then (g,v) :: r else (g,x) :: dy f v r
theorem kb (f g:Str) (v:V):∀ fs:List (Str × V),(dy f v fs).lookup g=if g=f then some v else fs.lookup g
 | []=>by
  show List.lookup g [(f,v)]=_
  by_cases h:g=f
  ·have hb:(g == f)=true:=beq_iff_eq.mpr h
   simp only [List.lookup,hb,if_pos h]
  ·have hb:(g == f)=false:=beq_eq_false_iff_ne.mpr h
   simp only [List.lookup,hb,if_neg h]
 | (k,x) :: r=>by
  have ih:=kb f g v r
  rw [show dy f v ((k,x) :: r)=(if k=f then (k,v) :: r else (k,x) :: dy f v r) from rfl]
  by_cases hk:k=f
  ·rw [if_pos hk]
   by_cases h:g=k
   ·have hb:(g == k)=true:=beq_iff_eq.mpr h
    simp only [List.lookup,hb,if_pos (h.trans hk)]
   ·have hb:(g == k)=false:=beq_eq_false_iff_ne.mpr h
    simp only [List.lookup,hb,if_neg (fun e:g=f=>h (e.trans hk.symm))]
  ·rw [if_neg hk]
   by_cases h:g=k
   ·have hb:(g == k)=true:=beq_iff_eq.mpr h
    simp only [List.lookup,hb,if_neg (fun e:g=f=>hk (h.symm.trans e))]
   ·have hb:(g == k)=false:=beq_eq_false_iff_ne.mpr h
    simp only [List.lookup,hb]
    exact ih
theorem jX (f:Str) (v:V):∀ fs:List (Str × V),f∈(dy f v fs).map (·.1)∧∀ g,g∈fs.map (·.1)→g∈(dy f v fs).map (·.1)
 | []=>⟨by simp [dy],fun g h=>by simp at h⟩
 | (k,x) :: r=>by
  obtain ⟨i1,i2⟩:=jX f v r
  rw [show dy f v ((k,x) :: r)=(if k=f then (k,v) :: r else (k,x) :: dy f v r) from rfl]
  by_cases hk:k=f
  ·rw [if_pos hk]
   subst hk
   exact ⟨by simp,fun g h=>by simpa using h⟩
  ·rw [if_neg hk]
   refine ⟨?_,fun g h=>?_⟩
   ·rw [List.map_cons]
    exact List.mem_cons_of_mem _ i1
   ·rw [List.map_cons] at h ⊢
    rcases List.mem_cons.mp h with e | e
    ·exact List.mem_cons.mpr (.inl e)
    ·exact List.mem_cons_of_mem _ (i2 g e)
theorem j7 (f:Str) (v:V):∀ fs:List (Str × V),(dy f v fs).length≤fs.length + 1
 | []=>by simp [dy]
 | (k,x) :: r=>by
  have ih:=j7 f v r
  rw [show dy f v ((k,x) :: r)=(if k=f then (k,v) :: r else (k,x) :: dy f v r) from rfl]
  by_cases hk:k=f
  ·rw [if_pos hk,List.length_cons,List.length_cons];omega
  ·rw [if_neg hk,List.length_cons,List.length_cons];omega
theorem mD.some_of {v:V} {o:Option Value} (r:mD (some v) o):∃ u,o=some u∧RelV v u:=by
 cases o with
 | none=>exact (show False from r).elim
 | some u=>exact ⟨u,rfl,r⟩
theorem mD.none_of {o:Option Value} (r:mD none o):o=none:=by
 cases o with
 | none=>rfl
 | some u=>exact (show False from r).elim
theorem wx {v:V} {u:Value} (r:RelV v u):PySem.W.handedIn u=true:=by
 cases v with
 | non=>cases (show u=Value.none from r);rfl
 | bl b=>cases (show u=Value.bool b from r);rfl
 | int i=>obtain ⟨t,e⟩:=(show ∃ t,u=Value.int i t from r);cases e;rfl
 | str x=>obtain ⟨t,e⟩:=(show ∃ t,u=Value.str x t from r);cases e;rfl
 | byt b=>obtain ⟨t,e⟩:=(show ∃ t,u=Value.bytes b t from r);cases e;rfl
 | flt b=>obtain ⟨t,e⟩:=(show ∃ t,u=Value.float b t from r);cases e;rfl
 | ref a=>cases (show u=Value.ref a from r);rfl
 | ty n=>cases (show u=Value.type n from r);rfl
section
variable {P:Program} {w:World} {H H':Hp} {h h':Heap} {a C dx:Addr} {fs fs':List (Str × V)}
theorem kF (hok:iB P w H h) (e:H a=some (.ins C dx fs)):∃ mA,tq h a dx C mA∧(∀ f,mD (fs.lookup f) (mA f))∧PySem.Within mA (fs.map (·.1))∧fs.length≤1000∧H dx=some (.own a):=by
 obtain ⟨d,z,ne,ob,mA,n,r,q⟩:=(show cb P w H h a (.ins C dx fs) from hok a _ e)
 exact ⟨mA,⟨ob,n,ne⟩,r,q,z,d⟩
end
structure kM (K:PySem.W.Frag) (C:Addr):Prop where
 pg:PySem.W.plainGet K C Str.empty=true
 hd:PySem.W.hasDictIn K C=true
 po:PySem.W.plainOver K C=true
 sa:PySem.W.findIn K (.ref C) "__setattr__"=some (some (.builtin "object.__setattr__"))
theorem kM.get {K:PySem.W.Frag} {C:Addr} (c:kM K C) (f:Str):PySem.W.plainGet K C f=true:=c.pg
def ay (K:PySem.W.Frag) (C:Addr) (f:Str):Prop:=PySem.W.findIn K (.ref C) f=some none
theorem ay.F6 {K:PySem.W.Frag} {C:Addr} {f:Str} (n:ay K C f):PySem.W.takerIn K C f=some none:=by
 unfold PySem.W.takerIn
 rw [show PySem.W.findIn K (.ref C) f=some none from n]
 rfl
structure Meth (K:PySem.W.Frag) (C:Addr) (m:Str) (f:Addr):Prop where
 at_:PySem.W.findIn K (.ref C) m=some (some (.ref f))
 fn:PySem.W.isFn K (.ref f)=true
 kp:PySem.W.keepIn K (.ref f)=true
section
variable {X:Cx} {pins:List (Addr × Obj)} {σ:St} {H:Hp} {s:Shared} {a C dx:Addr} {fs:List (Str × V)} {f:Str} {v:V} {A:Around} {E:Value→Shared→Prop}
theorem tN {b:Bool} {Q:Value→Shared→Prop} (I:Inv X pins σ H s) (e:H a=some (.ins C dx fs)) (c:kM X.K C) (n:ay X.K C f) (l:fs.lookup f=some v)
  (h:∀ u s',Inv X pins σ H s'→RelV v u→Q u s'):wpAny (model X.prog X.w) A (getAttr (.ref a) f b) Q E s:=by
 obtain ⟨mA,O,r,_,_,_⟩:=kF I.hok e
 obtain ⟨u,hu,ru⟩:=mD.some_of (v:=v) (o:=mA f) (by rw [← l];exact r f)
 exact get_map I.i7 O (c.get f) c.hd n hu (wx ru) (h u _ (I.tok _) ru)
theorem lE {m:Str} {g:Addr} {pl:Sem Bool} {Q:Value × List Value→Shared→Prop} (I:Inv X pins σ H s) (e:H a=some (.ins C dx fs)) (c:kM X.K C) (k:Meth X.K C m g) (l:fs.lookup m=none)
  (h:Q (.ref g,[.ref a]) s):wpAny (model X.prog X.w) A (getMethod (.ref a) m pl) Q E s:=by
 obtain ⟨mA,O,r,_,_,_⟩:=kF I.hok e
 have hn:mA m=none:=mD.none_of (by rw [← l];exact r m)
 exact xC I.i7 O (c.get m) k.at_ k.fn hn h
theorem tU {y:V} {u:Value} {Q:Unit→Shared→Prop} (I:Inv X pins σ H s) (e:H a=some (.ins C dx fs)) (c:kM X.K C) (n:ay X.K C f) (hl:fs.length < 1000) (ry:RelV y u)
  (h:∀ s',Inv X pins σ (upd H a (.ins C dx (dy f y fs))) s'→Q () s'):wpAny (model X.prog X.w) A (setAttr (.ref a) f u) Q E s:=by
 obtain ⟨mA,O,r,wi,_,ho⟩:=kF I.hok e
 have hz:(fs.map (·.1)).length≤sizeLine:=by rw [List.length_map,sizeLine_eq];omega
 refine Ap I.i7 O c.sa c.po n.F6 c.hd wi hz fun h' O' sb=>h _ ?_
 have hd:∃ o,h'.get? dx=some o:=let ⟨o,_,_,e',_⟩:=O'.ns;⟨o,e'⟩
 refine I.write (x:=a) (e:=dx) (by rw [e];exact True.intro) (.inr ho) (fun b q hb z=>(sb.2 b hb).trans z) hd ?_
 refine ⟨by rw [aH O.ne];exact ho,?_,O.ne,O'.obj,_,O'.ns,fun g=>?_,fun g hg=>?_⟩
 ·have:=j7 f y fs;omega
 ·show mD ((dy f y fs).lookup g) (if g=f then some u else mA g)
  rw [kb]
  by_cases q:g=f
  ·rw [if_pos q,if_pos q];exact ry
  ·rw [if_neg q,if_neg q];exact r g
 ·by_cases q:g=f
  ·rw [q];exact (jX f y fs).1
  ·refine (jX f y fs).2 g (wi g fun z=>hg ?_)
   show (if g=f then some u else mA g)=none
   rw [if_neg q];exact z
theorem Inv.made (I:Inv X pins σ H s):Inv X pins σ (upd (upd H s.heap.objs.size (.own (s.heap.objs.size + 1))) (s.heap.objs.size + 1) (.ins C s.heap.objs.size []))
  { s with heap:=(s.heap.push PySem.W.emptyDict).push (PySem.W.instObj C s.heap.objs.size) }:=by
 have e1:(s.heap.push PySem.W.emptyDict).get? s.heap.objs.size=some PySem.W.emptyDict:=Heap.get?_push_size s.heap rfl
 have e2:((s.heap.push PySem.W.emptyDict).push (PySem.W.instObj C s.heap.objs.size)).get? (s.heap.objs.size + 1)=some (PySem.W.instObj C s.heap.objs.size):=by
  have:=Heap.get?_push_size (s.heap.push PySem.W.emptyDict) (o:=PySem.W.instObj C s.heap.objs.size) rfl
  rwa [Heap.size_push] at this
 have e3:(s.heap.push PySem.W.emptyDict).Ns s.heap.objs.size (fun _=>none):=⟨PySem.W.emptyDict,#[],_,e1,rfl,(fun e he=>absurd he (by simp)),fun _=>rfl⟩
 have I1:=I.laid (a:=s.heap.objs.size) (o:=.own (s.heap.objs.size + 1)) (h':=s.heap.push PySem.W.emptyDict) (t':=s.toks) (fun b u q=>Heap.get?_push_of_some _ q) (Nat.le_refl _) ⟨_,e1⟩
 refine I1.laid (a:=s.heap.objs.size + 1) (o:=.ins C s.heap.objs.size []) (t':=s.toks) (fun b u q=>Heap.get?_push_of_some _ q) (Nat.le_of_eq (Heap.size_push _ _)) ?_
 have ne:s.heap.objs.size≠s.heap.objs.size + 1:=Nat.ne_of_lt (Nat.lt_succ_self _)
 refine ⟨by rw [aH ne,aA],Nat.zero_le _,ne,e2,fun _=>none,(Heap.Ns1.of_empty e3).at fun o q=>Heap.get?_push_of_some _ q,fun _=>True.intro,fun y hy=>absurd rfl hy⟩
theorem Au {prog:Program} {w:World} {env:Env} {e:Expr} {f:Str} {pos:Pos} {s:Shared} {Q:Value→Shared→Prop} (hb:attributeBase e f env (eval e env)=eval e env)
  (h:wpAny (model prog w) A (eval e env) (fun o s₁=>wpAny (model prog w) A (getAttr o f true) Q E s₁) E s):wpAny (model prog w) A (eval (.Attribute e f pos) env) Q E s :=
 Attribute_any_ h (by rw [arm_eval_Attribute,hb])
end
def Il (K:PySem.W.Frag) (ta:TE) (f:Str):TE:=fun σ H Q=>ta σ H fun x H1=>∃ a C dx fs v,x=.ref a∧H1 a=some (.ins C dx fs)∧kM K C∧ay K C f∧fs.lookup f=some v∧Q v H1
def IG (K:PySem.W.Frag) (ta tv:TE) (f:Str):TS:=fun D σ H=>tv σ H fun y H1=>ta σ H1 fun x H2=>∃ a C dx fs,x=.ref a∧H2 a=some (.ins C dx fs)∧kM K C∧ay K C f∧fs.length < 1000 ∧
 D.nx σ (upd H2 a (.ins C dx (dy f y fs)))
section
variable {X:Cx} {o e value:Expr} {f:Str} {pos pos' tpos:Pos} {ta tv:TE}
theorem Ex (he:PE X e ta) (hb:attributeBase e f X.env (eval e X.env)=eval e X.env):PE X (.Attribute e f pos) (Il X.K ta f):=by
 intro pins s σ H Q I h
 refine Au hb (bx (he pins s σ H _ I h) fun u s1 ⟨x,H1,I1,rx,a,C,dx,fs,v,ex,ea,c,n,l,q⟩=>?_)
 subst ex
 obtain rfl:u=Value.ref a:=rx
 exact tN I1 ea c n l fun u' s2 I2 ru=>⟨v,H1,I2,ru,q⟩
theorem D8 (ha:PE X o ta) (hv:PE X value tv) (hs:swapsWith value (some (.Attribute o f pos')) pos.line X.env=pure false):PS X (.Assign [.Attribute o f pos'] value pos) (IG X.K ta tv f):=by
 intro pins s σ H D I h
 refine plainObj_wpAny_Assign_Attribute (bx (hv pins s σ H _ I h) fun u s1 ⟨y,H1,I1,ry,q⟩=>bx (ha pins s1 σ H1 _ I1 q) fun ov s2 ⟨x,H2,I2,rx,a,C,dx,fs,ex,ea,c,n,l,q2⟩=>?_) hs
 subst ex
 obtain rfl:ov=Value.ref a:=rx
 exact tU I2 ea c n l ry fun s3 I3=>⟨σ,_,I3,q2⟩
end
section
variable {X:Cx} {pins:List (Addr × Obj)} {σ:St} {H:Hp} {s:Shared} {A:Around} {E:Value→Shared→Prop} {Q:Value→Shared→Prop} {c:Value} {b:Bool}
inductive eZ (K:PySem.W.Frag) (H:Hp):V→Value→Prop where
 | non:eZ K H .non (.type "NoneType")
 | bl (x:Bool):eZ K H (.bl x) (.type "bool")
 | int (i:Int):eZ K H (.int i) (.type "int")
 | str (x:Str):eZ K H (.str x) (.type "str")
 | flt (x:UInt64):eZ K H (.flt x) (.type "float")
 | lst {a:Addr} {xs:List V} (e:H a=some (.lst xs)):eZ K H (.ref a) (.type "list")
 | mr {a:Addr} {o:Obj} {xs:List V} (e:H a=some (.mr o (.lst xs))):eZ K H (.ref a) (.type "list")
 | tup {a:Addr} {xs:List V} (e:H a=some (.tup xs)):eZ K H (.ref a) (.type "tuple")
 | dK {a:Addr} {kvs:List (Key × V)} (e:H a=some (.dK kvs)):eZ K H (.ref a) (.type "dict")
 | dE {a:Addr} {kvs:List (Str × V)} {ep:Nat} (e:H a=some (.dE kvs ep)):eZ K H (.ref a) (.type "dict")
 | ins {a C dx:Addr} {fs:List (Str × V)} (e:H a=some (.ins C dx fs)) (cl:kM K C) (ha:PySem.W.findIn K (.ref C) "__class__"=some (some (.builtin "object.__class__")))
   (hn:PySem.W.specialIn K (.builtin "object.__class__") "__get__"=some (some (.builtin "getset_descriptor.__get__"))) (htk:PySem.W.takesIn K (.builtin "object.__class__")=some true)
   (hm:PySem.W.mroIn K C (.type "object")=some true):eZ K H (.ref a) (.ref C)
theorem vU {x:V} {u t:Value} (I:Inv X pins σ H s) (rx:RelV x u) (ty:eZ X.K H x t) (e:PySem.W.kitOne X.K t c=some b) (h:∀ tk,Q (.bool b) { s with toks:=tk }) :
  wpAny (model X.prog X.w) A (call (.builtin "isinstance") [u,c]) Q E s:=by
 cases ty with
 | non=>cases (show u=Value.none from rx);exact PySem.W.kia_one PySem.W.kitx_none I.i7 True.intro e (fun z=>nomatch z) h
 | bl y=>cases (show u=Value.bool y from rx);exact PySem.W.kia_one PySem.W.kitx_bool I.i7 True.intro e (fun z=>nomatch z) h
 | int i=>obtain ⟨t,q⟩:=(show ∃ t,u=Value.int i t from rx);cases q;exact PySem.W.kia_one PySem.W.kitx_int I.i7 True.intro e (fun z=>nomatch z) h
 | str y=>obtain ⟨t,q⟩:=(show ∃ t,u=Value.str y t from rx);cases q;exact PySem.W.kia_one PySem.W.kitx_str I.i7 True.intro e (fun z=>nomatch z) h
 | flt y=>obtain ⟨t,q⟩:=(show ∃ t,u=Value.float y t from rx);cases q;exact PySem.W.kia_one PySem.W.kitx_float I.i7 True.intro e (fun z=>nomatch z) h
 | @lst a xs ea =>
  cases (show u=Value.ref a from rx)
  obtain ⟨_,_,n,_,h1⟩:=(show cb X.prog X.w H s.heap a (.lst xs) from I.hok a _ ea)
  exact PySem.W.kia_one PySem.W.kitx_list I.i7 ⟨_,h1,rfl⟩ e (fun z=>nomatch z) h
 | @mr a ob xs ea =>
  cases (show u=Value.ref a from rx)
  obtain ⟨_,_,_,n,_,h1⟩:=(show cb X.prog X.w H s.heap a (.mr ob (.lst xs)) from I.hok a _ ea)
  exact PySem.W.kia_one PySem.W.kitx_list I.i7 ⟨_,h1,rfl⟩ e (fun z=>nomatch z) h
 | @tup a xs ea =>
  cases (show u=Value.ref a from rx)
  obtain ⟨_,_,_,p⟩:=(show cb X.prog X.w H s.heap a (.tup xs) from I.hok a _ ea)
  obtain ⟨o,h1,h2,_⟩:=p
  exact PySem.W.kia_one PySem.W.kitx_tuple I.i7 ⟨o,h1,h2⟩ e (fun z=>nomatch z) h
 | @dK a kvs ea =>
  cases (show u=Value.ref a from rx)
  obtain ⟨_,_,vs,_,p⟩:=(show cb X.prog X.w H s.heap a (.dK kvs) from I.hok a _ ea)
  obtain ⟨o,es,ep,h1,h2,_⟩:=p
  exact PySem.W.kia_one PySem.W.kitx_dict I.i7 ⟨o,h1,h2.1⟩ e (fun z=>nomatch z) h
 | @dE a kvs ep ea =>
  cases (show u=Value.ref a from rx)
  obtain ⟨_,_,vs,_,o,es,h1,h2,_⟩:=(show cb X.prog X.w H s.heap a (.dE kvs ep) from I.hok a _ ea)
  exact PySem.W.kia_one PySem.W.kitx_dict I.i7 ⟨o,h1,h2.1⟩ e (fun z=>nomatch z) h
 | @ins a C dx fs ea cl ha hn htk hm =>
  cases (show u=Value.ref a from rx)
  obtain ⟨mA,O,_⟩:=kF I.hok ea
  obtain ⟨od,J,_⟩:=O.look
  exact PySem.W.kia_one (PySem.W.kitx_own (cl.get _) cl.hd ha hn htk hm) I.i7 J e (fun z=>nomatch z) h
end
end L2
namespace L2
open PySem PySem.Spec PyProof.Rows
structure bj (k:Nat) (A:Around):Prop where
 hd:A.handled=none
 dp:A.depth + 3 * k + 5 < recursionLimit
 un:A.units + 16 * k + 200 < cLine
theorem bj.mono {j k:Nat} {A:Around} (r:bj k A) (h:j≤k):bj j A:=⟨r.hd,by have:=r.dp;omega,by have:=r.un;omega⟩
theorem bj.deeper {k:Nat} {A:Around} (r:bj (k + 1) A) (env:Env):bj k (A.deeper env) :=
 ⟨r.hd,by have:=r.dp;show A.depth + 1 + 3 * k + 5 < _;omega,by have:=r.un;show A.units + 3 + 16 * k + 200 < _;omega⟩
theorem bj.in1 {k:Nat} {A:Around} (r:bj (k + 1) A):bj k A.in1 :=
 ⟨r.hd,by have:=r.dp;show A.depth + 3 * k + 5 < _;omega,by have:=r.un;show A.units + 1 + 16 * k + 200 < _;omega⟩
theorem sY {A:Around} {C:Addr} {us:List Value} {kw:List (Str × Value)}:(A.under (.builtin "type.__call__" ⟨.ref C :: us,kw⟩)).depth=A.depth + 1:=by
 first | rfl | simp [Around.under,Code.weight,Code.isCreation,Code.isGuard,Code.isCaller,Code.frames,Code.isFrame,guardIds]
theorem tM {A:Around} {C:Addr} {us:List Value} {kw:List (Str × Value)}:(A.under (.builtin "type.__call__" ⟨.ref C :: us,kw⟩)).units=A.units + 1:=by
 first | rfl | simp [Around.under,Code.cUnits,Code.frames,Code.isFrame]
theorem bj.make {k:Nat} {A:Around} (r:bj (k + 1) A) (C:Addr) (us:List Value) (kw:List (Str × Value)):bj k (A.under (.builtin "type.__call__" ⟨.ref C :: us,kw⟩)) :=
 ⟨r.hd,by have:=r.dp;rw [sY];omega,by have:=r.un;rw [tM];omega⟩
theorem bj.depth {k:Nat} {A:Around} (r:bj k A):A.depth < recursionLimit:=by have:=r.dp;omega
theorem bj.units {k:Nat} {A:Around} (r:bj k A):A.units + 64 < cLine:=by have:=r.un;omega
theorem bj.DM {k:Nat} {A:Around} (r:bj k A):A.units < cLine:=by have:=r.un;omega
def sH:TA:=fun _ H Q=>Q [] H
def qd (ta:TE) (tr:TA):TA:=fun σ H Q=>ta σ H fun x H1=>tr σ H1 fun xs H2=>Q (x :: xs) H2
section
variable {X:Cx} {e:Expr} {es:List Expr} {te:TE} {t:TA} {pos:Pos}
theorem bh:PA X [] sH:=fun _ _ _ _ H Q I h=>Calls.spliced_nil ⟨[],H,I,.nil,h⟩
theorem aJ (ha:PE X e te) (hr:PA X es t) (hs:starEach (e :: es) X.env=(false,eval e X.env) :: starEach es X.env:=by rfl):PA X (e :: es) (qd te t):=by
 intro pos pins s σ H Q I h
 rw [hs]
 show wpAny _ _ (spliced ((false,eval e X.env) :: backTo pos (starEach es X.env))) _ _ s
 refine Calls.spliced_cons (bx (ha pins s σ H _ I h) fun u s1 ⟨x,H1,I1,r1,q1⟩=>?_)
 exact bx (hr pos pins s1 σ H1 _ I1 q1) fun us s2 ⟨xs,H2,I2,r2,q2⟩=>⟨x :: xs,H2,I2,.cons r1 r2,q2⟩
def Bs (t:TA):TE:=fun σ H Q=>t σ H fun xs H1=>xs.length≤sizeLine∧∀ p,H1 p=none→Q (.ref p) (upd H1 p (.tup xs))
def yH (t:TA):TE:=fun σ H Q=>t σ H fun xs H1=>xs.length≤sizeLine∧∀ p,H1 p=none→Q (.ref p) (upd H1 p (.lst xs))
theorem lA {x1} (h:PA X es t):PE X (.Tuple es x1 pos) (Bs t):=by
 intro pins s σ H Q I hq
 refine wpAny_Tuple_spliced (bx (h pos pins s σ H _ I hq) fun us s1 ⟨xs,H1,I1,r,z,q⟩=>⟨by rw [← r.length];exact z,?_⟩)
 have hf:H1 s1.heap.objs.size=none:=I1.hok.fresh (Nat.le_refl _)
 refine ⟨.ref s1.heap.objs.size,upd H1 s1.heap.objs.size (.tup xs),I1.laid (t':=s1.toks) (fun b u e=>Heap.get?_push_of_some _ e) (Nat.le_refl _) ?_,rfl,q _ hf⟩
 exact ⟨z,us,r,⟨_,Heap.get?_push_size _ rfl,rfl,_,rfl⟩⟩
theorem gA (h:PA X es t):PE X (.List es pos) (yH t):=by
 intro pins s σ H Q I hq
 refine wpAny_List_spliced (bx (h pos pins s σ H _ I hq) fun us s1 ⟨xs,H1,I1,r,z,q⟩=>⟨by rw [← r.length];exact z,?_⟩)
 have hf:H1 s1.heap.objs.size=none:=I1.hok.fresh (Nat.le_refl _)
 refine ⟨.ref s1.heap.objs.size,upd H1 s1.heap.objs.size (.lst xs),I1.laid (t':=s1.toks) (fun b u e=>Heap.get?_push_of_some _ e) (Nat.le_refl _) ?_,rfl,q _ hf⟩
 exact ⟨z,us,0,r,Heap.get?_push_size _ rfl⟩
end
abbrev Sp:=List V→Hp→VK→XK→Prop
abbrev mn:=List Env→Hp→Shared→XK→Value→Shared→Prop
structure mW (P:Program) (w:World) (K:PySem.W.Frag) (mg:Str→Option Value) (base:Heap) (A:Around) (outer:List Env) (s:Shared) (H:Hp):Prop where
 frames:A.frames=some outer
 mod:Mod K mg base
 bs:∀ b o,base.get? b=some o→s.heap.get? b=some o∧H b=none
 bsz:base.objs.size≤s.heap.objs.size
 ju:s.heap.FunFrames base outer
 frf:∀ b∈gj outer,H b=none
 hok:iB P w H s.heap
 bare:AllBare s.gens
def CE (outer:List Env) (P:Program) (w:World) (H:Hp) (s:Shared) (Q:VK) (u:Value) (s':Shared):Prop :=
 ∃ v H',s'.os=s.os∧AllBare s'.gens∧Un (gj outer) [] H H' s.heap s'.heap∧iB P w H' s'.heap∧RelV v u∧Q v H'
def CR (CX:mn) (outer:List Env) (P:Program) (w:World) (H:Hp) (s:Shared) (Q:VK) (E:XK) (r:Result) (s':Shared):Prop :=
 match r with
 | .ok (.ret u)=>CE outer P w H s Q u s'
 | .ok _=>False
 | .error e=>CX outer H s E e s'
structure aF (P:Program) (w:World) (K:PySem.W.Frag) (mg:Str→Option Value) (base:Heap) (CX:mn) (k:Nat) (f:Addr) (fd:FuncData) (ps:List Str) (sp:Sp):Prop where
 len:∀ vs H Q E,sp vs H Q E→vs.length=ps.length
 run:∀ (A:Around) (outer:List Env) (s:Shared) (H:Hp) (args:Args) (us:List Value) (vs:List V) (Q:VK) (E:XK),bj k A→mW P w K mg base A outer s H→BindsTo s fd args (ps.zip us)→Vals vs us→sp vs H Q E →
  codeAny (model P w) A (.call (.ref f) args) (CR CX outer P w H s Q E) s
theorem aF.mono {P:Program} {w:World} {K:PySem.W.Frag} {mg:Str→Option Value} {base:Heap} {CX:mn} {j k:Nat} {f:Addr} {fd:FuncData} {ps:List Str} {sp:Sp} (F:aF P w K mg base CX j f fd ps sp) (h:j≤k) :
  aF P w K mg base CX k f fd ps sp:=⟨F.len,fun A outer s H args us vs Q E hr=>F.run A outer s H args us vs Q E (hr.mono h)⟩
theorem aF.imp {P:Program} {w:World} {K:PySem.W.Frag} {mg:Str→Option Value} {base:Heap} {CX:mn} {k:Nat} {f:Addr} {fd:FuncData} {ps:List Str} {sp sp':Sp} (F:aF P w K mg base CX k f fd ps sp)
  (h:∀ vs H Q E,sp' vs H Q E→sp vs H Q E):aF P w K mg base CX k f fd ps sp' :=
 ⟨fun vs H Q E q=>F.len vs H Q E (h _ _ _ _ q),fun A outer s H args us vs Q E hr he hb hv hs=>F.run A outer s H args us vs Q E hr he hb hv (h _ _ _ _ hs)⟩
theorem mW.make {P:Program} {w:World} {K:PySem.W.Frag} {mg:Str→Option Value} {base:Heap} {A:Around} {outer:List Env} {s:Shared} {H:Hp} (e:mW P w K mg base A outer s H) (C:Addr) (us:List Value) (kw:List (Str × Value)) :
  mW P w K mg base (A.under (.builtin "type.__call__" ⟨.ref C :: us,kw⟩)) outer s H:=⟨by first | exact e.frames | (simpa [Around.under,Code.envs,Code.isFrame,pushEnvs] using e.frames),e.mod,e.bs,e.bsz,e.ju,e.frf,e.hok,e.bare⟩
theorem mW.in1 {P:Program} {w:World} {K:PySem.W.Frag} {mg:Str→Option Value} {base:Heap} {A:Around} {outer:List Env} {s:Shared} {H:Hp} (e:mW P w K mg base A outer s H) :
  mW P w K mg base A.in1 outer s H:=⟨e.frames,e.mod,e.bs,e.bsz,e.ju,e.frf,e.hok,e.bare⟩
section
variable {X:Cx} {pins:List (Addr × Obj)} {σ:St} {H:Hp} {s s':Shared}
theorem Inv.FU (I:Inv X pins σ H s):mW X.prog X.w X.K X.mg X.base X.A X.stack s H :=
 ⟨I.ok.frames,I.ok.mod,I.bs,Nat.le_trans I.ok.bsz I.sz,I.stack,I.oQ,I.hok,I.bare⟩
theorem Inv.after {Q:VK} {u:Value} (I:Inv X pins σ H s) (h:CE X.stack X.prog X.w H s Q u s'):EP X pins σ Q u s':=by
 obtain ⟨v,H',os,bare,un,hok,r,q⟩:=h
 obtain ⟨hh,g,d,t,os'⟩:=s'
 obtain rfl:os'=s.os:=os
 exact ⟨v,H',I.call (h':=hh) (g':=g) (d':=d) (t':=t) (ch:=[]) un hok bare (fun b z=>absurd z (by simp)),r,q⟩
end
def lI (sp:Sp) (dvs:List V) (E:XK) (t:TA):TE:=fun σ H Q=>t σ H fun vs H1=>sp (vs ++ dvs) H1 Q E
def xE (C:Addr) (m:Str) (sp:Sp) (dvs:List V) (E:XK) (ta:TE) (t:TA):TE:=fun σ H Q=>ta σ H fun x H1=>∃ a dx fs,x=.ref a∧H1 a=some (.ins C dx fs)∧fs.lookup m=none ∧
 t σ H1 fun vs H2=>sp (x :: (vs ++ dvs)) H2 Q E
def x6 (C:Addr) (sp:Sp) (dvs:List V) (E:XK) (t:TA):TE:=fun σ H Q=>t σ H fun vs H1=>∀ x dx,H1 x=none→H1 dx=none→dx≠x →
 sp (.ref x :: (vs ++ dvs)) (upd (upd H1 dx (.own x)) x (.ins C dx [])) (fun v H2=>v=.non∧Q (.ref x) H2) E
def Binds (K:PySem.W.Frag) (fd:FuncData) (ps:List Str) (ds:List Value):Prop :=
 ∀ (s:Shared) (us:List Value),K.In s.heap→(us ++ ds).length=ps.length→BindsTo s fd ⟨us,[]⟩ (ps.zip (us ++ ds))
theorem Binds.all {K:PySem.W.Frag} {fd:FuncData} {ps:List Str} (h:∀ us:List Value,us.length=ps.length→bindArgs fd ⟨us,[]⟩=pure (ps.zip us)):Binds K fd ps []:=fun s us _ hl=>by
 rw [List.append_nil] at hl ⊢
 exact .of_eq (h us hl)
def Passes (CX:mn) (X:Cx) (E:XK):Prop:=∀ (pins:List (Addr × Obj)) (σ:St) (H:Hp) (s:Shared) (e:Value) (s':Shared),Inv X pins σ H s→CX X.stack H s E e s'→X.xe e s'
section
variable {X:Cx} {CX:mn} {k:Nat} {f C:Addr} {fd:FuncData} {ps:List Str} {sp:Sp} {dvs:List V} {ds:List Value} {E:XK} {x m:Str} {p pos apos:Pos} {e o:Expr} {es:List Expr} {ta:TE} {t:TA}
theorem si {pins:List (Addr × Obj)} {σ:St} {H:Hp} {s:Shared} {Q:VK} {us:List Value} {vs:List V} (F:aF X.prog X.w X.K X.mg X.base CX k f fd ps sp) (hr:bj k X.A) (hb:Binds X.K fd ps ds) (hd:Vals dvs ds) (hx:Passes CX X E)
  (I:Inv X pins σ H s) (r:Vals vs us) (h:sp (vs ++ dvs) H Q E):wpAny (model X.prog X.w) X.A (call (.ref f) us) (EP X pins σ Q) X.xe s:=by
 have r2:Vals (vs ++ dvs) (us ++ ds):=r.append hd
 have hl:(us ++ ds).length=ps.length:=by rw [← r2.length];exact F.len _ _ _ _ h
 refine wpAny_call (codeAny_mono (F.run X.A X.stack s H ⟨us,[]⟩ (us ++ ds) (vs ++ dvs) Q E hr I.FU (hb s us I.i7 hl) r2 h) fun r s' hq=>?_)
 cases r with
 | error e=>exact hx pins σ H s e s' I hq
 | ok fl =>
  cases fl with
  | ret u=>exact I.after hq
  | next=>exact False.elim hq
  | brk=>exact False.elim hq
  | cont=>exact False.elim hq
theorem ua (F:aF X.prog X.w X.K X.mg X.base CX k f fd ps sp) (hr:bj k X.A) (hg:Gl X x) (hm:X.mg x=some (.ref f)) (hk:PySem.W.keepIn X.K (.ref f)=true) (hb:Binds X.K fd ps ds) (hd:Vals dvs ds) (hx:Passes CX X E)
  (ha:PA X (e :: es) t) (hdb:(x == ("__debug__":Str))=false:=by decide) (he:starEach (e :: es) X.env=(false,eval e X.env) :: starEach es X.env:=by rfl) (hpl:(backTo pos (starEach es X.env)).any (·.1)=false:=by rfl) :
  PE X (.Call (.Name x p) (e :: es) [] pos) (lI sp dvs E t):=by
 intro pins s σ H Q I h
 refine wpAny_Call_Name_kw (jA I hg hm ?_ hdb)
 refine PySem.W.callWith_K (h₀:=X.base) I.ok.mod.kin hk (bx (ha pos pins s σ H _ I h) fun us s1 ⟨vs,H1,I1,r,q⟩=>⟨I1.i7,?_⟩) he hpl
 exact si F hr hb hd hx I1 r q
theorem BN {pl:Sem Bool} (he:PE X o ta) (c:kM X.K C) (hm:Meth X.K C m f) (F:aF X.prog X.w X.K X.mg X.base CX k f fd ps sp) (hr:bj k X.A) (hb:Binds X.K fd ps ds) (hd:Vals dvs ds) (hx:Passes CX X E) (ha:PA X (e :: es) t)
  (hst:starEach (e :: es) X.env=(false,eval e X.env) :: starEach es X.env:=by rfl) (hpl:(backTo pos (starEach es X.env)).any (·.1)=false:=by rfl)
  (ht:eval (.Call (.Attribute o m apos) (e :: es) [] pos) X.env=(do
   let ov ← eval o X.env
   standAt apos.atName
   let (f,first) ← holding [ov] (getMethod ov m pl)
   callWith pos f first (backTo pos (starEach (e :: es) X.env)) (backToKw pos (keywordEach [] X.env))):=by rfl) :
  PE X (.Call (.Attribute o m apos) (e :: es) [] pos) (xE C m sp dvs E ta t):=by
 intro pins s σ H Q I h
 refine PySem.W.methodCall_KW (pl:=pl) (bx (he pins s σ H _ I h) fun u s1 ⟨x,H1,I1,rx,a,dx,fs,ex,ea,l,q⟩=>?_) ht
 subst ex
 obtain rfl:u=Value.ref a:=rx
 refine lE I1 ea c hm l ?_
 refine PySem.W.callWith_K (first:=[.ref a]) (h₀:=X.base) I.ok.mod.kin hm.kp (bx (ha pos pins s1 σ H1 _ I1 q) fun us s2 ⟨vs,H2,I2,r,q2⟩=>⟨I2.i7,?_⟩) hst hpl
 exact si (us:=.ref a :: us) (vs:=.ref a :: vs) F hr hb hd hx I2 (.cons rfl r) q2
theorem yj {pl:Sem Bool} (he:PE X o ta) (c:kM X.K C) (hm:Meth X.K C m f) (F:aF X.prog X.w X.K X.mg X.base CX k f fd ps sp) (hr:bj k X.A) (hb:Binds X.K fd ps ds) (hd:Vals dvs ds) (hx:Passes CX X E)
  (ht:eval (.Call (.Attribute o m apos) [] [] pos) X.env=(do
   let ov ← eval o X.env
   standAt apos.atName
   let (f,first) ← holding [ov] (getMethod ov m pl)
   callWith pos f first (backTo pos (starEach [] X.env)) (backToKw pos (keywordEach [] X.env))):=by rfl) :
  PE X (.Call (.Attribute o m apos) [] [] pos) (xE C m sp dvs E ta sH):=by
 intro pins s σ H Q I h
 refine PySem.W.methodCall_KW (pl:=pl) (bx (he pins s σ H _ I h) fun u s1 ⟨x,H1,I1,rx,a,dx,fs,ex,ea,l,q⟩=>?_) ht
 subst ex
 obtain rfl:u=Value.ref a:=rx
 refine lE I1 ea c hm l ?_
 exact PySem.W.callWith_K0 (first:=[.ref a]) I1.i7 hm.kp (si (us:=[.ref a]) (vs:=[.ref a]) F hr hb hd hx I1 (.cons rfl .nil) q)
structure Mk (K:PySem.W.Frag) (C f:Addr):Prop where
 makes:PySem.W.makesIn K C=true
 init:PySem.W.findIn K (.ref C) "__init__"=some (some (.ref f))
 fn:PySem.W.isFn K (.ref f)=true
 kp:PySem.W.keepIn K (.ref C)=true
theorem p6 {pins:List (Addr × Obj)} {σ:St} {H:Hp} {s:Shared} {Q:VK} {us:List Value} {vs:List V} (M:Mk X.K C f) (F:aF X.prog X.w X.K X.mg X.base CX k f fd ps sp) (hr:bj (k + 1) X.A) (hb:Binds X.K fd ps ds) (hd:Vals dvs ds)
  (hx:Passes CX X E) (I:Inv X pins σ H s) (r:Vals vs us)
  (h:∀ x dx,H x=none→H dx=none→dx≠x→sp (.ref x :: (vs ++ dvs)) (upd (upd H dx (.own x)) x (.ins C dx [])) (fun v H2=>v=.non∧Q (.ref x) H2) E) :
  wpAny (model X.prog X.w) X.A (call (.ref C) us) (EP X pins σ Q) X.xe s:=by
 have hq:=h (s.heap.objs.size + 1) s.heap.objs.size (I.hok.fresh (Nat.le_succ _)) (I.hok.fresh (Nat.le_refl _)) (Nat.ne_of_lt (Nat.lt_succ_self _))
 have I2:=Inv.made (C:=C) I
 have r2:Vals (V.ref (s.heap.objs.size + 1) :: (vs ++ dvs)) (Value.ref (s.heap.objs.size + 1) :: (us ++ ds)):=.cons rfl (r.append hd)
 have hl:(Value.ref (s.heap.objs.size + 1) :: us ++ ds).length=ps.length:=by
  have e:=r2.length
  rw [F.len _ _ _ _ hq] at e
  exact e.symm
 refine wpAny_call (zf (f:=f) I.i7 M.makes M.init (beq_iff_eq.mp M.fn) (codeAny_mono (F.run _ X.stack _ _ ⟨Value.ref (s.heap.objs.size + 1) :: us,[]⟩ (Value.ref (s.heap.objs.size + 1) :: (us ++ ds)) _ _ E (hr.make C us [])
  (I2.FU.make C us []) (hb _ (Value.ref (s.heap.objs.size + 1) :: us) I2.i7 hl) r2 hq) fun r s' hq'=>?_))
 cases r with
 | error e=>exact hx pins σ _ _ e s' I2 hq'
 | ok fl =>
  cases fl with
  | ret u =>
   obtain ⟨v,H',I3,rv,ev,q3⟩:=I2.after hq'
   subst ev
   exact ⟨rv,⟨V.ref (s.heap.objs.size + 1),H',I3,rfl,q3⟩⟩
  | next=>exact False.elim hq'
  | brk=>exact False.elim hq'
  | cont=>exact False.elim hq'
theorem Bn (M:Mk X.K C f) (F:aF X.prog X.w X.K X.mg X.base CX k f fd ps sp) (hr:bj (k + 1) X.A) (hg:Gl X x) (hm:X.mg x=some (.ref C)) (hb:Binds X.K fd ps ds) (hd:Vals dvs ds) (hx:Passes CX X E)
  (ha:PA X (e :: es) t) (hdb:(x == ("__debug__":Str))=false:=by decide) (he:starEach (e :: es) X.env=(false,eval e X.env) :: starEach es X.env:=by rfl) (hpl:(backTo pos (starEach es X.env)).any (·.1)=false:=by rfl) :
  PE X (.Call (.Name x p) (e :: es) [] pos) (x6 C sp dvs E t):=by
 intro pins s σ H Q I h
 refine wpAny_Call_Name_kw (jA I hg hm ?_ hdb)
 refine PySem.W.callWith_K (h₀:=X.base) I.ok.mod.kin M.kp (bx (ha pos pins s σ H _ I h) fun us s1 ⟨vs,H1,I1,r,q⟩=>⟨I1.i7,?_⟩) he hpl
 exact p6 M F hr hb hd hx I1 r q
theorem yI (M:Mk X.K C f) (F:aF X.prog X.w X.K X.mg X.base CX k f fd ps sp) (hr:bj (k + 1) X.A) (hg:Gl X x) (hm:X.mg x=some (.ref C)) (hb:Binds X.K fd ps ds) (hd:Vals dvs ds) (hx:Passes CX X E)
  (hdb:(x == ("__debug__":Str))=false:=by decide):PE X (.Call (.Name x p) [] [] pos) (x6 C sp dvs E sH):=by
 intro pins s σ H Q I h
 refine wpAny_Call_Name_kw (jA I hg hm ?_ hdb)
 exact PySem.W.callWith_K0 I.i7 M.kp (p6 (us:=[]) M F hr hb hd hx I .nil h)
end
section
variable {X:Cx} {CX:mn} {k:Nat} {f C:Addr} {fd:FuncData} {ps ks:List Str} {sp:Sp} {E:XK} {x m:Str} {p pos apos kpos:Pos} {e o:Expr} {es:List Expr} {kws:List Keyword} {te ta:TE} {t tk:TA} {nm:Option Str}
variable {g:List Value→List Value→List Value} {gV:List V→List V→List V}
end
structure au (N P:List Str) (sc:Scope):Prop where
 kind:sc.kind=.function
 co:sc.isCoroutine=false
 gen:sc.isGenerator=false
 nd:N.Nodup
 pre:N.take P.length=P
 par:∀ x∈P,sc.names.lookup x=some .local∨sc.names.lookup x=some .cell
 nofree:∀ y∈sc.names,y.2≠.free
theorem nk {kindOf:Str→Option NameKind} {x:Str}:∀ {binds:List (Str × Value)} {m:Str→Option Value},(∀ v,(x,v) ∉ binds)→bindL kindOf binds m x=m x
 | [],_,_=>rfl
 | (n,v) :: r,m,h=>by
  unfold bindL
  rw [nk fun w hw=>h w (List.mem_cons_of_mem _ hw)]
  split
  ·have:x≠n:=by rintro rfl;exact h v List.mem_cons_self
   simp [this]
  ·rfl
theorem nC {kindOf:Str→Option NameKind} {x:Str}:∀ {binds:List (Str × Value)} {m:Str→Option Value},(∀ v,(x,v) ∉ binds)→bindC kindOf binds m x=m x
 | [],_,_=>rfl
 | (n,v) :: r,m,h=>by
  unfold bindC
  rw [nC fun w hw=>h w (List.mem_cons_of_mem _ hw)]
  split
  ·rfl
  ·have:x≠n:=by rintro rfl;exact h v List.mem_cons_self
   simp [this]
theorem nj {kindOf:Str→Option NameKind} {x:Str} {v:Value}:∀ {P:List Str} {vs:List Value} {i:Nat} {m:Str→Option Value},P.Nodup→P[i]?=some x→vs[i]?=some v→kindOf x=some .local →
  bindL kindOf (P.zip vs) m x=some v
 | [],_,_,_,_,h,_,_=>by simp at h
 | _ :: _,[],_,_,_,_,h,_=>by simp at h
 | p :: P,w :: vs,0,m,nd,h1,h2,hk=>by
  simp at h1 h2;subst h1;subst h2
  show bindL kindOf ((p,w) :: P.zip vs) m p=_
  unfold bindL
  rw [nk fun v hv=>(List.nodup_cons.mp nd).1 (List.of_mem_zip hv).1,if_pos hk]
  simp
 | p :: P,w :: vs,i + 1,m,nd,h1,h2,hk=>by
  show bindL kindOf ((p,w) :: P.zip vs) m x=_
  unfold bindL
  exact nj (i:=i) (List.nodup_cons.mp nd).2 (by simpa using h1) (by simpa using h2) hk
theorem nJ {kindOf:Str→Option NameKind} {x:Str} {v:Value}:∀ {P:List Str} {vs:List Value} {i:Nat} {m:Str→Option Value},P.Nodup→P[i]?=some x→vs[i]?=some v→kindOf x≠some .local →
  bindC kindOf (P.zip vs) m x=some v
 | [],_,_,_,_,h,_,_=>by simp at h
 | _ :: _,[],_,_,_,_,h,_=>by simp at h
 | p :: P,w :: vs,0,m,nd,h1,h2,hk=>by
  simp at h1 h2;subst h1;subst h2
  show bindC kindOf ((p,w) :: P.zip vs) m p=_
  unfold bindC
  rw [nC fun v hv=>(List.nodup_cons.mp nd).1 (List.of_mem_zip hv).1,if_neg hk]
  simp
 | p :: P,w :: vs,i + 1,m,nd,h1,h2,hk=>by
  show bindC kindOf ((p,w) :: P.zip vs) m x=_
  unfold bindC
  exact nJ (i:=i) (List.nodup_cons.mp nd).2 (by simpa using h1) (by simpa using h2) hk
def start (N:List Str) (vs:List V):St:=vs.map some ++ List.replicate (N.length - vs.length) none
def pH (CX:mn) (P:Program) (w:World) (K:PySem.W.Frag) (mg:Str→Option Value) (base:Heap) (N:List Str) (qual:Str) (scope:Scope) (f:Addr) (cd:Value) (A:Around) (outer:List Env) (s:Shared) (H:Hp) (E:XK):Cx where
 prog:=P
 w:=w
 K:=K
 mg:=mg
 base:=base
 A:=A.deeper (envOfC qual scope s.heap.objs.size f cd)
 N:=N
 s₀:=s
 H₀:=H
 env:=envOfC qual scope s.heap.objs.size f cd
 outer:=outer
 stack:=envOfC qual scope s.heap.objs.size f cd :: outer
 ex:=[]
 calm:=true
 fn:=fun _=>true
 pn:=[]
 xe:=fun e s'=>wpAny (model P w) (A.deeper (envOfC qual scope s.heap.objs.size f cd)) (leaving (envOfC qual scope s.heap.objs.size f cd) e) (fun _ s''=>CX outer H s E e s'') (fun e' s''=>CX outer H s E e' s'') s'
theorem qJ {sc:Scope} {n:Nat} {x:Str} (h:sc.names.lookup x=some .cell):∃ c,(cellsFrom n sc.names []).lookup x=some c:=by
 have q:=PySem.W.cellsFrom_some sc.names n [] (.inl h)
 exact Option.isSome_iff_exists.mp q
theorem wm {CX:mn} {P:Program} {w:World} {K:PySem.W.Frag} {mg:Str→Option Value} {base:Heap} {N ps:List Str} {qual:Str} {scope:Scope} {f:Addr} {cd:Value} {A:Around} {outer:List Env} {s s1:Shared} {H:Hp} {E:XK} {us:List Value} {vs:List V}
  (S:au N ps scope) (hd:A.handled=none) (e0:mW P w K mg base A outer s H) (hl:vs.length=ps.length) (r:Vals vs us)
  (x:InCallC s s.heap.objs.size (bindL (envOfC qual scope s.heap.objs.size f cd).kindOf (ps.zip us) fun _=>none) (cellsFrom (s.heap.objs.size + 1) scope.names []) (bindC (envOfC qual scope s.heap.objs.size f cd).kindOf (ps.zip us) fun _=>none) s1) :
  Inv (pH CX P w K mg base N qual scope f cd A outer s H E) [] (start N vs) H s1:=by
 have hpl:ps.length≤N.length:=by have:=congrArg List.length S.pre;rw [List.length_take] at this;omega
 obtain ⟨h1,tk,rfl,hk⟩:=x.done
 have noA:∀ b:Addr,b ∉ (pH CX P w K mg base N qual scope f cd A outer s H E).ex:=fun b z=>absurd (show b∈([]:List Addr) from z) (by simp)
 refine ⟨⟨e0.mod,S.kind,rfl,rfl,Nat.le_refl _,fun y z c h1 h2=>?_,fun y hy=>?_,fun y c _ h=>?_,fun _=>hd,Around.frames_deeper e0.frames,.inr ⟨rfl,rfl⟩,fun b z=>absurd z (noA b),e0.bs,e0.bsz,fun b _ _=>noA b,fun b z=>absurd z (noA b),e0.ju,e0.frf⟩,
  rfl,e0.bare,Un.kept hk,⟨_,x.toInCall.ns,fun i y v h1 h2 h3=>?_⟩,fun y c h=>⟨_,x.cell y c h⟩,e0.hok.fresh (Nat.le_refl _),fun y c h=>?_,fun p hp=>absurd (show p∈([]:List (Addr × Obj)) from hp) (by simp),e0.hok.kept hk,?_⟩
 ·exact name_of_addr x.apart (PySem.mem_of_lookup h1) (PySem.mem_of_lookup h2)
 ·have hy:scope.names.lookup y=some .cell∨scope.names.lookup y=some .free:=hy
  rcases hy with hy | hy
  ·exact qJ hy
  ·exact absurd rfl (S.nofree _ (PySem.mem_of_lookup hy))
 ·exact Nat.le_of_lt (x.above y c (PySem.mem_of_lookup h))
 ·have hi:i < vs.length:=by
   unfold start at h2
   by_cases hi:i < vs.length
   ·exact hi
   ·rw [List.getElem?_append_right (by simpa using hi)] at h2
    rw [List.getElem?_replicate] at h2
    split at h2 <;> cases h2
  have ha:vs[i]?=some v:=by
   unfold start at h2
   rw [List.getElem?_append_left (by simpa using hi),List.getElem?_map] at h2
   cases e:vs[i]? with
   | none=>rw [e] at h2;cases h2
   | some a=>rw [e] at h2;cases h2;rfl
  obtain ⟨u,hu,rv⟩:=r.get ha
  have hp:ps[i]?=some y:=by
   rw [← S.pre,List.getElem?_take_of_lt (by omega)];exact h1
  have ndP:ps.Nodup:=by rw [← S.pre];exact S.nd.sublist (List.take_sublist _ _)
  refine ⟨u,rv,?_⟩
  rcases S.par y (List.mem_of_getElem? hp) with k | k
  ·exact .inl ⟨k,nj ndP hp hu k⟩
  ·obtain ⟨c,e⟩:=qJ (n:=s.heap.objs.size + 1) k
   refine .inr ⟨.inl k,c,e,?_⟩
   have q:=x.cell y c e
   rw [nJ ndP hp hu (by show scope.names.lookup y≠_;rw [k];decide)] at q
   exact q
 ·exact e0.hok.fresh (Nat.le_of_lt (x.above y c (PySem.mem_of_lookup h)))
 ·unfold start
  show _=N.length
  rw [List.length_append,List.length_map,List.length_replicate]
  omega
theorem zO {CX:mn} {P:Program} {w:World} {K:PySem.W.Frag} {mg:Str→Option Value} {base:Heap} {k:Nat} {f:Addr} {name qual:Str} {params:Arguments} {body:List Stmt} {scope:Scope} {dV kV doc pm cdv ct oc:Value} {an od:Option Addr}
  {osl:Array (Option Value)} {N ps:List Str} {sp:Sp} (lk:K.lookup f=some ⟨oc,od,.func (PySem.W.fnOf name qual params body scope dV kV doc pm an cdv ct),osl⟩) (hcd:PySem.W.codeIn K cdv qual=true) (S:au N ps scope)
  (len:∀ vs H Q E,sp vs H Q E→vs.length=ps.length)
  (hbody:∀ (A:Around) (outer:List Env) (s:Shared) (H:Hp) (vs:List V) (Q:VK) (E:XK),bj k (A.deeper (envOfC qual scope s.heap.objs.size f cdv))→sp vs H Q E →
   ∃ t,m9 (pH CX P w K mg base N qual scope f cdv A outer s H E) body t∧t { nx:=fun _ H'=>Q .non H',rt:=Q } (start N vs) H) :
  aF P w K mg base CX (k + 1) f (PySem.W.fnOf name qual params body scope dV kV doc pm an cdv ct) ps sp:=by
 refine ⟨len,fun A outer s H args us vs Q E hr e0 hb r hsp=>?_⟩
 have hl:=len _ _ _ _ hsp
 have KX:K.In s.heap:=e0.mod.kin.keeps fun b o e=>(e0.bs b o e).1
 have lim:s.heap.NoLimit:=e0.mod.nolimit.keeps fun b o e=>(e0.bs b o e).1
 have hkind:∀ y∈ps.zip us,scope.names.lookup y.1=some .local∨(scope.names.lookup y.1=some .cell∧((cellsFrom (s.heap.objs.size + 1) scope.names []).lookup y.1).isSome=true):=fun ⟨n,v⟩ hy=>by
  rcases S.par n (List.of_mem_zip hy).1 with q | q
  ·exact .inl q
  ·exact .inr ⟨q,PySem.W.cellsFrom_some _ _ _ (.inl q)⟩
 refine codeAny_call_function hr.depth (KX _ _ lk) rfl S.co S.gen rfl (PySem.W.codeRec_of KX hcd) (hb _ _ _ _ ?_)
 refine wpAny_newFunctionEnv_cells S.kind hkind fun env he s1 x=>?_
 subst he
 refine ⟨lim.keeps x.toInCall.keep,codeAny_func ?_⟩
 obtain ⟨t,ht,hq⟩:=hbody A outer s H vs Q E (hr.deeper _) hsp
 have I:Inv (pH CX P w K mg base N qual scope f cdv A outer s H E) [] (start N vs) H s1:=wm S hr.hd e0 hl r x
 refine wpAny_mono (ht [] s1 (start N vs) H _ I hq) (fun fl s' hs=>?_) fun e s' hs=>hs
 have fin:∀ {σ':St} {H':Hp} {v:V} {u:Value},Inv (pH CX P w K mg base N qual scope f cdv A outer s H E) [] σ' H' s'→RelV v u→Q v H'→CE outer P w H s Q u s' :=
  fun {σ' H' v u} J rv q=>⟨v,H',J.os,J.bare,J.base,J.hok,rv,q⟩
 cases fl with
 | ret u =>
  obtain ⟨v,σ',H',J,rv,q⟩:=hs
  exact fin J rv q
 | next =>
  obtain ⟨σ',H',J,q⟩:=hs
  exact fin (v:=V.non) (u:=Value.none) J rfl q
 | brk =>
  obtain ⟨_,_,_,q⟩:=hs
  exact False.elim q
 | cont =>
  obtain ⟨_,_,_,q⟩:=hs
  exact False.elim q
end L2
namespace L2
open PySem PySem.Spec PyProof.Rows
section
variable {X:Cx} {x:Str} {p pos:Pos} {e:Expr} {es:List Expr} {t:TA} {id T:String} {r:List V→Hp→VK→Prop}
def Cq (r:List V→Hp→VK→Prop) (t:TA):TE:=fun σ H Q=>t σ H fun vs H1=>r vs H1 Q
theorem cS (hc:b7 X (.builtin id) r) (hg:Gl X x) (hm:X.mg x=none) (hv:bootBuiltins x=some (.builtin id)) (ha:PA X (e :: es) t) (hn:x≠"__name__":=by decide) (hdb:(x == ("__debug__":Str))=false:=by decide)
  (he:starEach (e :: es) X.env=(false,eval e X.env) :: starEach es X.env:=by rfl) (hpl:(backTo pos (starEach es X.env)).any (·.1)=false:=by rfl):PE X (.Call (.Name x p) (e :: es) [] pos) (Cq r t):=by
 intro pins s σ H Q I h
 refine wpAny_Call_Name_kw (j1 I hg hm hv ?_ hn hdb)
 exact PyProof.Rows.callWith_builtin1 (bx (ha pos pins s σ H _ I h) fun us s1 ⟨vs,H1,I1,r1,q1⟩=>hc pins s1 σ H1 vs us Q I1 r1 q1) he hpl
theorem jJ (hc:b7 X (.type T) r) (hg:Gl X x) (hm:X.mg x=none) (hv:bootBuiltins x=some (.type T)) (ha:PA X (e :: es) t) (hn:x≠"__name__":=by decide) (hdb:(x == ("__debug__":Str))=false:=by decide)
  (he:starEach (e :: es) X.env=(false,eval e X.env) :: starEach es X.env:=by rfl) (hpl:(backTo pos (starEach es X.env)).any (·.1)=false:=by rfl):PE X (.Call (.Name x p) (e :: es) [] pos) (Cq r t):=by
 intro pins s σ H Q I h
 refine wpAny_Call_Name_kw (j1 I hg hm hv ?_ hn hdb)
 exact PyProof.Rows.callWith_type1 (bx (ha pos pins s σ H _ I h) fun us s1 ⟨vs,H1,I1,r1,q1⟩=>hc pins s1 σ H1 vs us Q I1 r1 q1) he hpl
end
end L2
namespace HT
open PySem PyProof.Rows
def lexLt:List Int→List Int→Bool
 | [],[]=>false
 | [],_ :: _=>true
 | _ :: _,[]=>false
 | x :: xs,y :: ys=>if x=y then lexLt xs ys else decide (x < y)
section
open PySem.SeqAt
open PySem.AutoSeq1 (wpAny_loadPart')
open PySem.MeetsSeq PySem.MeetsSeq2 PySem.MeetsSeq3
end
section
variable {prog:Program} {w:World} {A:Around} {E:Value→Shared→Prop} {s:Shared}
def c6 (n d:Nat):Option Int→Nat
 | none=>d
 | some v=>if v < 0 then (v + (n:Int)).toNat else min v.toNat n
theorem y9 (n d:Nat):c6 n d none=d:=rfl
theorem Bt (n d k:Nat):c6 n d (some (k:Int))=min k n:=by
 show (if (k:Int) < 0 then ((k:Int) + (n:Int)).toNat else min (k:Int).toNat n)=min k n
 rw [if_neg (by omega),Int.toNat_natCast]
theorem DX (n d:Nat) (hd:d≤n) (o:Option Int):c6 n d o≤n:=by
 cases o with
 | none=>exact hd
 | some v =>
  show (if v < 0 then (v + (n:Int)).toNat else min v.toNat n)≤n
  by_cases hv:v < 0
  ·rw [if_pos hv];omega
  ·rw [if_neg hv];exact Nat.min_le_right _ _
theorem ue (v:Int) (n d:Nat):(if v < 0 then max (v + (n:Int)) 0 else min v (n:Int))=((c6 n d (some v):Nat):Int):=by
 show (if v < 0 then max (v + (n:Int)) 0 else min v (n:Int))=(((if v < 0 then (v + (n:Int)).toNat else min v.toNat n):Nat):Int)
 by_cases hv:v < 0
 ·simp only [if_pos hv];omega
 ·simp only [if_neg hv];omega
theorem sS (lo hi:Option Int) (n:Nat):Builtin.Slice.sliceAdjust lo hi 1 (n:Int)=(((c6 n 0 lo:Nat):Int),((c6 n n hi:Nat):Int)):=by
 have h1:¬ ((1:Int) < 0):=by omega
 unfold Builtin.Slice.sliceAdjust
 simp only [h1,if_false]
 refine Prod.ext ?_ ?_
 ·cases lo with
  | none=>rfl
  | some v=>exact ue v n 0
 ·cases hi with
  | none=>rfl
  | some v=>exact ue v n n
theorem sO (i j:Nat):Builtin.Slice.slicePlaces (i:Int) (j:Int) 1=j - i:=by
 unfold Builtin.Slice.slicePlaces
 have h1:(1:Int) > 0:=by omega
 simp only [h1,if_true,Int.ediv_one]
 split <;> omega
theorem lh {v:Value} {o:Option Int} {Q:Option Int→Shared→Prop} (p:IsPart v o) (h:Q o s):wpAny (model prog w) A (Builtin.Slice.slicePartIndex v) Q E s:=by
 cases p with
 | none=>exact slicePart_none h
 | int i t=>exact slicePart_int h
theorem jP {sl:Addr} {vl vu:Value} {lo hi:Option Int} {n:Nat} {Q:Int × Int × Nat→Shared→Prop} (hs:s.heap.IsSliceOf sl vl vu .none) (pl:IsPart vl lo) (pu:IsPart vu hi)
  (h:Q (((c6 n 0 lo:Nat):Int),1,c6 n n hi - c6 n 0 lo) s):wpAny (model prog w) A (Builtin.Slice.sliceApplied (.ref sl) (pure (n:Int))) Q E s:=by
 obtain ⟨os,hos,hcs,hds⟩:=id hs
 unfold Builtin.Slice.sliceApplied Builtin.Slice.sliceFields
 refine wpAny_bind (wpAny_bind (wpAny_field hos hds (x:=vl) rfl (wpAny_bind (wpAny_field hos hds (x:=vu) rfl (wpAny_bind (wpAny_field hos hds (x:=.none) rfl (wpAny_pure ?_)))))))
 refine wpAny_bind (slicePart_none ?_)
 show wpAny _ _ (if ((1:Int) == 0)=true then _ else _) _ _ s
 rw [if_neg (by decide)]
 refine wpAny_bind (lh pl (wpAny_bind (lh pu (wpAny_bind (wpAny_pure ?_)))))
 show wpAny _ _ (match Builtin.Slice.sliceAdjust lo hi 1 (n:Int) with | (lo,hi)=>pure (lo,(1:Int),Builtin.Slice.slicePlaces lo hi 1)) _ _ s
 rw [sS lo hi n]
 show wpAny _ _ (pure (((c6 n 0 lo:Nat):Int),(1:Int),Builtin.Slice.slicePlaces ((c6 n 0 lo:Nat):Int) ((c6 n n hi:Nat):Int) 1)) _ _ s
 rw [sO]
 exact wpAny_pure h
theorem yR (xs:Array Value) (i k:Nat):((List.range k).filterMap fun (m:Nat)=>xs[((i:Int) + (m:Int) * 1).toNat]?).toArray=((xs.toList.drop i).take k).toArray:=by
 have e:(fun (m:Nat)=>xs[((i:Int) + (m:Int) * 1).toNat]?)=fun m=>xs[i + m]?:=by
  funext m
  have:((i:Int) + (m:Int) * 1).toNat=i + m:=by omega
  rw [this]
 rw [e]
 have:=pick_run xs i k
 rw [List.filterMap_map] at this
 have e2:((fun x=>xs[x]?) ∘ fun x=>i + x)=fun m=>xs[i + m]?:=rfl
 rw [e2] at this
 rw [this]
theorem iN {t sl:Addr} {items:Array Value} {vl vu:Value} {lo hi:Option Int} {Q:Value→Shared→Prop} (ht:IsTup s.heap t items) (hs:s.heap.IsSliceOf sl vl vu .none) (pl:IsPart vl lo) (pu:IsPart vu hi)
  (hw:¬ (c6 items.size 0 lo=0∧c6 items.size items.size hi=items.size))
  (h:Q (.ref s.heap.objs.size) { s with heap:=s.heap.push { cls:=.type "tuple",data:=.seq ((items.toList.drop (c6 items.size 0 lo)).take (c6 items.size items.size hi - c6 items.size 0 lo)).toArray } })
  (hsz:items.size≤sizeLine):wpAny (model prog w) A (getItem (.ref t) (.ref sl)) Q E s:=by
 have htake:sizeOk (.seq ((items.toList.drop (c6 items.size 0 lo)).take (c6 items.size items.size hi - c6 items.size 0 lo)).toArray):=by
  show ((items.toList.drop (c6 items.size 0 lo)).take (c6 items.size items.size hi - c6 items.size 0 lo)).toArray.size≤sizeLine
  rw [List.size_toArray,List.length_take,List.length_drop,Array.length_toList]
  omega
 have hj:c6 items.size items.size hi≤items.size:=DX _ _ (Nat.le_refl _) hi
 obtain ⟨os,hos,hcs,hds⟩:=id hs
 have hTs:s.TypeIs (.ref sl) "slice":=⟨os,hos,hcs⟩
 unfold getItem
 try with_reducible refine wpAny_holding ?_
 first | refine wpAny_bind (wpAny_pure ?_) | skip
 refine wpAny_bind (wpAny_sequenceKey ht.typeIs (by decide) ?_)
 refine wpAny_bind (wpAny_callSpecial?_slot (name:=Str.ofString "__getitem__") ht.typeIs PyProof.Rows.slot_tuple_getitem
  (wpAny_call_entry PyProof.Rows.slot_tuple_getitem ht.typeIs entry_tuple_getitem ?_ (args_tuple_getitem _ _)))
 show wpAny _ _ (Builtin.Tuple.tupleItemsOf (.ref t) >>= _) _ _ s
 refine wpAny_bind (tupleItemsOf_ ht ?_)
 refine wpAny_bind (wpAny_typeOf hTs ?_)
 rw [if_pos (by decide)]
 refine wpAny_bind (jP hs pl pu ?_)
 have hno:¬ ((((c6 items.size 0 lo:Nat):Int) == 0 && (1:Int) == 1 && (c6 items.size items.size hi - c6 items.size 0 lo) == items.size)=true):=by
  intro q
  rw [Bool.and_eq_true,Bool.and_eq_true] at q
  have q1:((c6 items.size 0 lo:Nat):Int)=0:=eq_of_beq q.1.1
  have q2:c6 items.size items.size hi - c6 items.size 0 lo=items.size:=eq_of_beq q.2
  exact hw ⟨by omega,by omega⟩
 show wpAny _ _ (if (((c6 items.size 0 lo:Nat):Int) == 0 && (1:Int) == 1 && (c6 items.size items.size hi - c6 items.size 0 lo) == items.size)=true then _ else _) _ _ s
 rw [if_neg hno,yR]
 first
  | exact wpAny_bind (m:=Builtin.Tuple.tupleExact _) (wpAny_newObj_type (wpAny_pure ⟨_,rfl,wpAny_pure h⟩) htake)
  | exact wpAny_bind (m:=Builtin.Tuple.tupleExact _) (wpAny_newObj_type (wpAny_bind (wpAny_pure (wpAny_pure ⟨_,rfl,wpAny_pure h⟩))) htake)
  | exact wpAny_bind (wpAny_bind (m:=Builtin.Tuple.tupleExact _) (wpAny_newObj_type (wpAny_pure (wpAny_pure ⟨_,rfl,wpAny_pure h⟩)) htake))
  | exact wpAny_bind (wpAny_bind (m:=Builtin.Tuple.tupleExact _) (wpAny_newObj_type (wpAny_pure ⟨_,rfl,wpAny_pure h⟩) htake))
end
end HT
namespace L2
open PySem PySem.Spec PyProof.Rows
abbrev TO:=St→Hp→(Option Int→Hp→Prop)→Prop
def PO (X:Cx) (e:Option Expr) (t:TO):Prop :=
 ∀ (pins:List (Addr × Obj)) (s:Shared) (σ:St) (H:Hp) (Q:Option Int→Hp→Prop),Inv X pins σ H s→t σ H Q →
  wpAny (model X.prog X.w) X.A (evalPart e X.env) (fun u s'=>∃ o H',Inv X pins σ H' s'∧IsPart u o∧Q o H') X.xe s
def kP:TO:=fun _ H Q=>Q none H
def tY (t:TE):TO:=fun σ H Q=>t σ H fun x H1=>∃ i,x=.int i∧Q (some i) H1
theorem intsAre_of {ns:List Int}:∀ {us:List Value},Vals (ns.map V.int) us→IntsAre us ns:=by
 induction ns with
 | nil=>intro us r;rw [List.map_nil] at r;cases r;exact .nil
 | cons n ns ih =>
  intro us r
  rw [List.map_cons] at r
  cases r with
  | cons r1 r2 =>
   obtain ⟨t,e⟩:=r1
   subst e
   exact .cons n t (ih r2)
section
variable {X:Cx} {e:Expr} {te:TE} {lo hi:Option Expr} {tl th:TO} {pos p2:Pos}
theorem kU:PO X none kP:=by
 intro pins s σ H Q I h
 rw [evalPart_none]
 exact wpAny_pure ⟨none,H,I,.none,h⟩
theorem g7 (h:PE X e te):PO X (some e) (tY te):=by
 intro pins s σ H Q I hw
 rw [evalPart_some]
 refine bx (h pins s σ H _ I hw) fun u s1 ⟨x,H1,I1,r1,q1⟩=>?_
 obtain ⟨i,rfl,q⟩:=q1
 obtain ⟨t,rfl⟩:=r1
 exact ⟨some i,H1,I1,.int i t,q⟩
def rW (X:Cx) (r:V→Option Int→Option Int→Hp→VK→Prop):Prop :=
 ∀ (pins:List (Addr × Obj)) (s:Shared) (σ:St) (H:Hp) (x:V) (v vl vu:Value) (lo hi:Option Int) (sl:Addr) (Q:VK),Inv X pins σ H s→RelV x v→s.heap.IsSliceOf sl vl vu .none→IsPart vl lo→IsPart vu hi→r x lo hi H Q →
  ∃ T id,typeLookup (.type T) "__getitem__"=pure (some (.builtin id))∧s.TypeIs v T∧wpAny (model X.prog X.w) X.A (getItem v (.ref sl)) (EP X pins σ Q) X.xe s
def G5 (r:V→Option Int→Option Int→Hp→VK→Prop) (te:TE) (tl th:TO):TE:=fun σ H Q=>te σ H fun x H1=>tl σ H1 fun l H2=>th σ H2 fun u H3=>r x l u H3 Q
theorem gF {r:V→Option Int→Option Int→Hp→VK→Prop} (hr:rW X r) (he:PE X e te) (hl:PO X lo tl) (hu:PO X hi th):PE X (.Subscript e (.Slice lo hi none p2) pos) (G5 r te tl th):=by
 intro pins s σ H Q I h
 refine Subscript_ (bx (he pins s σ H _ I h) fun v s1 ⟨x,H1,I1,r1,q1⟩=>?_)
 refine wpAny_Slice (bx (hl pins s1 σ H1 _ I1 q1) fun vl s2 ⟨l,H2,I2,pl,q2⟩=>bx (hu pins s2 σ H2 _ I2 q2) fun vu s3 ⟨u,H3,I3,pu,q3⟩=>?_)
 rw [evalPart_none]
 refine wpAny_pure ?_
 have I4:Inv X pins σ H3 { s3 with heap:=s3.heap.push { cls:=.type "slice",data:=.fields #[vl,vu,.none] } }:=I3.kept (t':=s3.toks) fun b ob q=>Heap.get?_push_of_some _ q
 obtain ⟨T,id,hT,ht,hg⟩:=hr pins { s3 with heap:=s3.heap.push { cls:=.type "slice",data:=.fields #[vl,vu,.none] } } σ H3 x v vl vu l u s3.heap.objs.size Q I4 r1 (Heap.IsSliceOf.new ..) pl pu q3
 show wpAny (model X.prog X.w) X.A (subscriptTail e (.Slice lo hi none p2) v (.ref s3.heap.objs.size)) (EP X pins σ Q) X.xe { s3 with heap:=s3.heap.push { cls:=.type "slice",data:=.fields #[vl,vu,.none] } }
 exact tail_any (ops:=[.ref s3.heap.objs.size,v]) ht hT hg (by with_unfolding_all rfl)
def lq (xs:List V) (lo hi:Option Int):List V:=(xs.drop (HT.c6 xs.length 0 lo)).take (HT.c6 xs.length xs.length hi - HT.c6 xs.length 0 lo)
theorem j8 (xs:List V) (lo hi:Option Int):(lq xs lo hi).length≤xs.length:=by
 unfold lq
 rw [List.length_take,List.length_drop]
 omega
def H_ (K:PySem.W.Frag):V→Option Int→Option Int→Hp→VK→Prop:=fun x lo hi H Q=>∃ a xs,x=.ref a∧fz K H a xs ∧
 ¬ (HT.c6 xs.length 0 lo=0∧HT.c6 xs.length xs.length hi=xs.length)∧∀ p,H p=none→Q (.ref p) (upd H p (.tup (lq xs lo hi)))
theorem Dl:rW X (H_ X.K):=by
 intro pins s σ H x v vl vu lo hi sl Q I rx hs pl pu h
 obtain ⟨a,xs,rfl,hx,hw,q⟩:=h
 cases rx
 obtain ⟨its,r,ht,hz⟩:=I.tuple hx
 have hlen:its.toArray.size=xs.length:=by rw [List.size_toArray];exact r.length.symm
 refine ⟨"tuple",_,PyProof.Rows.slot_tuple_getitem.lookup,ht.typeIs,?_⟩
 refine HT.iN ht hs pl pu (by rw [hlen];exact hw) ?_ (by rw [hlen];exact hz)
 rw [hlen]
 refine ⟨.ref s.heap.objs.size,_,I.laid (t':=s.toks) (o:=.tup (lq xs lo hi)) (fun b ob q=>Heap.get?_push_of_some _ q) (Nat.le_refl _) ?_,rfl,q _ (I.hok.fresh (Nat.le_refl _))⟩
 exact ⟨Nat.le_trans (j8 xs lo hi) hz,_,(r.drop (HT.c6 xs.length 0 lo)).take (HT.c6 xs.length xs.length hi - HT.c6 xs.length 0 lo),IsTup.new _ _⟩
end
end L2
namespace L2
open PySem PySem.Spec PyProof.Rows
def xo (n:Nat) (i:Int):Option Nat:=if 0≤i then (if i < n then some i.toNat else none) else if -(n:Int)≤i then some (i + n).toNat else none
def cK {α:Type} (xs:List α) (i:Int):Option α:=(xo xs.length i).bind fun j=>xs[j]?
theorem uj {n:Nat} {i:Int} {j:Nat} (h:xo n i=some j):seqIndex? i n=some j∧j < n∧-(n:Int)≤i∧i < n:=by
 unfold xo at h
 by_cases h0:0≤i
 ·rw [if_pos h0] at h
  by_cases h1:i < n
  ·rw [if_pos h1] at h
   have e:i.toNat=j:=Option.some.inj h
   exact ⟨by rw [seqIndex_of h0 h1,e],by omega,by omega,h1⟩
  ·rw [if_neg h1] at h;cases h
 ·rw [if_neg h0] at h
  by_cases h1:-(n:Int)≤i
  ·rw [if_pos h1] at h
   have e:(i + n).toNat=j:=Option.some.inj h
   exact ⟨by rw [seqIndex_neg (by omega) h1,e],by omega,h1,by omega⟩
  ·rw [if_neg h1] at h;cases h
theorem oT {α:Type} {xs:List α} {i:Int} {v:α} (h:cK xs i=some v):∃ j,seqIndex? i xs.length=some j∧xs[j]?=some v∧j < xs.length∧-(xs.length:Int)≤i∧i < xs.length:=by
 unfold cK at h
 cases e:xo xs.length i with
 | none=>rw [e] at h;cases h
 | some j =>
  rw [e] at h
  obtain ⟨h1,h2,h3,h4⟩:=uj e
  exact ⟨j,h1,h,h2,h3,h4⟩
theorem a9 {α:Type} {xs:List α} {j:Nat} {v:α} (h:xs[j]?=some v):cK xs (j:Int)=some v:=by
 have hj:j < xs.length:=(List.getElem?_eq_some_iff.mp h).1
 have e:xo xs.length (j:Int)=some j:=by
  unfold xo
  rw [if_pos (by omega),if_pos (by omega)];simp
 unfold cK;rw [e];exact h
def cy (b:Expr):Prop:=∀ o i,subscripted b false o i=operate [o,i] (getItem o i)
def lp (X:Cx) (r:R2):Prop :=
 ∀ (value slice:Expr) (pins:List (Addr × Obj)) (s:Shared) (σ:St) (H:Hp) (x y:V) (v u:Value) (Q:VK),Inv X pins σ H s→RelV x v→RelV y u→r x y H Q →
  subscripted slice false v u=operate [v,u] (getItem v u)→wpAny (model X.prog X.w) X.A (subscriptTail value slice v u) (EP X pins σ Q) X.xe s
def nR (X:Cx) (id:String) (r:V→List V→Hp→VK→Prop):Prop :=
 ∀ (pins:List (Addr × Obj)) (s:Shared) (σ:St) (H:Hp) (x:V) (xs:List V) (v:Value) (us:List Value) (Q:VK),Inv X pins σ H s→RelV x v→Vals xs us→r x xs H Q →
  wpAny (model X.prog X.w) X.A (call (.builtin id) (v :: us)) (EP X pins σ Q) X.xe s
section
variable {X:Cx} {a b:Expr} {ta tb:TE} {pos:Pos}
theorem lp.or {r r':R2} (h:lp X r) (h':lp X r'):lp X (fun x y H Q=>r x y H Q∨r' x y H Q):=by
 intro value slice pins s σ H x y v u Q I rx ry q hs
 rcases q with q | q
 ·exact h value slice pins s σ H x y v u Q I rx ry q hs
 ·exact h' value slice pins s σ H x y v u Q I rx ry q hs
theorem bI {r:R2} (hr:lp X r) (ha:PE X a ta) (hb:PE X b tb) (hs:cy b):PE X (.Subscript a b pos) (xF r ta tb):=by
 intro pins s σ H Q I h
 exact Subscript_ (C9 ha hb I h fun v u s2 x y H2 I2 rx ry q=>hr a b pins s2 σ H2 x y v u Q I2 rx ry q (hs _ _))
def EX (K:PySem.W.Frag):R2:=fun x y H Q=>∃ p xs i v,x=.ref p∧y=.int i∧cR K H p xs∧cK xs i=some v∧Q v H
def E3 (K:PySem.W.Frag):R2:=fun x y H Q=>∃ p xs i v,x=.ref p∧y=.int i∧fz K H p xs∧cK xs i=some v∧Q v H
def F':R2:=fun x y H Q=>∃ z i c,x=.str z∧y=.int i∧z.length≤sizeLine∧cK z.cps.toList i=some c∧Q (.str ⟨#[c]⟩) H
theorem pJ:lp X (EX X.K):=by
 intro value slice pins s σ H x y v u Q I rx ry h hs
 obtain ⟨p,xs,i,z,rfl,rfl,hq,he,q⟩:=h
 cases rx
 obtain ⟨t,rfl⟩:=ry
 obtain ⟨its,r,pl,hz⟩:=I.list hq
 obtain ⟨j,h1,h2,h3,h4,h5⟩:=oT he
 obtain ⟨w,ew,rw'⟩:=r.get h2
 have hl:=r.length
 have hn:=ib
 have fin:EP X pins σ Q w s:=⟨z,H,I,rw',q⟩
 by_cases h0:0≤i
 ·have hj:i.toNat=j:=by
   rw [seqIndex_of h0 h5] at h1
   exact Option.some.inj h1
  exact item_listR pl.isList h0 (by omega) (by rw [hj];simpa using ew) fin hs
 ·have hj:(i + (its.toArray.size:Int)).toNat=j:=by
   rw [seqIndex_neg (by omega) h4] at h1
   rw [List.size_toArray,← hl]
   exact Option.some.inj h1
  exact subscriptTail_builtinR (x:=w) pl.isList.typeIs slot_list_getitem.lookup
   (wpAny_getItem_list_neg (Q:=fun r s'=>r=w∧EP X pins σ Q r s') pl.isList (by omega) (by rw [List.size_toArray] <;> omega) (by omega) (by rw [hj];simpa using ew) ⟨rfl,fin⟩) hs
theorem bW:lp X (E3 X.K):=by
 intro value slice pins s σ H x y v u Q I rx ry h hs
 obtain ⟨p,xs,i,z,rfl,rfl,hq,he,q⟩:=h
 cases rx
 obtain ⟨t,rfl⟩:=ry
 obtain ⟨its,r,pl,hz⟩:=I.tuple hq
 obtain ⟨j,h1,h2,h3,h4,h5⟩:=oT he
 obtain ⟨w,ew,rw'⟩:=r.get h2
 have hl:=r.length
 have hn:=ib
 have fin:EP X pins σ Q w s:=⟨z,H,I,rw',q⟩
 exact subscriptTail_builtinR (x:=w) pl.typeIs slot_tuple_getitem.lookup
  (getItem_tuple (j:=j) (Q:=fun r s'=>r=w∧EP X pins σ Q r s') pl (by omega) (by omega) (by rw [List.size_toArray,← hl];exact h1) (by simpa using ew) ⟨rfl,fin⟩) hs
theorem y2:lp X F':=by
 intro value slice pins s σ H x y v u Q I rx ry h hs
 obtain ⟨z,i,c,rfl,rfl,hz,he,q⟩:=h
 obtain ⟨t,rfl⟩:=rx
 obtain ⟨t',rfl⟩:=ry
 obtain ⟨j,h1,h2,h3,h4,h5⟩:=oT he
 have hl:z.cps.toList.length=z.length:=by simp [Str.length]
 rw [hl] at h1 h4 h5
 have hn:=ib
 exact tail_any (typeIs_str s z t) slot_str_getitem.lookup (getItem_str (c:=c) (by
  have e1:decide (i < -(2 ^ 63:Int))=false:=decide_eq_false (by omega)
  have e2:decide (i ≥ 2 ^ 63)=false:=decide_eq_false (by omega)
  rw [e1,e2,Bool.or_false]) (by rw [h1];simpa using h2) ⟨.str ⟨#[c]⟩,H,I.tok _,⟨_,rfl⟩,q⟩) hs
theorem sh (its:List Value) (n j:Nat) (u:Value):Obj.mapSeq (·.setIfInBounds j u) { cls:=.type "list",data:=.seq its.toArray n }={ cls:=.type "list",data:=.seq (its.set j u).toArray n }:=by
 simp [Obj.mapSeq]
theorem Inv.lst {pins:List (Addr × Obj)} {σ:St} {H:Hp} {s:Shared} {p:Addr} {xs:List V} (I:Inv X pins σ H s) (h:H p=some (.lst xs)) :
  ∃ (its:List Value) (n:Nat),Vals xs its∧s.heap.get? p=some { cls:=.type "list",data:=.seq its.toArray n }∧xs.length≤sizeLine:=by
 obtain ⟨z,its,n,r,e⟩:=I.hok p _ h
 exact ⟨its,n,r,e,z⟩
theorem Inv.DK {pins:List (Addr × Obj)} {σ:St} {H:Hp} {s:Shared} {p:Addr} {xs ys:List V} {its its':List Value} {n n':Nat} {f:Obj→Obj} (I:Inv X pins σ H s) (h:H p=some (.lst xs))
  (ho:s.heap.get? p=some { cls:=.type "list",data:=.seq its.toArray n }) (hf:f { cls:=.type "list",data:=.seq its.toArray n }={ cls:=.type "list",data:=.seq its'.toArray n' }) (r:Vals ys its') (hz:ys.length≤sizeLine) (t:Nat) :
  Inv X pins σ (upd H p (.lst ys)) { s with heap:=s.heap.update p f,toks:=t }:=by
 have e:(s.heap.update p f).get? p=some { cls:=.type "list",data:=.seq its'.toArray n' }:=by
  rw [Heap.get?_update_self f ho (by rw [hf] <;> rfl),hf]
 refine I.write (x:=p) (e:=p) (by rw [h];trivial) (.inl rfl) (fun b u hb q=>(Heap.get?_update_other _ _ (Ne.symm hb)).trans q) ⟨_,e⟩ ?_
 exact ⟨hz,its',n',r,e⟩
def Ce:V→V→V→Hp→(Hp→Prop)→Prop:=fun o i v H Q=>∃ p xs k j,o=.ref p∧i=.int k∧H p=some (.lst xs)∧xo xs.length k=some j∧Q (upd H p (.lst (xs.set j v)))
theorem set_list:g8 X Ce:=by
 intro pins s σ H o i v ov iv u Q I ro ri rv h
 obtain ⟨p,xs,k,j,rfl,rfl,hp,hj,q⟩:=h
 cases ro
 obtain ⟨t,rfl⟩:=ri
 obtain ⟨its,n,r,ho,hz⟩:=I.lst hp
 obtain ⟨h1,h2,h3,h4⟩:=uj hj
 have hl:=r.length
 have hn:=ib
 have I':Inv X pins σ (upd H p (.lst (xs.set j v))) { s with heap:=s.heap.update p (Obj.mapSeq (·.setIfInBounds j u)) } :=
  I.DK hp ho (sh its n j u) (r.set rv j) (by rw [List.length_set];exact hz) s.toks
 by_cases h0:0≤k
 ·have hk:k.toNat=j:=by
   rw [seqIndex_of h0 h4] at h1
   exact Option.some.inj h1
  exact PySem.W.ki_setAt ho h0 (by omega) (by rw [List.size_toArray,← hl];exact h4) (by rw [hk];exact ⟨_,I',q⟩)
 ·have hk:(k + (its.toArray.size:Int)).toNat=j:=by
   rw [seqIndex_neg (by omega) h3] at h1
   rw [List.size_toArray,← hl]
   exact Option.some.inj h1
  exact PySem.W.ki_setBack ho (by omega) (by rw [List.size_toArray,← hl];exact h3) (by omega) (by rw [hk];exact ⟨_,I',q⟩)
theorem oG (lo hi:Option Int) (n:Nat):(sliceBounds lo hi none n).1=((HT.c6 n 0 lo:Nat):Int)∧(sliceBounds lo hi none n).2.1=((HT.c6 n n hi:Nat):Int)∧(sliceBounds lo hi none n).2.2=1:=by
 refine ⟨?_,?_,rfl⟩
 ·cases lo with
  | none=>simp [sliceBounds,HT.c6]
  | some i =>
   simp only [sliceBounds,HT.c6,Option.getD_none,show (1:Int) > 0 by decide,if_true]
   by_cases h:i < 0
   ·simp only [h,if_true] <;> omega
   ·simp only [h,if_false] <;> omega
 ·cases hi with
  | none=>simp [sliceBounds,HT.c6]
  | some i =>
   simp only [sliceBounds,HT.c6,Option.getD_none,show (1:Int) > 0 by decide,if_true]
   by_cases h:i < 0
   ·simp only [h,if_true] <;> omega
   ·simp only [h,if_false] <;> omega
theorem m7 (its:List Value) (lo hi:Option Int):slicePick its.toArray lo hi none=((its.drop (HT.c6 its.length 0 lo)).take (HT.c6 its.length its.length hi - HT.c6 its.length 0 lo)).toArray:=by
 obtain ⟨h1,h2,h3⟩:=oG lo hi its.toArray.size
 unfold slicePick
 rw [h1,h2,h3]
 simp only [sliceRange_one,pick_run,List.size_toArray] <;> rfl
def Fz (K:PySem.W.Frag):V→Option Int→Option Int→Hp→VK→Prop:=fun x lo hi H Q=>∃ a xs,x=.ref a∧cR K H a xs∧∀ p,H p=none→Q (.ref p) (upd H p (.lst (lq xs lo hi)))
theorem pP:rW X (Fz X.K):=by
 intro pins s σ H x v vl vu lo hi sl Q I rx hs pl pu h
 obtain ⟨a,xs,rfl,hx,q⟩:=h
 cases rx
 obtain ⟨its,r,ht,hz⟩:=I.list hx
 have hlen:=r.length
 refine ⟨"list",_,slot_list_getitem.lookup,ht.isList.typeIs,?_⟩
 refine wpAny_getItem_list_slice ht.isList hs pl pu .none (by simp) ?_ (by rw [List.size_toArray] <;> omega)
 rw [m7,← hlen]
 refine ⟨.ref s.heap.objs.size,_,I.laid (t':=s.toks) (o:=.lst (lq xs lo hi)) (fun b ob q=>Heap.get?_push_of_some _ q) (Nat.le_refl _) ?_,rfl,q _ (I.hok.fresh (Nat.le_refl _))⟩
 exact ⟨Nat.le_trans (j8 xs lo hi) hz,_,0,(r.drop (HT.c6 xs.length 0 lo)).take (HT.c6 xs.length xs.length hi - HT.c6 xs.length 0 lo),Heap.get?_push_size _ rfl⟩
def f_:V→Bool
 | .non=>true
 | .bl _=>true
 | .int _=>true
 | .str _=>true
 | _=>false
def Ac:V→V→Bool
 | .non,.non=>true
 | .bl a,.bl b=>a == b
 | .bl a,.int b=>(if a then 1 else 0) == b
 | .int a,.bl b=>a == (if b then 1 else 0)
 | .int a,.int b=>a == b
 | .str a,.str b=>a == b
 | _,_=>false
theorem Er {A:Around} {s:Shared} {y x:V} {u v:Value} (ry:RelV y u) (rx:RelV x v) (fy:f_ y=true) (fx:f_ x=true):SeqAt.EqAt A s u v (Ac y x):=by
 cases y with
 | non =>
  cases ry
  cases x with
  | non=>cases rx;exact SeqAt.EqAt.same _
  | bl b=>cases rx;exact SeqAt.EqAt.none_bool b
  | int b=>obtain ⟨t,rfl⟩:=rx;exact SeqAt.EqAt.none_int b t
  | str b=>obtain ⟨t,rfl⟩:=rx;exact SeqAt.EqAt.none_str b t
  | _=>exact absurd (show false=true from fx) Bool.false_ne_true
 | bl a =>
  cases ry
  cases x with
  | non=>cases rx;exact SeqAt.EqAt.bool_none a
  | bl b=>cases rx;exact SeqAt.EqAt.bool_bool a b
  | int b=>obtain ⟨t,rfl⟩:=rx;exact SeqAt.EqAt.bool_int a b t
  | str b=>obtain ⟨t,rfl⟩:=rx;exact SeqAt.EqAt.bool_str a b t
  | _=>exact absurd (show false=true from fx) Bool.false_ne_true
 | int a =>
  obtain ⟨t',rfl⟩:=ry
  cases x with
  | non=>cases rx;exact SeqAt.EqAt.int_none a t'
  | bl b=>cases rx;exact SeqAt.EqAt.int_bool a t' b
  | int b=>obtain ⟨t,rfl⟩:=rx;exact SeqAt.EqAt.int_int a t' b t
  | str b=>obtain ⟨t,rfl⟩:=rx;exact SeqAt.EqAt.int_str a t' b t
  | _=>exact absurd (show false=true from fx) Bool.false_ne_true
 | str a =>
  obtain ⟨t',rfl⟩:=ry
  cases x with
  | non=>cases rx;exact SeqAt.EqAt.str_none a t'
  | bl b=>cases rx;exact SeqAt.EqAt.str_bool a t' b
  | int b=>obtain ⟨t,rfl⟩:=rx;exact SeqAt.EqAt.str_int a t' b t
  | str b=>obtain ⟨t,rfl⟩:=rx;exact SeqAt.EqAt.str_str a t' b t
  | _=>exact absurd (show false=true from fx) Bool.false_ne_true
 | _=>exact absurd (show false=true from fy) Bool.false_ne_true
def tH (x:V) (u:Value):Bool:=match u with
 | .none=>Ac .non x
 | .bool b=>Ac (.bl b) x
 | .int i _=>Ac (.int i) x
 | .str z _=>Ac (.str z) x
 | _=>false
theorem xx {x y:V} {u:Value} (r:RelV y u) (f:f_ y=true):tH x u=Ac y x:=by
 cases y with
 | non=>cases r;rfl
 | bl b=>cases r;rfl
 | int i=>obtain ⟨t,rfl⟩:=r;rfl
 | str z=>obtain ⟨t,rfl⟩:=r;rfl
 | _=>exact absurd (show false=true from f) Bool.false_ne_true
theorem iO {x:V}:∀ {xs:List V} {us:List Value},Vals xs us→xs.all f_=true→us.any (tH x)=xs.any fun y=>Ac y x
 | _,_,.nil,_=>rfl
 | y :: xs,u :: us,.cons r t,f=>by
  rw [List.all_cons,Bool.and_eq_true] at f
  rw [List.any_cons,List.any_cons,xx r f.1,iO t f.2]
theorem gK {A:Around} {s:Shared} {x:V} {v:Value} (rx:RelV x v) (fx:f_ x=true):∀ {xs:List V} {us:List Value},Vals xs us→xs.all f_=true→∀ u∈us,SeqAt.EqAt A s u v (tH x u)
 | _,_,.nil,_=>fun u hu=>by cases hu
 | y :: xs,u :: us,.cons r t,f=>fun u' hu=>by
  rw [List.all_cons,Bool.and_eq_true] at f
  rcases List.mem_cons.mp hu with rfl | hu
  ·rw [xx r f.1];exact Er r rx f.1 fx
  ·exact gK rx fx t f.2 u' hu
def EO (x:V) (xs:List V):Bool:=xs.any fun y=>Ac y x
def Jf (K:PySem.W.Frag) (neg:Bool):R2:=fun x y H Q=>∃ p xs,y=.ref p∧(cR K H p xs∨fz K H p xs)∧f_ x=true∧xs.all f_=true∧Q (.bl (if neg then !EO x xs else EO x xs)) H
theorem wG:d_ X (compareOp .In) (Jf X.K false):=by
 intro pins s σ H x y v u Q I rx ry h
 obtain ⟨p,xs,rfl,hq,fx,fs,q⟩:=h
 cases ry
 rcases hq with hq | hq
 ·obtain ⟨its,r,pl,hz⟩:=I.list hq
  refine SeqAt.in_listAt (tH x) pl.isList (fun w hw=>gK rx fx r fs w (by simpa using hw)) ⟨.bl _,H,I,rfl,?_⟩
  rw [show its.toArray.any (tH x)=its.any (tH x) by simp,iO r fs]
  exact q
 ·obtain ⟨its,r,pl,hz⟩:=I.tuple hq
  refine SeqAt.in_tupleAt (tH x) pl (fun w hw=>gK rx fx r fs w (by simpa using hw)) ⟨.bl _,H,I,rfl,?_⟩
  rw [show its.toArray.any (tH x)=its.any (tH x) by simp,iO r fs]
  exact q
theorem oM:d_ X (compareOp .NotIn) (Jf X.K true):=by
 intro pins s σ H x y v u Q I rx ry h
 obtain ⟨p,xs,rfl,hq,fx,fs,q⟩:=h
 cases ry
 rcases hq with hq | hq
 ·obtain ⟨its,r,pl,hz⟩:=I.list hq
  refine SeqAt.notIn_listAt (tH x) pl.isList (fun w hw=>gK rx fx r fs w (by simpa using hw)) ⟨.bl _,H,I,rfl,?_⟩
  rw [show its.toArray.any (tH x)=its.any (tH x) by simp,iO r fs]
  exact q
 ·obtain ⟨its,r,pl,hz⟩:=I.tuple hq
  refine SeqAt.notIn_tupleAt (tH x) pl (fun w hw=>gK rx fx r fs w (by simpa using hw)) ⟨.bl _,H,I,rfl,?_⟩
  rw [show its.toArray.any (tH x)=its.any (tH x) by simp,iO r fs]
  exact q
theorem fW:b7 X (.builtin "len") (fun xs H Q=>∃ p ys,xs=[.ref p]∧(cR X.K H p ys∨fz X.K H p ys)∧Q (.int ys.length) H):=by
 intro pins s σ H xs us Q I r h
 obtain ⟨p,ys,rfl,hq,q⟩:=h
 obtain ⟨u,rfl,rx⟩:=vals1 r
 cases rx
 have hn:=ib
 rcases hq with hq | hq
 ·obtain ⟨its,r',pl,hz⟩:=I.list hq
  have hlen:=r'.length
  exact Calls.call_len_list pl.isList (by simp only [List.size_toArray] <;> omega) ⟨.int ys.length,H,I.tok _,⟨s.toks + 1,by rw [List.size_toArray,hlen]⟩,q⟩
 ·obtain ⟨its,r',pl,hz⟩:=I.tuple hq
  have hlen:=r'.length
  exact len_tuple pl (by simp only [List.size_toArray] <;> omega) ⟨.int ys.length,H,I.tok _,⟨s.toks + 1,by rw [List.size_toArray,hlen]⟩,q⟩
theorem iW:b7 X (.builtin "len") (fun xs H Q=>∃ z,xs=[.str z]∧z.length≤sizeLine∧Q (.int z.length) H):=by
 intro pins s σ H xs us Q I r h
 obtain ⟨z,rfl,hz,q⟩:=h
 obtain ⟨u,rfl,t,rfl⟩:=vals1 r
 have hn:=ib
 exact len_str (by omega) ⟨.int z.length,H,I.tok _,⟨_,rfl⟩,q⟩
theorem oA:b7 X (.type "list") (fun xs H Q=>∃ p ys,xs=[.ref p]∧(cR X.K H p ys∨fz X.K H p ys)∧∀ l,H l=none→Q (.ref l) (upd H l (.lst ys))):=by
 intro pins s σ H xs us Q I r h
 obtain ⟨p,ys,rfl,hq,q⟩:=h
 obtain ⟨u,rfl,rx⟩:=vals1 r
 cases rx
 have fin:∀ (its:List Value),Vals ys its→ys.length≤sizeLine→∀ (h':Heap) (c':Nat),(∀ b o',s.heap.get? b=some o'→h'.get? b=some o') →
   h'.get? s.heap.objs.size=some { cls:=.type "list",dict:=none,data:=.seq its.toArray c',slots:=#[] }→EP X pins σ Q (.ref s.heap.objs.size) { s with heap:=h' }:=fun its r' hz h' c' kp e =>
  ⟨.ref s.heap.objs.size,_,I.laid (t':=s.toks) kp (Nat.le_refl _) (show cb X.prog X.w _ h' _ (.lst ys) from ⟨hz,its,c',r',e⟩),rfl,q _ (I.hok.fresh (Nat.le_refl _))⟩
 rcases hq with hq | hq
 ·obtain ⟨its,r',pl,hz⟩:=I.list hq
  have hlen:=r'.length
  obtain ⟨o,ho,hc,n,hd⟩:=pl.isList
  exact call_list_seq p (.inl rfl) ho hc hd (fun h' c' kp e=>fin its r' hz h' c' kp e) (by simp only [List.size_toArray] <;> omega)
 ·obtain ⟨its,r',pl,hz⟩:=I.tuple hq
  have hlen:=r'.length
  obtain ⟨o,ho,hc,n,hd⟩:=pl
  exact call_list_seq p (.inr rfl) ho hc hd (fun h' c' kp e=>fin its r' hz h' c' kp e) (by simp only [List.size_toArray] <;> omega)
def Hd (K:PySem.W.Frag) (T:String) (x:V) (H:Hp):Prop:=match x with
 | .str _=>T="str"
 | .int _=>T="int"
 | .ref p=>(T="list"∧∃ xs,cR K H p xs)∨(T="tuple"∧∃ o,K.lookup p=some o∧o.cls=.type "tuple"∧o.dict=none) ∨
   (T="dict"∧((∃ kvs,H p=some (.dK kvs))∨∃ kvs ep,H p=some (.dE kvs ep)))∨(T="set"∧∃ S n,H p=some (.set S n))
 | _=>False
theorem xN {pins:List (Addr × Obj)} {σ:St} {H:Hp} {s:Shared} {T:String} {x:V} {v:Value} (I:Inv X pins σ H s) (r:RelV x v) (ty:Hd X.K T x H) :
  s.TypeIs v T∧∀ a,v=.ref a→∃ ob,s.heap.get? a=some ob∧ob.dict=none:=by
 cases x with
 | str z =>
  obtain ⟨t,rfl⟩:=r
  cases (show T="str" from ty)
  exact ⟨typeIs_str s z t,fun _ e=>nomatch e⟩
 | int i =>
  obtain ⟨t,rfl⟩:=r
  cases (show T="int" from ty)
  exact ⟨typeIs_int s i t,fun _ e=>nomatch e⟩
 | ref p =>
  cases r
  rcases ty with ⟨rfl,xs,hq⟩ | ⟨rfl,o,hk,hc,hd⟩ | ⟨rfl,hk⟩ | ⟨rfl,S,n,hk⟩
  ·obtain ⟨its,_,pl,_⟩:=I.list hq
   refine ⟨pl.isList.typeIs,fun a e=>?_⟩
   cases e
   obtain ⟨o,n,e,c,hd,_⟩:=pl
   exact ⟨o,e,hd⟩
  ·refine ⟨⟨o,I.i7 p o hk,hc⟩,fun a e=>?_⟩
   cases e
   exact ⟨o,I.i7 _ o hk,hd⟩
  ·have z:∃ o,s.heap.get? p=some o∧o.ExactDict:=by
    rcases hk with ⟨kvs,hk⟩ | ⟨kvs,ep,hk⟩
    ·obtain ⟨_,_,_,_,o,_,_,e,ex,_⟩:=I.hok p _ hk
     exact ⟨o,e,ex⟩
    ·obtain ⟨_,_,_,_,o,_,e,ex,_⟩:=I.hok p _ hk
     exact ⟨o,e,ex⟩
   obtain ⟨o,e,ex⟩:=z
   refine ⟨⟨o,e,ex.1⟩,fun a e2=>?_⟩
   cases e2
   exact ⟨o,e,ex.2.1⟩
  ·obtain ⟨o,_,_,_,e,ex,_⟩:=I.hok p _ hk
   refine ⟨⟨o,e,ex.1⟩,fun a e2=>?_⟩
   cases e2
   exact ⟨o,e,ex.2.1⟩
 | _=>exact False.elim ty
def HH (K:PySem.W.Frag) (T:String) (r:V→List V→Hp→VK→Prop) (to:TE):TE:=fun σ H Q=>to σ H fun x H1=>Hd K T x H1∧r x [] H1 Q
def G' (K:PySem.W.Frag) (T:String) (r:V→List V→Hp→VK→Prop) (to:TE) (t:TA):TE:=fun σ H Q=>to σ H fun x H1=>Hd K T x H1∧t σ H1 fun xs H2=>r x xs H2 Q
variable {o e:Expr} {es:List Expr} {to:TE} {t:TA} {name:Str} {apos cpos:Pos} {T id:String} {r:V→List V→Hp→VK→Prop}
theorem Dg (pa:PlainAttrs T) (slot:Slot T name id) (hty:typeOf (.builtin id)=pure (.type "method_descriptor")) (hm:nR X id r) (ho:PE X o to)
  (hbase:attributeBase o name X.env (eval o X.env)=eval o X.env:=by rfl) (hline:(apos.endLine == cpos.line)=true:=by rfl):PE X (.Call (.Attribute o name apos) [] [] cpos) (HH X.K T r to):=by
 intro pins s σ H Q I h
 refine wpAny_Call_method0_late hbase hline (bx (ho pins s σ H _ I h) fun v s1 ⟨x,H1,I1,r1,ty,q1⟩=>?_)
 obtain ⟨h1,h2⟩:=xN I1 r1 ty
 exact ⟨T,id,pa,slot,hty,h1,h2,Calls.callWith_builtin rfl (PySem.evalArgs_none (hm pins s1 σ H1 x [] v [] Q I1 r1 .nil q1))⟩
theorem lO (pa:PlainAttrs T) (slot:Slot T name id) (hty:typeOf (.builtin id)=pure (.type "method_descriptor")) (hm:nR X id r) (ho:PE X o to) (ha:PA X (e :: es) t)
  (hbase:attributeBase o name X.env (eval o X.env)=eval o X.env:=by rfl)
  (hfew:((backTo cpos (starEach (e :: es) X.env)).all (fun x=>!x.1) && (backToKw cpos (keywordEach [] X.env)).all (fun x=>x.1.isSome)
   && decide ((e :: es).length + ([]:List Keyword).length + (if ([]:List Keyword).isEmpty then 0 else 1) < 30))=true:=by rfl)
  (hline:(apos.endLine == cpos.line)=true:=by rfl) (hs:starEach (e :: es) X.env=(false,eval e X.env) :: starEach es X.env:=by rfl) (hplain:(backTo cpos (starEach es X.env)).any (·.1)=false:=by rfl) :
  PE X (.Call (.Attribute o name apos) (e :: es) [] cpos) (G' X.K T r to t):=by
 intro pins s σ H Q I h
 refine wpAny_Call_method_late hbase hfew hline rfl (bx (ho pins s σ H _ I h) fun v s1 ⟨x,H1,I1,r1,ty,q1⟩=>?_)
 obtain ⟨h1,h2⟩:=xN I1 r1 ty
 refine ⟨T,id,pa,slot,hty,h1,h2,?_⟩
 have hA:=ha cpos pins s1 σ H1 _ I1 q1
 rw [hs] at hA ⊢
 refine Calls.callWith_builtin (by show (false || (backTo cpos (starEach es X.env)).any (·.1))=false;rw [hplain] <;> rfl) (Calls.evalArgs_plain ?_)
 exact bx hA fun us s2 ⟨vs,H2,I2,r2,q2⟩=>hm pins s2 σ H2 x vs v us Q I2 r1 r2 q2
end
end L2
namespace L2
open PySem PySem.Spec PyProof.Rows
def Jj (X:Cx) (id:String) (r:V→List V→Hp→VK→Prop):Prop :=
 ∀ (pins:List (Addr × Obj)) (s:Shared) (σ:St) (H:Hp) (x:V) (xs:List V) (v:Value) (us:List Value) (Q:VK),Inv X pins σ H s→RelV x v→Vals xs us→r x xs H Q →
  wpAny (model X.prog X.w) X.A (call (.builtin id) (v :: us)) (EP X pins σ Q) X.xe s
theorem Vals.one:∀ {x:V} {us:List Value},Vals [x] us→∃ u,us=[u]∧RelV x u
 | _,_,.cons r .nil=>⟨_,rfl,r⟩
theorem Vals.zero:∀ {us:List Value},Vals [] us→us=[]
 | _,.nil=>rfl
theorem Vals.dropLast {xs:List V} {us:List Value} (h:Vals xs us):Vals xs.dropLast us.dropLast:=by
 induction h with
 | nil=>exact .nil
 | cons r t ih =>
  cases t with
  | nil=>exact .nil
  | cons q t'=>exact .cons r ih
theorem Vals.eraseIdx:∀ {xs:List V} {us:List Value} (i:Nat),Vals xs us→Vals (xs.eraseIdx i) (us.eraseIdx i)
 | _,_,_,.nil=>.nil
 | _,_,0,.cons _ t=>t
 | _,_,i + 1,.cons r t=>.cons r (Vals.eraseIdx i t)
theorem Vals.reverse {xs:List V} {us:List Value} (h:Vals xs us):Vals xs.reverse us.reverse:=by
 induction h with
 | nil=>exact .nil
 | cons r t ih=>rw [List.reverse_cons,List.reverse_cons];exact Vals.append ih (.cons r .nil)
theorem Vals.rep {xs:List V} {us:List Value} (h:Vals xs us):∀ k:Nat,Vals (List.replicate k xs).flatten (List.replicate k us).flatten
 | 0=>.nil
 | k + 1=>by
  rw [List.replicate_succ,List.replicate_succ,List.flatten_cons,List.flatten_cons]
  exact Vals.append h (Vals.rep h k)
theorem tQ {α:Type} (l:List α):l.eraseIdx (l.length - 1)=l.dropLast:=by
 induction l with
 | nil=>rfl
 | cons a r ih =>
  cases r with
  | nil=>rfl
  | cons b r =>
   have e:(a :: b :: r).length - 1=((b :: r).length - 1) + 1:=by
    have h1:(a :: b :: r).length=r.length + 2:=rfl
    have h2:(b :: r).length=r.length + 1:=rfl
    omega
   rw [e,List.eraseIdx_cons_succ,ih]
   all_goals rfl
section
variable {X:Cx} {pins:List (Addr × Obj)} {σ:St} {H:Hp} {s:Shared} {l b:Addr} {xs ys zs:List V}
theorem Inv.AU {its its':List Value} {n:Nat} {f:Array Value→Array Value} {t':Nat} (I:Inv X pins σ H s) (hH:H l=some (.lst xs))
  (e:s.heap.get? l=some { cls:=.type "list",data:=.seq its.toArray n }) (hf:f its.toArray=its'.toArray) (hv:Vals ys its') (hz:ys.length≤sizeLine) :
  Inv X pins σ (upd H l (.lst ys)) { s with heap:=s.heap.update l (Obj.mapSeq f),toks:=t' }:=by
 have q:=PySem.IsL.update e f
 rw [hf] at q
 refine I.write (x:=l) (e:=l) (by rw [hH];exact trivial) (.inl rfl) (fun b' u hb hu=>(Heap.get?_update_other s.heap (Obj.mapSeq f) (Ne.symm hb)).trans hu) ⟨_,q⟩ ?_
 exact ⟨hz,its',_,hv,q⟩
theorem Inv.fresh (I:Inv X pins σ H s):H s.heap.objs.size=none:=I.hok.fresh (Nat.le_refl _)
theorem Inv.xR (I:Inv X pins σ H s) (hH:H l=some (.lst xs)):xs.length≤sizeLine∧∃ (its:List Value) (n:Nat),Vals xs its∧xs.length=its.length∧s.heap.get? l=some { cls:=.type "list",data:=.seq its.toArray n }:=by
 obtain ⟨z,its,n,r,e⟩:=I.hok l _ hH
 exact ⟨z,its,n,r,r.length,e⟩
end
section
variable {X:Cx}
def uk:V→List V→Hp→VK→Prop:=fun x vs H Q=>∃ l xs y,x=.ref l∧vs=[y]∧H l=some (.lst xs)∧xs.length < sizeLine∧Q .non (upd H l (.lst (xs ++ [y])))
theorem eA:Jj X "list.append" uk:=by
 intro pins s σ H x vs v us Q I rx rv h
 obtain ⟨l,xs,y,rfl,rfl,hH,hz,q⟩:=h
 cases rx
 obtain ⟨u,rfl,ru⟩:=rv.one
 obtain ⟨z,its,n,r,hl,e⟩:=I.xR hH
 refine call_meets F.slot_list_append ⟨_,e,rfl⟩ F.entry_list_append (F.args_list_append_2 _ _) (PySem.list_append l its.toArray n u (by rw [List.size_toArray];omega)) ⟨e,?_⟩
 refine ⟨.non,_,I.AU (its':=its ++ [u]) hH e (by simp) (r.append (.cons ru .nil)) ?_,rfl,q⟩
 rw [List.length_append,List.length_singleton]
 omega
def HN:V→List V→Hp→VK→Prop:=fun x vs H Q=>∃ l xs y,x=.ref l∧vs=[]∧H l=some (.lst xs)∧xs[xs.length - 1]?=some y∧Q y (upd H l (.lst xs.dropLast))
theorem DY:Jj X "list.pop" HN:=by
 intro pins s σ H x vs v us Q I rx rv h
 obtain ⟨l,xs,y,rfl,rfl,hH,hy,q⟩:=h
 cases rx
 have hus:=rv.zero
 subst hus
 obtain ⟨z,its,n,r,hl,e⟩:=I.xR hH
 obtain ⟨u,hu,ru⟩:=r.get hy
 have hy':its.toArray[its.toArray.size - 1]?=some u:=by
  show its.toArray[its.length - 1]?=some u
  rw [← Array.getElem?_toList,← hl]
  exact hu
 refine call_meets F.slot_list_pop ⟨_,e,rfl⟩ F.entry_list_pop (F.args_list_pop_1 _) (MeetsSeq.list_pop_last l its.toArray n u hy' (by rw [List.size_toArray];omega)) ⟨e,?_⟩
 refine ⟨y,_,I.AU (its':=its.dropLast) hH e ?_ r.dropLast ?_,ru,q⟩
 ·show its.toArray.eraseIdxIfInBounds (its.toArray.size - 1)=its.dropLast.toArray
  rw [List.size_toArray,List.eraseIdxIfInBounds_toArray,tQ]
 ·rw [List.length_dropLast]
  omega
end
section
variable {prog:Program} {w:World} {A:Around} {E:Value→Shared→Prop} {s:Shared}
end
section
variable {X:Cx}
end
end L2
namespace Att
open PySem PySem.W PySem.Calls PyProof.Rows
theorem kC {P:Params} {h:Heap}:∀ (ns:List Int) (vs:List Value),WellAll P h vs (ns.map WData.int)→IntsAre vs ns:=by
 intro ns
 induction ns with
 | nil =>
  intro vs w
  rw [List.map_nil] at w
  cases w
  exact .nil
 | cons n ns ih =>
  intro vs w
  rw [List.map_cons] at w
  cases w with
  | cons a b =>
   cases a
   exact .cons _ _ (ih _ b)
theorem v_ {l:OpenLaw} {n:Nat} (hn:l.most=some n) {P:Params} {h:Heap} {args:List WData} {vals:List Value}
  (hpre:l.row.toRowW.claim.pre args=true) (hwl:WellAll P h vals args) :
  ∃ a vs ns,vals=[Value.ref a]∧args=[WData.list (ns.map WData.int)]∧h.get? a=some { cls:=.type "list",data:=.seq vs.toArray }∧IntsAre vs ns∧ns.length≤n:=by
 have hsh:WShape.hasAll [] args [.list .int]=true:=(pre_splitW hpre).1
 have hc:l.pre.holds [] { args:=args }=true:=(pre_splitW hpre).2
 obtain ⟨d,r,rfl,h1,h2⟩:=hasAllW_cons hsh
 obtain rfl:=hasAllW_nil h2
 obtain ⟨xs,rfl,h3⟩:=hasW_list h1
 obtain ⟨ns,rfl⟩:=items_int h3
 have hlen:ns.length≤n:=by
  unfold OpenLaw.pre at hc
  have h4:(WTm.not (.lt (.lit (.int (n:Int))) (.len (.arg 0)))).holds [] { args:=[.list (ns.map .int)] }=true:=by
   have h4:=(holds_andW hc).1
   rw [hn] at h4
   exact h4
  have h5:=condW_of h4 (w_not (w_lt w_lit (w_len_list (w_arg rfl))))
  rw [List.length_map] at h5
  refine Nat.le_of_not_lt fun q=>?_
  have q':(n:Int) < ((ns.length:Nat):Int):=by omega
  first
   | (rw [decide_eq_true q'] at h5;exact absurd h5 (by decide))
   | (simp at h5;omega)
 cases hwl with
 | cons w1 w2 =>
  cases w2
  cases w1 with
  | list ho hall=>exact ⟨_,_,ns,rfl,rfl,ho,kC ns _ hall,hlen⟩
theorem wa (l:OpenLaw) (args:List WData):l.row.toRowW.claim.post args (.bool true) args=true :=
 postW_of (r:=l.row.toRowW) (X:=(true == true))
  (show WShape.has [] (.bool true) .bool=true by first | rfl | decide | simp [WShape.has,WShape.arms,WShape.armsAll])
  (show (WTm.eq .res (.lit (.bool true))).value [] { args:=args,res:=some (.bool true),after:=args }=some (.bool (true == true)) from w_eq_bool (w_res rfl) w_lit) rfl
theorem qL {l:OpenLaw} {n:Nat} {q:Program} {loose:List Str} {XP:(Str→Option Value)→Heap→Prop} {YP:World→Heap→Prop} {d:DefRec}
  (hn:l.most=some n) (hdf:d.params.defaults=[])
  (call:∀ (w:World) (s₀ s₁:Shared) (mg mb:Str→Option Value) (fa:Addr) (o:Obj) (pm cd doc:Value) (a:Addr) (vs:List Value) (ns:List Int),
   Ground q loose [] XP w s₀ mg mb s₁.heap→YP w s₁.heap →
   s₁.heap.get? fa=some o→o.data=.func (docDef d.name d.params d.body d.scope pm cd doc)→s₁.heap.CodeRec cd d.name→mg d.name=some (.ref fa) →
   s₁.heap.get? a=some { cls:=.type "list",data:=.seq vs.toArray }→IntsAre vs ns→ns.length≤n→s₁.gens=#[] →
   codeAny (model l.prog w) callerA (.call (.ref fa) ⟨[.ref a],[]⟩) (fun r s'=>r=.ok (.ret (.bool true))∧OldK s₁.heap s'.heap∧s'.os=s₁.os∧AllBare s'.gens) s₁) :
  WalkO q loose XP YP l.row.toRowW d [] (fun f vs=>PySem.call f vs):=by
 intro w s₀ s₁ mg mb G Y fa o pm cd doc dV kV ho hd hcd hD hmg hg args vals as hpre hlay hrd hwl hlo
 obtain rfl:dV=.none:=Dflts.none hD hdf
 obtain rfl:kV=.none:=Dflts.noKw hD
 obtain ⟨a,vs,ns,rfl,rfl,hobj,hints,hlen⟩:=v_ hn hpre hwl
 refine enter_call (codeAny_mono (call w s₀ s₁ mg mb fa o pm cd doc a vs ns G Y ho (fd_plain hd) hcd hmg hobj hints hlen hg) fun r s' hq=>?_)
 obtain ⟨rfl,h2,h3,h4⟩:=hq
 exact ⟨.inl ⟨.bool true,.bool true,[],rfl,fun _=>rfl,.bool true,wa l _,fun _=>⟨List.Pairwise.nil,fun _ hm=>(nomatch hm)⟩⟩,h2,h3,h4⟩
section
variable {prog:Program} {w:World} {A:Around} {E:Value→Shared→Prop} {s:Shared} {K:Frag}
end
end Att
namespace L2
open PySem PySem.Spec PyProof.Rows
theorem nq:∀ {vs:List Value} {ns:List Int},IntsAre vs ns→Vals (ns.map V.int) vs
 | _,_,.nil=>.nil
 | _,_,.cons n t h=>.cons ⟨t,rfl⟩ (nq h)
end L2
namespace L2
open PySem PySem.Spec PyProof.Rows
abbrev bL {K:PySem.W.Frag} {h:Heap} (_:K.In h):PySem.W.Frag:=K
end L2
namespace L2
open PySem PySem.Spec PyProof.Rows
def inClass (s:Stmt) (j:Nat):Stmt:=match s with
 | .ClassDef _ _ _ body _ _ _ _ _ _ _=>body.getD j (.Pass ⟨0,0,0,0⟩)
 | _=>.Pass ⟨0,0,0,0⟩
def cf (s:Stmt):Arguments:=match s with
 | .FunctionDef _ a _ _ _ _ _ _ _ _=>a
 | _=>{ posonlyargs:=[],args:=[],vararg:=none,kwonlyargs:=[],kw_defaults:=[],kwarg:=none,defaults:=[] }
def bC (s:Stmt):List Stmt:=match s with
 | .FunctionDef _ _ b _ _ _ _ _ _ _=>b
 | _=>[]
def ai (s:Stmt):Scope:=match s with
 | .FunctionDef _ _ _ _ _ _ sc _ _ _=>sc
 | _=>{ kind:=.function,names:=[],isGenerator:=false,isCoroutine:=false }
abbrev lW:mn:=fun _ _ _ _ _ _=>False
abbrev E0:XK:=fun _ _ _=>False
theorem Gv {X:Cx}:Passes lW X E0:=fun _ _ _ _ _ _ _ h=>h.elim
structure bP (K:PySem.W.Frag) (x qual:Str) (st:Stmt) (f:Addr) (fd:FuncData):Prop where
 ex:∃ (oc:Value) (od:Option Addr) (kV doc pm:Value) (an:Option Addr) (cdv ct:Value) (osl:Array (Option Value)),
  fd=PySem.W.fnOf x qual (cf st) (bC st) (ai st) .none kV doc pm an cdv ct∧K.lookup f=some ⟨oc,od,.func fd,osl⟩∧PySem.W.codeIn K cdv qual=true
 kp:PySem.W.keepIn K (.ref f)=true
section
variable {P:Program} {w:World} {K:PySem.W.Frag} {mg:Str→Option Value} {base:Heap}
theorem bP.ok {x qual:Str} {st:Stmt} {f:Addr} {fd:FuncData} {N ps:List Str} {k:Nat} {sp:Sp} (F:bP K x qual st f fd) (S:au N ps (ai st)) (len:∀ vs H Q E,sp vs H Q E→vs.length=ps.length)
  (hbody:∀ (cdv:Value) (A:Around) (outer:List Env) (s:Shared) (H:Hp) (vs:List V) (Q:VK) (E:XK),bj k (A.deeper (envOfC qual (ai st) s.heap.objs.size f cdv))→sp vs H Q E →
   ∃ t,m9 (pH lW P w K mg base N qual (ai st) f cdv A outer s H E).yS (bC st) t∧t { nx:=fun _ H'=>Q .non H',rt:=Q } (start N vs) H):aF P w K mg base lW (k + 1) f fd ps sp:=by
 obtain ⟨oc,od,kV,doc,pm,an,cdv,ct,osl,rfl,lk,hcd⟩:=F.ex
 refine zO lk hcd S len fun A outer s H vs Q E hr hsp=>?_
 obtain ⟨t,h,q⟩:=hbody cdv A outer s H vs Q E hr hsp
 exact ⟨t,h.yS,q⟩
theorem bP.binds {x qual:Str} {st:Stmt} {f:Addr} {fd:FuncData} {ps:List Str} (F:bP K x qual st f fd)
  (h:∀ (kV doc pm:Value) (an:Option Addr) (cdv ct:Value) (us:List Value),us.length=ps.length→bindArgs (PySem.W.fnOf x qual (cf st) (bC st) (ai st) .none kV doc pm an cdv ct) ⟨us,[]⟩=pure (ps.zip us)):Binds K fd ps []:=by
 obtain ⟨oc,od,kV,doc,pm,an,cdv,ct,osl,rfl,lk,hcd⟩:=F.ex
 exact .all (h kV doc pm an cdv ct)
theorem tL {x qual:Str} {st:Stmt} {f:Addr} {oc:Value} {od an:Option Addr} {osl:Array (Option Value)} {kV doc pm cdv ct:Value} (l:K.lookup f=some ⟨oc,od,.func (PySem.W.fnOf x qual (cf st) (bC st) (ai st) .none kV doc pm an cdv ct),osl⟩)
  (c:PySem.W.codeIn K cdv qual=true) (k:PySem.W.keepIn K (.ref f)=true):bP K x qual st f (PySem.W.fnOf x qual (cf st) (bC st) (ai st) .none kV doc pm an cdv ct):=⟨⟨oc,od,kV,doc,pm,an,cdv,ct,osl,rfl,l,c⟩,k⟩
end
theorem aW {n:Nat} (h:n≤1000):n < sizeLine:=Nat.lt_of_le_of_lt h (by decide)
section
variable {X:Cx}
theorem pv (i:Nat) {x:Str} {pos:Pos} (hN:X.N[i]?=some x:=by rfl) (hv:qW X.env.scope x:=by first | exact Or.inl rfl | exact Or.inr (Or.inl rfl) | exact Or.inr (Or.inr rfl)) (hd:(x == ("__debug__":Str))=false:=by decide)
  (hcd:(x == ("__classdict__":Str))=false:=by decide):PE X (.Name x pos) (vT i):=sE hN hv hd hcd
end
theorem zo {c A B:Prop} [Decidable c] (h1:c→A) (h2:¬ c→B):if c then A else B:=by
 by_cases h:c
 ·rw [if_pos h]
  exact h1 h
 ·rw [if_neg h]
  exact h2 h
def a7 (H H':Hp):Prop:=∀ b o,H b=some o→H' b=some o
theorem a7.refl (H:Hp):a7 H H:=fun _ _ h=>h
theorem a7.trans {H H1 H2:Hp} (a:a7 H H1) (b:a7 H1 H2):a7 H H2:=fun c o h=>b c o (a c o h)
theorem a7.free {H H':Hp} (e:a7 H H') {l:Addr} (h:H' l=Option.none):H l=Option.none:=by
 cases q:H l with
 | none=>rfl
 | some o =>
  rw [e l o q] at h
  cases h
theorem a7.seq {K:PySem.W.Frag} {H H':Hp} {a:Addr} {xs:List V} (e:a7 H H') (h:cR K H a xs):cR K H' a xs:=by
 rcases h with (h | ⟨o,h⟩) | h
 ·exact .inl (.inl (e _ _ h))
 ·exact .inl (.inr ⟨o,e _ _ h⟩)
 ·exact .inr h
end L2
namespace Ov
theorem rj {a b:Int} (h:b≠0):Int.gcd b (a % b)=Int.gcd a b:=by
 have e:a=b * (a / b) + a % b:=(Int.mul_ediv_add_emod a b).symm
 have d1:((Int.gcd b (a % b):Nat):Int) ∣ a:=by
  rw [e]
  exact Int.dvd_add (Int.dvd_trans (Int.gcd_dvd_left ..) (Int.dvd_mul_right ..)) (by rw [← e];exact Int.gcd_dvd_right ..)
 have d2:((Int.gcd a b:Nat):Int) ∣ a % b:=by
  have e2:a % b=a - b * (a / b):=by omega
  rw [e2]
  exact Int.dvd_sub (Int.gcd_dvd_left ..) (Int.dvd_trans (Int.gcd_dvd_right ..) (Int.dvd_mul_right ..))
 exact Nat.dvd_antisymm (Int.dvd_gcd d1 (Int.gcd_dvd_left ..)) (Int.dvd_gcd (Int.gcd_dvd_right ..) d2)
theorem uE {a:Int} (h:0≤a):((Int.gcd a 0:Nat):Int)=a:=by
 rw [Int.gcd_zero_right];omega
theorem AV (a b:Int):Int.gcd (if a < 0 then -a else a) (if b < 0 then -b else b)=Int.gcd a b:=by
 split <;> split <;> simp [Int.gcd_neg,Int.neg_gcd]
theorem xV (a b:Int):Int.gcd (if a < 0 then -a else a) b=Int.gcd a b:=by
 split <;> simp [Int.gcd_neg,Int.neg_gcd]
theorem tW {t b:Int} (h:b≠0):0 < ((Int.gcd t b:Nat):Int):=by
 have:0 < Int.gcd t b:=Int.gcd_pos_of_ne_zero_right t h
 omega
theorem D9 {t b:Int} (h:b≠0):Int.gcd t b≤b.natAbs:=Nat.le_of_dvd (by omega) (Int.ofNat_dvd.mp (by rw [Int.dvd_natAbs];exact Int.gcd_dvd_right ..))
theorem oH {t b:Int} (h:0 < b):t.fdiv ((Int.gcd t b:Nat):Int)=(Rat.divInt t b).num:=by
 rw [Rat.num_divInt,Int.sign_eq_one_of_pos h,Int.one_mul,Int.gcd_comm b t,Int.fdiv_eq_ediv_of_nonneg _ (Int.natCast_nonneg _)]
theorem den_pos {t b:Int} (h:0 < b):b.fdiv ((Int.gcd t b:Nat):Int)=((Rat.divInt t b).den:Int):=by
 rw [Rat.den_divInt,if_neg (by omega),Int.gcd_comm b t,Int.fdiv_eq_ediv_of_nonneg _ (Int.natCast_nonneg _)]
 rw [Int.natCast_ediv]
 congr 1
 omega
theorem vG {t b:Int} (h:b < 0):t.fdiv (-((Int.gcd t b:Nat):Int))=(Rat.divInt t b).num:=by
 have e:t.fdiv (-((Int.gcd t b:Nat):Int))=(-t).fdiv ((Int.gcd t b:Nat):Int):=by
  have:=Int.neg_fdiv_neg (a:=-t) (b:=((Int.gcd t b:Nat):Int))
  rw [← this];simp
 rw [e,Rat.num_divInt,Int.sign_eq_neg_one_of_neg h,Int.gcd_comm b t,Int.fdiv_eq_ediv_of_nonneg _ (Int.natCast_nonneg _)]
 congr 1
 omega
theorem Bi {t b:Int} (h:b < 0):b.fdiv (-((Int.gcd t b:Nat):Int))=((Rat.divInt t b).den:Int):=by
 have e:b.fdiv (-((Int.gcd t b:Nat):Int))=(-b).fdiv ((Int.gcd t b:Nat):Int):=by
  have:=Int.neg_fdiv_neg (a:=-b) (b:=((Int.gcd t b:Nat):Int))
  rw [← this];simp
 rw [e,Rat.den_divInt,if_neg (by omega),Int.gcd_comm b t,Int.fdiv_eq_ediv_of_nonneg _ (Int.natCast_nonneg _)]
 rw [Int.natCast_ediv]
 congr 1
 omega
theorem uM (t b:Int):(Rat.divInt t b).num.natAbs≤t.natAbs:=by
 rcases Int.lt_trichotomy b 0 with h | h | h
 ·rw [← vG h]
  exact Int.natAbs_fdiv_le_natAbs ..
 ·subst h;simp
 ·rw [← oH h,Int.fdiv_eq_ediv_of_nonneg _ (Int.natCast_nonneg _)]
  exact Int.natAbs_ediv_le_natAbs ..
theorem oY {t b:Int} (h:b≠0):(((Rat.divInt t b).den:Int)).natAbs≤b.natAbs:=by
 rw [Rat.den_divInt,if_neg h]
 exact Nat.div_le_self ..
theorem gS (p:Rat):Rat.divInt p.num p.den=p:=Rat.num_divInt_den p
theorem dB (p:Rat):(p.den:Int)≠0:=by have:=p.den_pos;omega
theorem lM (p:Rat):(0:Int) < p.den:=by have:=p.den_pos;omega
theorem add_eq (p q:Rat):Rat.divInt (p.num * q.den + q.num * p.den) (p.den * q.den)=p + q:=by
 rw [← Rat.divInt_add_divInt _ _ (dB p) (dB q),gS,gS]
theorem sub_eq (p q:Rat):Rat.divInt (p.num * q.den - q.num * p.den) (p.den * q.den)=p - q:=by
 rw [← Rat.divInt_sub_divInt _ _ (dB p) (dB q),gS,gS]
theorem mul_eq (p:Rat) (m:Int):Rat.divInt (p.num * m) p.den=p * m:=by
 have:=Rat.divInt_mul_divInt p.num m (d₁:=p.den) (d₂:=1)
 rw [gS,Int.mul_one] at this
 rw [← this,Rat.divInt_eq_div]
 congr 1
 grind
theorem cast_eq (p:Rat):(p.num:Rat)=p * (p.den:Int):=by
 have h:((p.den:Int):Rat)≠0:=by
  intro e
  exact dB p (by exact_mod_cast e)
 have e:=gS p
 rw [Rat.divInt_eq_div] at e
 grind
theorem fF (p:Rat):((p.den:Int):Rat)≠0:=fun e=>dB p (by exact_mod_cast e)
theorem GL (b p m:Rat) (v:Int):Rat.divInt (p.num * (m.den * b.den) + v * (m.num * b.den - b.num * m.den) * p.den) (p.den * (m.den * b.den))=p + (m - b) * v:=by
 have h:=fF p
 have g:=fF b
 have k:=fF m
 simp only [Rat.divInt_eq_div,Rat.intCast_add,Rat.intCast_sub,Rat.intCast_mul,cast_eq p,cast_eq b,cast_eq m]
 generalize ((p.den:Int):Rat)=d at h ⊢
 generalize ((b.den:Int):Rat)=e at g ⊢
 generalize ((m.den:Int):Rat)=f at k ⊢
 generalize (v:Rat)=v
 grind
theorem q9 {n:Int} (h:n≠0):(n:Rat)≠0:=fun e=>h (by exact_mod_cast e)
theorem EB (g:Rat) (n:Int) (h:n≠0):Rat.divInt g.num (g.den * n)=g / n:=by
 have k:=fF g
 have l:=q9 h
 simp only [Rat.divInt_eq_div,Rat.intCast_mul,cast_eq g]
 generalize ((g.den:Int):Rat)=d at k ⊢
 generalize (n:Rat)=n at l ⊢
 grind
def rank (n:Nat) (f:Nat→Nat→Bool) (k:Nat):Nat:=(List.range n).countP fun j=>j != k && f j k
end Ov
namespace Ov
open PySem PySem.Spec PyProof.Rows L2
structure Bd (n:Nat) (x:Int):Prop where
 lt:x.natAbs < 2 ^ n
theorem Bd.bits {n:Nat} {x:Int} (h:Bd n x):Builtin.Int.intBits x≤n:=intBits_le_iff.mpr h.lt
theorem Bd.of {n:Nat} {x:Int} (h:Builtin.Int.intBits x≤n):Bd n x:=⟨intBits_le_iff.mp h⟩
theorem Bd.mono {m n:Nat} {x:Int} (h:Bd m x) (hmn:m≤n):Bd n x:=.of (Nat.le_trans h.bits hmn)
theorem Bd.neg {n:Nat} {x:Int} (h:Bd n x):Bd n (-x):=.of (intBits_neg_le h.bits)
theorem Bd.add {m n k:Nat} {x y:Int} (h:Bd m x) (g:Bd n y) (hk:max m n + 1≤k:=by decide):Bd k (x + y):=(Bd.of (intBits_add_le h.bits g.bits)).mono hk
theorem Bd.sub {m n k:Nat} {x y:Int} (h:Bd m x) (g:Bd n y) (hk:max m n + 1≤k:=by decide):Bd k (x - y):=(Bd.of (intBits_sub_le h.bits g.bits)).mono hk
theorem Bd.mul {m n k:Nat} {x y:Int} (h:Bd m x) (g:Bd n y) (hk:m + n≤k:=by decide):Bd k (x * y):=(Bd.of (intBits_mul_le h.bits g.bits)).mono hk
theorem Bd.le {n:Nat} {x y:Int} (g:Bd n y) (h:x.natAbs≤y.natAbs):Bd n x:=⟨Nat.lt_of_le_of_lt h g.lt⟩
theorem Bd.small {x:Int} (h1:-(2 ^ 64) < x) (h2:x < 2 ^ 64):Bd 64 x:=.of (intBits_le_64 h1 h2)
theorem Bd.log {n:Nat} {x:Int} (h:Bd n x) (hn:n≤9000) (h0:x≠0):x.natAbs.log2 < 9000 :=
 Nat.lt_of_lt_of_le ((Nat.log2_lt (by omega)).mpr h.lt) hn
section
variable {X:Cx}
def CM (i j:Int):Prop:=∃ m n,Bd m i∧Bd n j∧m + n≤134217728
theorem CM.of {m n:Nat} {i j:Int} (h:Bd m i) (g:Bd n j) (hk:m + n≤134217728:=by decide):CM i j:=⟨m,n,h,g,hk⟩
theorem bS:d_ X (binaryOp .Mult) (rI CM fun i j=>.int (i * j)):=GV fun _ _ _ _ _ _ _ hc q=>by
 obtain ⟨m,n,h,g,hk⟩:=hc
 exact mul_int q (IntMulOk.of_le h.bits g.bits hk)
def CQ (_ j:Int):Prop:=j≠0∧Bd 9000 j
theorem eQ:d_ X (binaryOp .FloorDiv) (rI CQ fun i j=>.int (i.fdiv j)):=GV fun _ _ _ _ _ _ _ hc q =>
 floordiv_int hc.1 q (.inl (PyProof.noPylong_of_log2 (hc.2.log (Nat.le_refl _) hc.1)))
def Jn (f:Bool→Bool):R2:=fun x y H Q=>∃ (p q:Addr) (a b c d:Int),x=.ref p∧y=.ref q∧H p=some (.tup [.int a,.int b])∧H q=some (.tup [.int c,.int d])∧Q (.bl (f (decide (a=c∧b=d)))) H
def FE (t u:TS):TS:=fun D σ H=>∃ M:L2.St→Hp→Prop,t { D with nx:=M } σ H∧∀ σ' H',M σ' H'→u D σ' H'
theorem AB {st:Stmt} {rest:List Stmt} {t u:TS} (h1:PS X st t) (h2:m9 X rest u):m9 X (st :: rest) (FE t u):=by
 intro pins s σ H D I h
 obtain ⟨M,h,k⟩:=h
 refine wpAny_execs_cons (bx (h1 pins s σ H { D with nx:=M } I h) fun f s1 q=>?_)
 cases f with
 | next =>
  obtain ⟨σ',H',I',q⟩:=q
  exact h2 pins s1 σ' H' D I' (k _ _ q)
 | ret v=>exact q
 | brk=>exact q
 | cont=>exact q
end
section
variable {X:Cx}
def CJ:R2:=fun x y H Q=>∃ p xs i v,x=.ref p∧y=.int i∧H p=some (.lst xs)∧cK xs i=some v∧Q v H
def GF:R2:=fun x y H Q=>∃ p xs i v,x=.ref p∧y=.int i∧H p=some (.tup xs)∧cK xs i=some v∧Q v H
theorem eI:lp X CJ:=fun value slice pins s σ H x y v u Q I rx ry ⟨p,xs,i,z,e1,e2,h,e3,q⟩ hs =>
 pJ value slice pins s σ H x y v u Q I rx ry ⟨p,xs,i,z,e1,e2,cR.of h,e3,q⟩ hs
end
theorem cJ {α:Type} (x:α) (xs:List α):cK (x :: xs) 0=some x:=a9 (j:=0) rfl
theorem dX {α:Type} (x y:α) (xs:List α):cK (x :: y :: xs) 1=some y:=a9 (j:=1) rfl
theorem hW {α:Type} (x y z:α) (xs:List α):cK (x :: y :: z :: xs) 2=some z:=a9 (j:=2) rfl
theorem zX {α:Type} (x y z u:α) (xs:List α):cK (x :: y :: z :: u :: xs) 3=some u:=a9 (j:=3) rfl
theorem Bv (i j:Int):xY (.int i) (.int j)=true:=rfl
theorem AX (i j:Bool):xY (.bl i) (.bl j)=true:=rfl
theorem Af (i j:Str):xY (.str i) (.str j)=true:=rfl
def my (P:Program) (w:World) (K:PySem.W.Frag) (mg:Str→Option Value) (base:Heap) (k:Nat) (x:Str) (ps:List Str) (sp:Sp):Prop :=
 ∃ f fd,aF P w K mg base lW k f fd ps sp∧Binds K fd ps []∧PySem.W.keepIn K (.ref f)=true∧mg x=some (.ref f)
theorem Ei {X:Cx} {k k':Nat} {x:Str} {ps:List Str} {sp:Sp} {p pos:Pos} {e:Expr} {es:List Expr} {t:TA} (C:my X.prog X.w X.K X.mg X.base k x ps sp) (hr:bj k' X.A) (hk:k≤k') (hg:Gl X x) (ha:PA X (e :: es) t)
  (hdb:(x == ("__debug__":Str))=false:=by decide) (he:starEach (e :: es) X.env=(false,eval e X.env) :: starEach es X.env:=by rfl) (hpl:(backTo pos (starEach es X.env)).any (·.1)=false:=by rfl) :
  PE X (.Call (.Name x p) (e :: es) [] pos) (lI sp [] E0 t):=by
 obtain ⟨f,fd,F,b,kp,m⟩:=C
 exact ua F (hr.mono hk) hg m kp b .nil Gv ha hdb he hpl
theorem dt {N P:List Str} {sc:Scope} (a:sc.kind=.function:=by rfl) (b:sc.isCoroutine=false:=by rfl) (c:sc.isGenerator=false:=by rfl) (d:N.Nodup:=by decide +kernel) (e:N.take P.length=P:=by rfl) (f:∀ x∈P,sc.names.lookup x=some .local∨sc.names.lookup x=some .cell:=by decide +kernel) (g:∀ y∈sc.names,y.2≠.free:=by decide +kernel):au N P sc:=⟨a,b,c,d,e,f,g⟩
def Def (K:PySem.W.Frag) (mg:Str→Option Value) (x:Str) (st:Stmt):Prop:=∃ f fd,bP K x x st f fd∧mg x=some (.ref f)
theorem C1 {K:PySem.W.Frag} {h:Heap} {mg:Str→Option Value} {x:Str} {st:Stmt} (X:K.In h) (G:h.Ns mainGlobals mg) {f:Addr} {od an:Option Addr} {sl:Array (Option Value)} {oc kV dc pm cd ct:Value}
  (a:PySem.W.nsIn K mainGlobals x=some (some (.ref f))) (l:K.lookup f=some ⟨oc,od,.func (PySem.W.fnOf x x (cf st) (bC st) (ai st) .none kV dc pm an cd ct),sl⟩) (c:PySem.W.codeIn K cd x=true) (k:PySem.W.keepIn K (.ref f)=true) :
  Def K mg x st:=⟨f,_,tL l c k,PySem.W.mg_of X G a⟩
theorem Def.xW {P:Program} {w:World} {K:PySem.W.Frag} {mg:Str→Option Value} {base:Heap} {x:Str} {st:Stmt} {k:Nat} {ps:List Str} {sp:Sp} (D:Def K mg x st)
  (h:∀ f fd,bP K x x st f fd→aF P w K mg base lW k f fd ps sp)
  (hb:∀ (kV doc pm:Value) (an:Option Addr) (cdv ct:Value) (us:List Value),us.length=ps.length→bindArgs (PySem.W.fnOf x x (cf st) (bC st) (ai st) .none kV doc pm an cdv ct) ⟨us,[]⟩=pure (ps.zip us)) :
  my P w K mg base k x ps sp:=by
 obtain ⟨f,fd,F,m⟩:=D
 exact ⟨f,fd,h f fd F,F.binds hb,F.kp,m⟩
theorem Ez {K:PySem.W.Frag} {mg:Str→Option Value} {st:Stmt} {fa:Addr} {p:Str} (D:Def K mg "law" st) (hfa:mg "law"=some (.ref fa))
  (hb:∀ (kV doc pm:Value) (an:Option Addr) (cdv ct:Value) (u:Value),bindArgs (PySem.W.fnOf "law" "law" (cf st) (bC st) (ai st) .none kV doc pm an cdv ct) ⟨[u],[]⟩=pure [(p,u)]) :
  ∃ fd,bP K "law" "law" st fa fd∧∀ (s:Shared) (u:Value),BindsTo s fd ⟨[u],[]⟩ [(p,u)]:=by
 obtain ⟨f,fd,F,m⟩:=D
 have e:=m.symm.trans hfa
 cases e
 obtain ⟨oc,od,kV,doc,pm,an,cdv,ct,osl,rfl,lk,hcd⟩:=F.ex
 exact ⟨_,F,fun s u=>.of_eq (hb kV doc pm an cdv ct u)⟩
structure xj (mg:Str→Option Value):Prop where
 abs:mg "abs"=none
 len:mg "len"=none
 isinstance:mg "isinstance"=none
 range:mg "range"=none
 int:mg "int"=none
 bool:mg "bool"=none
 tuple:mg "tuple"=none
 list:mg "list"=none
 sorted:mg "sorted"=none
 all:mg "all"=none
theorem _root_.L2.a7.tup {K:PySem.W.Frag} {H H':Hp} {a:Addr} {xs:List V} (e:a7 H H') (h:fz K H a xs):fz K H' a xs:=by
 rcases h with (h | ⟨o,h⟩) | h
 ·exact .inl (.inl (e _ _ h))
 ·exact .inl (.inr ⟨o,e _ _ h⟩)
 ·exact .inr h
theorem _root_.L2.a7.new {H:Hp} {p:Addr} (h:H p=none) (o:HO):a7 H (upd H p o):=fun b u q=>by rw [aH (bF q h)];exact q
theorem _root_.L2.a7.EL {H H':Hp} {p:Addr} (h:H p=none) (e:a7 H H') (o:HO):a7 H (upd H' p o):=fun b u q=>by rw [aH (bF q h)];exact e b u q
def Ak (K:PySem.W.Frag) (H:Hp) (a:Addr) (q:Rat):Prop:=fz K H a [.int q.num,.int q.den]
theorem Ak.keep {K:PySem.W.Frag} {H H':Hp} {a:Addr} {q:Rat} (h:Ak K H a q) (e:a7 H H'):Ak K H' a q:=e.tup h
structure Sz (n:Nat) (q:Rat):Prop where
 num:Bd n q.num
 den:Bd n q.den
theorem Sz.mono {m n:Nat} {q:Rat} (h:Sz m q) (k:m≤n):Sz n q:=⟨h.num.mono k,h.den.mono k⟩
theorem Av (x y:Rat):(x.num=y.num∧(x.den:Int)=(y.den:Int))=(x=y):=propext
 ⟨fun h=>Rat.ext h.1 (by have:=h.2;omega),fun h=>by subst h;exact ⟨rfl,rfl⟩⟩
theorem gw (c:Str→NameKind→Bool):∀ (names:List (Str × NameKind)) (y:Str),
  (names.map fun (x:Str × NameKind)=>if c x.1 x.2 then (x.1,NameKind.cell) else (x.1,x.2)).lookup y=(names.lookup y).map fun k=>if c y k then NameKind.cell else k
 | [],_=>rfl
 | (n,k) :: r,y=>by
  have ih:=gw c r y
  cases hy:y == n with
  | true =>
   have e:y=n:=by simpa using hy
   subst e
   by_cases h:c y k=true <;> simp [List.lookup_cons,h]
  | false =>
   by_cases h:c n k=true <;> simp [List.lookup_cons,h,hy,ih]
theorem gy (sc:Scope) (env:Env) (y:Str):(relabel sc env).names.lookup y=(sc.names.lookup y).map fun k=>if (k == .free && env.scope.kind == .function && env.kindOf y == some .cell) then NameKind.cell else k:=by
 have h:=gw (fun n k=>k == .free && env.scope.kind == .function && env.kindOf n == some .cell) sc.names y
 exact h
theorem ie {env:Env}:∀ (names:List (Str × NameKind)) (acc:List (Str × Addr)),(∀ y∈names,y.2=.free→∃ c,env.cells.lookup y.1=some c)→(∀ y c,acc.lookup y=some c→env.cells.lookup y=some c) →
  ∃ cl,(forIn names acc fun (x:Str × NameKind) (r:List (Str × Addr))=>match x with
   | (name,kind)=>if (kind == NameKind.free)=true then (do let c ← cellOf env name;pure (ForInStep.yield ((name,c) :: r))) else (pure (ForInStep.yield r):Sem (ForInStep (List (Str × Addr)))))=(pure cl:Sem (List (Str × Addr))) ∧
   (∀ y c,cl.lookup y=some c→env.cells.lookup y=some c)∧(∀ y c,acc.lookup y=some c→∃ c,cl.lookup y=some c)∧∀ y∈names,y.2=.free→∃ c,cl.lookup y.1=some c
 | [],acc,_,ha=>⟨acc,rfl,ha,fun y c e=>⟨c,e⟩,fun y hy=>by cases hy⟩
 | (n,k) :: r,acc,hn,ha=>by
  by_cases hk:k=.free
  ·subst hk
   obtain ⟨c,hc⟩:=hn (n,.free) List.mem_cons_self rfl
   obtain ⟨cl,e,h1,h2,h3⟩:=ie r ((n,c) :: acc) (fun y hy=>hn y (List.mem_cons_of_mem _ hy)) (fun y d e=>by
    rw [List.lookup_cons] at e
    cases hy:y == n with
    | true =>
     rw [hy] at e
     have e1:y=n:=by simpa using hy
     subst e1
     rw [hc]
     exact e
    | false=>rw [hy] at e;exact ha y d e)
   have self:∃ d,cl.lookup n=some d:=h2 n c (by simp [List.lookup_cons])
   refine ⟨cl,?_,h1,fun y d q=>?_,fun y hy hf=>?_⟩
   ·rw [List.forIn_cons]
    have ec:cellOf env n=pure c:=by unfold cellOf;rw [hc]
    simp only [beq_self_eq_true,if_true,ec,pure_bind]
    exact e
   ·by_cases hy:y=n
    ·subst hy;exact self
    ·exact h2 y d (by rw [List.lookup_cons];have:(y == n)=false:=by simpa using hy
                      rw [this];exact q)
   ·rcases List.mem_cons.mp hy with rfl | hy
    ·exact self
    ·exact h3 y hy hf
  ·obtain ⟨cl,e,h1,h2,h3⟩:=ie r acc (fun y hy=>hn y (List.mem_cons_of_mem _ hy)) ha
   refine ⟨cl,?_,h1,h2,fun y hy hf=>?_⟩
   ·rw [List.forIn_cons]
    have hb:(k == NameKind.free)=false:=by simpa using hk
    simp only [hb,Bool.false_eq_true,if_false,pure_bind]
    exact e
   ·rcases List.mem_cons.mp hy with rfl | hy
    ·exact absurd hf hk
    ·exact h3 y hy hf
theorem fY {sc:Scope} {env:Env} (h:∀ y∈sc.names,y.2=.free→∃ c,env.cells.lookup y.1=some c) :
  ∃ cl,closureFor sc env=pure cl∧(∀ y c,cl.lookup y=some c→env.cells.lookup y=some c)∧∀ y∈sc.names,y.2=.free→∃ c,cl.lookup y.1=some c:=by
 obtain ⟨cl,e,h1,_,h3⟩:=ie sc.names [] h (fun y c z=>by cases z)
 refine ⟨cl,?_,h1,h3⟩
 unfold closureFor
 have e':=congrArg (fun m=>m >>= fun r=>(pure r:Sem (List (Str × Addr)))) e
 simp only [pure_bind] at e'
 exact e'
abbrev bY (sc osc:Scope) (N:List Str) (x:Str) (ks:List (Str × Nat)):Prop :=
 sc.kind=.function∧(∀ y∈sc.names,y.2≠.cell)∧sc.names.lookup x=some .local∧(∀ y∈sc.names,y.2=.local→sc.names.lookup y.1=some .local) ∧
 (∀ y∈sc.names,y.2=.free→osc.names.lookup y.1=some .cell)∧(∀ p∈ks,N[p.2]?=some p.1∧sc.names.lookup p.1=some .free)∧(x :: ks.map (·.1)).Nodup
def dJ (X:Cx) (sc:Scope) (cl:List (Str × Addr)) (C:Addr) (x:Str) (ks:List (Str × Nat)) (s₀:Shared) (H₀:Hp) (fp:List Addr) (pins:List (Addr × Obj)):Cx :=
 { X with N:=x :: ks.map (·.1),s₀:=s₀,H₀:=H₀,env:=compEnvC sc cl C X.env,outer:=X.stack,ex:=fp,fn:=fun _=>false,pn:=X.pn ++ pins,xe:=fun _ _=>False }
def cn (ks:List (Str × Nat)) (σ:L2.St):L2.St:=ks.map fun p=>(σ[p.2]?).getD none
section
variable {X:Cx} {pins:List (Addr × Obj)} {σ:L2.St} {H:Hp} {s:Shared} {sc:Scope} {cl:List (Str × Addr)} {x:Str} {ks:List (Str × Nat)} {fp:List Addr}
theorem get_map {α β:Type} (f:α→β) (l:List α) (i:Nat):(l.map f)[i]?=(l[i]?).map f:=List.getElem?_map
theorem l7 (I:Inv X pins σ H s) (ok:bY sc X.env.scope X.N x ks) (h1:∀ y c,cl.lookup y=some c→X.env.cells.lookup y=some c) (h2:∀ y∈sc.names,y.2=.free→∃ c,cl.lookup y.1=some c)
  (hfp:∀ b∈fp,gf X pins H b∧∃ o,s.heap.get? b=some o) {h4:Heap} {m:Str→Option Value} {t':Nat} (hn:h4.Ns s.heap.objs.size m) (kp:∀ b o,s.heap.get? b=some o→h4.get? b=some o) :
  Inv (dJ X sc cl s.heap.objs.size x ks s H fp pins) [] (none :: cn ks σ) H { s with heap:=h4,toks:=t' }:=by
 obtain ⟨kd,nc,lx,ll,fr,kk,nd⟩:=ok
 have fresh:H s.heap.objs.size=none:=I.hok.fresh (Nat.le_refl _)
 have lt:∀ b o,s.heap.get? b=some o→b≠s.heap.objs.size:=fun b o e=>Nat.ne_of_lt (Heap.lt_size e)
 have cellLt:∀ y c,X.env.cells.lookup y=some c→c≠s.heap.objs.size:=fun y c e=>by
  obtain ⟨v,o,ho,_⟩:=I.cell y c e
  exact lt c o ho
 have sub:∀ b∈gj X.stack,b=X.env.locals∨b∈X.fs:=fun b hb=>List.mem_cons.mp (I.iA b hb)
 have kof:∀ y,(compEnvC sc cl s.heap.objs.size X.env).kindOf y=(relabel sc X.env).names.lookup y:=fun y=>rfl
 have ok':(dJ X sc cl s.heap.objs.size x ks s H fp pins).Ok:={
  mod:=I.ok.mod
  kind:=kd
  glob:=I.ok.glob
  blt:=I.ok.blt
  above:=Nat.le_refl _
  inj:=fun y z c e1 e2=>I.ok.inj y z c (h1 y c e1) (h1 z c e2)
  has:=fun y hy=>by
   rw [show (dJ X sc cl s.heap.objs.size x ks s H fp pins).env.kindOf y=_ from kof y,gy] at hy
   cases e:sc.names.lookup y with
   | none=>rw [e] at hy;rcases hy with z | z <;> cases z
   | some k =>
    have hm:(y,k)∈sc.names:=by
     have:=List.lookup_eq_some_iff.mp e
     obtain ⟨l1,l2,q,_⟩:=this
     rw [q]
     simp
    by_cases hk:k=.free
    ·subst hk;exact h2 _ hm rfl
    ·have hb:(k == NameKind.free)=false:=by simpa using hk
     rw [e] at hy
     simp only [Option.map_some,hb,Bool.false_and,Bool.false_eq_true,if_false] at hy
     rcases hy with z | z
     ·exact absurd (Option.some.inj z) (nc _ hm)
     ·exact absurd (Option.some.inj z) hk
  cab:=fun _ _ z=>by cases z
  hd:=fun z=>I.ok.hd z
  frames:=I.ok.frames
  stk:=.inl rfl
  exf:=fun b hb=>⟨lt b _ (hfp b hb).2.choose_spec,fun y c e=>(hfp b hb).1.2.2.2.2.1 y c (h1 y c e)⟩
  bs:=fun b o e=>I.bs b o e
  bsz:=Nat.le_trans I.ok.bsz I.sz
  noex:=fun b o e hb=>by
   rcases (hfp b hb).1.2.2.2.1 with z | z
   ·exact I.ok.noex b o e z
   ·exact absurd (Nat.lt_of_lt_of_le (Heap.lt_size e) (Nat.le_trans I.ok.bsz z)) (Nat.lt_irrefl _)
  exfs:=fun b hb z=>by
   rcases sub b z with e | e
   ·exact (hfp b hb).1.2.1 e
   ·exact (hfp b hb).1.2.2.1 e
  ju:=I.stack
  frf:=I.oQ }
 obtain ⟨mX,hnX,hlX⟩:=I.loc
 refine ⟨ok',rfl,I.bare,Un.kept kp,⟨m,hn,fun i y v e1 e2 e3=>?_⟩,fun y c e=>?_,fresh,fun y c e=>I.freeC y c (h1 y c e),fun p hp=>?_,I.hok.kept kp,by simp [dJ,cn]⟩
 ·cases i with
  | zero =>
   rw [List.getElem?_cons_zero] at e2
   cases e2
  | succ i =>
   have e1':(ks.map (·.1))[i]?=some y:=by simpa [dJ] using e1
   rw [List.getElem?_cons_succ] at e2
   unfold cn at e2
   rw [List.getElem?_map] at e1' e2
   cases ep:ks[i]? with
   | none=>rw [ep] at e1';cases e1'
   | some p =>
    rw [ep] at e1' e2
    have ey:p.1=y:=Option.some.inj e1'
    have ev:(σ[p.2]?).getD none=some v:=Option.some.inj e2
    obtain ⟨kN,kf⟩:=kk p (List.mem_of_getElem? ep)
    have es:σ[p.2]?=some (some v):=by
     cases q:σ[p.2]? with
     | none=>rw [q] at ev;cases ev
     | some w=>rw [q] at ev;exact congrArg some ev
    have hm:(p.1,NameKind.free)∈sc.names:=by
     obtain ⟨l1,l2,q,_⟩:=List.lookup_eq_some_iff.mp kf
     rw [q]
     simp
    have oc:X.env.scope.names.lookup p.1=some .cell:=fr _ hm rfl
    obtain ⟨u,ru,lu⟩:=hlX p.2 p.1 v kN es (.inr (.inl oc))
    refine ⟨u,ru,.inr ⟨.inl ?_,?_⟩⟩
    ·rw [show (dJ X sc cl s.heap.objs.size x ks s H fp pins).env.kindOf y=_ from kof y,gy,← ey,kf]
     have k1:X.env.kindOf p.1=some .cell:=oc
     simp [I.ok.kind,k1]
    ·obtain ⟨c,hc⟩:=h2 _ hm rfl
     have hc:cl.lookup p.1=some c:=hc
     rcases lu with ⟨z,_⟩ | ⟨_,c',hc',z⟩
     ·have z':X.env.scope.names.lookup p.1=some .local:=z
      rw [oc] at z';cases z'
     ·have:=h1 _ _ hc
      rw [hc'] at this
      cases this
      obtain ⟨o,ho,hd⟩:=z
      exact ⟨_,by rw [← ey];exact hc,o,kp _ _ ho,hd⟩
 ·obtain ⟨v,o,ho,hd⟩:=I.cell y c (h1 y c e)
  exact ⟨v,o,kp _ _ ho,hd⟩
 ·rw [List.append_nil] at hp
  obtain ⟨a1,a2,a3,a4,a5⟩:=I.pin p hp
  refine ⟨kp _ _ a1,a2,lt _ _ a1,fun z=>?_,a5⟩
  rcases sub p.1 z with e | e
  ·exact a3 e
  ·exact a4 e
end
section
variable {prog:Program} {w:World} {A:Around} {R:Result→Shared→Prop} {s:Shared}
theorem wB {elt iter:Expr} {x:Str} {px:Pos} {sc:Scope} {pos:Pos} {it acc:Value} {env:Env} (I:Nat→Shared→Prop)
  (turn:∀ n s,I n s→wpAny (model prog w) A (pyNext it) (fun r s₁=>match r with
   | none=>R (.ok .next) s₁
   | some v=>wpAny (model prog w) A (letOwnedTupleGo (.Name x px) it v) (fun _ s₂=>wpAny (model prog w) A (assign (.Name x px) env v) (fun _ s₃=>wpAny (model prog w) A (eval elt env) (fun y s₄ =>
     wpAny (model prog w) A (call (.builtin "list.append") [acc,y]) (fun _ s₅=>∃ m,m < n∧I m s₅) (fun _ _=>False) s₄) (fun _ _=>False) s₃) (fun _ _=>False) s₂) (fun _ _=>False) s₁) (fun _ _=>False) s)
  (n:Nat) (h:I n s):codeAny (model prog w) A (.compLoop (.ListComp elt [⟨.Name x px,iter,[],0⟩] sc pos) 0 it acc env) R s:=by
 refine codeAny_loop rfl I (fun n s hI=>?_) n h
 show wpAny _ _ ((compTurn (.ListComp elt [⟨.Name x px,iter,[],0⟩] sc pos) 0 it acc env).onRaise (fun x=>do noteFrame x env;theTreesLotGoes x)) _ _ s
 refine wpAny_noted ?_
 rw [compTurn_list1]
 have no:∀ (e:Value) (s':Shared),False→notedBy (model prog w) A env (fun e s'=>R (.error e) s') e s':=fun _ _ z=>z.elim
 refine wpAny_bind (wpAny_standAt (wpAny_bind (wpAny_mono (turn n s hI) (fun r s₁ h₁=>?_) no)))
 cases r with
 | none=>exact wpAny_pure h₁
 | some v =>
  refine wpAny_bind (wpAny_mono h₁ (fun _ s₂ h₂=>?_) no)
  exact wpAny_bind (wpAny_mono h₂ (fun _ s₃ h₃=>wpAny_bind (wpAny_bind (wpAny_mono h₃ (fun y s₄ h₄=>wpAny_bind (wpAny_mono h₄
   (fun _ s₅ h₅=>wpAny_pure (wpAny_pure ⟨rfl,h₅⟩)) no)) no))) no)
end
def G4 (wi:TI) (ks:List (Str × Nat)) (te:TE):TE:=fun σ H Q=>wi σ H fun J H1=>∀ D,H1 D=none→∃ W:Nat→Nat→Hp→Prop,(∃ m,W 0 m (upd H1 D (.lst []))) ∧
 ∀ i m H2,W i m H2→(J.stop i H2∧Q (.ref D) H2)∨(J.go i H2∧∀ v H3,J.yld i H2 v H3→te (some v :: cn ks σ) H3 fun y H4=>∃ ys,H4 D=some (.lst ys)∧ys.length < sizeLine∧∃ m',m' < m∧W (i + 1) m' (upd H4 D (.lst (ys ++ [y]))))
section
variable {X:Cx}
theorem pV {elt iter:Expr} {x:Str} {px:Pos} {sc:Scope} {pos:Pos} {te:TE} {ks:List (Str × Nat)} {cl:List (Str × Addr)} {pins:List (Addr × Obj)} {σ:L2.St} {H:Hp} {s:Shared} {it:Addr} {fp:List Addr} {tn:Nat→Heap→Prop} {J:It} {Q:VK}
  {RR:Value→Addr→Result→Shared→Prop} {E:Value→Shared→Prop}
  (hc:X.calm=true) (ok:bY sc X.env.scope X.N x ks) (h1:∀ y c,cl.lookup y=some c→X.env.cells.lookup y=some c) (h2:∀ y∈sc.names,y.2=.free→∃ c,cl.lookup y.1=some c)
  (he:∀ cl C s₀ H₀ fp pins,PE (dJ X sc cl C x ks s₀ H₀ fp pins) elt te)
  (I:Inv X pins σ H s) (T:Turn X.prog X.w X.K (.Name x px) J fp it tn) (st:tn 0 s.heap) (f:∀ b∈fp,gf X pins H b)
  (hw:∀ D,H D=none→∃ W:Nat→Nat→Hp→Prop,(∃ m,W 0 m (upd H D (.lst [])))∧∀ i m H2,W i m H2→(J.stop i H2∧Q (.ref D) H2) ∨
   (J.go i H2∧∀ v H3,J.yld i H2 v H3→te (some v :: cn ks σ) H3 fun y H4=>∃ ys,H4 D=some (.lst ys)∧ys.length < sizeLine∧∃ m',m' < m∧W (i + 1) m' (upd H4 D (.lst (ys ++ [y])))))
  (hR:∀ (D C:Addr) (s':Shared) (H':Hp) (m:Str→Option Value),Inv X pins σ H' s'→Q (.ref D) H'→s'.heap.Ns C m→H' C=none→C≠X.env.locals→X.s₀.heap.objs.size≤C→(∀ y c,X.env.cells.lookup y=some c→c≠C)→(∀ p∈X.pn ++ pins,p.1≠C)→RR (.ref D) C (.ok .next) s') :
  wpAny (model X.prog X.w) X.A (newList []) (fun acc s₃=>wpAny (model X.prog X.w) X.A (newFunctionEnv sc X.env.globals cl [] X.env.qual none .none (some X.env)) (fun cenv s₄ =>
   codeAny (model X.prog X.w) X.A (.compStart (.ListComp elt [⟨.Name x px,iter,[],0⟩] sc pos) 0 (.ref it) acc { cenv with scope:=relabel sc X.env }) (RR acc cenv.locals) s₄) E s₃) E s:=by
 have okk:=ok
 obtain ⟨kd,nc,lx,ll,fr,kk,nd⟩:=okk
 have hD0:H s.heap.objs.size=none:=I.hok.fresh (Nat.le_refl _)
 obtain ⟨W,⟨m0,w0⟩,turn⟩:=hw s.heap.objs.size hD0
 refine wpAny_newObj_type ?_
 have I3:Inv X pins σ (upd H s.heap.objs.size (.lst [])) { s with heap:=s.heap.push { cls:=.type "list",dict:=none,data:=.seq ([]:List Value).toArray } } :=
  I.laid (t':=s.toks) (fun b u e=>Heap.get?_push_of_some _ e) (Nat.le_refl _) (show cb X.prog X.w _ _ _ (.lst []) from ⟨Nat.zero_le _,[],0,.nil,Heap.get?_push_size _ rfl⟩)
 have st3:tn 0 (s.heap.push { cls:=.type "list",dict:=none,data:=.seq ([]:List Value).toArray }):=T.keep 0 _ _ st fun b hb o e=>Heap.get?_push_of_some _ e
 generalize hD:s.heap.objs.size=D at *
 generalize hH:upd H D (.lst [])=H3 at *
 generalize hs3:({ s with heap:=s.heap.push { cls:=.type "list",dict:=none,data:=.seq ([]:List Value).toArray } }:Shared)=s3 at *
 have e3:s.heap.push { cls:=.type "list",dict:=none,data:=.seq ([]:List Value).toArray }=s3.heap:=by rw [← hs3]
 rw [e3] at st3
 have fD:∀ b∈fp,b≠D:=fun b hb z=>by
  obtain ⟨o,ho,_⟩:=T.obj 0 _ st b hb
  have:=Heap.lt_size ho
  rw [z,← hD] at this
  exact Nat.lt_irrefl _ this
 have f3:∀ b∈fp,gf X pins H3 b:=fun b hb=>⟨by rw [← hH,aH (fD b hb)];exact (f b hb).1,(f b hb).2⟩
 have g3:∀ b∈fp,∃ o,s3.heap.get? b=some o:=fun b hb=>by
  obtain ⟨o,ho,_⟩:=T.obj 0 _ st3 b hb
  exact ⟨o,ho⟩
 refine wpAny_newFunctionEnv nc (by intro y hy;simp at hy) (fun h₁ hns hsb=>?_) kd
 have kp:∀ b o,s3.heap.get? b=some o→h₁.get? b=some o:=fun b o e=>hsb.extBut b o (Nat.ne_of_lt (Heap.lt_size e)) (Heap.get?_push_of_some _ e)
 have J0:=l7 (fp:=fp) (cl:=cl) (t':=s3.toks + ([]:List (Str × Value)).length) I3 ok h1 h2 (fun b hb=>⟨f3 b hb,g3 b hb⟩) hns kp
 have st4:tn 0 h₁:=T.keep 0 _ _ st3 fun b hb o e=>kp b o e
 have ltC:∀ b o,s3.heap.get? b=some o→b≠s3.heap.objs.size:=fun b o e=>Nat.ne_of_lt (Heap.lt_size e)
 have cC:∀ y c,X.env.cells.lookup y=some c→c≠s3.heap.objs.size:=fun y c e=>by
  obtain ⟨v,o,ho,_⟩:=I3.cell y c e
  exact ltC c o ho
 have pC:∀ p∈X.pn ++ pins,p.1≠s3.heap.objs.size:=fun p hp=>ltC _ _ (I3.pin p hp).1
 have lC:s3.heap.objs.size≠X.env.locals:=Nat.ne_of_gt I3.lt
 have fX:∀ {H':Hp},(∀ b∈fp,H' b=none)→∀ b∈fp,gf (dJ X sc cl s3.heap.objs.size x ks s3 H3 fp pins) [] H' b:=fun hn b hb=>by
  obtain ⟨o,ho⟩:=g3 b hb
  obtain ⟨_,q1,q2,q3,q4,q5⟩:=f b hb
  refine ⟨hn b hb,ltC b o ho,fun z=>?_,.inl hb,fun y c e=>q4 y c (h1 y c e),fun p hp=>q5 p (by simpa [dJ] using hp)⟩
  rcases List.mem_cons.mp (I3.iA b z) with e | e
  ·exact q1 e
  ·exact q2 e
 have back:∀ {o:Option V} {H':Hp} {s':Shared},Inv (dJ X sc cl s3.heap.objs.size x ks s3 H3 fp pins) [] (o :: cn ks σ) H' s'→Inv X pins σ H' s':=fun {o H' s'} J=>by
  obtain ⟨hh,g,d,t,os'⟩:=s'
  obtain rfl:os'=s3.os:=J.os
  exact I3.call (h':=hh) (g':=g) (d':=d) (t':=t) (ch:=fp) J.base J.hok J.bare fun b hb=>⟨(f b hb).2.2.2.1,(f b hb).2.1,(f b hb).2.2.2.2.1,(f b hb).2.2.2.2.2⟩
 have lookX:(relabel sc X.env).names.lookup x=some .local:=lookup_relabel_local lx
 have loop:∀ s',(∃ (i:Nat) (o:Option V) (H':Hp),Inv (dJ X sc cl s3.heap.objs.size x ks s3 H3 fp pins) [] (o :: cn ks σ) H' s'∧tn i s'.heap∧(∀ b∈fp,H' b=none)∧W i m0 H') →
   codeAny (model X.prog X.w) X.A (.compLoop (.ListComp elt [⟨.Name x px,iter,[],0⟩] sc pos) 0 (.ref it) (.ref D) (compEnvC sc cl s3.heap.objs.size X.env)) (RR (.ref D) s3.heap.objs.size) s':=by
  intro s' hs'
  refine wB (fun n s'=>∃ (i:Nat) (o:Option V) (H':Hp),Inv (dJ X sc cl s3.heap.objs.size x ks s3 H3 fp pins) [] (o :: cn ks σ) H' s'∧tn i s'.heap∧(∀ b∈fp,H' b=none)∧W i n H') ?_ m0 hs'
  rintro n s5 ⟨i,o,H5,J5,t5,n5,w5⟩
  rcases turn i n H5 w5 with ⟨stop,hq⟩ | ⟨go,step⟩
  ·refine bx (T.done (dJ X sc cl s3.heap.objs.size x ks s3 H3 fp pins) rfl rfl rfl hc i [] s5 _ H5 _ J5 (fX n5) t5 stop) fun r s6 ⟨hr,J6⟩=>?_
   subst hr
   obtain ⟨m,hm,_⟩:=J6.loc
   exact hR D _ s6 H5 m (back J6) hq hm J6.free lC I3.sz cC pC
  ·refine bx (T.item (dJ X sc cl s3.heap.objs.size x ks s3 H3 fp pins) rfl rfl rfl hc i [] s5 _ H5 _ J5 (fX n5) t5 go) fun r s6 ⟨u,hr,h6⟩=>?_
   subst hr
   refine bx h6 fun _ s7 ⟨v,H7,J7,r7,y7,t7,n7⟩=>?_
   have J7':=J7.pinned (fX n7) (T.obj _ _ t7)
   refine wpAny_assign_Name (dN (X:=dJ X sc cl s3.heap.objs.size x ks s3 H3 fp pins) (i:=0) J7' nd rfl (.inl lookX) r7 (fun s8 J8=>?_) (.inr lookX))
   refine bx (he cl s3.heap.objs.size s3 H3 fp pins _ s8 _ H7 _ J8 (step v H7 y7)) fun y s9 ⟨vy,H9,J9,r9,ys,hys,hz,m',hm,w'⟩=>?_
   refine bx (eA (X:=dJ X sc cl s3.heap.objs.size x ks s3 H3 fp pins) _ s9 _ H9 (.ref D) [vy] (.ref D) [y] (fun _ H'=>H'=upd H9 D (.lst (ys ++ [vy]))) J9 rfl (.cons r9 .nil) ⟨D,ys,vy,rfl,rfl,hys,hz,rfl⟩) fun _ s10 ⟨_,H10,J10,_,eH⟩=>?_
   subst eH
   refine ⟨m',hm,i + 1,_,_,J10.dP,?_,?_,w'⟩
   ·exact T.keep _ _ _ t7 fun b hb o e=>(J10.pin (b,o) (List.mem_append_right _ (List.mem_append_right _ (bA hb e)))).1
   ·intro b hb
    obtain ⟨o,e,d⟩:=T.obj _ _ t7 b hb
    exact (J10.pin (b,o) (List.mem_append_right _ (List.mem_append_right _ (bA hb e)))).2.1
 have l0:=loop _ ⟨0,none,H3,J0,st4,fun b hb=>(f3 b hb).1,w0⟩
 exact codeAny_compStart_list l0 (T.self _ 0 _ _ _ st4 l0)
theorem iI {sc osc:Scope} {N:List Str} {x:Str} {ks:List (Str × Nat)} (ok:bY sc osc N x ks) {pins:List (Addr × Obj)} {σ:L2.St} {H:Hp} {s:Shared} (I:Inv X pins σ H s) (ho:X.env.scope=osc):∀ y∈sc.names,y.2=.free→∃ c,X.env.cells.lookup y.1=some c:=fun y hy hf =>
 I.ok.has y.1 (.inl (by show X.env.scope.names.lookup y.1=some .cell;rw [ho];exact ok.2.2.2.2.1 y hy hf))
theorem CK {elt iter:Expr} {x:Str} {px:Pos} {sc:Scope} {pos:Pos} {wi:TI} {te:TE} (osc:Scope) (N:List Str) (ks:List (Str × Nat)) (hc:X.calm=true) (ho:X.env.scope=osc) (hN:X.N=N) (hi:PI X (.Name x px) iter wi)
  (he:∀ cl C s₀ H₀ fp pins,PE (dJ X sc cl C x ks s₀ H₀ fp pins) elt te) (ok:bY sc osc N x ks:=by decide +kernel) (hs:∀ x,foldedSetIterable iter X.env x=pure x:=by intro _;rfl) :
  PE X (.ListComp elt [⟨.Name x px,iter,[],0⟩] sc pos) (G4 wi ks te):=by
 intro pins s σ H Q I hw
 obtain ⟨cl,hcl,h1,h2⟩:=fY (iI ok I ho)
 have ok':bY sc X.env.scope X.N x ks:=by rw [ho,hN];exact ok
 rw [eval_ListComp]
 refine wpAny_comprehension_free (use:=none) rfl hs hcl ok.1 ok.2.2.2.1 (bx (hi pins s σ H _ I hw) fun v s1 h3=>bx h3 fun itv s2 h4=>?_)
 obtain ⟨it,fp,tn,J,H2,rfl,I2,T,st2,f2,hR⟩:=h4
 refine pV (RR:=fun acc C=>compPost (model X.prog X.w) X.A X.xe none (EP X pins σ Q) acc C) hc ok' h1 h2 he I2 T st2 f2 hR ?_
 intro D C s' H' m J' q hn hC cl' cs cc cp
 refine ⟨m,hn,fun h' hsb=>⟨.ref D,H',?_,rfl,q⟩⟩
 exact J'.turned (t':=s'.toks) (it:=C) (fun b o ne e=>hsb.extBut b o ne e) hC cl' (.inr cs) cc cp
def Dp (wi:TI) (ks:List (Str × Nat)) (te:TE) (i:Nat):TS:=fun D σ H=>G4 wi ks te σ H fun v H1=>D.nx (σ.set i (some v)) H1
theorem GN {elt iter:Expr} {x y:Str} {px py:Pos} {sc:Scope} {pos spos:Pos} {wi:TI} {te:TE} {i:Nat} (osc:Scope) (N:List Str) (ks:List (Str × Nat)) (hc:X.calm=true) (ho:X.env.scope=osc) (hN:X.N=N) (hnd:X.N.Nodup) (hy:X.N[i]?=some y) (hl:Loc X.env.scope y)
  (hi:PI X (.Name x px) iter wi) (he:∀ cl C s₀ H₀ fp pins,PE (dJ X sc cl C x ks s₀ H₀ fp pins) elt te) (ok:bY sc osc N x ks:=by decide +kernel) (hs:∀ x,foldedSetIterable iter X.env x=pure x:=by intro _;rfl)
  (hsw:swapsWith (.ListComp elt [⟨.Name x px,iter,[],0⟩] sc pos) (some (.Name y py)) spos.line X.env=pure true:=by rfl) (hf:X.fn y=true∨X.env.scope.names.lookup y=some .local:=by first | exact .inl rfl | exact .inr rfl | assumption) :
  PS X (.Assign [.Name y py] (.ListComp elt [⟨.Name x px,iter,[],0⟩] sc pos) spos) (Dp wi ks te i):=by
 intro pins s σ H Dn I hw
 obtain ⟨cl,hcl,h1,h2⟩:=fY (iI ok I ho)
 have ok':bY sc X.env.scope X.N x ks:=by rw [ho,hN];exact ok
 rw [exec_Assign_Name_used _ _ _ _ hsw]
 refine wpAny_bind (wpAny_standAt (wpAny_bind ?_))
 show wpAny _ X.A (do let _ ← comprehension (.ListComp elt [⟨.Name x px,iter,[],0⟩] sc pos) sc X.env _ (newList []) false (eval iter X.env) (some (assign (.Name y py) X.env))) _ _ s
 refine wpAny_bind (wpAny_mono (wpAny_comprehension_free (use:=some (assign (.Name y py) X.env)) (Q:=fun _ s'=>SP X pins Dn .next s') rfl hs hcl ok.1 ok.2.2.2.1
  (bx (hi pins s σ H _ I hw) fun v s1 h3=>bx h3 fun itv s2 h4=>?_)) (fun _ s' hq=>wpAny_pure (wpAny_pure hq)) fun _ _ e=>e)
 obtain ⟨it,fp,tn,J,H2,rfl,I2,T,st2,f2,hR⟩:=h4
 refine pV (Q:=fun v H1=>Dn.nx (σ.set i (some v)) H1) (RR:=fun acc C=>compPost (model X.prog X.w) X.A X.xe (some (assign (.Name y py) X.env)) (fun _ s'=>SP X pins Dn .next s') acc C) hc ok' h1 h2 he I2 T st2 f2 hR ?_
 intro D C s' H' m J' q hn hC cl' cs cc cp
 show wpAny _ X.A (assign (.Name y py) X.env (.ref D)) _ _ _
 refine wpAny_assign_Name (jE J' hnd hy hl (v:=.ref D) rfl (fun s'' J'' ⟨a,hsb,ha⟩=>?_) hf)
 refine ⟨m,hn.sameBut hsb (fun z=>?_),fun h' hsb'=>⟨_,H',?_,q⟩⟩
 ·rcases ha with e | e
  ·exact cl' (z.trans e)
  ·exact cc _ _ e z.symm
 ·exact J''.turned (t':=s''.toks) (it:=C) (fun b o ne e=>hsb'.extBut b o ne e) hC cl' (.inr cs) cc cp
end
theorem BD {K:PySem.W.Frag} {a D:Addr} {xs:List V} {H:Hp} {te:TE} {ks:List (Str × Nat)} {σ:L2.St} {q:Hp→Prop} (Pv:Nat→Hp→Prop) (h0:Pv 0 (upd H D (.lst []))) (hl:∀ i H,i≤xs.length→Pv i H→cR K H a xs)
  (hs:∀ i x H (R:VK),xs[i]?=some x→Pv i H→(∀ y H4 ys,H4 D=some (.lst ys)→ys.length < sizeLine→Pv (i + 1) (upd H4 D (.lst (ys ++ [y])))→R y H4)→te (some x :: cn ks σ) H R) (hd:∀ H,Pv xs.length H→q H) :
  ∃ W:Nat→Nat→Hp→Prop,(∃ m,W 0 m (upd H D (.lst [])))∧∀ i m H2,W i m H2→((AE K a).stop i H2∧q H2) ∨
   ((AE K a).go i H2∧∀ v H3,(AE K a).yld i H2 v H3→te (some v :: cn ks σ) H3 fun y H4=>∃ ys,H4 D=some (.lst ys)∧ys.length < sizeLine∧∃ m',m' < m∧W (i + 1) m' (upd H4 D (.lst (ys ++ [y])))):=by
 refine ⟨fun i m H=>m=xs.length - i∧i≤xs.length∧Pv i H,⟨xs.length,by simp,Nat.zero_le _,h0⟩,?_⟩
 rintro i m H2 ⟨rfl,hi,p⟩
 have hq:=hl i H2 hi p
 by_cases hlt:i < xs.length
 ·refine .inr ⟨⟨xs,xs[i],hq,by simp [hlt]⟩,fun v H3 y=>?_⟩
  obtain ⟨e,y⟩:=y
  subst e
  exact hs i v _ _ (y xs hq) p fun y H4 ys e1 e2 e3=>⟨ys,e1,e2,xs.length - (i + 1),by omega,rfl,hlt,e3⟩
 ·have e:i=xs.length:=by omega
  subst e
  exact .inl ⟨⟨xs,hq,Nat.le_refl _⟩,hd H2 p⟩
theorem zu {lo:Int} {n:Nat} {D:Addr} {H:Hp} {te:TE} {ks:List (Str × Nat)} {σ:L2.St} {q:Hp→Prop} (Pv:Nat→Hp→Prop) (h0:Pv 0 (upd H D (.lst [])))
  (hs:∀ i H (R:VK),i < n→Pv i H→(∀ y H4 ys,H4 D=some (.lst ys)→ys.length < sizeLine→Pv (i + 1) (upd H4 D (.lst (ys ++ [y])))→R y H4)→te (some (.int (lo + i)) :: cn ks σ) H R) (hd:∀ H,Pv n H→q H) :
  ∃ W:Nat→Nat→Hp→Prop,(∃ m,W 0 m (upd H D (.lst [])))∧∀ i m H2,W i m H2→((yA lo n).stop i H2∧q H2) ∨
   ((yA lo n).go i H2∧∀ v H3,(yA lo n).yld i H2 v H3→te (some v :: cn ks σ) H3 fun y H4=>∃ ys,H4 D=some (.lst ys)∧ys.length < sizeLine∧∃ m',m' < m∧W (i + 1) m' (upd H4 D (.lst (ys ++ [y])))):=by
 refine ⟨fun i m H=>m=n - i∧i≤n∧Pv i H,⟨n,by simp,Nat.zero_le _,h0⟩,?_⟩
 rintro i m H2 ⟨rfl,hi,p⟩
 by_cases hlt:i < n
 ·refine .inr ⟨hlt,fun v H3 y=>?_⟩
  obtain ⟨e,y⟩:=y
  subst e y
  exact hs i _ _ hlt p fun y H4 ys e1 e2 e3=>⟨ys,e1,e2,n - (i + 1),by omega,rfl,hlt,e3⟩
 ·have e:i=n:=by omega
  subst e
  exact .inl ⟨Nat.le_refl _,hd H2 p⟩
def one (c:Nat):Str:=⟨#[c]⟩
theorem nB:∀ (cs:List Nat) (acc:Array Nat),(cs.map one).foldl (fun acc (p:Str)=>acc ++ (Str.ofString "").cps ++ p.cps) acc=acc ++ cs.toArray
 | [],acc=>by simp
 | c :: cs,acc=>by
  have e:(Str.ofString "").cps=#[]:=by decide +kernel
  rw [List.map_cons,List.foldl_cons,nB cs]
  rw [e]
  show (acc ++ #[] ++ #[c]) ++ cs.toArray=_
  simp
theorem join_ones (cs:List Nat):Txt.join (Str.ofString "") (cs.map one)=⟨cs.toArray⟩:=by
 unfold Txt.join Builtin.Str.glued
 cases cs with
 | nil=>rfl
 | cons c cs =>
  simp only [List.map_cons,List.drop_succ_cons,List.drop_zero,List.headD_cons]
  rw [nB]
  show (⟨#[c] ++ cs.toArray⟩:Str)=_
  simp
theorem fU:∀ {ys:List Str} {us:List Value},Vals (ys.map V.str) us→StrsAre us ys
 | [],_,.nil=>.nil
 | y :: ys,_,.cons r rr=>by
  obtain ⟨t,rfl⟩:=r
  exact .cons y t (fU rr)
section
variable {X:Cx}
def rJoin (K:PySem.W.Frag):V→List V→Hp→VK→Prop:=fun x vs H Q=>∃ z p ys,x=.str z∧vs=[.ref p]∧cR K H p (ys.map V.str)∧(ys.map (·.length)).sum + ys.length * z.length≤16777216∧Q (.str (Txt.join z ys)) H
theorem BX:nR X "str.join" (rJoin X.K):=by
 intro pins s σ H x vs v us Q I rx rv h
 obtain ⟨z,p,ys,rfl,rfl,hp,hz,q⟩:=h
 obtain ⟨t,rfl⟩:=rx
 obtain ⟨u,rfl,ru⟩:=vals1 rv
 cases ru
 obtain ⟨its,r,pl,_⟩:=I.list hp
 exact join_list pl.isList (by simpa using fU r) hz fun t' k=>⟨.str _,H,I.tok _,⟨_,rfl⟩,q⟩
end
def pR:Expr→Option V
 | .Constant (.int i) _ _=>some (.int i)
 | .Constant (.str x) _ _=>some (.str x)
 | .Constant (.bool b) _ _=>some (.bl b)
 | _=>none
theorem mh {X:Cx}:∀ {es:List Expr} (vs:List V),es.map pR=vs.map some→PA X es (fun _ H Q=>Q vs H)
 | [],[],_=>fun _ _ _ _ H Q I h=>Calls.spliced_nil ⟨[],H,I,.nil,h⟩
 | [],_ :: _,h=>by cases h
 | _ :: _,[],h=>by cases h
 | e :: es,v :: vs,h=>by
  rw [List.map_cons,List.map_cons] at h
  injection h with h1 h2
  have ih:=mh (X:=X) (es:=es) vs h2
  have hs:starEach (e :: es) X.env=(false,eval e X.env) :: starEach es X.env:=by
   cases e <;> first | rfl | cases h1
  have he:PE X e (tC v):=by
   cases e with
   | Constant c j pos =>
    cases c with
    | int i=>cases h1;exact aD
    | str x=>cases h1;exact jT
    | bool b=>cases h1;exact rh
    | _=>cases h1
   | _=>cases h1
  exact fun pos pins s σ H Q I hq=>aJ he ih hs pos pins s σ H Q I hq
end Ov
namespace Ov
open PySem PySem.Spec PyProof.Rows
open L2 (V HO Hp Inv Cx St VK TE TT TA TS TG lH TI TO g_ Ends qW Loc Gl Rd RelV Vals d_ rX b7 lp rW nR g8 R2 vT tC xF Hb qM tB yK ET BU uK AY uS Hc Bs yH sH qd Cq lI G' sR Bh lJ Am uC BJ Aw AO o9 Ej vj Ig uJ CT BB ui vD Gs EA uL By tE kP tY G5 upd E0 bj cy)
structure QE (X:Cx) (e:Expr) (t:TE):Prop where
 run:L2.PE X e t
structure QT (X:Cx) (e:Expr) (t:TT):Prop where
 run:L2.PT X e t
structure QW (X:Cx) (e:Expr) (t:TT):Prop where
 run:L2.PW X e t
structure QA (X:Cx) (es:List Expr) (t:TA):Prop where
 run:L2.PA X es t
structure QS (X:Cx) (st:Stmt) (t:TS):Prop where
 run:L2.PS X st t
structure QB (X:Cx) (st:List Stmt) (t:TS):Prop where
 run:L2.m9 X st t
structure QG (X:Cx) (e:Expr) (t:TG):Prop where
 run:L2.PG X e t
structure G0 (X:Cx) (es:List Expr) (t:lH):Prop where
 run:L2.CD X es t
structure QI (X:Cx) (tg e:Expr) (t:TI):Prop where
 run:L2.PI X tg e t
structure QO (X:Cx) (e:Option Expr) (t:TO):Prop where
 run:L2.PO X e t
section
variable {X:Cx} {a b c e o:Expr} {es rest:List Expr} {ta tb te tc to:TE} {tA tB':TT} {t:TA} {pos px p p2 apos cpos:Pos} {x:Str} {i j:Nat}
theorem pv (i:Nat) {x:Str} {pos:Pos} (hN:X.N[i]?=some x:=by rfl) (hv:qW X.env.scope x:=by first | exact Or.inl rfl | exact Or.inr (Or.inl rfl) | exact Or.inr (Or.inr rfl)) (hd:(x == ("__debug__":Str))=false:=by decide)
  (hcd:(x == ("__classdict__":Str))=false:=by decide):QE X (.Name x pos) (vT i):=⟨L2.sE hN hv hd hcd⟩
theorem aD {i:Int} {j pos}:QE X (.Constant (.int i) j pos) (tC (.int i)):=⟨L2.aD⟩
theorem rh {b:Bool} {j pos}:QE X (.Constant (.bool b) j pos) (tC (.bl b)):=⟨L2.rh⟩
theorem sF {j pos}:QE X (.Constant .none j pos) (tC .non):=⟨L2.sF⟩
theorem jT {x:Str} {j pos}:QE X (.Constant (.str x) j pos) (tC (.str x)):=⟨L2.jT⟩
theorem k9 {v:V} {u:Value} (hg:Gl X x) (hm:X.mg x=some u) (r:RelV v u) (hd:(x == ("__debug__":Str))=false:=by decide):QE X (.Name x pos) (tC v):=⟨L2.k9 hg hm r hd⟩
theorem pj {v:V} {u:Value} (hg:Gl X x) (hm:X.mg x=none) (hv:bootBuiltins x=some u) (r:RelV v u) (hn:x≠"__name__":=by decide) (hd:(x == ("__debug__":Str))=false:=by decide):QE X (.Name x pos) (tC v):=⟨L2.pj hg hm hv r hn hd⟩
theorem aX {op:Operator} {r:R2} (ho:d_ X (binaryOp op) r) (ha:QE X a ta) (hb:QE X b tb):QE X (.BinOp a op b pos) (xF r ta tb):=⟨L2.aX ho ha.run hb.run⟩
theorem vi {op:UnaryOp} {r:V→Hp→VK→Prop} (ho:rX X (unaryOp op) r) (ha:QE X a ta):QE X (.UnaryOp op a pos) (Hb r ta):=⟨L2.vi ho ha.run⟩
theorem kQ {op:CmpOp} {r:R2} (ho:d_ X (compareOp op) r) (ha:QE X a ta) (hb:QE X b tb) (hm:behindInMarks op b=false):QE X (.Compare a [op] [b] pos) (xF r ta tb):=⟨L2.kQ ho ha.run hb.run hm⟩
theorem cE {op:CmpOp} {r:R2} (ho:d_ X (compareOp op) r) (ha:QE X a ta) (hb:QE X b tb) (hm:behindInMarks op b=false):QT X (.Compare a [op] [b] pos) (qM (xF r ta tb)):=⟨L2.cE ho ha.run hb.run hm⟩
theorem se {op} (h:QE X a ta):QE X (.BoolOp op [a] pos) ta:=⟨L2.se h.run⟩
theorem rZ (ha:QE X a ta) (hb:QE X (.BoolOp .And (b :: rest) pos) tb):QE X (.BoolOp .And (a :: b :: rest) pos) (uK ta tb):=⟨L2.rZ ha.run hb.run⟩
theorem xD (ha:QE X a ta) (hb:QE X (.BoolOp .Or (b :: rest) pos) tb):QE X (.BoolOp .Or (a :: b :: rest) pos) (AY ta tb):=⟨L2.xD ha.run hb.run⟩
theorem sD (ha:QE X a ta):QE X (.UnaryOp .Not a pos) (uS ta):=⟨L2.sD ha.run⟩
theorem sZ (ha:QT X a tA):QT X (.UnaryOp .Not a pos) (BU tA):=⟨L2.sZ ha.run⟩
theorem kI (ha:QT X a tA):QW X (.BoolOp .And [a] pos) tA:=⟨L2.kI ha.run⟩
theorem pK (ha:QT X a tA):QW X (.BoolOp .Or [a] pos) tA:=⟨L2.pK ha.run⟩
theorem oz (ha:QT X a tA) (hb:QW X (.BoolOp .And (b :: rest) pos) tB'):QW X (.BoolOp .And (a :: b :: rest) pos) (yK tA tB'):=⟨L2.oz ha.run hb.run⟩
theorem vI (ha:QT X a tA) (hb:QW X (.BoolOp .Or (b :: rest) pos) tB'):QW X (.BoolOp .Or (a :: b :: rest) pos) (ET tA tB'):=⟨L2.vI ha.run hb.run⟩
theorem Cn (h:QW X e tA):QT X e tA:=⟨h.run.pt⟩
theorem tF (h:QE X e te) (he:∀ whole,isTrue e X.env whole=(do let v ← whole;standAt e.pos;holding [v] (truthy v)):=by intro _;rfl):QT X e (tB te):=⟨L2.tF h.run he⟩
theorem l6 (hc:QT X c tA) (ha:QE X a ta) (hb:QE X b tb):QE X (.IfExp c a b pos) (Hc tA ta tb):=⟨L2.l6 hc.run ha.run hb.run⟩
theorem bh:QA X [] sH:=⟨L2.bh⟩
theorem aJ (ha:QE X e te) (hr:QA X es t) (hs:starEach (e :: es) X.env=(false,eval e X.env) :: starEach es X.env:=by rfl):QA X (e :: es) (qd te t):=⟨L2.aJ ha.run hr.run hs⟩
theorem yf {es:List Expr} (vs:List V) (h:es.map pR=vs.map some):QA X es (fun _ H Q=>Q vs H):=⟨mh vs h⟩
theorem lA {x1} (h:QA X es t):QE X (.Tuple es x1 pos) (Bs t):=⟨L2.lA h.run⟩
theorem gA (h:QA X es t):QE X (.List es pos) (yH t):=⟨L2.gA h.run⟩
theorem bI {r:R2} (hr:lp X r) (ha:QE X a ta) (hb:QE X b tb) (hs:cy b):QE X (.Subscript a b pos) (xF r ta tb):=⟨L2.bI hr ha.run hb.run hs⟩
theorem kU:QO X none kP:=⟨L2.kU⟩
theorem g7 (h:QE X e te):QO X (some e) (tY te):=⟨L2.g7 h.run⟩
theorem gF {lo hi:Option Expr} {tl th:TO} {r:V→Option Int→Option Int→Hp→VK→Prop} (hr:rW X r) (he:QE X e te) (hl:QO X lo tl) (hu:QO X hi th):QE X (.Subscript e (.Slice lo hi none p2) pos) (G5 r te tl th):=⟨L2.gF hr he.run hl.run hu.run⟩
theorem cS {id:String} {r:List V→Hp→VK→Prop} (hc:b7 X (.builtin id) r) (hg:Gl X x) (hm:X.mg x=none) (hv:bootBuiltins x=some (.builtin id)) (ha:QA X (e :: es) t) (hn:x≠"__name__":=by decide) (hdb:(x == ("__debug__":Str))=false:=by decide)
  (he:starEach (e :: es) X.env=(false,eval e X.env) :: starEach es X.env:=by rfl) (hpl:(backTo pos (starEach es X.env)).any (·.1)=false:=by rfl):QE X (.Call (.Name x p) (e :: es) [] pos) (Cq r t):=⟨L2.cS hc hg hm hv ha.run hn hdb he hpl⟩
theorem jJ {T:String} {r:List V→Hp→VK→Prop} (hc:b7 X (.type T) r) (hg:Gl X x) (hm:X.mg x=none) (hv:bootBuiltins x=some (.type T)) (ha:QA X (e :: es) t) (hn:x≠"__name__":=by decide) (hdb:(x == ("__debug__":Str))=false:=by decide)
  (he:starEach (e :: es) X.env=(false,eval e X.env) :: starEach es X.env:=by rfl) (hpl:(backTo pos (starEach es X.env)).any (·.1)=false:=by rfl):QE X (.Call (.Name x p) (e :: es) [] pos) (Cq r t):=⟨L2.jJ hc hg hm hv ha.run hn hdb he hpl⟩
theorem rp {k k':Nat} {ps:List Str} {sp:L2.Sp} (C:my X.prog X.w X.K X.mg X.base k x ps sp) (hr:bj k' X.A) (hk:k≤k') (hg:Gl X x) (ha:QA X (e :: es) t)
  (hdb:(x == ("__debug__":Str))=false:=by decide) (he:starEach (e :: es) X.env=(false,eval e X.env) :: starEach es X.env:=by rfl) (hpl:(backTo pos (starEach es X.env)).any (·.1)=false:=by rfl) :
  QE X (.Call (.Name x p) (e :: es) [] pos) (lI sp [] E0 t):=⟨Ei C hr hk hg ha.run hdb he hpl⟩
theorem lO {name:Str} {T id:String} {r:V→List V→Hp→VK→Prop} (pa:PlainAttrs T) (slot:Slot T name id) (hty:typeOf (.builtin id)=pure (.type "method_descriptor")) (hm:nR X id r) (ho:QE X o to) (ha:QA X (e :: es) t)
  (hbase:attributeBase o name X.env (eval o X.env)=eval o X.env:=by rfl)
  (hfew:((backTo cpos (starEach (e :: es) X.env)).all (fun x=>!x.1) && (backToKw cpos (keywordEach [] X.env)).all (fun x=>x.1.isSome)
   && decide ((e :: es).length + ([]:List Keyword).length + (if ([]:List Keyword).isEmpty then 0 else 1) < 30))=true:=by rfl)
  (hline:(apos.endLine == cpos.line)=true:=by rfl) (hs:starEach (e :: es) X.env=(false,eval e X.env) :: starEach es X.env:=by rfl) (hplain:(backTo cpos (starEach es X.env)).any (·.1)=false:=by rfl) :
  QE X (.Call (.Attribute o name apos) (e :: es) [] cpos) (G' X.K T r to t):=⟨L2.lO pa slot hty hm ho.run ha.run hbase hfew hline hs hplain⟩
end
section
variable {X:Cx} {st:Stmt} {rest:List Stmt} {t u:TS} {e tg:Expr} {es:List Expr} {te:TE} {pos:Pos} {g:TG}
theorem er:QB X [] uL:=⟨L2.er⟩
theorem aM (h1:QS X st t) (h2:QB X rest u):QB X (st :: rest) (By t u):=⟨L2.aM h1.run h2.run⟩
theorem bc (h1:QS X st t):QB X [st] t:=⟨L2.bc h1.run⟩
theorem rH (h1:QS X st t) (h2:QB X rest u):QB X (st :: rest) (FE t u):=⟨AB h1.run h2.run⟩
theorem jC {sts:List Stmt}:QB X sts tE:=⟨L2.jC⟩
theorem gL (he:QE X e te) (hs:swapsWith e none pos.line X.env=pure false:=by rfl):QS X (.Expr e pos) (vD te):=⟨L2.gL he.run hs⟩
theorem cM (he:QE X e te):QS X (.Return (some e) pos) (BB te):=⟨L2.cM he.run⟩
theorem oS:QS X (.Return none pos) ui:=⟨L2.oS⟩
theorem i4 {c:Expr} {a b:List Stmt} {tc:TT} (hc:QT X c tc) (ha:QB X a t) (hb:QB X b u):QS X (.If c a b pos) (AO tc t u):=⟨L2.i4 hc.run ha.run hb.run⟩
theorem gE {c:Expr} {body:List Stmt} {tc:TT} {tb:TS} (hp:PassesOwn (model X.prog X.w) X.A X.env X.xe) (hc:QT X c tc) (hb:QB X body tb):QS X (.While c body [] pos) (o9 tc tb):=⟨L2.gE hp hc.run hb.run⟩
theorem gY {i:Nat} {x:Str} (hN:X.N.Nodup) (hi:X.N[i]?=some x) (hx:Loc X.env.scope x) (hf:X.fn x=true∨X.env.scope.names.lookup x=some .local:=by first | exact .inl rfl | exact .inr rfl | assumption):QG X (.Name x pos) (lJ i):=⟨L2.gY hN hi hx hf⟩
theorem oB:G0 X [] Am:=⟨L2.oB⟩
theorem lD {e:Expr} {es:List Expr} {t:TG} {u:lH} (h1:QG X e t) (h2:G0 X es u)
  (hs:(assignEach (e :: es) X.env).map (·.2)=assign e X.env :: (assignEach es X.env).map (·.2):=by rfl):G0 X (e :: es) (uC t u):=⟨L2.lD h1.run h2.run hs⟩
theorem sM {k:Nat} {t:lH} {n:Nat} (hc:X.calm=true) (h:G0 X es t)
  (hn:(assignEach es X.env).length=n:=by rfl) (hst:(assignEach es X.env).findIdx? (·.1)=none:=by rfl):QG X (.Tuple es k pos) (BJ X.K n t):=⟨L2.sM hc h.run hn hst⟩
theorem pe {o i:Expr} {to ti:TE} {t:g_} (ho:QE X o to) (hi:QE X i ti) (hs:g8 X t)
  (ha:∀ v,assign (.Subscript o i pos) X.env v=(do
   let ov ← holding [v] (eval o X.env)
   let iv ← holding [v,ov] (eval i X.env)
   standAt pos
   holding [v,ov,iv] (setItem ov iv v)
   release [v,ov,iv] []):=by intro _;rfl):QG X (.Subscript o i pos) (Aw to ti t):=⟨L2.pe ho.run hi.run hs ha⟩
theorem oP {tg e:Expr} (he:QE X e te) (hg:QG X tg g) (hs:swapsWithSole [tg] e pos.line X.env=pure false:=by rfl) (hw:swappedStores [tg] e X.env=pure none:=by rfl)
  (h1:(assignEach [tg] X.env).map (·.2)=[assign tg X.env]:=by rfl):QS X (.Assign [tg] e pos) (sR te g):=⟨L2.oP he.run hg.run hs hw h1⟩
theorem bV {i:Nat} {x:Str} {pos':Pos} (hN:X.N.Nodup) (hi:X.N[i]?=some x) (hx:Loc X.env.scope x) (he:QE X e te) (hs:swapsWith e (some (.Name x pos')) pos.line X.env=pure false:=by rfl) (hf:X.fn x=true∨X.env.scope.names.lookup x=some .local:=by first | exact .inl rfl | exact .inr rfl | assumption) :
  QS X (.Assign [.Name x pos'] e pos) (sR te (lJ i)):=⟨L2.bV hN hi hx he.run hs hf⟩
theorem j4 {i j:Nat} {x y:Str} {a b:Expr} {ta:TA} {px py pt:Pos} {kt k2 pt2} (hc:X.calm=true) (hN:X.N.Nodup) (hi:X.N[i]?=some x) (hj:X.N[j]?=some y) (hij:i≠j)
  (hx:X.env.scope.names.lookup x=some .local) (hy:X.env.scope.names.lookup y=some .local) (ha:QA X [a,b] ta)
  (hw:swappedStores [.Tuple [.Name x px,.Name y py] kt pt] (.Tuple [a,b] k2 pt2) X.env=pure (some [x,y]))
  (hs:swapsWithSole [.Tuple [.Name x px,.Name y py] kt pt] (.Tuple [a,b] k2 pt2) pos.line X.env=pure false:=by rfl) :
  QS X (.Assign [.Tuple [.Name x px,.Name y py] kt pt] (.Tuple [a,b] k2 pt2) pos) (Bh i j ta):=⟨L2.j4 hc hN hi hj hij hx hy ha.run hw hs⟩
theorem iZ {l:Expr} {tl:TE} (hl:QE X l tl):QI X tg l (vj X.K tl):=⟨L2.iZ hl.run⟩
theorem eu {a:Expr} {ta:TA} {p pos:Pos} (hg:Gl X "range") (hm:X.mg "range"=none) (ha:QA X [a] ta) (hs:starEach [a] X.env=[(false,eval a X.env)]:=by rfl):QI X tg (.Call (.Name "range" p) [a] [] pos) (uJ ta):=⟨L2.eu hg hm ha.run hs⟩
theorem jR {iter:Expr} {body:List Stmt} {wi:TI} {g:TG} {tb:TS} {pos:Pos} (hp:PassesOwn (model X.prog X.w) X.A X.env X.xe) (hc:X.calm=true) (hi:QI X tg iter wi) (hg:QG X tg g) (hb:QB X body tb)
  (hs:∀ x,foldedSetIterable iter X.env x=pure x:=by intro _;rfl):QS X (.For tg iter body [] pos) (Ej wi g tb):=⟨L2.jR hp hc hi.run hg.run hb.run hs⟩
theorem Bb {elt iter:Expr} {x:Str} {px:Pos} {sc:Scope} {pos:Pos} {wi:TI} (osc:Scope) (N:List Str) (ks:List (Str × Nat)) (hc:X.calm=true) (ho:X.env.scope=osc) (hN:X.N=N) (hi:QI X (.Name x px) iter wi)
  (he:∀ cl C s₀ H₀ fp pins,QE (dJ X sc cl C x ks s₀ H₀ fp pins) elt te) (ok:bY sc osc N x ks:=by decide +kernel) (hs:∀ x,foldedSetIterable iter X.env x=pure x:=by intro _;rfl) :
  QE X (.ListComp elt [⟨.Name x px,iter,[],0⟩] sc pos) (G4 wi ks te):=⟨CK osc N ks hc ho hN hi.run (fun cl C s₀ H₀ fp pins=>(he cl C s₀ H₀ fp pins).run) ok hs⟩
theorem AR {elt iter:Expr} {x y:Str} {px py:Pos} {sc:Scope} {pos spos:Pos} {wi:TI} {i:Nat} (osc:Scope) (N:List Str) (ks:List (Str × Nat)) (hc:X.calm=true) (ho:X.env.scope=osc) (hN:X.N=N) (hnd:X.N.Nodup) (hy:X.N[i]?=some y) (hl:Loc X.env.scope y)
  (hi:QI X (.Name x px) iter wi) (he:∀ cl C s₀ H₀ fp pins,QE (dJ X sc cl C x ks s₀ H₀ fp pins) elt te) (ok:bY sc osc N x ks:=by decide +kernel) (hs:∀ x,foldedSetIterable iter X.env x=pure x:=by intro _;rfl)
  (hsw:swapsWith (.ListComp elt [⟨.Name x px,iter,[],0⟩] sc pos) (some (.Name y py)) spos.line X.env=pure true:=by rfl) (hf:X.fn y=true∨X.env.scope.names.lookup y=some .local:=by first | exact .inl rfl | exact .inr rfl | assumption) :
  QS X (.Assign [.Name y py] (.ListComp elt [⟨.Name x px,iter,[],0⟩] sc pos) spos) (Dp wi ks te i):=⟨GN osc N ks hc ho hN hnd hy hl hi.run (fun cl C s₀ H₀ fp pins=>(he cl C s₀ H₀ fp pins).run) ok hs hsw hf⟩
end
end Ov
namespace Ov
open PySem PySem.Spec PyProof.Rows
open L2 (V HO Hp Inv Cx VK TE TA Vals RelV d_ b7 cR R2 upd EP vals1 intsAre_of Gl)
section
variable {X:Cx}
end
end Ov
namespace Ov
open PySem PySem.Spec PyProof.Rows
open L2 (V HO Hp Inv Cx VK TE TA Vals RelV d_ b7 cR fz R2 upd a7)
inductive Py where
 | non | bl (b:Bool) | int (i:Int) | str (x:Str) | tup (xs:List Py) | lst (xs:List Py)
mutual
def At (K:PySem.W.Frag) (H:Hp):Py→V→Prop
 | .non,v=>v=.non
 | .bl b,v=>v=.bl b
 | .int i,v=>v=.int i
 | .str x,v=>v=.str x
 | .tup xs,v=>∃ a vs,v=.ref a∧fz K H a vs∧m5 K H xs vs
 | .lst xs,v=>∃ a vs,v=.ref a∧cR K H a vs∧m5 K H xs vs
def m5 (K:PySem.W.Frag) (H:Hp):List Py→List V→Prop
 | [],vs=>vs=[]
 | x :: xs,vs=>∃ v us,vs=v :: us∧At K H x v∧m5 K H xs us
end
mutual
def gU:Py→Py→Bool
 | .non,.non=>true
 | .bl a,.bl b=>a == b
 | .int a,.int b=>a == b
 | .bl a,.int b=>(if a then 1 else 0) == b
 | .int a,.bl b=>a == (if b then 1 else 0)
 | .str a,.str b=>a == b
 | .tup xs,.tup ys=>gx xs ys
 | .lst xs,.lst ys=>gx xs ys
 | _,_=>false
def gx:List Py→List Py→Bool
 | [],[]=>true
 | x :: xs,y :: ys=>gU x y && gx xs ys
 | _,_=>false
end
mutual
def dep:Py→Nat
 | .tup xs=>c8 xs + 1
 | .lst xs=>c8 xs + 1
 | _=>0
def c8:List Py→Nat
 | []=>0
 | x :: xs=>max (dep x) (c8 xs)
end
mutual
theorem qS:∀ x:Py,gU x x=true
 | .non=>rfl
 | .bl b=>by simp [gU]
 | .int b=>by simp [gU]
 | .str b=>by simp [gU]
 | .tup xs=>by simpa [gU] using jV xs
 | .lst xs=>by simpa [gU] using jV xs
theorem jV:∀ xs:List Py,gx xs xs=true
 | []=>rfl
 | x :: xs=>by simp [gx,qS x,jV xs]
end
mutual
theorem At.same {K:PySem.W.Frag} {H H':Hp} (e:a7 H H'):∀ {x:Py} {v:V},At K H x v→At K H' x v
 | .non,_,h=>h
 | .bl _,_,h=>h
 | .int _,_,h=>h
 | .str _,_,h=>h
 | .tup xs,_,⟨a,vs,e1,h,k⟩=>⟨a,vs,e1,e.tup h,m5.same e k⟩
 | .lst xs,_,⟨a,vs,e1,h,k⟩=>⟨a,vs,e1,e.seq h,m5.same e k⟩
theorem m5.same {K:PySem.W.Frag} {H H':Hp} (e:a7 H H'):∀ {xs:List Py} {vs:List V},m5 K H xs vs→m5 K H' xs vs
 | [],_,h=>h
 | _ :: _,_,⟨v,us,e1,h,k⟩=>⟨v,us,e1,At.same e h,m5.same e k⟩
end
theorem m5.length {K:PySem.W.Frag} {H:Hp}:∀ {xs:List Py} {vs:List V},m5 K H xs vs→xs.length=vs.length
 | [],_,h=>by cases h;rfl
 | _ :: xs,_,⟨v,us,e1,_,k⟩=>by subst e1;simp [m5.length k]
def xg (xs ys:List Py) (j:Nat):Bool:=match xs[j]?,ys[j]? with
 | some x,some y=>gU x y
 | _,_=>false
theorem fP:∀ (xs ys:List Py),((List.range (min xs.length ys.length)).all (xg xs ys) && (xs.length == ys.length))=gx xs ys
 | [],[]=>rfl
 | [],_ :: _=>by simp [gx]
 | _ :: _,[]=>by simp [gx]
 | x :: xs,y :: ys=>by
  have ih:=fP xs ys
  rw [List.length_cons,List.length_cons,Nat.succ_min_succ,List.range_succ_eq_map,List.all_cons,List.all_map]
  have e1:(xg (x :: xs) (y :: ys) ∘ Nat.succ)=xg xs ys:=by
   funext j
   simp [xg]
  have e2:(xs.length + 1 == ys.length + 1)=(xs.length == ys.length):=by
   rw [Bool.eq_iff_iff]
   simp
  rw [e1,e2,Bool.and_assoc,ih]
  simp [xg,gx]
section
variable {X:Cx} {pins:List (Addr × Obj)} {σ:L2.St} {H:Hp} {s:Shared}
mutual
theorem At.one (I:Inv X pins σ H s):∀ {x y:Py} {v:V},At X.K H x v→At X.K H y v→gU x y=true
 | .non,y,v,h,k=>by cases h;cases y <;> simp_all [At,gU]
 | .bl b,y,v,h,k=>by cases h;cases y <;> simp_all [At,gU]
 | .int b,y,v,h,k=>by cases h;cases y <;> simp_all [At,gU]
 | .str b,y,v,h,k=>by cases h;cases y <;> simp_all [At,gU]
 | .tup xs,y,v,h,k=>by
  obtain ⟨a,vs,rfl,h1,h2⟩:=h
  cases y with
  | tup ys =>
   obtain ⟨b,us,e,k1,k2⟩:=k
   cases e
   cases I.wZ h1 k1
   simpa [gU] using m5.one I h2 k2
  | lst ys =>
   obtain ⟨b,us,e,k1,k2⟩:=k
   cases e
   obtain ⟨_,_,⟨o,e1,c1,_⟩,_⟩:=I.tuple h1
   obtain ⟨_,_,⟨o',n,e2,c2,_⟩,_⟩:=I.list k1
   rw [e1] at e2;cases e2;exact absurd (Value.type.inj (c1.symm.trans c2)) (by decide)
  | _=>cases k
 | .lst xs,y,v,h,k=>by
  obtain ⟨a,vs,rfl,h1,h2⟩:=h
  cases y with
  | lst ys =>
   obtain ⟨b,us,e,k1,k2⟩:=k
   cases e
   cases I.lV h1 k1
   simpa [gU] using m5.one I h2 k2
  | tup ys =>
   obtain ⟨b,us,e,k1,k2⟩:=k
   cases e
   obtain ⟨_,_,⟨o,e1,c1,_⟩,_⟩:=I.tuple k1
   obtain ⟨_,_,⟨o',n,e2,c2,_⟩,_⟩:=I.list h1
   rw [e1] at e2;cases e2;exact absurd (Value.type.inj (c1.symm.trans c2)) (by decide)
  | _=>cases k
theorem m5.one (I:Inv X pins σ H s):∀ {xs ys:List Py} {vs:List V},m5 X.K H xs vs→m5 X.K H ys vs→gx xs ys=true
 | [],ys,vs,h,k=>by
  cases h
  cases ys with
  | nil=>rfl
  | cons y ys=>obtain ⟨_,_,e,_⟩:=k;cases e
 | x :: xs,ys,vs,h,k=>by
  obtain ⟨v,us,rfl,h1,h2⟩:=h
  cases ys with
  | nil=>cases k
  | cons y ys =>
   obtain ⟨v',us',e,k1,k2⟩:=k
   cases e
   simp [gx,At.one I h1 k1,m5.one I h2 k2]
end
mutual
theorem Ip (I:Inv X pins σ H s):∀ (x y:Py) {v v':V} {u u':Value} {A:Around},At X.K H x v→At X.K H y v'→RelV v u→RelV v' u'→A.units + dep x < cLine→SeqAt.EqAt A s u u' (gU x y)
 | .non,y,v,v',u,u',A,h,k,r,r',hu=>by
  cases h;cases r
  cases y with
  | non=>cases k;cases r';exact SeqAt.EqAt.same _
  | bl b=>cases k;cases r';exact SeqAt.EqAt.none_bool _
  | int b=>cases k;obtain ⟨t,rfl⟩:=r';exact SeqAt.EqAt.none_int _ _
  | str b=>cases k;obtain ⟨t,rfl⟩:=r';exact SeqAt.EqAt.none_str _ _
  | tup ys=>obtain ⟨a,vs,rfl,h1,h2⟩:=k;cases r';obtain ⟨_,_,p,_⟩:=I.tuple h1;exact SeqAt.EqAt.none_tuple p (by simpa [dep] using hu)
  | lst ys=>obtain ⟨a,vs,rfl,h1,h2⟩:=k;cases r';obtain ⟨_,_,p,_⟩:=I.list h1;exact SeqAt.EqAt.none_list p.isList (by simpa [dep] using hu)
 | .bl x,y,v,v',u,u',A,h,k,r,r',hu=>by
  cases h;cases r
  cases y with
  | non=>cases k;cases r';exact SeqAt.EqAt.bool_none _
  | bl b=>cases k;cases r';exact SeqAt.EqAt.bool_bool _ _
  | int b=>cases k;obtain ⟨t,rfl⟩:=r';exact SeqAt.EqAt.bool_int _ _ _
  | str b=>cases k;obtain ⟨t,rfl⟩:=r';exact SeqAt.EqAt.bool_str _ _ _
  | tup ys=>obtain ⟨a,vs,rfl,h1,h2⟩:=k;cases r';obtain ⟨_,_,p,_⟩:=I.tuple h1;exact SeqAt.EqAt.bool_tuple _ p (by simpa [dep] using hu)
  | lst ys=>obtain ⟨a,vs,rfl,h1,h2⟩:=k;cases r';obtain ⟨_,_,p,_⟩:=I.list h1;exact SeqAt.EqAt.bool_list _ p.isList (by simpa [dep] using hu)
 | .int x,y,v,v',u,u',A,h,k,r,r',hu=>by
  cases h;obtain ⟨t0,rfl⟩:=r
  cases y with
  | non=>cases k;cases r';exact SeqAt.EqAt.int_none _ _
  | bl b=>cases k;cases r';exact SeqAt.EqAt.int_bool _ _ _
  | int b=>cases k;obtain ⟨t,rfl⟩:=r';exact SeqAt.EqAt.int_int _ _ _ _
  | str b=>cases k;obtain ⟨t,rfl⟩:=r';exact SeqAt.EqAt.int_str _ _ _ _
  | tup ys=>obtain ⟨a,vs,rfl,h1,h2⟩:=k;cases r';obtain ⟨_,_,p,_⟩:=I.tuple h1;exact SeqAt.EqAt.int_tuple _ _ p (by simpa [dep] using hu)
  | lst ys=>obtain ⟨a,vs,rfl,h1,h2⟩:=k;cases r';obtain ⟨_,_,p,_⟩:=I.list h1;exact SeqAt.EqAt.int_list _ _ p.isList (by simpa [dep] using hu)
 | .str x,y,v,v',u,u',A,h,k,r,r',hu=>by
  cases h;obtain ⟨t0,rfl⟩:=r
  cases y with
  | non=>cases k;cases r';exact SeqAt.EqAt.str_none _ _
  | bl b=>cases k;cases r';exact SeqAt.EqAt.str_bool _ _ _
  | int b=>cases k;obtain ⟨t,rfl⟩:=r';exact SeqAt.EqAt.str_int _ _ _ _
  | str b=>cases k;obtain ⟨t,rfl⟩:=r';exact SeqAt.EqAt.str_str _ _ _ _
  | tup ys=>obtain ⟨a,vs,rfl,h1,h2⟩:=k;cases r';obtain ⟨_,_,p,_⟩:=I.tuple h1;exact SeqAt.EqAt.str_tuple _ _ p (by simpa [dep] using hu)
  | lst ys=>obtain ⟨a,vs,rfl,h1,h2⟩:=k;cases r';obtain ⟨_,_,p,_⟩:=I.list h1;exact SeqAt.EqAt.str_list _ _ p.isList (by simpa [dep] using hu)
 | .tup xs,y,v,v',u,u',A,h,k,r,r',hu=>by
  have h0:=h
  obtain ⟨a,vs,rfl,h1,h2⟩:=h
  cases r
  obtain ⟨is,r1,p1,_⟩:=I.tuple h1
  have hu0:A.units < cLine:=by omega
  have hu1:A.in1.units + c8 xs < cLine:=by
   have e:dep (.tup xs)=c8 xs + 1:=by rw [dep]
   rw [e] at hu
   show A.units + 1 + c8 xs < cLine
   omega
  cases y with
  | non=>cases k;cases r';exact SeqAt.EqAt.tuple_none p1 hu0
  | bl b=>cases k;cases r';exact SeqAt.EqAt.tuple_bool _ p1 hu0
  | int b=>cases k;obtain ⟨t,rfl⟩:=r';exact SeqAt.EqAt.tuple_int _ _ p1 hu0
  | str b=>cases k;obtain ⟨t,rfl⟩:=r';exact SeqAt.EqAt.tuple_str _ _ p1 hu0
  | lst ys=>obtain ⟨b,us,rfl,k1,k2⟩:=k;cases r';obtain ⟨_,_,p,_⟩:=I.list k1;exact SeqAt.EqAt.tuple_list p1 p.isList hu0
  | tup ys =>
   have k0:=k
   obtain ⟨b,us,rfl,k1,k2⟩:=k
   cases r'
   by_cases hab:a=b
   ·subst hab
    rw [At.one I h0 k0]
    exact SeqAt.EqAt.same _
   ·obtain ⟨js,r2,p2,_⟩:=I.tuple k1
    refine SeqAt.EqAt.of_refs hab ?_
    have key:=SeqAt.RcAt.tuples (e:=xg xs ys) p1 p2 hu0 fun j q1 q2=>lX I xs ys h2 k2 r1 r2 hu1 j (by simpa using q1) (by simpa using q2)
    have e1:is.length=xs.length:=by rw [← r1.length,h2.length]
    have e2:js.length=ys.length:=by rw [← r2.length,k2.length]
    simp only [List.size_toArray] at key
    rw [e1,e2,fP] at key
    simpa [gU] using key
 | .lst xs,y,v,v',u,u',A,h,k,r,r',hu=>by
  have h0:=h
  obtain ⟨a,vs,rfl,h1,h2⟩:=h
  cases r
  obtain ⟨is,r1,p1,_⟩:=I.list h1
  have hu0:A.units < cLine:=by omega
  have hu1:A.in1.units + c8 xs < cLine:=by
   have e:dep (.lst xs)=c8 xs + 1:=by rw [dep]
   rw [e] at hu
   show A.units + 1 + c8 xs < cLine
   omega
  cases y with
  | non=>cases k;cases r';exact SeqAt.EqAt.list_none p1.isList hu0
  | bl b=>cases k;cases r';exact SeqAt.EqAt.list_bool _ p1.isList hu0
  | int b=>cases k;obtain ⟨t,rfl⟩:=r';exact SeqAt.EqAt.list_int _ _ p1.isList hu0
  | str b=>cases k;obtain ⟨t,rfl⟩:=r';exact SeqAt.EqAt.list_str _ _ p1.isList hu0
  | tup ys=>obtain ⟨b,us,rfl,k1,k2⟩:=k;cases r';obtain ⟨_,_,p,_⟩:=I.tuple k1;exact SeqAt.EqAt.list_tuple p1.isList p hu0
  | lst ys =>
   have k0:=k
   obtain ⟨b,us,rfl,k1,k2⟩:=k
   cases r'
   by_cases hab:a=b
   ·subst hab
    rw [At.one I h0 k0]
    exact SeqAt.EqAt.same _
   ·obtain ⟨js,r2,p2,_⟩:=I.list k1
    refine SeqAt.EqAt.of_refs hab ?_
    have e1:is.length=xs.length:=by rw [← r1.length,h2.length]
    have e2:js.length=ys.length:=by rw [← r2.length,k2.length]
    have ae:=fP xs ys
    by_cases hl:xs.length=ys.length
    ·have key:=SeqAt.RcAt.lists (e:=xg xs ys) p1.isList p2.isList (by simp only [List.size_toArray];omega) hu0 fun j q1 q2=>lX I xs ys h2 k2 r1 r2 hu1 j (by simpa using q1) (by simpa using q2)
     simp only [List.size_toArray] at key
     rw [hl,Nat.min_self] at ae
     have e3:(ys.length == ys.length)=true:=by simp
     rw [e3,Bool.and_true] at ae
     rw [e1,hl,ae] at key
     simpa [gU] using key
    ·have key:=SeqAt.RcAt.lists_lengths p1.isList p2.isList (A:=A) (by simp only [List.size_toArray];rw [e1,e2];simpa using hl) hu0
     have e3:gx xs ys=false:=by
      rw [← ae]
      have:(xs.length == ys.length)=false:=by simpa using hl
      rw [this,Bool.and_false]
     simpa [gU,e3] using key
theorem lX (I:Inv X pins σ H s):∀ (xs ys:List Py) {vs us:List V} {is js:List Value} {A:Around},m5 X.K H xs vs→m5 X.K H ys us→Vals vs is→Vals us js→A.units + c8 xs < cLine→∀ j (h1:j < is.length) (h2:j < js.length),SeqAt.EqAt A s is[j] js[j] (xg xs ys j)
 | [],ys,vs,us,is,js,A,h,k,r,r',hu,j,h1,h2=>by
  cases h;cases r;exact absurd h1 (Nat.not_lt_zero _)
 | x :: xs,[],vs,us,is,js,A,h,k,r,r',hu,j,h1,h2=>by
  cases k;cases r';exact absurd h2 (Nat.not_lt_zero _)
 | x :: xs,y :: ys,vs,us,is,js,A,h,k,r,r',hu,j,h1,h2=>by
  obtain ⟨v,vs',rfl,a1,a2⟩:=h
  obtain ⟨v',us',rfl,b1,b2⟩:=k
  cases r with
  | cons q1 q2 =>
   cases r' with
   | cons z1 z2 =>
    have e:c8 (x :: xs)=max (dep x) (c8 xs):=by rw [c8]
    rw [e] at hu
    cases j with
    | zero=>exact Ip I x y a1 b1 q1 z1 (by omega)
    | succ j =>
     have:=lX I xs ys a2 b2 q2 z2 (A:=A) (by omega) j (by simpa using h1) (by simpa using h2)
     simpa [xg] using this
end
theorem Iw (I:Inv X pins σ H s) (x y:Py) {v v':V} {u u':Value} {A:Around} (h:At X.K H x v) (k:At X.K H y v') (r:RelV v u) (r':RelV v' u') (hu:A.units + dep x < cLine):SeqAt.RcAt A s u u' (gU x y):=by
 have hu0:A.units < cLine:=by omega
 cases x with
 | non =>
  cases h;cases r
  cases y with
  | non=>cases k;cases r';exact SeqAt.RcAt.none_none
  | bl b=>cases k;cases r';exact SeqAt.RcAt.none_bool _
  | int b=>cases k;obtain ⟨t,rfl⟩:=r';exact SeqAt.RcAt.none_int _ _
  | str b=>cases k;obtain ⟨t,rfl⟩:=r';exact SeqAt.RcAt.none_str _ _
  | tup ys=>obtain ⟨b,us,rfl,k1,k2⟩:=k;cases r';obtain ⟨js,r2,p2,_⟩:=I.tuple k1;exact SeqAt.RcAt.none_tuple p2 hu0
  | lst ys=>obtain ⟨b,us,rfl,k1,k2⟩:=k;cases r';obtain ⟨js,r2,p2,_⟩:=I.list k1;exact SeqAt.RcAt.none_list p2.isList hu0
 | bl i =>
  cases h;cases r
  cases y with
  | non=>cases k;cases r';exact SeqAt.RcAt.bool_none _
  | bl b=>cases k;cases r';exact SeqAt.RcAt.bool_bool _ _
  | int b=>cases k;obtain ⟨t,rfl⟩:=r';exact SeqAt.RcAt.bool_int _ _ _
  | str b=>cases k;obtain ⟨t,rfl⟩:=r';exact SeqAt.RcAt.bool_str _ _ _
  | tup ys=>obtain ⟨b,us,rfl,k1,k2⟩:=k;cases r';obtain ⟨js,r2,p2,_⟩:=I.tuple k1;exact SeqAt.RcAt.bool_tuple _ p2 hu0
  | lst ys=>obtain ⟨b,us,rfl,k1,k2⟩:=k;cases r';obtain ⟨js,r2,p2,_⟩:=I.list k1;exact SeqAt.RcAt.bool_list _ p2.isList hu0
 | int i =>
  cases h;obtain ⟨t0,rfl⟩:=r
  cases y with
  | non=>cases k;cases r';exact SeqAt.RcAt.int_none _ _
  | bl b=>cases k;cases r';exact SeqAt.RcAt.int_bool _ _ _
  | int b=>cases k;obtain ⟨t,rfl⟩:=r';exact SeqAt.RcAt.int_int _ _ _ _
  | str b=>cases k;obtain ⟨t,rfl⟩:=r';exact SeqAt.RcAt.int_str _ _ _ _
  | tup ys=>obtain ⟨b,us,rfl,k1,k2⟩:=k;cases r';obtain ⟨js,r2,p2,_⟩:=I.tuple k1;exact SeqAt.RcAt.int_tuple _ _ p2 hu0
  | lst ys=>obtain ⟨b,us,rfl,k1,k2⟩:=k;cases r';obtain ⟨js,r2,p2,_⟩:=I.list k1;exact SeqAt.RcAt.int_list _ _ p2.isList hu0
 | str i =>
  cases h;obtain ⟨t0,rfl⟩:=r
  cases y with
  | non=>cases k;cases r';exact SeqAt.RcAt.str_none _ _
  | bl b=>cases k;cases r';exact SeqAt.RcAt.str_bool _ _ _
  | int b=>cases k;obtain ⟨t,rfl⟩:=r';exact SeqAt.RcAt.str_int _ _ _ _
  | str b=>cases k;obtain ⟨t,rfl⟩:=r';exact SeqAt.RcAt.str_str _ _ _ _
  | tup ys=>obtain ⟨b,us,rfl,k1,k2⟩:=k;cases r';obtain ⟨js,r2,p2,_⟩:=I.tuple k1;exact SeqAt.RcAt.str_tuple _ _ p2 hu0
  | lst ys=>obtain ⟨b,us,rfl,k1,k2⟩:=k;cases r';obtain ⟨js,r2,p2,_⟩:=I.list k1;exact SeqAt.RcAt.str_list _ _ p2.isList hu0
 | tup xs =>
  obtain ⟨a,vs,rfl,h1,h2⟩:=h
  cases r
  obtain ⟨is,r1,p1,_⟩:=I.tuple h1
  have hu1:A.in1.units + c8 xs < cLine:=by
   have e:dep (.tup xs)=c8 xs + 1:=by rw [dep]
   rw [e] at hu
   show A.units + 1 + c8 xs < cLine
   omega
  cases y with
  | non=>cases k;cases r';exact SeqAt.RcAt.tuple_none p1 hu0
  | bl b=>cases k;cases r';exact SeqAt.RcAt.tuple_bool _ p1 hu0
  | int b=>cases k;obtain ⟨t,rfl⟩:=r';exact SeqAt.RcAt.tuple_int _ _ p1 hu0
  | str b=>cases k;obtain ⟨t,rfl⟩:=r';exact SeqAt.RcAt.tuple_str _ _ p1 hu0
  | tup ys =>
   obtain ⟨b,us,rfl,k1,k2⟩:=k;cases r';obtain ⟨js,r2,p2,_⟩:=I.tuple k1
   have e1:is.length=xs.length:=by rw [← r1.length,h2.length]
   have e2:js.length=ys.length:=by rw [← r2.length,k2.length]
   have ae:=fP xs ys
   have key:=SeqAt.RcAt.tuples (e:=xg xs ys) p1 p2 hu0 fun j q1 q2=>lX I xs ys h2 k2 r1 r2 hu1 j (by simpa using q1) (by simpa using q2)
   simp only [List.size_toArray] at key
   rw [e1,e2,ae] at key
   simpa [gU] using key
  | lst ys=>obtain ⟨b,us,rfl,k1,k2⟩:=k;cases r';obtain ⟨js,r2,p2,_⟩:=I.list k1;exact SeqAt.RcAt.tuple_list p1 p2.isList hu0
 | lst xs =>
  obtain ⟨a,vs,rfl,h1,h2⟩:=h
  cases r
  obtain ⟨is,r1,p1,_⟩:=I.list h1
  have hu1:A.in1.units + c8 xs < cLine:=by
   have e:dep (.lst xs)=c8 xs + 1:=by rw [dep]
   rw [e] at hu
   show A.units + 1 + c8 xs < cLine
   omega
  cases y with
  | non=>cases k;cases r';exact SeqAt.RcAt.list_none p1.isList hu0
  | bl b=>cases k;cases r';exact SeqAt.RcAt.list_bool _ p1.isList hu0
  | int b=>cases k;obtain ⟨t,rfl⟩:=r';exact SeqAt.RcAt.list_int _ _ p1.isList hu0
  | str b=>cases k;obtain ⟨t,rfl⟩:=r';exact SeqAt.RcAt.list_str _ _ p1.isList hu0
  | tup ys=>obtain ⟨b,us,rfl,k1,k2⟩:=k;cases r';obtain ⟨js,r2,p2,_⟩:=I.tuple k1;exact SeqAt.RcAt.list_tuple p1.isList p2 hu0
  | lst ys =>
   obtain ⟨b,us,rfl,k1,k2⟩:=k;cases r';obtain ⟨js,r2,p2,_⟩:=I.list k1
   have e1:is.length=xs.length:=by rw [← r1.length,h2.length]
   have e2:js.length=ys.length:=by rw [← r2.length,k2.length]
   have ae:=fP xs ys
   by_cases hl:xs.length=ys.length
   ·have key:=SeqAt.RcAt.lists (e:=xg xs ys) p1.isList p2.isList (by simp only [List.size_toArray];omega) hu0 fun j q1 q2=>lX I xs ys h2 k2 r1 r2 hu1 j (by simpa using q1) (by simpa using q2)
    simp only [List.size_toArray] at key
    rw [hl,Nat.min_self] at ae
    have e3:(ys.length == ys.length)=true:=by simp
    rw [e3,Bool.and_true] at ae
    rw [e1,hl,ae] at key
    simpa [gU] using key
   ·have key:=SeqAt.RcAt.lists_lengths p1.isList p2.isList (A:=A) (by simp only [List.size_toArray];rw [e1,e2];simpa using hl) hu0
    have e3:gx xs ys=false:=by
     rw [← ae]
     have:(xs.length == ys.length)=false:=by simpa using hl
     rw [this,Bool.and_false]
    simpa [gU,e3] using key
theorem F9 (I:Inv X pins σ H s) (x y:Py) {v v':V} {u u':Value} {A:Around} (h:At X.K H x v) (k:At X.K H y v') (r:RelV v u) (r':RelV v' u') (hu:A.units + dep x < cLine):SeqAt.RcNeAt A s u u' (!gU x y):=by
 have hu0:A.units < cLine:=by omega
 cases x with
 | non =>
  cases h;cases r
  cases y with
  | non=>cases k;cases r';exact SeqAt.RcNeAt.none_none
  | bl b=>cases k;cases r';exact SeqAt.RcNeAt.none_bool _
  | int b=>cases k;obtain ⟨t,rfl⟩:=r';exact SeqAt.RcNeAt.none_int _ _
  | str b=>cases k;obtain ⟨t,rfl⟩:=r';exact SeqAt.RcNeAt.none_str _ _
  | tup ys=>obtain ⟨b,us,rfl,k1,k2⟩:=k;cases r';obtain ⟨js,r2,p2,_⟩:=I.tuple k1;exact SeqAt.RcNeAt.none_tuple p2 hu0
  | lst ys=>obtain ⟨b,us,rfl,k1,k2⟩:=k;cases r';obtain ⟨js,r2,p2,_⟩:=I.list k1;exact SeqAt.RcNeAt.none_list p2.isList hu0
 | bl i =>
  cases h;cases r
  cases y with
  | non=>cases k;cases r';exact SeqAt.RcNeAt.bool_none _
  | bl b=>cases k;cases r';exact SeqAt.RcNeAt.bool_bool _ _
  | int b=>cases k;obtain ⟨t,rfl⟩:=r';exact SeqAt.RcNeAt.bool_int _ _ _
  | str b=>cases k;obtain ⟨t,rfl⟩:=r';exact SeqAt.RcNeAt.bool_str _ _ _
  | tup ys=>obtain ⟨b,us,rfl,k1,k2⟩:=k;cases r';obtain ⟨js,r2,p2,_⟩:=I.tuple k1;exact SeqAt.RcNeAt.bool_tuple _ p2 hu0
  | lst ys=>obtain ⟨b,us,rfl,k1,k2⟩:=k;cases r';obtain ⟨js,r2,p2,_⟩:=I.list k1;exact SeqAt.RcNeAt.bool_list _ p2.isList hu0
 | int i =>
  cases h;obtain ⟨t0,rfl⟩:=r
  cases y with
  | non=>cases k;cases r';exact SeqAt.RcNeAt.int_none _ _
  | bl b=>cases k;cases r';exact SeqAt.RcNeAt.int_bool _ _ _
  | int b=>cases k;obtain ⟨t,rfl⟩:=r';exact SeqAt.RcNeAt.int_int _ _ _ _
  | str b=>cases k;obtain ⟨t,rfl⟩:=r';exact SeqAt.RcNeAt.int_str _ _ _ _
  | tup ys=>obtain ⟨b,us,rfl,k1,k2⟩:=k;cases r';obtain ⟨js,r2,p2,_⟩:=I.tuple k1;exact SeqAt.RcNeAt.int_tuple _ _ p2 hu0
  | lst ys=>obtain ⟨b,us,rfl,k1,k2⟩:=k;cases r';obtain ⟨js,r2,p2,_⟩:=I.list k1;exact SeqAt.RcNeAt.int_list _ _ p2.isList hu0
 | str i =>
  cases h;obtain ⟨t0,rfl⟩:=r
  cases y with
  | non=>cases k;cases r';exact SeqAt.RcNeAt.str_none _ _
  | bl b=>cases k;cases r';exact SeqAt.RcNeAt.str_bool _ _ _
  | int b=>cases k;obtain ⟨t,rfl⟩:=r';exact SeqAt.RcNeAt.str_int _ _ _ _
  | str b=>cases k;obtain ⟨t,rfl⟩:=r';exact SeqAt.RcNeAt.str_str _ _ _ _
  | tup ys=>obtain ⟨b,us,rfl,k1,k2⟩:=k;cases r';obtain ⟨js,r2,p2,_⟩:=I.tuple k1;exact SeqAt.RcNeAt.str_tuple _ _ p2 hu0
  | lst ys=>obtain ⟨b,us,rfl,k1,k2⟩:=k;cases r';obtain ⟨js,r2,p2,_⟩:=I.list k1;exact SeqAt.RcNeAt.str_list _ _ p2.isList hu0
 | tup xs =>
  obtain ⟨a,vs,rfl,h1,h2⟩:=h
  cases r
  obtain ⟨is,r1,p1,_⟩:=I.tuple h1
  have hu1:A.in1.units + c8 xs < cLine:=by
   have e:dep (.tup xs)=c8 xs + 1:=by rw [dep]
   rw [e] at hu
   show A.units + 1 + c8 xs < cLine
   omega
  cases y with
  | non=>cases k;cases r';exact SeqAt.RcNeAt.tuple_none p1 hu0
  | bl b=>cases k;cases r';exact SeqAt.RcNeAt.tuple_bool _ p1 hu0
  | int b=>cases k;obtain ⟨t,rfl⟩:=r';exact SeqAt.RcNeAt.tuple_int _ _ p1 hu0
  | str b=>cases k;obtain ⟨t,rfl⟩:=r';exact SeqAt.RcNeAt.tuple_str _ _ p1 hu0
  | tup ys =>
   obtain ⟨b,us,rfl,k1,k2⟩:=k;cases r';obtain ⟨js,r2,p2,_⟩:=I.tuple k1
   have e1:is.length=xs.length:=by rw [← r1.length,h2.length]
   have e2:js.length=ys.length:=by rw [← r2.length,k2.length]
   have ae:=fP xs ys
   have key:=SeqAt.RcNeAt.tuples (e:=xg xs ys) p1 p2 hu0 fun j q1 q2=>lX I xs ys h2 k2 r1 r2 hu1 j (by simpa using q1) (by simpa using q2)
   simp only [List.size_toArray] at key
   rw [e1,e2,ae] at key
   simpa [gU] using key
  | lst ys=>obtain ⟨b,us,rfl,k1,k2⟩:=k;cases r';obtain ⟨js,r2,p2,_⟩:=I.list k1;exact SeqAt.RcNeAt.tuple_list p1 p2.isList hu0
 | lst xs =>
  obtain ⟨a,vs,rfl,h1,h2⟩:=h
  cases r
  obtain ⟨is,r1,p1,_⟩:=I.list h1
  have hu1:A.in1.units + c8 xs < cLine:=by
   have e:dep (.lst xs)=c8 xs + 1:=by rw [dep]
   rw [e] at hu
   show A.units + 1 + c8 xs < cLine
   omega
  cases y with
  | non=>cases k;cases r';exact SeqAt.RcNeAt.list_none p1.isList hu0
  | bl b=>cases k;cases r';exact SeqAt.RcNeAt.list_bool _ p1.isList hu0
  | int b=>cases k;obtain ⟨t,rfl⟩:=r';exact SeqAt.RcNeAt.list_int _ _ p1.isList hu0
  | str b=>cases k;obtain ⟨t,rfl⟩:=r';exact SeqAt.RcNeAt.list_str _ _ p1.isList hu0
  | tup ys=>obtain ⟨b,us,rfl,k1,k2⟩:=k;cases r';obtain ⟨js,r2,p2,_⟩:=I.tuple k1;exact SeqAt.RcNeAt.list_tuple p1.isList p2 hu0
  | lst ys =>
   obtain ⟨b,us,rfl,k1,k2⟩:=k;cases r';obtain ⟨js,r2,p2,_⟩:=I.list k1
   have e1:is.length=xs.length:=by rw [← r1.length,h2.length]
   have e2:js.length=ys.length:=by rw [← r2.length,k2.length]
   have ae:=fP xs ys
   by_cases hl:xs.length=ys.length
   ·have key:=SeqAt.RcNeAt.lists (e:=xg xs ys) p1.isList p2.isList (by simp only [List.size_toArray];omega) hu0 fun j q1 q2=>lX I xs ys h2 k2 r1 r2 hu1 j (by simpa using q1) (by simpa using q2)
    simp only [List.size_toArray] at key
    rw [hl,Nat.min_self] at ae
    have e3:(ys.length == ys.length)=true:=by simp
    rw [e3,Bool.and_true] at ae
    rw [e1,hl,ae] at key
    simpa [gU] using key
   ·have key:=SeqAt.RcNeAt.lists_lengths p1.isList p2.isList (A:=A) (by simp only [List.size_toArray];rw [e1,e2];simpa using hl) hu0
    have e3:gx xs ys=false:=by
     rw [← ae]
     have:(xs.length == ys.length)=false:=by simpa using hl
     rw [this,Bool.and_false]
    simpa [gU,e3] using key
def rP (K:PySem.W.Frag) (f:Bool→Bool):R2:=fun v v' H Q=>∃ x y:Py,At K H x v∧At K H y v'∧dep x≤60∧Q (.bl (f (gU x y))) H
theorem Du (hu:X.A.units + 61 < cLine):d_ X (compareOp .Eq) (rP X.K id):=by
 intro pins s σ H x y v u Q I rx ry h
 obtain ⟨a,b,h1,h2,d,q⟩:=h
 exact Iw I a b h1 h2 rx ry (by omega) X.prog X.w X.xe _ ⟨.bl _,H,I,rfl,q⟩
theorem DR (hu:X.A.units + 61 < cLine):d_ X (compareOp .NotEq) (rP X.K not):=by
 intro pins s σ H x y v u Q I rx ry h
 obtain ⟨a,b,h1,h2,d,q⟩:=h
 exact F9 I a b h1 h2 rx ry (by omega) X.prog X.w X.xe _ ⟨.bl _,H,I,rfl,q⟩
end
end Ov
namespace Ov
open PySem PySem.Spec PySem.Calls PyProof.Rows PySem.W Builtin.Getset_descriptor
def ExcAt (x D:Addr) (h:Heap):Prop:=∃ ox,h.get? x=some ox∧ox.cls=.ref D
theorem ExcAt.ty {M:Model} {h:Heap} {x D:Addr} (I:ExcAt x D h):Looks M h (typeOf (.ref x)) (.ref D):=by
 obtain ⟨ox,a,b⟩:=I
 rw [← b]
 exact (Looks.ld a).andThen .now
section
variable {prog:Program} {w:World} {A:Around} {E:Value→Shared→Prop} {s:Shared} {K:Frag} {x D:Addr}
structure AH (K:Frag) (D:Addr):Prop where
 cls:(clsIn K D).isSome=true
 ga:findIn K (.ref D) "__getattribute__"=some (some (.builtin "BaseException.__getattribute__"))
 gt:findIn K (.ref D) "__getattr__"=some none
 ca:findIn K (.ref D) "__class__"=some (some (.builtin "object.__class__"))
 get:specialIn K (.builtin "object.__class__") "__get__"=some (some (.builtin "getset_descriptor.__get__"))
 tk:takesIn K (.builtin "object.__class__")=some true
 obj:mroIn K D (.type "object")=some true
 bex:subIn K (.ref D) (.type "BaseException")=some true
theorem AH.at {h:Heap} (Z:AH K D) (X:K.In h):∃ c d cd sl,h.get? D=some ⟨c,d,.cls cd,sl⟩:=by
 obtain ⟨cd,q⟩:=Option.isSome_iff_exists.mp Z.cls
 unfold clsIn at q
 split at q
 ·exact ⟨_,_,_,_,X _ _ (by assumption)⟩
 ·cases q
end
end Ov
namespace Ov
open PySem PySem.Spec PyProof.Rows L2
structure Cv (P:Program) (w:World) (outer:List Env) (H:Hp) (s:Shared) (ea:Addr) (cls:Value) (H':Hp) (s':Shared):Prop where
 os:s'.os=s.os
 bare:AllBare s'.gens
 un:Un (gj outer) [] H H' s.heap s'.heap
 hok:iB P w H' s'.heap
 fl:∃ B t,Heap.FlyingW B outer ea cls (.ref t) s'.heap∧∀ b o,s'.heap.get? b=some o→(H' b≠none∨∃ o₀,s.heap.get? b=some o₀)→b ∉ gj outer→B.get? b=some o
def cx (P:Program) (w:World):mn:=fun outer H s E e s'=>∃ ea cls H',e=.ref ea∧Cv P w outer H s ea cls H' s'∧E cls none H'
theorem AA {P:Program} {w:World} {H:Hp} {h:Heap} {a:Addr} {o:HO} (x:cb P w H h a o):∃ ob,h.get? a=Option.some ob:=by
 have lt:=x.lt
 cases o with
 | lst xs=>obtain ⟨_,_,_,_,e⟩:=x;exact ⟨_,e⟩
 | tup xs=>obtain ⟨_,_,_,ob,e,_⟩:=x;exact ⟨_,e⟩
 | dK kvs=>obtain ⟨_,_,_,_,o,_,_,e,_⟩:=x;exact ⟨_,e⟩
 | dE kvs ep=>obtain ⟨_,_,_,_,o,_,e,_⟩:=x;exact ⟨_,e⟩
 | set S n=>obtain ⟨o,_,_,_,e,_⟩:=x;exact ⟨_,e⟩
 | ins C dx fs=>obtain ⟨_,_,_,e,_⟩:=x;exact ⟨_,e⟩
 | own y=>exact x
 | xd fs=>obtain ⟨_,⟨_,_,_,e,_⟩,_⟩:=x;exact ⟨_,e⟩
 | EH lo hi=>obtain ⟨_,_,_,e⟩:=x;exact ⟨_,e⟩
 | mr ob u=>obtain ⟨e,_⟩:=x;exact ⟨_,e⟩
 | tbl ps=>exact ⟨_,x⟩
 | met f y=>exact ⟨_,x⟩
 | ext φ=>obtain ⟨_,e,_⟩:=x;exact e
section
variable {X:Cx} {pins:List (Addr × Obj)} {σ:L2.St} {H H':Hp} {s:Shared} {ea t:Addr} {cls:Value} {B h1 h2:Heap}
theorem iQ (I:Inv X pins σ H s) (un:Un (gj X.stack) [] H H' s.heap h1) {b:Addr} (hb:b∈gj X.stack):H' b=none∧∃ o,h1.get? b=some o∧∀ vs,o.data≠.fields vs:=by
 obtain ⟨_,o,ho,hn⟩:=I.stack.mem hb
 have n:=I.oQ b hb
 obtain ⟨sl,e⟩:=un.any ho n (by simp)
 exact ⟨un.free b o ho n (by simp),_,e,hn⟩
theorem uI (I:Inv X pins σ H s) (un:Un (gj X.stack) [] H H' s.heap h1) (cov:∀ b o,h1.get? b=some o→(H' b≠none∨∃ o₀,s.heap.get? b=some o₀)→b ∉ gj X.stack→B.get? b=some o)
  (hB:B.StaysIn h2) (up:h1.UpToSlots h2):Un (gj X.stack) [] H H' s.heap h2 where
 keep:=fun b o e n hb hx=>hB b o (cov b o (un.keep b o e n hb hx) (.inr ⟨o,e⟩) hb)
 slot:=fun b o e n hb hx=>by
  obtain ⟨sl,e1⟩:=un.slot b o e n hb hx
  obtain ⟨_,o',e2,hn⟩:=iQ I un hb
  rw [e1] at e2;cases e2
  obtain ⟨sl',e3⟩:=up b _ e1 hn
  exact ⟨sl',e3⟩
 free:=un.free
 there:=fun b o e hx=>by
  obtain ⟨o',e1⟩:=un.there b o e hx
  by_cases hb:b∈gj X.stack
  ·obtain ⟨_,o2,e2,hn⟩:=iQ I un hb
   obtain ⟨sl',e3⟩:=up b _ e2 hn
   exact ⟨_,e3⟩
  ·exact ⟨o',hB b o' (cov b o' e1 (.inr ⟨o,e⟩) hb)⟩
 tups:=un.tups
 frzs:=un.frzs
 tbls:=un.tbls
theorem uZ (I:Inv X pins σ H s) (un:Un (gj X.stack) [] H H' s.heap h1) (cov:∀ b o,h1.get? b=some o→(H' b≠none∨∃ o₀,s.heap.get? b=some o₀)→b ∉ gj X.stack→B.get? b=some o)
  (hB:B.StaysIn h2) (ok:iB X.prog X.w H' h1):iB X.prog X.w H' h2:=fun a o e=>by
 have nf:∀ b u,H' b=some u→b ∉ gj X.stack:=fun b u q hb=>by
  have:=(iQ I un hb).1
  rw [q] at this;cases this
 refine (ok a o e).me (fun b u hb q=>?_) (fun _ q=>q) fun _ _ q=>q
 rcases hb with rfl | hb
 ·exact hB _ _ (cov _ _ q (.inl (by rw [e];exact fun z=>nomatch z)) (nf _ _ e))
 ·exact hB _ _ (cov _ _ q (.inl (by rw [hb];exact fun z=>nomatch z)) (nf _ _ hb))
theorem ya (un:Un (gj X.stack) [] H H' s.heap h1) (ok:iB X.prog X.w H' h1) (cov:∀ b o,h1.get? b=some o→(H' b≠none∨∃ o₀,s.heap.get? b=some o₀)→b ∉ gj X.stack→B.get? b=some o) (hB:B.StaysIn h2) :
  ∀ b o,h2.get? b=some o→(H' b≠none∨∃ o₀,s.heap.get? b=some o₀)→b ∉ gj X.stack→B.get? b=some o:=fun b o e hb nb=>by
 have:∃ o1,h1.get? b=some o1:=by
  rcases hb with z | ⟨o₀,z⟩
  ·cases q:H' b with
   | none=>exact absurd q z
   | some u=>exact AA (ok b u q)
  ·exact un.there b o₀ z (by simp)
 obtain ⟨o1,e1⟩:=this
 have c:=cov b o1 e1 hb nb
 have:=hB b o1 c
 rw [e] at this;cases this
 exact c
theorem vB {s2:Shared} (I:Inv X pins σ H s) (hst:X.stack=X.env :: X.outer) (hfr:X.env.frame=some X.env.locals) (hex:X.ex=[]) (os:s2.os=s.os) (bare:AllBare s2.gens) (un:Un (gj X.stack) [] H H' s.heap s2.heap)
  (ok:iB X.prog X.w H' s2.heap) (cov:∀ b o,s2.heap.get? b=some o→(H' b≠none∨∃ o₀,s.heap.get? b=some o₀)→b ∉ gj X.stack→B.get? b=some o) (fl:Heap.FlyingW B X.outer ea cls (.ref t) s2.heap) :
  Cv X.prog X.w X.outer X.H₀ X.s₀ ea cls H' s2:=by
 have nst:∀ b o,X.s₀.heap.get? b=some o→b ∉ X.fs→b ∉ gj X.stack:=fun b o e nb hb=>by
  rcases List.mem_cons.mp (I.iA b hb) with z | z
  ·have:=Nat.lt_of_lt_of_le (Heap.lt_size e) I.ok.above
   rw [z] at this
   exact Nat.lt_irrefl _ this
  ·exact nb z
 have sub:∀ b,b∈X.fs→b∈gj X.stack:=fun b hb=>by rw [hst];unfold gj;rw [List.filterMap_cons,hfr];exact List.mem_cons_of_mem _ hb
 have nx:∀ b:Addr,b ∉ X.ex:=fun b=>by rw [hex];simp
 refine ⟨os.trans I.os,bare,⟨fun b o e n hb _=>?_,fun b o e n hb _=>?_,fun b o e n _=>?_,fun b o e _=>?_,fun b xs q=>un.tups b xs (I.base.tups b xs q),fun b o xs q=>un.frzs b o xs (I.base.frzs b o xs q),fun b ps q=>?_⟩,ok,B,t,fl,fun b o e hb nb=>?_⟩
 ·exact un.keep b o (I.base.keep b o e n hb (nx b)) (I.base.free b o e n (nx b)) (nst b o e hb) (by simp)
 ·obtain ⟨sl,e1⟩:=I.base.slot b o e n hb (nx b)
  obtain ⟨sl',e2⟩:=un.slot b _ e1 (I.base.free b o e n (nx b)) (sub b hb) (by simp)
  exact ⟨sl',e2⟩
 ·obtain ⟨o',e1⟩:=I.base.there b o e (nx b)
  exact un.free b o' e1 (I.base.free b o e n (nx b)) (by simp)
 ·obtain ⟨o',e1⟩:=I.base.there b o e (nx b)
  exact un.there b o' e1 (by simp)
 ·obtain ⟨m1,e1⟩:=I.base.tbls b ps q
  obtain ⟨m2,e2⟩:=un.tbls b _ e1
  exact ⟨m1 ++ m2,by rw [e2,Array.append_assoc]⟩
 ·rcases hb with z | ⟨o₀,z⟩
  ·exact cov b o e (.inl z) fun hb=>z (iQ I un hb).1
  ·obtain ⟨o1,e1⟩:=I.base.there b o₀ z (nx b)
   exact cov b o e (.inr ⟨o1,e1⟩) (nst b o₀ z nb)
theorem xa {E:XK} {e:Value} {s':Shared} {R:Value→Shared→Prop} (I:Inv X pins σ H s) (hst:X.stack=X.env :: X.outer) (hfr:X.env.frame=some X.env.locals) (hex:X.ex=[]) (h:cx X.prog X.w X.stack H s E e s') :
  wpAny (model X.prog X.w) X.A (leaving X.env e) (fun _ s''=>cx X.prog X.w X.outer X.H₀ X.s₀ E e s'') R s':=by
 obtain ⟨ea,cls,H',rfl,F,q⟩:=h
 obtain ⟨B,t,fl,cov⟩:=F.fl
 refine wpAny_leaves_onW (by rw [I.ok.frames,hst]) hfr (hst ▸ fl) fun h2 fl2 up=>?_
 exact ⟨ea,cls,H',rfl,vB (s2:={ s' with heap:=h2 }) I hst hfr hex F.os F.bare (uI I F.un cov fl2.1 up) (uZ I F.un cov fl2.1 F.hok) (ya F.un F.hok cov fl2.1) fl2,q⟩
theorem leave_new {E:XK} {e C:Addr} {args:List Value} {h':Heap} {R:Value→Shared→Prop} (I:Inv X pins σ H s) (hst:X.stack=X.env :: X.outer) (hfr:X.env.frame=some X.env.locals) (hex:X.ex=[])
  (hx:Heap.MadeExcOf s.heap h' e (.ref C) args) (q:E (.ref C) none H) :
  wpAny (model X.prog X.w) X.A (leaving X.env (.ref e)) (fun _ s''=>cx X.prog X.w X.outer X.H₀ X.s₀ E (.ref e) s'') R { s with heap:=h' }:=by
 have hin:∀ env∈X.env :: X.outer,∀ a,env.frame=some a→a∈gj X.stack:=fun env he a ha=>by rw [hst];exact List.mem_filterMap.mpr ⟨env,he,ha⟩
 have cov:∀ b o,s.heap.get? b=some o→(H b≠none∨∃ o₀,s.heap.get? b=some o₀)→b ∉ gj X.stack→(PySem.W.hideAll s.heap (gj X.stack)).get? b=some o:=fun b o e _ nb=>PySem.W.hideAll_get _ e nb
 refine wpAny_leaves_madeW (base:=PySem.W.hideAll s.heap (gj X.stack)) (by rw [I.ok.frames,hst]) hfr (fun b o z=>PySem.W.of_hideAll _ z) (PySem.W.funFrames_hide (hst ▸ I.stack) hin) hx fun h2 t fl _ _ up=>?_
 have up2:s.heap.UpToSlots h2:=(Heap.UpToSlots.of_keeps hx.keeps).trans up
 exact ⟨e,.ref C,H,rfl,vB (s2:={ s with heap:=h2 }) I hst hfr hex rfl I.bare (uI I Un.refl cov fl.1 up2) (uZ I Un.refl cov fl.1 I.hok) (ya Un.refl I.hok cov fl.1) fl,q⟩
end
abbrev Hy:List Value:=[.type "ValueError",.type "Exception",.type "BaseException",.type "object"]
structure Own (K:PySem.W.Frag) (mg:Str→Option Value) (x:Str) (C:Addr):Prop where
 mg:mg x=some (.ref C)
 own:PySem.W.excIn K C Hy "ValueError.__new__"=true
 xc:AH K C
theorem BG {K:PySem.W.Frag} {h:Heap} {C:Addr} {bmB:List Value} {newId:String} (X:K.In h) (q:PySem.W.excIn K C bmB newId=true) :
  ∃ bm N nm qn bs hd sn sub ab col dd k0 k1 k2 k3 k5 mN,h.get? C=some (excClassObj nm qn C N bs bm hd sn sub ab col dd k0 k1 k2 k3 k5 newId)∧h.Ns N mN∧mN "__init__"=none∧OwnTail h bmB bm:=by
 unfold PySem.W.excIn at q
 split at q
 ·next dd cd sl ho =>
  split at q
  ·next C' bm k0 k1 k2 k3 n k5 hm hs =>
   simp only [beq_iff_eq,Bool.and_eq_true,Bool.not_eq_true'] at q
   obtain ⟨⟨⟨⟨⟨rfl,rfl⟩,e3⟩,e4⟩,e5⟩,e6⟩:=q
   cases cd with
   | mk nm bs mro ns qn hd sn sub ab col del =>
    have hm:mro=.ref C' :: bm:=hm
    have e3:del=false:=e3
    subst hm;subst e3
    have hsl:sl=#[k0,k1,k2,k3,some (.builtin n),k5]:=Array.toList_inj.mp hs
    subst hsl
    exact ⟨bm,ns,nm,qn,bs,hd,sn,sub,ab,col,dd,k0,k1,k2,k3,k5,_,X _ _ ho,.of_isNs (PySem.W.isNs_of_in X e5),PySem.W.nsMap_none_of_in X e5 e6,PySem.W.tail_of_in X e4⟩
  ·cases q
 ·cases q
def DH (C:Addr) (E:XK) (t:TA):TS:=fun _ σ H=>t σ H fun vs H1=>vs.length≤sizeLine∧E (.ref C) none H1
def Throws (X:Cx) (E:XK):Prop:=∀ (pins:List (Addr × Obj)) (σ:L2.St) (H:Hp) (s:Shared) (e C:Addr) (args:List Value) (h':Heap),Inv X pins σ H s→Heap.MadeExcOf s.heap h' e (.ref C) args→E (.ref C) none H→X.xe (.ref e) { s with heap:=h' }
theorem v7 {X:Cx} {E:XK} {x:Str} {C:Addr} {e:Expr} {es:List Expr} {np cpos pos:Pos} {t:TA} (O:Own X.K X.mg x C) (hc:X.calm=true) (hx:Throws X E) (hg:Gl X x) (ha:PA X (e :: es) t)
  (hd:(x == ("__debug__":Str))=false:=by decide) (he:starEach (e :: es) X.env=(false,eval e X.env) :: starEach es X.env:=by rfl) (hpl:(backTo cpos (starEach es X.env)).any (·.1)=false:=by rfl) :
  PS X (.Raise (some (.Call (.Name x np) (e :: es) [] cpos)) none pos) (DH C E t):=by
 intro pins s σ H D I h
 obtain ⟨bm,N,nm,qn,bs,hd',sn,sub,ab,col,dd,k0,k1,k2,k3,k5,mN,hC,hN,hni,T⟩:=BG I.mod.kin O.own
 have hplain:(backTo cpos (starEach (e :: es) X.env)).any (·.1)=false:=by
  rw [he]
  show (false || (backTo cpos (starEach es X.env)).any (·.1))=false
  rw [hpl];rfl
 refine wpAny_Raise_call_subT (C:=C) (N:=N) (nm:=nm) (q:=qn) (bs:=bs) (hdct:=hd') (sn:=sn) (sub:=sub) (ab:=ab) (col:=col) (dd:=dd) (k0:=k0) (k1:=k1) (k2:=k2) (k3:=k3) (k5:=k5) PySem.F.excBase_ValueError (T.hasType (by decide +kernel)) (I.ok.hd hc) hplain hni ?_
 refine jA I hg O.mg ⟨rfl,?_⟩ hd
 have key:=bx (ha cpos pins s σ H _ I h) (Q':=fun us s1=>us.length≤sizeLine∧s1.heap.get? C=some (excClassObj nm qn C N bs bm hd' sn sub ab col dd k0 k1 k2 k3 k5 "ValueError.__new__")∧s1.heap.Ns N mN∧OwnTail s1.heap Hy bm ∧
  ∀ h' e,Heap.MadeExcOf s1.heap h' e (.ref C) us→X.xe (.ref e) { s1 with heap:=h' }) fun us s1 ⟨vs,H1,I1,r,z,q⟩ =>
   ⟨by rw [← r.length];exact z,I1.bk _ _ hC,hN.keeps I1.bk,T.keeps I1.bk,fun h' ea hm=>hx pins σ H1 s1 ea C us h' I1 hm q⟩
 rw [he] at key ⊢
 exact PySem.Calls.evalArgs_plain (bx key fun _ _ z=>⟨rfl,z⟩)
section
variable {P:Program} {w:World} {K:PySem.W.Frag} {mg:Str→Option Value} {base:Heap} {N:List Str} {qual:Str} {scope:Scope} {f:Addr} {cd:Value} {A:Around} {outer:List Env} {s:Shared} {H:Hp} {E:XK}
abbrev xi (P:Program) (w:World) (K:PySem.W.Frag) (mg:Str→Option Value) (base:Heap) (N:List Str) (qual:Str) (scope:Scope) (f:Addr) (cd:Value) (A:Around) (outer:List Env) (s:Shared) (H:Hp) (E:XK):Cx:=pH (cx P w) P w K mg base N qual scope f cd A outer s H E
theorem bU:Throws (xi P w K mg base N qual scope f cd A outer s H E) E:=fun pins σ H1 s1 e C args h' I hm q =>
 leave_new (X:=xi P w K mg base N qual scope f cd A outer s H E) I rfl rfl rfl hm q
theorem tK:Passes (cx P w) (xi P w K mg base N qual scope f cd A outer s H E) E:=fun pins σ H1 s1 e s' I h =>
 xa (X:=xi P w K mg base N qual scope f cd A outer s H E) I rfl rfl rfl h
theorem cH:PassesOwn (model P w) (xi P w K mg base N qual scope f cd A outer s H E).A (xi P w K mg base N qual scope f cd A outer s H E).env (xi P w K mg base N qual scope f cd A outer s H E).xe:=PassesOwn.leaving
theorem Jz {x qual:Str} {st:Stmt} {f:Addr} {fd:FuncData} {N ps:List Str} {k:Nat} {sp:Sp} (F:bP K x qual st f fd) (S:au N ps (ai st)) (len:∀ vs H Q E,sp vs H Q E→vs.length=ps.length)
  (hbody:∀ (cdv:Value) (A:Around) (outer:List Env) (s:Shared) (H:Hp) (vs:List V) (Q:VK) (E:XK),bj k (A.deeper (envOfC qual (ai st) s.heap.objs.size f cdv))→sp vs H Q E →
   ∃ t,QB (xi P w K mg base N qual (ai st) f cdv A outer s H E) (bC st) t∧t { nx:=fun _ H'=>Q .non H',rt:=Q } (start N vs) H):aF P w K mg base (cx P w) (k + 1) f fd ps sp:=by
 obtain ⟨oc,od,kV,doc,pm,an,cdv,ct,osl,rfl,lk,hcd⟩:=F.ex
 refine zO lk hcd S len fun A outer s H vs Q E hr hsp=>?_
 obtain ⟨t,h,q⟩:=hbody cdv A outer s H vs Q E hr hsp
 exact ⟨t,h.run,q⟩
end
def Dj (P:Program) (w:World) (K:PySem.W.Frag) (mg:Str→Option Value) (base:Heap) (k:Nat) (x:Str) (ps:List Str) (sp:Sp):Prop :=
 ∃ f fd,aF P w K mg base (cx P w) k f fd ps sp∧Binds K fd ps []∧PySem.W.keepIn K (.ref f)=true∧mg x=some (.ref f)
theorem BA {X:Cx} {k k':Nat} {x:Str} {ps:List Str} {sp:Sp} {p pos:Pos} {e:Expr} {es:List Expr} {t:TA} {E:XK} (C:Dj X.prog X.w X.K X.mg X.base k x ps sp) (hx:Passes (cx X.prog X.w) X E) (hr:bj k' X.A) (hk:k≤k') (hg:Gl X x) (ha:PA X (e :: es) t)
  (hdb:(x == ("__debug__":Str))=false:=by decide) (he:starEach (e :: es) X.env=(false,eval e X.env) :: starEach es X.env:=by rfl) (hpl:(backTo pos (starEach es X.env)).any (·.1)=false:=by rfl) :
  PE X (.Call (.Name x p) (e :: es) [] pos) (lI sp [] E t):=by
 obtain ⟨f,fd,F,b,kp,m⟩:=C
 exact ua F (hr.mono hk) hg m kp b .nil hx ha hdb he hpl
theorem Def.HZ {P:Program} {w:World} {K:PySem.W.Frag} {mg:Str→Option Value} {base:Heap} {x:Str} {st:Stmt} {k:Nat} {ps:List Str} {sp:Sp} (D:Def K mg x st)
  (h:∀ f fd,bP K x x st f fd→aF P w K mg base (cx P w) k f fd ps sp)
  (hb:∀ (kV doc pm:Value) (an:Option Addr) (cdv ct:Value) (us:List Value),us.length=ps.length→bindArgs (PySem.W.fnOf x x (cf st) (bC st) (ai st) .none kV doc pm an cdv ct) ⟨us,[]⟩=pure (ps.zip us)) :
  Dj P w K mg base k x ps sp:=by
 obtain ⟨f,fd,F,m⟩:=D
 exact ⟨f,fd,h f fd F,F.binds hb,F.kp,m⟩
section
variable {X:Cx} {pins pn:List (Addr × Obj)} {σ:L2.St} {H H':Hp} {s:Shared}
end
end Ov
namespace Ov
open PySem PySem.Spec PyProof.Rows
open L2 (V HO Hp Inv Cx St VK TE TT TA TS Ends Loc Gl RelV Vals d_ b7 lI upd E0 bj XK Passes)
section
variable {X:Cx} {e:Expr} {es:List Expr} {t:TA} {x:Str} {np cpos pos p:Pos}
end
open PySem.W in
def yB (K:Frag) (D:Addr):Bool:=(clsIn K D).isSome && findIn K (.ref D) "__getattribute__" == some (some (.builtin "BaseException.__getattribute__")) && findIn K (.ref D) "__getattr__" == some none &&
 findIn K (.ref D) "__class__" == some (some (.builtin "object.__class__")) && specialIn K (.builtin "object.__class__") "__get__" == some (some (.builtin "getset_descriptor.__get__")) && takesIn K (.builtin "object.__class__") == some true &&
 mroIn K D (.type "object") == some true && subIn K (.ref D) (.type "BaseException") == some true
theorem Ba {K:PySem.W.Frag} {D:Addr} (h:yB K D=true):AH K D:=by
 simp only [yB,Bool.and_eq_true,beq_iff_eq] at h
 obtain ⟨⟨⟨⟨⟨⟨⟨a,b⟩,c⟩,d⟩,e⟩,f⟩,g⟩,i⟩:=h
 exact ⟨a,b,c,d,e,f,g,i⟩
open L2 (sR yH qd sH vT tC Cq lJ)
theorem _root_.L2.bj.aS {k:Nat} {A:Around} (r:bj k A):A.units + 61 < cLine:=by have:=r.un;omega
end Ov
namespace Ov
open PySem PySem.Spec PyProof.Rows L2
def de (P:Addr) (h:Heap):Prop:=∃ ps:Array Value,h.get? P=some { cls:=.none,data:=.fields ps }∧TriplesOk ps.toList
def nG (K:PySem.W.Frag) (c P:Addr):Prop:=c≠P∧∃ (o:Obj) (vs:Array Value) (file:Str) (tf:Tok) (flags:Int) (tg:Tok) (inF:Bool) (text:Int) (tt:Tok),
 K.lookup c=some o∧o.cls=.type "code"∧o.data=.fields vs∧vs[11]?=some (.ref P)∧vs.getD 18 .none=.str file tf∧vs.getD 7 .none=.int flags tg∧vs.getD 9 .none=.bool inF∧vs.getD 10 .none=.int text tt
def BMain (mg:Str→Option Value) (h:Heap):Prop:=∃ bm ob,mg "__builtins__"=some (.ref bm)∧bm≠builtinsNs∧h.get? bm=some ob∧ob.cls=.type "module"∧ob.dict=some builtinsNs∧ob.data=.plain
theorem nG.at {K:PySem.W.Frag} {h:Heap} {c P:Addr} {ps:Array Value} (Z:nG K c P) (X:K.In h) (hp:h.get? P=some { cls:=.none,data:=.fields ps }) (tr:TriplesOk ps.toList):h.IsCode c P ps∧h.TableAt c P ps:=by
 obtain ⟨ne,o,vs,file,tf,flags,tg,inF,text,tt,lk,hc,hd,h11,h18,h7,h9,h10⟩:=Z
 have e11:vs.getD 11 .none=.ref P:=by
  rw [Array.getD_eq_getD_getElem?,h11];rfl
 exact ⟨⟨o,vs,file,tf,flags,tg,inF,text,tt,_,X _ _ lk,hd,e11,h18,h7,h9,h10,hp,rfl,tr,ne⟩,⟨o,vs,X _ _ lk,hc,hd,h11⟩,hp⟩
section
variable {X:Cx} {pins:List (Addr × Obj)} {σ:L2.St} {H:Hp} {s:Shared} {c P:Addr}
theorem B1 {s':Shared} (I:Inv X pins σ H s) (hP:H P=some (.ext (de P))) (os:s'.os=s.os) (bare:AllBare s'.gens) (k:∀ b o,b≠P→s.heap.get? b=some o→s'.heap.get? b=some o) (t:de P s'.heap):Inv X pins σ H s':=by
 have nP:∀ b,H b=none→b≠P:=fun b n z=>by rw [z,hP] at n;cases n
 have hok:iB X.prog X.w H s'.heap:=fun b u e=>by
  by_cases hb:b=P
  ·subst hb
   rw [hP] at e;cases e
   obtain ⟨ps,hp,_⟩:=id t
   exact ⟨t,⟨_,hp⟩,((I.hok b _ hP)).2.2⟩
  ·refine (I.hok b u e).me (fun d v hd q=>k d v ?_ q) (fun _ q=>q) fun _ _ q=>q
   rcases hd with rfl | hd
   ·exact hb
   ·intro z
    rw [z,hP] at hd;cases hd
 have un:Un (gj X.stack) [] H H s.heap s'.heap:=⟨fun b o e n _ _=>k b o (nP b n) e,fun b o e n _ _=>⟨o.slots,k b o (nP b n) e⟩,fun _ _ _ n _=>n,fun b o e _=>by
  by_cases hb:b=P
  ·subst hb
   obtain ⟨ps,hp,_⟩:=t
   exact ⟨_,hp⟩
  ·exact ⟨o,k b o hb e⟩,fun _ _ q=>q,fun _ _ _ q=>q,fun _ ps q=>⟨#[],by rw [q];simp⟩⟩
 exact I.Fi os un hok bare fun b z=>absurd z (by simp)
theorem yq {M:Model} {A:Around} {E:Value→Shared→Prop} {env:Env} {pos:Pos} {q:Str} {sc:Scope} {Q:Value→Shared→Prop} {s:Shared} (hc:env.code=.ref c) (Z:nG X.K c P) (kin:X.K.In s.heap) (t:de P s.heap)
  (h:∀ code h' tk,(∀ b o,b≠P→s.heap.get? b=some o→h'.get? b=some o)→s.heap.objs.size≤h'.objs.size→de P h'→Q code { s with heap:=h',toks:=tk }):wpAny M A (genexprCode env pos q sc) Q E s:=by
 obtain ⟨ps,hp,tr⟩:=t
 obtain ⟨ic,ta⟩:=Z.at kin hp tr
 cases hf:codeAmong pos ps.toList with
 | some c'=>exact wpAny_genexprCode_hit hc ic hf (h c' s.heap s.toks (fun _ _ _ e=>e) (Nat.le_refl _) ⟨ps,hp,tr⟩)
 | none =>
  refine wpAny_genexprCodeX hc ic ta hf fun c' h' tk ext l1 l2 ic' _ ta' _=>h _ h' tk (fun b o nb e=>ext b o nb e) (Nat.le_of_lt (Nat.lt_of_le_of_lt l1 l2)) ⟨_,ta'.2,?_⟩
  obtain ⟨_,_,_,_,_,_,_,_,_,_,_,_,_,_,_,_,_,hop,hpd,tr',_⟩:=ic'
  exact tr'
theorem yE {α:Type} (B:List α) (q:α→Bool):((List.range B.length).all fun j=>(B[j]?).elim true q)=B.all q:=by
 rw [Bool.eq_iff_iff,List.all_eq_true,List.all_eq_true]
 refine ⟨fun h b hb=>?_,fun h j hj=>?_⟩
 ·obtain ⟨j,hj,rfl⟩:=List.getElem_of_mem hb
  have:=h j (List.mem_range.mpr hj)
  rwa [List.getElem?_eq_getElem hj] at this
 ·have hj:=List.mem_range.mp hj
  rw [List.getElem?_eq_getElem hj]
  exact h _ (List.getElem_mem hj)
def c4 (tx:Str) (ch:Nat):Bool:=!(Builtin.Str.occurrences tx ⟨#[ch]⟩ 0 tx.length 1).isEmpty
def ye (P:Addr) (tx:Str) (ti:TE):TE:=fun σ H Q=>ti σ H fun v H1=>∃ y:Str,v=.str y∧H1 P=some (.ext (de P))∧Q (.bl (y.cps.toList.all (c4 tx))) H1
theorem z_ {prog:Program} {w:World} {env:Env} {scope:Scope} {x g:Str} {tx y:Str} {tt:Tok} {C:Addr} {code:Value} {fp wr:List Addr} {href:Heap} {D U:Nat} {p1 p2 p3:Pos} {mg:Str→Option Value} (sck:scope.kind=.function) (hx:scope.names.lookup x=some .local) (hg:scope.names.lookup g=some .globalImplicit)
  (ns:href.Ns env.globals mg) (hm:mg g=some (.str tx tt)) (h1:env.globals∈fp) (h2:env.globals ∉ wr) (hmk:behindInMarks .In (.Name g p2)=false) (hdx:(x == ("__debug__":Str))=false) (hdg:(g == ("__debug__":Str))=false) :
  QuietGenD prog w (genEnv scope [] C code builtinsNs env) x [] (.Compare (.Name x p1) [.In] [.Name g p2] p3) fp wr (SignAt y) (fun _=>true) (fun i v=>∃ ch,y.cps[i]?=some ch∧v=.bool (c4 tx ch)) href D U where
 tests:=fun A' E' i v s₂ m₂ _ _ _ _ _ _ _=>wpAny_pure ⟨rfl,_,_,rfl,fun _ _ e=>e⟩
 elt:=fun A' E' i v s₂ m₂ _ _ _ hP _ hn hmx hk=>by
  obtain ⟨ch,u,hch,rfl⟩:=hP
  refine wpAny_Compare1 (wpAny_Name (wpAny_loadName_local (show (genEnv scope [] C code builtinsNs env).scope.kind=.function from sck) (show (genEnv scope [] C code builtinsNs env).kindOf x=some .local from hx) hn hmx ?_) hdx) hmk
  refine Calls.Name_function_global (show (genEnv scope [] C code builtinsNs env).scope.kind=.function from sck) (show (genEnv scope [] C code builtinsNs env).kindOf g=some .globalImplicit from hg) (Calls.loadGlobal_global (ns.at' fun o e=>hk _ h1 h2 o e) hm ?_) hdg
  exact in_str ⟨⟨ch,hch,rfl⟩,_,_,rfl,fun _ _ e=>e⟩
theorem wD {x g:Str} {p px p1 p2 p3 gpos cpos:Pos} {iter:Expr} {ti:TE} {scope:Scope} {tx:Str} {tt:Tok} (hcalm:X.calm=true) (Bm:BMain X.mg X.base) (hcode:X.env.code=.ref c) (Z:nG X.K c P) (hdep:X.A.depth < recursionLimit)
  (hgl:Gl X "all") (hma:X.mg "all"=none) (hsg:X.mg g=some (.str tx tt)) (hi:PE X iter ti) (sck:scope.kind=.function) (hco:scope.isCoroutine=false) (hclos:closureFor scope X.env=pure []) (hcell:∀ y∈scope.names,y.2≠.cell)
  (h0:scope.names.lookup (".0":Str)=some NameKind.local) (hx:scope.names.lookup x=some .local) (hsc:scope.names.lookup g=some .globalImplicit) (hmk:behindInMarks .In (.Name g p2)=false) (hs:∀ x,genFold iter X.env x=pure x)
  (hst:starEach [.GeneratorExp (.Compare (.Name x p1) [.In] [.Name g p2] p3) [⟨.Name x px,iter,[],0⟩] scope gpos] X.env=[(false,eval (.GeneratorExp (.Compare (.Name x p1) [.In] [.Name g p2] p3) [⟨.Name x px,iter,[],0⟩] scope gpos) X.env)])
  (hdx:(x == ("__debug__":Str))=false) (hdg:(g == ("__debug__":Str))=false) :
  PE X (.Call (.Name "all" p) [.GeneratorExp (.Compare (.Name x p1) [.In] [.Name g p2] p3) [⟨.Name x px,iter,[],0⟩] scope gpos] [] cpos) (ye P tx ti):=by
 intro pins s σ H Q I h
 refine wpAny_Call_Name_kw (j1 I hgl hma PyProof.Rows.Boot.«all» ?_)
 refine PyProof.Rows.callWith_builtin1 ?_ hst rfl
 rw [hst]
 show wpAny _ _ (spliced ((false,eval (.GeneratorExp (.Compare (.Name x p1) [.In] [.Name g p2] p3) [⟨.Name x px,iter,[],0⟩] scope gpos) X.env) :: [])) _ _ s
 refine Calls.spliced_cons ?_
 refine wpAny_GeneratorExp_walksQD (I.ok.hd hcalm) hco hclos hcell h0 hx sck hdep ?_ hs
 refine bx (hi pins s σ H _ I h) fun xv s1 ⟨v,H1,I1,r1,y,ev,hP,q⟩=>?_
 subst ev
 obtain ⟨ty,rfl⟩:=r1
 have t1:de P s1.heap:=(I1.hok P _ hP).1
 have ltP:P < s1.heap.objs.size:=I1.hok.lt hP
 refine wpAny_pyIter_str fun o St W st0=>?_
 have k1:∀ b ob,s1.heap.get? b=some ob→(s1.heap.push o).get? b=some ob:=fun b ob e=>Heap.get?_push_of_some _ e
 refine ⟨I1.nolimit.keeps k1,?_⟩
 have t2:de P (s1.heap.push o):=let ⟨ps,hp,tr⟩:=t1;⟨ps,k1 _ _ hp,tr⟩
 refine yq (X:=X) (s:={ s1 with heap:=s1.heap.push o }) hcode Z (I1.i7.keeps k1) t2 fun code h' tk k sz t'=>?_
 have kk:∀ b ob,b≠P→s1.heap.get? b=some ob→h'.get? b=some ob:=fun b ob nb e=>k b ob nb (k1 b ob e)
 have nsP:∀ (b:Addr) (m:Str→Option Value),s1.heap.Ns b m→b≠P:=fun b m hn z=>by
  obtain ⟨ob,es,ep,ho,hd,_⟩:=hn
  obtain ⟨ps,hp,_⟩:=t1
  rw [z,hp] at ho;cases ho;cases hd
 have nsK:∀ (b:Addr) (m:Str→Option Value),s1.heap.Ns b m→h'.Ns b m:=fun b m hn=>hn.at' fun ob e=>kk b ob (nsP b m hn) e
 have nsG:s1.heap.Ns X.env.globals X.mg:=by rw [I1.ok.glob];exact I1.mod.glob.keeps I1.bk
 have nl:h'.NoLimit:=let ⟨mc,h1,h2⟩:=I1.nolimit;⟨mc,nsK _ _ h1,h2⟩
 have ltC:cStatics < s1.heap.objs.size:=let ⟨mc,h1,_⟩:=I1.nolimit;h1.lt
 have szI:s1.heap.objs.size < h'.objs.size:=Nat.lt_of_lt_of_le (by rw [Heap.size_push];exact Nat.lt_succ_self _) sz
 obtain ⟨bm,ob,b1,b2,b3,b4,b5,b6⟩:=Bm
 have b3':=I1.bk _ _ b3
 have nbm:bm≠P:=fun z=>by
  obtain ⟨ps,hp,_⟩:=t1
  rw [z,hp] at b3'
  rw [← Option.some.inj b3'] at b6;cases b6
 refine wpAny_builtinsFor (nsK _ _ nsG) b1 b2 (kk _ _ nbm b3') b4 b5 b6 ?_
 refine ⟨s1.heap.objs.size,[s1.heap.objs.size],[s1.heap.objs.size],y.cps.size,SignAt y,St,fun _=>true,fun i v=>∃ ch,y.cps[i]?=some ch∧v=.bool (c4 tx ch),rfl,W,
  (W X.A (I.ok.hd hcalm)).frame _ _ _ st0 fun b hb o' e=>k b o' (by rw [List.mem_singleton.mp hb];exact Nat.ne_of_gt ltP) e,fun b hb=>by rw [List.mem_singleton.mp hb];exact szI,nl,
  fun hb=>Nat.ne_of_lt ltC (List.mem_singleton.mp hb),fun href kh=>z_ sck hx hsc ((nsK _ _ nsG).keeps kh) hsg (List.mem_range.mpr (nsK _ _ nsG).lt) (fun hb=>Nat.ne_of_lt nsG.lt (List.mem_singleton.mp hb)) hmk hdx hdg,fun a h5 tk5 gs hgs ltA szA k5 WS G=>?_⟩
 refine Calls.spliced_nil ?_
 have pall:passing (fun _=>true) y.cps.size 0=List.range y.cps.size:=by simp [passing]
 have WS:=WS.in4_1
 refine call_all_walkS (WS.self 0 _ _ _ G ⟨a,_,_,_,_,_,_,(fun j=>(y.cps.toList[j]?).elim true (c4 tx)),rfl,WS,G,fun j v s Q E hv hQ=>?_,fun s' hm=>?_⟩)
 ·obtain ⟨i,hi,ch,hch,rfl⟩:=hv
  rw [pall] at hi
  have hji:i=j:=by
   obtain ⟨hj,e⟩:=List.getElem?_eq_some_iff.mp hi
   simpa using e.symm
  subst hji
  have e:y.cps.toList[i]?=some ch:=by simpa using hch
  simp only [e,Option.elim] at hQ
  exact wpAny_truthy_bool hQ
 ·have nwr:∀ b,b < s1.heap.objs.size→b ∉ h'.objs.size :: [s1.heap.objs.size]:=fun b hb hm=>by
   rcases List.mem_cons.mp hm with z | z
   ·omega
   ·have:=List.mem_singleton.mp z
    omega
  refine ⟨.bl _,H1,B1 I1 hP hm.os ((I1.bare.push hgs).movedS hm) (fun b o' nb e=>hm.heap b o' (nwr b (Heap.lt_size e)) (k5 b o' (kk b o' nb e))) ?_,rfl,?_⟩
  ·obtain ⟨ps,hp,tr⟩:=t'
   exact ⟨ps,hm.heap P _ (nwr P ltP) (k5 P _ hp),tr⟩
  ·rw [pall]
   have e:y.cps.size=y.cps.toList.length:=by simp
   have z:=yE y.cps.toList (c4 tx)
   rw [List.length_range,e,z]
   exact q
end
section
variable {X:Cx} {c P:Addr}
theorem yz {x g:Str} {p px p1 p2 p3 gpos cpos:Pos} {iter:Expr} {ti:TE} {scope:Scope} {tx:Str} {tt:Tok} {k:Nat} (hcalm:X.calm=true) (Bm:BMain X.mg X.base) (hcode:X.env.code=.ref c) (Z:nG X.K c P) (hr:bj k X.A)
  (hgl:Gl X "all") (hma:X.mg "all"=none) (hsg:X.mg g=some (.str tx tt)) (hi:QE X iter ti) (sck:scope.kind=.function:=by rfl) (hco:scope.isCoroutine=false:=by rfl) (hclos:closureFor scope X.env=pure []:=by rfl) (hcell:∀ y∈scope.names,y.2≠.cell:=by decide)
  (h0:scope.names.lookup (".0":Str)=some NameKind.local:=by rfl) (hx:scope.names.lookup x=some .local:=by rfl) (hsc:scope.names.lookup g=some .globalImplicit:=by rfl) (hmk:behindInMarks .In (.Name g p2)=false:=by with_unfolding_all rfl) (hs:∀ x,genFold iter X.env x=pure x:=by intro _;rfl)
  (hst:starEach [.GeneratorExp (.Compare (.Name x p1) [.In] [.Name g p2] p3) [⟨.Name x px,iter,[],0⟩] scope gpos] X.env=[(false,eval (.GeneratorExp (.Compare (.Name x p1) [.In] [.Name g p2] p3) [⟨.Name x px,iter,[],0⟩] scope gpos) X.env)]:=by rfl)
  (hdx:(x == ("__debug__":Str))=false:=by decide) (hdg:(g == ("__debug__":Str))=false:=by decide) :
  QE X (.Call (.Name "all" p) [.GeneratorExp (.Compare (.Name x p1) [.In] [.Name g p2] p3) [⟨.Name x px,iter,[],0⟩] scope gpos] [] cpos) (ye P tx ti) :=
 ⟨wD hcalm Bm hcode Z (by have:=hr.dp;omega) hgl hma hsg hi.run sck hco hclos hcell h0 hx hsc hmk hs hst hdx hdg⟩
end
structure Bq (K:PySem.W.Frag) (mg:Str→Option Value) (x:Str) (st:Stmt) (P:Addr) (f:Addr) (fd:FuncData) (c:Addr):Prop where
 fn:bP K x x st f fd
 mg:mg x=some (.ref f)
 code:fd.code=.ref c
 tab:nG K c P
 out:K.lookup P=none
def sW (K:PySem.W.Frag) (mg:Str→Option Value) (x:Str) (st:Stmt) (P:Addr):Prop:=∃ f fd c,Bq K mg x st P f fd c
section
variable {P:Program} {w:World} {K:PySem.W.Frag} {mg:Str→Option Value} {base:Heap}
theorem JE {x:Str} {st:Stmt} {T f c:Addr} {fd:FuncData} {N ps:List Str} {k:Nat} {sp:Sp} (F:Bq K mg x st T f fd c) (S:au N ps (ai st)) (len:∀ vs H Q E,sp vs H Q E→vs.length=ps.length)
  (hbody:∀ (A:Around) (outer:List Env) (s:Shared) (H:Hp) (vs:List V) (Q:VK) (E:XK),bj k (A.deeper (envOfC x (ai st) s.heap.objs.size f (.ref c)))→sp vs H Q E →
   ∃ t,QB (pH lW P w K mg base N x (ai st) f (.ref c) A outer s H E).yS (bC st) t∧t { nx:=fun _ H'=>Q .non H',rt:=Q } (start N vs) H):aF P w K mg base lW (k + 1) f fd ps sp:=by
 obtain ⟨oc,od,kV,doc,pm,an,cdv,ct,osl,rfl,lk,hcd⟩:=F.fn.ex
 obtain rfl:cdv=.ref c:=F.code
 refine zO lk hcd S len fun A outer s H vs Q E hr hsp=>?_
 obtain ⟨t,h,q⟩:=hbody A outer s H vs Q E hr hsp
 exact ⟨t,h.run.yS,q⟩
theorem sW.xW {x:Str} {st:Stmt} {T:Addr} {k:Nat} {ps:List Str} {sp:Sp} (D:sW K mg x st T)
  (h:∀ f fd c,Bq K mg x st T f fd c→aF P w K mg base lW k f fd ps sp)
  (hb:∀ (kV doc pm:Value) (an:Option Addr) (cdv ct:Value) (us:List Value),us.length=ps.length→bindArgs (PySem.W.fnOf x x (cf st) (bC st) (ai st) .none kV doc pm an cdv ct) ⟨us,[]⟩=pure (ps.zip us)) :
  my P w K mg base k x ps sp:=by
 obtain ⟨f,fd,c,F⟩:=D
 exact ⟨f,fd,h f fd c F,F.fn.binds hb,F.fn.kp,F.mg⟩
end
def codeB (vs:Array Value):Bool:=(match vs.getD 18 .none with | .str _ _=>true | _=>false) && (match vs.getD 7 .none with | .int _ _=>true | _=>false) && (match vs.getD 9 .none with | .bool _=>true | _=>false) && (match vs.getD 10 .none with | .int _ _=>true | _=>false)
theorem A6 {K:PySem.W.Frag} {h:Heap} {mg:Str→Option Value} {x:Str} {st:Stmt} (X:K.In h) (G:h.Ns mainGlobals mg) {f c T:Addr} {od an od':Option Addr} {sl sl':Array (Option Value)} {vs:Array Value} {oc kV dc pm ct:Value}
  (a:PySem.W.nsIn K mainGlobals x=some (some (.ref f))) (l:K.lookup f=some ⟨oc,od,.func (PySem.W.fnOf x x (cf st) (bC st) (ai st) .none kV dc pm an (.ref c) ct),sl⟩) (cc:PySem.W.codeIn K (.ref c) x=true) (k:PySem.W.keepIn K (.ref f)=true)
  (t:K.lookup c=some ⟨.type "code",od',.fields vs,sl'⟩) (p:vs[11]?=some (.ref T)) (b:codeB vs=true) (ne:c≠T) (out:K.lookup T=none):sW K mg x st T:=by
 refine ⟨f,_,c,tL l cc k,PySem.W.mg_of X G a,rfl,⟨ne,?_⟩,out⟩
 simp only [codeB,Bool.and_eq_true] at b
 obtain ⟨⟨⟨b1,b2⟩,b3⟩,b4⟩:=b
 cases e1:vs.getD 18 .none with
 | str file tf =>
  cases e2:vs.getD 7 .none with
  | int fl tg =>
   cases e3:vs.getD 9 .none with
   | bool inF =>
    cases e4:vs.getD 10 .none with
    | int text tt=>exact ⟨_,vs,file,tf,fl,tg,inF,text,tt,t,rfl,rfl,p,e1,e2,e3,e4⟩
    | _=>rw [e4] at b4;cases b4
   | _=>rw [e3] at b3;cases b3
  | _=>rw [e2] at b2;cases b2
 | _=>rw [e1] at b1;cases b1
def Fv (K:PySem.W.Frag) (mg:Str→Option Value) (names:List Str) (T:Addr):Prop:=∃ x∈names,∃ st,sW K mg x st T
theorem vQ {P:Program} {w:World} {K:PySem.W.Frag} {mg mb:Str→Option Value} {k:Nat} {fa a:Addr} {fd:FuncData} {x:Str} {sp:Sp} {s₁:Shared} {vs:List Value} {ns:List Int} {tabs:List Addr}
  (KX:K.In s₁.heap) (hns:s₁.heap.Ns mainGlobals mg) (hb:s₁.heap.Ns builtinsNs mb) (hbb:∀ x:Str,x≠"__name__"→mb x=bootBuiltins x) (hlim:s₁.heap.NoLimit) (hg:s₁.gens=#[])
  (ha:s₁.heap.get? a=some { cls:=.type "list",data:=.seq vs.toArray }) (hi:IntsAre vs ns) (hl:ns.length≤sizeLine) (hr:bj k callerA) (hbm:BMain mg s₁.heap)
  (htab:∀ T∈tabs,isCodeTable s₁.heap T∧s₁.heap.get? T=some { cls:=.none,data:=.fields #[] }∧K.lookup T=none)
  (F:∀ base:Heap,K.In base→base.Ns mainGlobals mg→BMain mg base→aF P w K mg base lW k fa fd [x] sp) (hbind:∀ (s:Shared) (u:Value),BindsTo s fd ⟨[u],[]⟩ [(x,u)])
  (hsp:∀ H:Hp,(∀ T∈tabs,H T=some (.ext (de T)))→cR K H a (ns.map V.int)→(∀ b,H b≠none→b=a∨b∈tabs)→(∀ u,H a=some u→∃ o xs,u=.mr o (.lst xs))→sp [.ref a] H (fun v H'=>v=.bl true∧a7 H H') fun _ _ _=>False) :
  codeAny (model P w) callerA (.call (.ref fa) ⟨[.ref a],[]⟩) (fun r s'=>r=.ok (.ret (.bool true))∧OldK s₁.heap s'.heap∧s'.os=s₁.os∧AllBare s'.gens) s₁:=by
 have rv:=nq hi
 have lenV:=hi.length
 have naT:∀ T∈tabs,T≠a:=fun T hT z=>by
  have:=(htab T hT).2.1
  rw [z,ha] at this
  have h1:=congrArg Obj.cls (Option.some.inj this)
  cases h1
 have core:∀ H:Hp,(∀ T∈tabs,H T=some (.ext (de T)))→cR K H a (ns.map V.int)→iB P w H s₁.heap→(∀ b,H b≠none→b=a∨b∈tabs)→(∀ u,H a=some u→K.lookup a=none∧∃ o xs,u=.mr o (.lst xs)) →
   codeAny (model P w) callerA (.call (.ref fa) ⟨[.ref a],[]⟩) (fun r s'=>r=.ok (.ret (.bool true))∧OldK s₁.heap s'.heap∧s'.os=s₁.os∧AllBare s'.gens) s₁:=by
  intro H hT hS hok hA hK
  have base_of:∀ {b:Addr} {o:Obj},s₁.heap.get? b=some o→H b=none→(mZ s₁.heap H).get? b=some o:=fun e n=>zD e n
  have no:∀ {b:Addr} {o:Obj},s₁.heap.get? b=some o→(∀ xs n,o.data≠.seq xs n)→(∀ xs,o.data≠.fields xs)→H b=none:=fun {b o} e d1 d2=>by
   cases q:H b with
   | none=>rfl
   | some u =>
    rcases hA b (by rw [q];simp) with rfl | hb
    ·rw [ha] at e;cases e;exact absurd rfl (d1 _ _)
    ·rw [(htab b hb).2.1] at e;cases e;exact absurd rfl (d2 _)
  have nsK:∀ {b:Addr} {m:Str→Option Value},s₁.heap.Ns b m→(mZ s₁.heap H).Ns b m:=fun {b m} ⟨o,es,ep,e,d,r⟩=>⟨o,es,ep,base_of e (no e (fun _ _ z=>by rw [d] at z;cases z) fun _ z=>by rw [d] at z;cases z),d,r⟩
  have hKb:K.In (mZ s₁.heap H):=fun b o e=>base_of (KX b o e) (by
   cases q:H b with
   | none=>rfl
   | some u =>
    rcases hA b (by rw [q];simp) with rfl | hb
    ·have:=(hK u q).1
     exact absurd (this.symm.trans e) (fun z=>nomatch z)
    ·have:=(htab b hb).2.2
     exact absurd (this.symm.trans e) (fun z=>nomatch z))
  have hM:Mod K mg (mZ s₁.heap H):=⟨hKb,nsK hns,⟨mb,nsK hb,hbb⟩,let ⟨mc,h1,h2⟩:=hlim;⟨mc,nsK h1,h2⟩⟩
  have hbm':BMain mg (mZ s₁.heap H):=by
   obtain ⟨bm,ob,b1,b2,b3,b4,b5,b6⟩:=hbm
   exact ⟨bm,ob,b1,b2,base_of b3 (no b3 (fun _ _ z=>by rw [b6] at z;cases z) fun _ z=>by rw [b6] at z;cases z),b4,b5,b6⟩
  have e0:mW P w K mg (mZ s₁.heap H) callerA [] s₁ H:=⟨rfl,hM,fun b o e=>BW e,Nat.le_of_eq (w_ _ _),trivial,fun b hb=>absurd (show b∈([]:List Addr) from hb) (by simp),hok,.of_eq hg⟩
  refine codeAny_mono ((F _ hKb (nsK hns) hbm').run callerA [] s₁ H ⟨[.ref a],[]⟩ [.ref a] [.ref a] _ _ hr e0 (hbind s₁ (.ref a)) (.cons rfl .nil) (hsp H hT hS hA fun u z=>(hK u z).2)) fun r s' h=>?_
  cases r with
  | error e=>exact False.elim h
  | ok fl =>
   cases fl with
   | next=>exact False.elim h
   | brk=>exact False.elim h
   | cont=>exact False.elim h
   | ret u =>
    obtain ⟨v,H',os,bare,un,hok',r',rfl,same⟩:=h
    obtain rfl:u=Value.bool true:=r'
    refine ⟨rfl,⟨fun b o e=>?_,fun b o e=>?_⟩,os,bare⟩
    ·cases q:H b with
     | none=>exact .inl (un.keep b o e q (by intro z;exact absurd (show b∈([]:List Addr) from z) (by simp)) (by simp))
     | some u =>
      have q':=same b u q
      rcases hA b (by rw [q];simp) with rfl | hb'
      ·obtain ⟨_,ob,xs,rfl⟩:=hK u q
       obtain ⟨e1,_⟩:=hok _ _ q
       obtain ⟨e2,_⟩:=hok' _ _ q'
       rw [e] at e1;cases e1
       exact .inl e2
      ·have hz:=hT b hb'
       rw [q] at hz;cases hz
       obtain ⟨⟨ps,hp,_⟩,_⟩:=hok' _ _ q'
       obtain ⟨t1,t2,_⟩:=htab b hb'
       rw [t2] at e;cases e
       exact .inr (.inl ⟨t1,rfl,#[],ps,rfl,by rw [hp];simp⟩)
    ·exact un.there b o e (by simp)
 have hTt:∀ T∈tabs,∀ H:Hp,cb P w H s₁.heap T (.ext (de T)):=fun T hT H=>by
  have:=(htab T hT).2.1
  exact ⟨⟨#[],this,trivial⟩,⟨_,this⟩,fun h1 h2 ⟨ps,hp,tr⟩ kk=>⟨ps,kk _ hp,tr⟩⟩
 cases hk:K.lookup a with
 | some o =>
  have e:=KX a o hk
  rw [ha] at e
  cases e
  refine core (fun b=>if b∈tabs then some (.ext (de b)) else none) (fun T hT=>if_pos hT) (.inr ⟨_,vs.toArray,_,hk,rfl,rfl,rfl,by rw [List.size_toArray,lenV];exact hl,by simpa using rv⟩) (fun b u z=>?_) (fun b z=>?_) fun u z=>?_
  ·by_cases hb:b∈tabs
   ·have z':=(if_pos hb).symm.trans z
    cases z'
    exact hTt b hb _
   ·have z':=(if_neg hb).symm.trans z
    cases z'
  ·by_cases hb:b∈tabs
   ·exact .inr hb
   ·exact absurd (if_neg hb) z
  ·have hb:a ∉ tabs:=fun hb=>naT a hb rfl
   have z':=(if_neg hb).symm.trans z
   cases z'
 | none =>
  refine core (fun b=>if b=a then some (.mr { cls:=.type "list",data:=.seq vs.toArray } (.lst (ns.map V.int))) else if b∈tabs then some (.ext (de b)) else none) (fun T hT=>?_) (.inl (.inr ⟨{ cls:=.type "list",data:=.seq vs.toArray },if_pos rfl⟩)) (fun b u z=>?_) (fun b z=>?_) fun u z=>?_
  ·show (if T=a then _ else _)=_
   rw [if_neg (naT T hT),if_pos hT]
  ·by_cases hb:b=a
   ·have z':=(if_pos hb).symm.trans z
    cases z'
    subst hb
    exact ⟨ha,by rw [List.length_map];exact hl,vs,_,rv,ha⟩
   ·have z:=(if_neg hb).symm.trans z
    by_cases hb:b∈tabs
    ·have z':=(if_pos hb).symm.trans z
     cases z'
     exact hTt b hb _
    ·have z':=(if_neg hb).symm.trans z
     cases z'
  ·by_cases hb:b=a
   ·exact .inl hb
   ·by_cases hb':b∈tabs
    ·exact .inr hb'
    ·exact absurd ((if_neg hb).trans (if_neg hb')) z
  ·have z':=(if_pos rfl).symm.trans z
   cases z'
   exact ⟨hk,_,_,rfl⟩
theorem Eo {p:Program} {loose:List Str} {mean:ExcName→Option Value} {mg mb:Str→Option Value} {h:Heap} {K:PySem.W.Frag} {x:Str} {st:Stmt} {T:Addr} (Tp:Top p loose mean mg mb h) (KX:K.In h) (hx:∃ d∈recsOf p,d.name=x) (D:sW K mg x st T) :
  isCodeTable h T∧h.get? T=some { cls:=.none,data:=.fields #[] }∧K.lookup T=none:=by
 obtain ⟨f,fd,c,F⟩:=D
 obtain ⟨d,hd,rfl⟩:=hx
 obtain ⟨a',o',fd',c',P',h1,h2,h3,h4,h5,h6⟩:=Tp.tab d hd
 rw [F.mg] at h1;cases h1
 obtain ⟨oc,od,kV,doc,pm,an,cdv,ct,osl,rfl,lk,_⟩:=F.fn.ex
 have:=KX _ _ lk
 rw [h2] at this;cases this
 have e3:fd'=_:=(Data.func.inj h3).symm
 subst e3
 have e4:=F.code.symm.trans h4
 cases e4
 obtain ⟨_,oo,vs,_,_,_,_,_,_,_,lk',_,hd',h11,_⟩:=F.tab
 obtain ⟨⟨o2,vs2,g1,g2,g3,g4⟩,g5⟩:=id h6
 rw [KX _ _ lk'] at g1;cases g1
 rw [hd'] at g3;cases g3
 rw [h11] at g4;cases g4
 exact ⟨h6.isCodeTable,g5,F.out⟩
theorem zS {l:PySem.W.OpenLaw} {n k:Nat} {q:Program} {loose:List Str} {XP:(Str→Option Value)→Heap→Prop} {YP:World→Heap→Prop} {d:DefRec} {K:Params→PySem.W.Frag} {sp:List Addr→PySem.W.Frag→Sp} {x:Str} (names:List Str)
  (hn:l.most=some n) (hn2:n≤sizeLine) (hdf:d.params.defaults=[]) (hr:bj k callerA) (hY:∀ (w:World) (h:Heap),YP w h→(K w.params).In h) (hnm:∀ x∈names,∃ d∈recsOf q,d.name=x)
  (F:∀ (w:World) (mg:Str→Option Value) (fa:Addr) (h:Heap),(K w.params).In h→h.Ns mainGlobals mg→mg d.name=some (.ref fa) →
   ∃ (fd:FuncData) (tabs:List Addr),(∀ (s:Shared) (u:Value),BindsTo s fd ⟨[u],[]⟩ [(x,u)])∧(∀ T∈tabs,Fv (K w.params) mg names T) ∧
    ∀ base:Heap,(K w.params).In base→base.Ns mainGlobals mg→BMain mg base→aF l.prog w (K w.params) mg base lW k fa fd [x] (sp tabs (K w.params)))
  (hsp:∀ (tabs:List Addr) (K:PySem.W.Frag) (H:Hp) (a:Addr) (ns:List Int),ns.length≤n→(∀ T∈tabs,H T=some (.ext (de T)))→cR K H a (ns.map V.int)→(∀ b,H b≠none→b=a∨b∈tabs)→(∀ u,H a=some u→∃ o xs,u=.mr o (.lst xs))→sp tabs K [.ref a] H (fun v H'=>v=.bl true∧a7 H H') fun _ _ _=>False) :
  PySem.W.WalkO q loose XP YP l.row.toRowW d [] (fun f vs=>PySem.call f vs):=by
 refine Att.qL hn hdf fun w s₀ s₁ mg mb fa o pm cd doc a vs ns G Y ho hd hcd hmg hobj hints hlen hg=>?_
 have KX:=hY w _ Y
 obtain ⟨fd,tabs,hb,ht,hF⟩:=F w mg fa _ KX G.T.g hmg
 refine vQ KX G.T.g G.T.b G.T.builtins G.T.nolimit hg hobj hints (Nat.le_trans hlen hn2) hr G.T.bmain (fun T hT=>?_) hF hb (fun H hT hS hA hK=>hsp tabs _ H a ns hlen hT hS hA hK)
 obtain ⟨x,hx,st,D⟩:=ht T hT
 exact Eo G.T KX (hnm x hx) D
def yt (s:Str):Value→Bool
 | .str y _=>y == s
 | _=>false
def zZ (i:Int):Value→Bool
 | .int j _=>j == i
 | _=>false
theorem wX {K:PySem.W.Frag} {h:Heap} {mg:Str→Option Value} {x s:Str} {u:Value} (X:K.In h) (G:h.Ns mainGlobals mg) (e:PySem.W.nsIn K mainGlobals x=some (some u)) (hu:yt s u=true):∃ t,mg x=some (.str s t):=by
 cases u with
 | str y t =>
  have:y=s:=by simpa [yt] using hu
  subst this
  exact ⟨t,PySem.W.mg_of X G e⟩
 | _=>cases hu
theorem const_int {K:PySem.W.Frag} {h:Heap} {mg:Str→Option Value} {x:Str} {i:Int} {u:Value} (X:K.In h) (G:h.Ns mainGlobals mg) (e:PySem.W.nsIn K mainGlobals x=some (some u)) (hu:zZ i u=true):∃ t,mg x=some (.int i t):=by
 cases u with
 | int y t =>
  have:y=i:=by simpa [zZ] using hu
  subst this
  exact ⟨t,PySem.W.mg_of X G e⟩
 | _=>cases hu
section
variable {X:Cx} {tg:Expr}
end
section
variable {prog:Program} {w:World} {A:Around} {R:Result→Shared→Prop} {s:Shared}
theorem so {elt iter cnd:Expr} {x:Str} {px:Pos} {sc:Scope} {pos:Pos} {it acc:Value} {env:Env} (I:Nat→Shared→Prop)
  (turn:∀ n s,I n s→wpAny (model prog w) A (pyNext it) (fun r s₁=>match r with
   | none=>R (.ok .next) s₁
   | some v=>wpAny (model prog w) A (letOwnedTupleGo (.Name x px) it v) (fun _ s₂=>wpAny (model prog w) A (assign (.Name x px) env v) (fun _ s₃=>wpAny (model prog w) A (isTrue cnd env (eval cnd env)) (fun ok s₃=>if ok=true then wpAny (model prog w) A (eval elt env) (fun y s₄ =>
     wpAny (model prog w) A (call (.builtin "list.append") [acc,y]) (fun _ s₅=>∃ m,m < n∧I m s₅) (fun _ _=>False) s₄) (fun _ _=>False) s₃ else ∃ m,m < n∧I m s₃) (fun _ _=>False) s₃) (fun _ _=>False) s₂) (fun _ _=>False) s₁) (fun _ _=>False) s)
  (n:Nat) (h:I n s):codeAny (model prog w) A (.compLoop (.ListComp elt [⟨.Name x px,iter,[cnd],0⟩] sc pos) 0 it acc env) R s:=by
 refine codeAny_loop rfl I (fun n s hI=>?_) n h
 show wpAny _ _ ((compTurn (.ListComp elt [⟨.Name x px,iter,[cnd],0⟩] sc pos) 0 it acc env).onRaise (fun x=>do noteFrame x env;theTreesLotGoes x)) _ _ s
 refine wpAny_noted ?_
 rw [compTurn_list]
 have no:∀ (e:Value) (s':Shared),False→notedBy (model prog w) A env (fun e s'=>R (.error e) s') e s':=fun _ _ z=>z.elim
 refine wpAny_bind (wpAny_standAt (wpAny_bind (wpAny_mono (turn n s hI) (fun r s₁ h₁=>?_) no)))
 cases r with
 | none=>exact wpAny_pure h₁
 | some v =>
  refine wpAny_bind (wpAny_mono h₁ (fun _ s₂ h₂=>?_) no)
  refine wpAny_bind (wpAny_mono h₂ (fun _ s₃ h₃=>wpAny_bind (wpAny_mono (wpAny_tests_one h₃) (fun ok s₃' h₃'=>?_) no)) no)
  cases ok with
  | false=>exact wpAny_pure ⟨rfl,h₃'⟩
  | true =>
   exact wpAny_bind (wpAny_bind (wpAny_mono h₃' (fun y s₄ h₄=>wpAny_bind (wpAny_mono h₄ (fun _ s₅ h₅=>wpAny_pure (wpAny_pure ⟨rfl,h₅⟩)) no)) no))
end
def Eg (wi:TI) (ks:List (Str × Nat)) (tc:TT) (te:TE):TE:=fun σ H Q=>wi σ H fun J H1=>∀ D,H1 D=none→∃ W:Nat→Nat→Hp→Prop,(∃ m,W 0 m (upd H1 D (.lst []))) ∧
 ∀ i m H2,W i m H2→(J.stop i H2∧Q (.ref D) H2)∨(J.go i H2∧∀ v H3,J.yld i H2 v H3→tc (some v :: cn ks σ) H3 fun b H4=>if b=true then te (some v :: cn ks σ) H4 fun y H5=>∃ ys,H5 D=some (.lst ys)∧ys.length < sizeLine∧∃ m',m' < m∧W (i + 1) m' (upd H5 D (.lst (ys ++ [y]))) else ∃ m',m' < m∧W (i + 1) m' H4)
section
variable {X:Cx}
theorem wc {elt iter cnd:Expr} {x:Str} {px:Pos} {sc:Scope} {pos:Pos} {te:TE} {tc:TT} {ks:List (Str × Nat)} {cl:List (Str × Addr)} {pins:List (Addr × Obj)} {σ:L2.St} {H:Hp} {s:Shared} {it:Addr} {fp:List Addr} {tn:Nat→Heap→Prop} {J:It} {Q:VK}
  {RR:Value→Addr→Result→Shared→Prop} {E:Value→Shared→Prop}
  (hc:X.calm=true) (ok:bY sc X.env.scope X.N x ks) (h1:∀ y c,cl.lookup y=some c→X.env.cells.lookup y=some c) (h2:∀ y∈sc.names,y.2=.free→∃ c,cl.lookup y.1=some c)
  (he:∀ cl C s₀ H₀ fp pins,PE (dJ X sc cl C x ks s₀ H₀ fp pins) elt te) (hcn:∀ cl C s₀ H₀ fp pins,PT (dJ X sc cl C x ks s₀ H₀ fp pins) cnd tc)
  (I:Inv X pins σ H s) (T:Turn X.prog X.w X.K (.Name x px) J fp it tn) (st:tn 0 s.heap) (f:∀ b∈fp,gf X pins H b)
  (hw:∀ D,H D=none→∃ W:Nat→Nat→Hp→Prop,(∃ m,W 0 m (upd H D (.lst [])))∧∀ i m H2,W i m H2→(J.stop i H2∧Q (.ref D) H2) ∨
   (J.go i H2∧∀ v H3,J.yld i H2 v H3→tc (some v :: cn ks σ) H3 fun b H4=>if b=true then te (some v :: cn ks σ) H4 fun y H5=>∃ ys,H5 D=some (.lst ys)∧ys.length < sizeLine∧∃ m',m' < m∧W (i + 1) m' (upd H5 D (.lst (ys ++ [y]))) else ∃ m',m' < m∧W (i + 1) m' H4))
  (hR:∀ (D C:Addr) (s':Shared) (H':Hp) (m:Str→Option Value),Inv X pins σ H' s'→Q (.ref D) H'→s'.heap.Ns C m→H' C=none→C≠X.env.locals→X.s₀.heap.objs.size≤C→(∀ y c,X.env.cells.lookup y=some c→c≠C)→(∀ p∈X.pn ++ pins,p.1≠C)→RR (.ref D) C (.ok .next) s') :
  wpAny (model X.prog X.w) X.A (newList []) (fun acc s₃=>wpAny (model X.prog X.w) X.A (newFunctionEnv sc X.env.globals cl [] X.env.qual none .none (some X.env)) (fun cenv s₄ =>
   codeAny (model X.prog X.w) X.A (.compStart (.ListComp elt [⟨.Name x px,iter,[cnd],0⟩] sc pos) 0 (.ref it) acc { cenv with scope:=relabel sc X.env }) (RR acc cenv.locals) s₄) E s₃) E s:=by
 have okk:=ok
 obtain ⟨kd,nc,lx,ll,fr,kk,nd⟩:=okk
 have hD0:H s.heap.objs.size=none:=I.hok.fresh (Nat.le_refl _)
 obtain ⟨W,⟨m0,w0⟩,turn⟩:=hw s.heap.objs.size hD0
 refine wpAny_newObj_type ?_
 have I3:Inv X pins σ (upd H s.heap.objs.size (.lst [])) { s with heap:=s.heap.push { cls:=.type "list",dict:=none,data:=.seq ([]:List Value).toArray } } :=
  I.laid (t':=s.toks) (fun b u e=>Heap.get?_push_of_some _ e) (Nat.le_refl _) (show cb X.prog X.w _ _ _ (.lst []) from ⟨Nat.zero_le _,[],0,.nil,Heap.get?_push_size _ rfl⟩)
 have st3:tn 0 (s.heap.push { cls:=.type "list",dict:=none,data:=.seq ([]:List Value).toArray }):=T.keep 0 _ _ st fun b hb o e=>Heap.get?_push_of_some _ e
 generalize hD:s.heap.objs.size=D at *
 generalize hH:upd H D (.lst [])=H3 at *
 generalize hs3:({ s with heap:=s.heap.push { cls:=.type "list",dict:=none,data:=.seq ([]:List Value).toArray } }:Shared)=s3 at *
 have e3:s.heap.push { cls:=.type "list",dict:=none,data:=.seq ([]:List Value).toArray }=s3.heap:=by rw [← hs3]
 rw [e3] at st3
 have fD:∀ b∈fp,b≠D:=fun b hb z=>by
  obtain ⟨o,ho,_⟩:=T.obj 0 _ st b hb
  have:=Heap.lt_size ho
  rw [z,← hD] at this
  exact Nat.lt_irrefl _ this
 have f3:∀ b∈fp,gf X pins H3 b:=fun b hb=>⟨by rw [← hH,aH (fD b hb)];exact (f b hb).1,(f b hb).2⟩
 have g3:∀ b∈fp,∃ o,s3.heap.get? b=some o:=fun b hb=>by
  obtain ⟨o,ho,_⟩:=T.obj 0 _ st3 b hb
  exact ⟨o,ho⟩
 refine wpAny_newFunctionEnv nc (by intro y hy;simp at hy) (fun h₁ hns hsb=>?_) kd
 have kp:∀ b o,s3.heap.get? b=some o→h₁.get? b=some o:=fun b o e=>hsb.extBut b o (Nat.ne_of_lt (Heap.lt_size e)) (Heap.get?_push_of_some _ e)
 have J0:=l7 (fp:=fp) (cl:=cl) (t':=s3.toks + ([]:List (Str × Value)).length) I3 ok h1 h2 (fun b hb=>⟨f3 b hb,g3 b hb⟩) hns kp
 have st4:tn 0 h₁:=T.keep 0 _ _ st3 fun b hb o e=>kp b o e
 have ltC:∀ b o,s3.heap.get? b=some o→b≠s3.heap.objs.size:=fun b o e=>Nat.ne_of_lt (Heap.lt_size e)
 have cC:∀ y c,X.env.cells.lookup y=some c→c≠s3.heap.objs.size:=fun y c e=>by
  obtain ⟨v,o,ho,_⟩:=I3.cell y c e
  exact ltC c o ho
 have pC:∀ p∈X.pn ++ pins,p.1≠s3.heap.objs.size:=fun p hp=>ltC _ _ (I3.pin p hp).1
 have lC:s3.heap.objs.size≠X.env.locals:=Nat.ne_of_gt I3.lt
 have fX:∀ {H':Hp},(∀ b∈fp,H' b=none)→∀ b∈fp,gf (dJ X sc cl s3.heap.objs.size x ks s3 H3 fp pins) [] H' b:=fun hn b hb=>by
  obtain ⟨o,ho⟩:=g3 b hb
  obtain ⟨_,q1,q2,q3,q4,q5⟩:=f b hb
  refine ⟨hn b hb,ltC b o ho,fun z=>?_,.inl hb,fun y c e=>q4 y c (h1 y c e),fun p hp=>q5 p (by simpa [dJ] using hp)⟩
  rcases List.mem_cons.mp (I3.iA b z) with e | e
  ·exact q1 e
  ·exact q2 e
 have back:∀ {o:Option V} {H':Hp} {s':Shared},Inv (dJ X sc cl s3.heap.objs.size x ks s3 H3 fp pins) [] (o :: cn ks σ) H' s'→Inv X pins σ H' s':=fun {o H' s'} J=>by
  obtain ⟨hh,g,d,t,os'⟩:=s'
  obtain rfl:os'=s3.os:=J.os
  exact I3.call (h':=hh) (g':=g) (d':=d) (t':=t) (ch:=fp) J.base J.hok J.bare fun b hb=>⟨(f b hb).2.2.2.1,(f b hb).2.1,(f b hb).2.2.2.2.1,(f b hb).2.2.2.2.2⟩
 have lookX:(relabel sc X.env).names.lookup x=some .local:=lookup_relabel_local lx
 have loop:∀ s',(∃ (i:Nat) (o:Option V) (H':Hp),Inv (dJ X sc cl s3.heap.objs.size x ks s3 H3 fp pins) [] (o :: cn ks σ) H' s'∧tn i s'.heap∧(∀ b∈fp,H' b=none)∧W i m0 H') →
   codeAny (model X.prog X.w) X.A (.compLoop (.ListComp elt [⟨.Name x px,iter,[cnd],0⟩] sc pos) 0 (.ref it) (.ref D) (compEnvC sc cl s3.heap.objs.size X.env)) (RR (.ref D) s3.heap.objs.size) s':=by
  intro s' hs'
  refine so (fun n s'=>∃ (i:Nat) (o:Option V) (H':Hp),Inv (dJ X sc cl s3.heap.objs.size x ks s3 H3 fp pins) [] (o :: cn ks σ) H' s'∧tn i s'.heap∧(∀ b∈fp,H' b=none)∧W i n H') ?_ m0 hs'
  rintro n s5 ⟨i,o,H5,J5,t5,n5,w5⟩
  rcases turn i n H5 w5 with ⟨stop,hq⟩ | ⟨go,step⟩
  ·refine bx (T.done (dJ X sc cl s3.heap.objs.size x ks s3 H3 fp pins) rfl rfl rfl hc i [] s5 _ H5 _ J5 (fX n5) t5 stop) fun r s6 ⟨hr,J6⟩=>?_
   subst hr
   obtain ⟨m,hm,_⟩:=J6.loc
   exact hR D _ s6 H5 m (back J6) hq hm J6.free lC I3.sz cC pC
  ·refine bx (T.item (dJ X sc cl s3.heap.objs.size x ks s3 H3 fp pins) rfl rfl rfl hc i [] s5 _ H5 _ J5 (fX n5) t5 go) fun r s6 ⟨u,hr,h6⟩=>?_
   subst hr
   refine bx h6 fun _ s7 ⟨v,H7,J7,r7,y7,t7,n7⟩=>?_
   have J7':=J7.pinned (fX n7) (T.obj _ _ t7)
   refine wpAny_assign_Name (dN (X:=dJ X sc cl s3.heap.objs.size x ks s3 H3 fp pins) (i:=0) J7' nd rfl (.inl lookX) r7 (fun s8 J8=>?_) (.inr lookX))
   refine bx (hcn cl s3.heap.objs.size s3 H3 fp pins _ s8 _ H7 _ J8 (step v H7 y7)) fun ok s8' ⟨H8,J8',q8⟩=>?_
   cases ok with
   | false =>
    simp only [Bool.false_eq_true,if_false] at q8 ⊢
    obtain ⟨m',hm,w'⟩:=q8
    refine ⟨m',hm,i + 1,_,_,J8'.dP,?_,?_,w'⟩
    ·exact T.keep _ _ _ t7 fun b hb o e=>(J8'.pin (b,o) (List.mem_append_right _ (List.mem_append_right _ (bA hb e)))).1
    ·intro b hb
     obtain ⟨o,e,d⟩:=T.obj _ _ t7 b hb
     exact (J8'.pin (b,o) (List.mem_append_right _ (List.mem_append_right _ (bA hb e)))).2.1
   | true =>
    simp only [if_true] at q8 ⊢
    refine bx (he cl s3.heap.objs.size s3 H3 fp pins _ s8' _ H8 _ J8' q8) fun y s9 ⟨vy,H9,J9,r9,ys,hys,hz,m',hm,w'⟩=>?_
    refine bx (eA (X:=dJ X sc cl s3.heap.objs.size x ks s3 H3 fp pins) _ s9 _ H9 (.ref D) [vy] (.ref D) [y] (fun _ H'=>H'=upd H9 D (.lst (ys ++ [vy]))) J9 rfl (.cons r9 .nil) ⟨D,ys,vy,rfl,rfl,hys,hz,rfl⟩) fun _ s10 ⟨_,H10,J10,_,eH⟩=>?_
    subst eH
    refine ⟨m',hm,i + 1,_,_,J10.dP,?_,?_,w'⟩
    ·exact T.keep _ _ _ t7 fun b hb o e=>(J10.pin (b,o) (List.mem_append_right _ (List.mem_append_right _ (bA hb e)))).1
    ·intro b hb
     obtain ⟨o,e,d⟩:=T.obj _ _ t7 b hb
     exact (J10.pin (b,o) (List.mem_append_right _ (List.mem_append_right _ (bA hb e)))).2.1
 have l0:=loop _ ⟨0,none,H3,J0,st4,fun b hb=>(f3 b hb).1,w0⟩
 exact codeAny_compStart_list l0 (T.self _ 0 _ _ _ st4 l0)
def GU (wi:TI) (ks:List (Str × Nat)) (tc:TT) (te:TE) (i:Nat):TS:=fun D σ H=>Eg wi ks tc te σ H fun v H1=>D.nx (σ.set i (some v)) H1
theorem yV {elt iter cnd:Expr} {x y:Str} {px py:Pos} {sc:Scope} {pos spos:Pos} {wi:TI} {te:TE} {tc:TT} {i:Nat} (osc:Scope) (N:List Str) (ks:List (Str × Nat)) (hc:X.calm=true) (ho:X.env.scope=osc) (hN:X.N=N) (hnd:X.N.Nodup) (hy:X.N[i]?=some y) (hl:Loc X.env.scope y)
  (hi:PI X (.Name x px) iter wi) (he:∀ cl C s₀ H₀ fp pins,PE (dJ X sc cl C x ks s₀ H₀ fp pins) elt te) (hcn:∀ cl C s₀ H₀ fp pins,PT (dJ X sc cl C x ks s₀ H₀ fp pins) cnd tc) (ok:bY sc osc N x ks:=by decide +kernel) (hs:∀ x,foldedSetIterable iter X.env x=pure x:=by intro _;rfl)
  (hsw:swapsWith (.ListComp elt [⟨.Name x px,iter,[cnd],0⟩] sc pos) (some (.Name y py)) spos.line X.env=pure true:=by rfl) (hf:X.fn y=true∨X.env.scope.names.lookup y=some .local:=by first | exact .inl rfl | exact .inr rfl | assumption) :
  PS X (.Assign [.Name y py] (.ListComp elt [⟨.Name x px,iter,[cnd],0⟩] sc pos) spos) (GU wi ks tc te i):=by
 intro pins s σ H Dn I hw
 obtain ⟨cl,hcl,h1,h2⟩:=fY (iI ok I ho)
 have ok':bY sc X.env.scope X.N x ks:=by rw [ho,hN];exact ok
 rw [exec_Assign_Name_used _ _ _ _ hsw]
 refine wpAny_bind (wpAny_standAt (wpAny_bind ?_))
 show wpAny _ X.A (do let _ ← comprehension (.ListComp elt [⟨.Name x px,iter,[cnd],0⟩] sc pos) sc X.env _ (newList []) false (eval iter X.env) (some (assign (.Name y py) X.env))) _ _ s
 refine wpAny_bind (wpAny_mono (wpAny_comprehension_free (use:=some (assign (.Name y py) X.env)) (Q:=fun _ s'=>SP X pins Dn .next s') rfl hs hcl ok.1 ok.2.2.2.1
  (bx (hi pins s σ H _ I hw) fun v s1 h3=>bx h3 fun itv s2 h4=>?_)) (fun _ s' hq=>wpAny_pure (wpAny_pure hq)) fun _ _ e=>e)
 obtain ⟨it,fp,tn,J,H2,rfl,I2,T,st2,f2,hR⟩:=h4
 refine wc (Q:=fun v H1=>Dn.nx (σ.set i (some v)) H1) (RR:=fun acc C=>compPost (model X.prog X.w) X.A X.xe (some (assign (.Name y py) X.env)) (fun _ s'=>SP X pins Dn .next s') acc C) hc ok' h1 h2 he hcn I2 T st2 f2 hR ?_
 intro D C s' H' m J' q hn hC cl' cs cc cp
 show wpAny _ X.A (assign (.Name y py) X.env (.ref D)) _ _ _
 refine wpAny_assign_Name (jE J' hnd hy hl (v:=.ref D) rfl (fun s'' J'' ⟨a,hsb,ha⟩=>?_) hf)
 refine ⟨m,hn.sameBut hsb (fun z=>?_),fun h' hsb'=>⟨_,H',?_,q⟩⟩
 ·rcases ha with e | e
  ·exact cl' (z.trans e)
  ·exact cc _ _ e z.symm
 ·exact J''.turned (t':=s''.toks) (it:=C) (fun b o ne e=>hsb'.extBut b o ne e) hC cl' (.inr cs) cc cp
end
end Ov
namespace Ov
open PySem PySem.Spec PyProof.Rows
open L2 (V HO Hp Inv Cx VK XK TE TT TA TS TG lH TI TO g_ Ends qW Loc Gl Rd RelV Vals d_ rX b7 lp rW nR g8 R2 upd aA aH cR fz Sp mn It a7)
inductive PV where
 | non | bl (b:Bool) | int (i:Int) | str (x:Str) | ref (a:Addr) | ty (n:String) | tup (xs:List PV) | fl (xs:List PV)
inductive HQ where
 | lst (xs:List PV) | ins (C:Addr) (fs:List (Str × PV)) | dct (kvs:List (Str × PV)) (ep:Nat) | tab
abbrev Hq:=Addr→Option HQ
def put (J:Hq) (a:Addr) (o:HQ):Hq:=fun b=>if b=a then some o else J b
theorem av {J:Hq} {a:Addr} {o:HQ}:put J a o a=some o:=by unfold put;rw [if_pos rfl]
theorem aq {J:Hq} {a b:Addr} {o:HQ} (h:b≠a):put J a o b=J b:=by unfold put;rw [if_neg h]
theorem dI {J:Hq} {a:Addr} {o u:HQ}:put (put J a o) a u=put J a u:=by
 funext b;unfold put;split <;> rfl
theorem yn {J:Hq} {a b:Addr} {o u:HQ} (h:a≠b):put (put J a o) b u=put (put J b u) a o:=by
 funext c;unfold put
 by_cases h1:c=b <;> by_cases h2:c=a <;> simp [h1,h2]
 ·exact absurd (h2.symm.trans h1) h
 ·intro z;exact absurd z.symm h
 ·intro z;exact absurd z h
theorem sy {J:Hq} {a:Addr} {o:HQ} (h:J a=some o):put J a o=J:=by
 funext b;unfold put
 by_cases e:b=a
 ·subst e;rw [if_pos rfl,h]
 ·rw [if_neg e]
def yg (K:PySem.W.Frag) (J:Hq) (H:Hp) (a:Addr) (vs:List V):Prop:=(J a=none∧Rd H a (.lst vs))∨∃ (o:Obj) (its:Array Value) (n:Nat),K.lookup a=some o∧o.cls=.type "list"∧o.dict=none∧o.data=.seq its n∧its.size≤sizeLine∧Vals vs its.toList
theorem yg.sq {K:PySem.W.Frag} {J:Hq} {H:Hp} {a:Addr} {vs:List V} (h:yg K J H a vs):cR K H a vs:=by
 rcases h with h | h
 ·exact .inl h.2
 ·exact .inr h
section
variable (K:PySem.W.Frag)
mutual
def bJ (J:Hq) (H:Hp):PV→V→Prop
 | .non,v=>v=.non
 | .bl b,v=>v=.bl b
 | .int i,v=>v=.int i
 | .str x,v=>v=.str x
 | .ref a,v=>v=.ref a
 | .ty n,v=>v=.ty n
 | .tup xs,v=>∃ a vs,v=.ref a∧fz K H a vs∧aB J H xs vs
 | .fl xs,v=>∃ a vs,v=.ref a∧yg K J H a vs∧aB J H xs vs
def aB (J:Hq) (H:Hp):List PV→List V→Prop
 | [],vs=>vs=[]
 | x :: xs,vs=>∃ v us,vs=v :: us∧bJ J H x v∧aB J H xs us
end
def il {κ:Type} (J:Hq) (H:Hp) (fs:List (κ × PV)) (gs:List (κ × V)):Prop:=fs.map (·.1)=gs.map (·.1)∧aB K J H (fs.map (·.2)) (gs.map (·.2))
def x9 (J:Hq) (H:Hp) (a:Addr):HQ→Prop
 | .lst xs=>∃ vs,H a=some (.lst vs)∧aB K J H xs vs
 | .ins C fs=>∃ dx gs,H a=some (.ins C dx gs)∧il K J H fs gs
 | .dct kvs ep=>∃ gs,H a=some (.dE gs ep)∧il K J H kvs gs
 | .tab=>H a=some (.ext (de a))
def Rep (J:Hq) (H:Hp):Prop:=∀ a o,J a=some o→x9 K J H a o
structure Ext (J:Hq) (H:Hp) (J':Hq) (H':Hp):Prop where
 tup:∀ a vs,fz K H a vs→fz K H' a vs
 ll:∀ a o,J a=none→H a=some o→((∃ vs,o=.lst vs)∨∃ ob vs,o=.mr ob (.lst vs))→J' a=none∧H' a=some o
end
section
variable {K:PySem.W.Frag} {J J' J'':Hq} {H H' H'':Hp}
theorem Ext.fl (e:Ext K J H J' H') (a:Addr) (vs:List V) (n:J a=none) (h:Rd H a (.lst vs)):J' a=none∧Rd H' a (.lst vs):=by
 rcases h with h | ⟨o,h⟩
 ·obtain ⟨a,b⟩:=e.ll a _ n h (.inl ⟨_,rfl⟩);exact ⟨a,.inl b⟩
 ·obtain ⟨a,b⟩:=e.ll a _ n h (.inr ⟨_,_,rfl⟩);exact ⟨a,.inr ⟨o,b⟩⟩
theorem Ext.flat (e:Ext K J H J' H') {a:Addr} {vs:List V} (h:yg K J H a vs):yg K J' H' a vs:=by
 rcases h with h | h
 ·exact .inl (e.fl a vs h.1 h.2)
 ·exact .inr h
mutual
theorem Ext.rep (e:Ext K J H J' H'):∀ {x:PV} {v:V},bJ K J H x v→bJ K J' H' x v
 | .non,_,h=>h
 | .bl _,_,h=>h
 | .int _,_,h=>h
 | .str _,_,h=>h
 | .ref _,_,h=>h
 | .ty _,_,h=>h
 | .tup xs,_,⟨a,vs,e1,h,k⟩=>⟨a,vs,e1,e.tup _ _ h,Ext.gh e k⟩
 | .fl xs,_,⟨a,vs,e1,h,k⟩=>⟨a,vs,e1,e.flat h,Ext.gh e k⟩
theorem Ext.gh (e:Ext K J H J' H'):∀ {xs:List PV} {vs:List V},aB K J H xs vs→aB K J' H' xs vs
 | [],_,h=>h
 | _ :: _,_,⟨v,us,e1,h,k⟩=>⟨v,us,e1,Ext.rep e h,Ext.gh e k⟩
end
theorem Ext.refl:Ext K J H J H:=⟨fun _ _ h=>h,fun _ _ n h _=>⟨n,h⟩⟩
theorem Ext.trans (a:Ext K J H J' H') (b:Ext K J' H' J'' H''):Ext K J H J'' H'' :=
 ⟨fun c vs h=>b.tup c vs (a.tup c vs h),fun c o n h z=>b.ll c o (a.ll c o n h z).1 (a.ll c o n h z).2 z⟩
theorem Ext.pZ {κ:Type} (e:Ext K J H J' H') {fs:List (κ × PV)} {gs:List (κ × V)} (h:il K J H fs gs):il K J' H' fs gs:=⟨h.1,e.gh h.2⟩
theorem Rd.same {a:Addr} {u:HO} (s:a7 H H') (h:Rd H a u):Rd H' a u:=by
 rcases h with h | ⟨o,h⟩
 ·exact .inl (s _ _ h)
 ·exact .inr ⟨o,s _ _ h⟩
theorem Ext.same (s:a7 H H'):Ext K J H J H':=⟨fun a vs h=>s.tup h,fun a o n h _=>⟨n,s _ _ h⟩⟩
theorem x9.same (s:a7 H H') {a:Addr} {o:HQ} (h:x9 K J H a o):x9 K J H' a o:=by
 have e:=Ext.same (K:=K) (J:=J) s
 cases o with
 | lst xs=>obtain ⟨vs,h1,h2⟩:=h;exact ⟨vs,s _ _ h1,e.gh h2⟩
 | ins C fs=>obtain ⟨dx,gs,h1,h2⟩:=h;exact ⟨dx,gs,s _ _ h1,e.pZ h2⟩
 | dct kvs ep=>obtain ⟨gs,h1,h2⟩:=h;exact ⟨gs,s _ _ h1,e.pZ h2⟩
 | tab=>exact s _ _ (show H a=some (.ext (de a)) from h)
theorem Rep.same (s:a7 H H') (h:Rep K J H):Rep K J H':=fun a o q=>(h a o q).same s
theorem Ext.less (h:∀ a,J' a=J a∨J' a=none):Ext K J H J' H:=⟨fun _ _ h=>h,fun a o n z _=>⟨(h a).elim (fun e=>e.trans n) (fun e=>e),z⟩⟩
theorem Rep.less (h:∀ a,J' a=J a∨J' a=none) (r:Rep K J H):Rep K J' H:=fun a o q=>by
 have e:J a=some o:=by
  rcases h a with e | e
  ·rw [← e];exact q
  ·rw [e] at q;cases q
 have x:=Ext.less (K:=K) (H:=H) h
 have z:=r a o e
 cases o with
 | lst xs=>obtain ⟨vs,h1,h2⟩:=z;exact ⟨vs,h1,x.gh h2⟩
 | ins C fs=>obtain ⟨dx,gs,h1,h2⟩:=z;exact ⟨dx,gs,h1,x.pZ h2⟩
 | dct kvs ep=>obtain ⟨gs,h1,h2⟩:=z;exact ⟨gs,h1,x.pZ h2⟩
 | tab=>exact z
theorem aB.length:∀ {xs:List PV} {vs:List V},aB K J H xs vs→xs.length=vs.length
 | [],_,h=>by cases h;rfl
 | _ :: xs,_,⟨v,us,e1,_,k⟩=>by subst e1;simp [aB.length k]
theorem aB.get:∀ {xs:List PV} {vs:List V} {i:Nat} {x:PV},aB K J H xs vs→xs[i]?=some x→∃ v,vs[i]?=some v∧bJ K J H x v
 | [],_,i,x,h,e=>by simp at e
 | y :: xs,_,0,x,⟨v,us,e1,h,k⟩,e=>by subst e1;simp at e;subst e;exact ⟨v,rfl,h⟩
 | y :: xs,_,i + 1,x,⟨v,us,e1,h,k⟩,e=>by
  subst e1
  obtain ⟨w,h1,h2⟩:=aB.get (i:=i) (x:=x) k (by simpa using e)
  exact ⟨w,by simpa using h1,h2⟩
theorem aB.get':∀ {xs:List PV} {vs:List V} {i:Nat} {v:V},aB K J H xs vs→vs[i]?=some v→∃ x,xs[i]?=some x∧bJ K J H x v
 | [],_,i,x,h,e=>by cases h;simp at e
 | y :: xs,_,0,x,⟨v,us,e1,h,k⟩,e=>by subst e1;simp at e;subst e;exact ⟨y,rfl,h⟩
 | y :: xs,_,i + 1,x,⟨v,us,e1,h,k⟩,e=>by
  subst e1
  obtain ⟨w,h1,h2⟩:=aB.get' (i:=i) (v:=x) k (by simpa using e)
  exact ⟨w,by simpa using h1,h2⟩
theorem aB.append:∀ {xs ys:List PV} {vs us:List V},aB K J H xs vs→aB K J H ys us→aB K J H (xs ++ ys) (vs ++ us)
 | [],_,_,_,h,k=>by cases h;exact k
 | x :: xs,ys,_,us,⟨v,ws,e1,h,h'⟩,k=>by subst e1;exact ⟨v,ws ++ us,rfl,h,aB.append h' k⟩
theorem aB.drop:∀ (n:Nat) {xs:List PV} {vs:List V},aB K J H xs vs→aB K J H (xs.drop n) (vs.drop n)
 | 0,_,_,h=>h
 | n + 1,[],_,h=>by cases h;rfl
 | n + 1,x :: xs,_,⟨v,ws,e1,h,h'⟩=>by subst e1;exact aB.drop n h'
theorem aB.take:∀ (n:Nat) {xs:List PV} {vs:List V},aB K J H xs vs→aB K J H (xs.take n) (vs.take n)
 | 0,_,_,h=>rfl
 | n + 1,[],_,h=>by cases h;rfl
 | n + 1,x :: xs,_,⟨v,ws,e1,h,h'⟩=>by subst e1;exact ⟨v,_,rfl,h,aB.take n h'⟩
theorem aB.set {x:PV} {v:V} (r:bJ K J H x v):∀ (n:Nat) {xs:List PV} {vs:List V},aB K J H xs vs→aB K J H (xs.set n x) (vs.set n v)
 | n,[],_,h=>by cases h;rfl
 | 0,y :: xs,_,⟨w,ws,e1,h,h'⟩=>by subst e1;exact ⟨v,ws,rfl,r,h'⟩
 | n + 1,y :: xs,_,⟨w,ws,e1,h,h'⟩=>by subst e1;exact ⟨w,_,rfl,h,aB.set r n h'⟩
theorem il.look {κ:Type} [BEq κ] [LawfulBEq κ] {f:κ}:∀ {fs:List (κ × PV)} {gs:List (κ × V)} {x:PV},il K J H fs gs→fs.lookup f=some x→∃ v,gs.lookup f=some v∧bJ K J H x v
 | [],_,_,_,e=>by cases e
 | (k,y) :: fs,[],x,h,e=>by cases h.1
 | (k,y) :: fs,(k',w) :: gs,x,h,e=>by
  obtain ⟨h1,v,us,h2,h3,h4⟩:=h
  simp only [List.map_cons,List.cons.injEq] at h1 h2
  obtain ⟨rfl,h1⟩:=h1
  obtain ⟨rfl,rfl⟩:=h2
  rw [List.lookup_cons] at e ⊢
  cases hk:f == k with
  | true=>rw [hk] at e;cases e;exact ⟨w,rfl,h3⟩
  | false=>rw [hk] at e;exact il.look ⟨h1,h4⟩ e
theorem il.none {κ:Type} [BEq κ] [LawfulBEq κ] {f:κ}:∀ {fs:List (κ × PV)} {gs:List (κ × V)},il K J H fs gs→fs.lookup f=none→gs.lookup f=none
 | [],[],_,_=>rfl
 | [],_ :: _,h,e=>by cases h.1
 | (k,y) :: fs,[],h,e=>by cases h.1
 | (k,y) :: fs,(k',w) :: gs,h,e=>by
  obtain ⟨h1,v,us,h2,h3,h4⟩:=h
  simp only [List.map_cons,List.cons.injEq] at h1 h2
  obtain ⟨rfl,h1⟩:=h1
  obtain ⟨rfl,rfl⟩:=h2
  rw [List.lookup_cons] at e ⊢
  cases hk:f == k with
  | true=>rw [hk] at e;cases e
  | false=>rw [hk] at e;exact il.none ⟨h1,h4⟩ e
end
section
variable {K:PySem.W.Frag} {J J':Hq} {H H':Hp} {p:Addr}
theorem Al {a p:Addr} {o:HQ} (r:Rep K J H) (h:J a=some o) (n:H p=none):a≠p:=by
 intro e;subst e
 have:=r _ _ h
 cases o with
 | lst xs=>obtain ⟨vs,h1,_⟩:=this;rw [n] at h1;cases h1
 | ins C fs=>obtain ⟨dx,gs,h1,_⟩:=this;rw [n] at h1;cases h1
 | dct kvs ep=>obtain ⟨gs,h1,_⟩:=this;rw [n] at h1;cases h1
 | tab=>have h1:H a=some (.ext (de a)):=this;rw [n] at h1;cases h1
theorem Rep.free (r:Rep K J H) (n:H p=none):J p=none:=by
 cases e:J p with
 | none=>rfl
 | some o=>exact absurd rfl (Al r e n)
theorem Ext.laid {o:HO} {u:HQ} (n:H p=none):Ext K J H (put J p u) (upd H p o):=by
 refine ⟨fun a vs h=>(a7.new n o).tup h,fun a o' z h _=>⟨?_,a7.new n o _ _ h⟩⟩
 have ne:a≠p:=by intro e;subst e;rw [n] at h;cases h
 rw [aq ne];exact z
theorem Rep.vN {J':Hq} {H':Hp} (e:Ext K J H J' H') (r:Rep K J H) (p:Addr) (q:∀ a,a≠p→J' a=J a) (s:∀ a o,a≠p→J a≠none→H a=some o→H' a=some o) (h:∀ u,J' p=some u→x9 K J' H' p u):Rep K J' H':=fun a o z=>by
 by_cases ep:a=p
 ·subst ep;exact h o z
 ·rw [q a ep] at z
  have t:=r a o z
  have jn:J a≠none:=by rw [z];exact fun y=>nomatch y
  cases o with
  | lst xs=>obtain ⟨vs,h1,h2⟩:=t;exact ⟨vs,s _ _ ep jn h1,e.gh h2⟩
  | ins C fs=>obtain ⟨dx,gs,h1,h2⟩:=t;exact ⟨dx,gs,s _ _ ep jn h1,e.pZ h2⟩
  | dct kvs eq=>obtain ⟨gs,h1,h2⟩:=t;exact ⟨gs,s _ _ ep jn h1,e.pZ h2⟩
  | tab=>exact s _ _ ep jn (show H a=some (.ext (de a)) from t)
theorem Rep.xG {xs:List PV} {vs:List V} (r:Rep K J H) (n:H p=none) (h:aB K J H xs vs):Rep K (put J p (.lst xs)) (upd H p (.lst vs)):=by
 have e:=Ext.laid (K:=K) (J:=J) (o:=.lst vs) (u:=.lst xs) n
 refine r.vN e p (fun a ne=>aq ne) (fun a o ne _ z=>by rw [aH ne];exact z) fun u z=>?_
 rw [av] at z;cases z
 exact ⟨vs,aA,e.gh h⟩
theorem Ext.wrote {xs ys:List PV} {ws vs:List V} (h:J p=some (.lst xs)) (k:H p=some (.lst ws)):Ext K J H (put J p (.lst ys)) (upd H p (.lst vs)):=by
 have sm:∀ a u,(∀ l,u≠HO.lst l)∨a≠p→Rd H a u→Rd (upd H p (.lst vs)) a u:=fun a u d z=>by
  have ne:a≠p:=by
   rcases d with d | d
   ·intro e;subst e
    rcases z with z | ⟨o,z⟩
    ·rw [k] at z;cases z;exact d _ rfl
    ·rw [k] at z;cases z
   ·exact d
  rcases z with z | ⟨o,z⟩
  ·exact .inl (by rw [aH ne];exact z)
  ·exact .inr ⟨o,by rw [aH ne];exact z⟩
 refine ⟨fun a vs' z=>?_,fun a o z q _=>?_⟩
 ·rcases z with z | z
  ·exact .inl (sm a _ (.inl fun l e=>nomatch e) z)
  ·exact .inr z
 ·have ne:a≠p:=by intro e;subst e;rw [h] at z;cases z
  exact ⟨by rw [aq ne];exact z,by rw [aH ne];exact q⟩
theorem Rep.wrote {xs ys:List PV} {ws vs:List V} (r:Rep K J H) (h:J p=some (.lst xs)) (k:H p=some (.lst ws)) (q:aB K J H ys vs):Rep K (put J p (.lst ys)) (upd H p (.lst vs)):=by
 have e:=Ext.wrote (K:=K) (ys:=ys) (vs:=vs) h k
 refine r.vN e p (fun a ne=>aq ne) (fun a o ne _ z=>by rw [aH ne];exact z) fun u z=>?_
 rw [av] at z;cases z
 exact ⟨vs,aA,e.gh q⟩
end
abbrev Sr:=List (Option PV)
abbrev cq:=Sr→Hq→(PV→Hq→Prop)→Prop
abbrev ik:=Sr→Hq→(Bool→Hq→Prop)→Prop
abbrev kL:=Sr→Hq→(List PV→Hq→Prop)→Prop
structure En where
 nx:Sr→Hq→Prop
 rt:PV→Hq→Prop
 bk:Sr→Hq→Prop:=fun _ _=>False
 ct:Sr→Hq→Prop:=fun _ _=>False
abbrev fR:=En→Sr→Hq→Prop
structure ig (K:PySem.W.Frag) (J:Hq) (H:Hp) (τ:Sr) (σ:L2.St):Prop where
 len:τ.length=σ.length
 get:∀ (i:Nat) (x:PV),τ[i]?=some (some x)→∃ v,σ[i]?=some (some v)∧bJ K J H x v
theorem ig.ext {K:PySem.W.Frag} {J J':Hq} {H H':Hp} {τ:Sr} {σ:L2.St} (r:ig K J H τ σ) (e:Ext K J H J' H'):ig K J' H' τ σ :=
 ⟨r.len,fun i x h=>let ⟨v,a,b⟩:=r.get i x h;⟨v,a,e.rep b⟩⟩
theorem ig.set {K:PySem.W.Frag} {J:Hq} {H:Hp} {τ:Sr} {σ:L2.St} (r:ig K J H τ σ) {x:PV} {v:V} (i:Nat) (h:bJ K J H x v):ig K J H (τ.set i (some x)) (σ.set i (some v)):=by
 refine ⟨by rw [List.length_set,List.length_set,r.len],fun j y e=>?_⟩
 by_cases hj:i=j
 ·subst hj
  by_cases hl:i < τ.length
  ·rw [List.getElem?_set_self hl] at e
   cases e
   exact ⟨v,List.getElem?_set_self (by rw [← r.len];exact hl),h⟩
  ·rw [List.getElem?_eq_none (by rw [List.length_set];omega)] at e
   cases e
 ·rw [List.getElem?_set_ne hj] at e ⊢
  exact r.get j y e
abbrev G2:=Hq × Hp
structure pS (K:PySem.W.Frag) (G:G2) (τ:Sr) (J:Hq) (σ:L2.St) (H:Hp):Prop where
 sl:ig K J H τ σ
 hp:Rep K J H
 ext:Ext K G.1 G.2 J H
section
variable (K:PySem.W.Frag) (G:G2)
def LE (t:cq):TE:=fun σ H Q=>∃ τ J Q2,pS K G τ J σ H∧t τ J Q2∧∀ x J' v H',bJ K J' H' x v→Rep K J' H'→Ext K J H J' H'→Q2 x J'→Q v H'
def LT (t:ik):TT:=fun σ H Q=>∃ τ J Q2,pS K G τ J σ H∧t τ J Q2∧∀ b J' H',Rep K J' H'→Ext K J H J' H'→Q2 b J'→Q b H'
def LA (t:kL):TA:=fun σ H Q=>∃ τ J Q2,pS K G τ J σ H∧t τ J Q2∧∀ xs J' vs H',aB K J' H' xs vs→Rep K J' H'→Ext K J H J' H'→Q2 xs J'→Q vs H'
structure Goes (J:Hq) (H:Hp) (D2:En) (D:Ends):Prop where
 nx:∀ τ J' σ H',ig K J' H' τ σ→Rep K J' H'→Ext K J H J' H'→D2.nx τ J'→D.nx σ H'
 rt:∀ x J' v H',bJ K J' H' x v→Rep K J' H'→Ext K J H J' H'→D2.rt x J'→D.rt v H'
 bk:∀ τ J' σ H',ig K J' H' τ σ→Rep K J' H'→Ext K J H J' H'→D2.bk τ J'→D.bk σ H'
 ct:∀ τ J' σ H',ig K J' H' τ σ→Rep K J' H'→Ext K J H J' H'→D2.ct τ J'→D.ct σ H'
def LS (t:fR):TS:=fun D σ H=>∃ τ J D2,pS K G τ J σ H∧t D2 τ J∧Goes K J H D2 D
end
theorem Goes.ext {K:PySem.W.Frag} {J J':Hq} {H H':Hp} {D2:En} {D:Ends} (g:Goes K J H D2 D) (e:Ext K J H J' H'):Goes K J' H' D2 D :=
 ⟨fun τ J1 σ H1 a b c=>g.nx τ J1 σ H1 a b (e.trans c),fun x J1 v H1 a b c=>g.rt x J1 v H1 a b (e.trans c),fun τ J1 σ H1 a b c=>g.bk τ J1 σ H1 a b (e.trans c),fun τ J1 σ H1 a b c=>g.ct τ J1 σ H1 a b (e.trans c)⟩
theorem pS.go {K:PySem.W.Frag} {G:G2} {τ:Sr} {J J':Hq} {σ:L2.St} {H H':Hp} (a:pS K G τ J σ H) (r:Rep K J' H') (e:Ext K J H J' H'):pS K G τ J' σ H':=⟨a.sl.ext e,r,a.ext.trans e⟩
structure RE (X:Cx) (G:G2) (e:Expr) (t:cq):Prop where
 run:L2.PE X e (LE X.K G t)
structure RT (X:Cx) (G:G2) (e:Expr) (t:ik):Prop where
 run:L2.PT X e (LT X.K G t)
structure RW (X:Cx) (G:G2) (e:Expr) (t:ik):Prop where
 run:L2.PW X e (LT X.K G t)
structure RA (X:Cx) (G:G2) (es:List Expr) (t:kL):Prop where
 run:L2.PA X es (LA X.K G t)
structure RS (X:Cx) (G:G2) (st:Stmt) (t:fR):Prop where
 run:L2.PS X st (LS X.K G t)
structure RB (X:Cx) (G:G2) (st:List Stmt) (t:fR):Prop where
 run:L2.m9 X st (LS X.K G t)
theorem hE {X:Cx} {e:Expr} {t t':TE} (h:L2.PE X e t) (k:∀ σ H Q,t' σ H Q→t σ H Q):L2.PE X e t':=fun pins s σ H Q I q=>h pins s σ H Q I (k _ _ _ q)
theorem GH {X:Cx} {e:Expr} {t t':TT} (h:L2.PT X e t) (k:∀ σ H Q,t' σ H Q→t σ H Q):L2.PT X e t':=fun pins s σ H Q I q=>h pins s σ H Q I (k _ _ _ q)
theorem IW {X:Cx} {e:Expr} {t t':TT} (h:L2.PW X e t) (k:∀ σ H Q,t' σ H Q→t σ H Q):L2.PW X e t':=fun wh pins s σ H Q I q=>h wh pins s σ H Q I (k _ _ _ q)
theorem HE {X:Cx} {e:List Expr} {t t':TA} (h:L2.PA X e t) (k:∀ σ H Q,t' σ H Q→t σ H Q):L2.PA X e t':=fun pos pins s σ H Q I q=>h pos pins s σ H Q I (k _ _ _ q)
theorem vh {X:Cx} {e:Stmt} {t t':TS} (h:L2.PS X e t) (k:∀ D σ H,t' D σ H→t D σ H):L2.PS X e t':=fun pins s σ H D I q=>h pins s σ H D I (k _ _ _ q)
theorem HX {X:Cx} {e:List Stmt} {t t':TS} (h:L2.m9 X e t) (k:∀ D σ H,t' D σ H→t D σ H):L2.m9 X e t':=fun pins s σ H D I q=>h pins s σ H D I (k _ _ _ q)
end Ov
namespace Ov
open PySem PySem.Spec PyProof.Rows
open L2 (V HO Hp Inv Cx VK XK TE TT TA TS TG lH TI TO g_ Ends qW Loc Gl Rd RelV Vals d_ rX b7 lp rW nR g8 R2 upd aA aH cR fz Sp mn It a7 cy bj Passes kM ay Meth Mk Binds aF bP au cK eZ)
section
variable {X:Cx} {G:G2} {a b c e o:Expr} {es rest:List Expr} {ta tb te tc to:cq} {tA tB':ik} {t:kL} {pos px p p2 apos cpos:Pos} {x:Str} {i j:Nat}
def jG (i:Nat):cq:=fun τ J Q=>∃ x,τ[i]?=some (some x)∧Q x J
theorem rv (i:Nat) {x:Str} {pos:Pos} (hN:X.N[i]?=some x:=by rfl) (hv:qW X.env.scope x:=by first | exact Or.inl rfl | exact Or.inr (Or.inl rfl) | exact Or.inr (Or.inr rfl)) (hd:(x == ("__debug__":Str))=false:=by decide)
  (hcd:(x == ("__classdict__":Str))=false:=by decide):RE X G (.Name x pos) (jG i) :=
 ⟨hE (L2.sE hN hv hd hcd) fun σ H Q ⟨τ,J,Q2,a2,⟨y,ey,q⟩,k⟩=>let ⟨v,e1,r⟩:=a2.sl.get i y ey;⟨v,e1,k y J v H r a2.hp .refl q⟩⟩
def rC (x:PV):cq:=fun _ J Q=>Q x J
theorem ag {i:Int} {j pos}:RE X G (.Constant (.int i) j pos) (rC (.int i)):=⟨hE L2.aD fun σ H Q ⟨τ,J,Q2,a2,q,k⟩=>k (.int i) J _ H rfl a2.hp .refl q⟩
theorem gC {b:Bool} {j pos}:RE X G (.Constant (.bool b) j pos) (rC (.bl b)):=⟨hE L2.rh fun σ H Q ⟨τ,J,Q2,a2,q,k⟩=>k (.bl b) J _ H rfl a2.hp .refl q⟩
theorem fu {j pos}:RE X G (.Constant .none j pos) (rC .non):=⟨hE L2.sF fun σ H Q ⟨τ,J,Q2,a2,q,k⟩=>k .non J _ H rfl a2.hp .refl q⟩
theorem bz {x:Str} {j pos}:RE X G (.Constant (.str x) j pos) (rC (.str x)):=⟨hE L2.jT fun σ H Q ⟨τ,J,Q2,a2,q,k⟩=>k (.str x) J _ H rfl a2.hp .refl q⟩
theorem d7 {v:V} {u:Value} (y:PV) (hg:Gl X x) (hm:X.mg x=some u) (r:RelV v u) (hr:∀ J H,bJ X.K J H y v) (hd:(x == ("__debug__":Str))=false:=by decide):RE X G (.Name x pos) (rC y) :=
 ⟨hE (L2.k9 hg hm r hd) fun σ H Q ⟨τ,J,Q2,a2,q,k⟩=>k y J v H (hr J H) a2.hp .refl q⟩
theorem nX {n:String} (hg:Gl X x) (hm:X.mg x=none) (hv:bootBuiltins x=some (.type n)) (hn:x≠"__name__":=by decide) (hd:(x == ("__debug__":Str))=false:=by decide):RE X G (.Name x pos) (rC (.ty n)) :=
 ⟨hE (L2.pj (v:=.ty n) hg hm hv rfl hn hd) fun σ H Q ⟨τ,J,Q2,a2,q,k⟩=>k (.ty n) J _ H rfl a2.hp .refl q⟩
abbrev iF:=PV→PV→Hq→(PV→Hq→Prop)→Prop
abbrev F_:=PV→Hq→(PV→Hq→Prop)→Prop
abbrev um:=List PV→Hq→(PV→Hq→Prop)→Prop
def Kn (K:PySem.W.Frag) (J:Hq) (H:Hp) (Q2:PV→Hq→Prop) (Q:VK):Prop:=∀ z J' u H',bJ K J' H' z u→Rep K J' H'→Ext K J H J' H'→Q2 z J'→Q u H'
def LR (K:PySem.W.Frag) (r:R2) (q:iF):Prop:=∀ J H x y v w Q2 Q,bJ K J H x v→bJ K J H y w→Rep K J H→q x y J Q2→Kn K J H Q2 Q→r v w H Q
def Jw (K:PySem.W.Frag) (r:V→Hp→VK→Prop) (q:F_):Prop:=∀ J H x v Q2 Q,bJ K J H x v→Rep K J H→q x J Q2→Kn K J H Q2 Q→r v H Q
def I8 (K:PySem.W.Frag) (r:List V→Hp→VK→Prop) (q:um):Prop:=∀ J H xs vs Q2 Q,aB K J H xs vs→Rep K J H→q xs J Q2→Kn K J H Q2 Q→r vs H Q
def iE (X:Cx) (f:Value→Value→Sem Value) (q:iF):Prop:=∃ r,d_ X f r∧LR X.K r q
def IV (X:Cx) (f:Value→Sem Value) (q:F_):Prop:=∃ r,rX X f r∧Jw X.K r q
def HW (X:Cx) (q:iF):Prop:=∃ r,lp X r∧LR X.K r q
def Dx (X:Cx) (f:Value) (q:um):Prop:=∃ r,b7 X f r∧I8 X.K r q
def tm (q:iF) (ta tb:cq):cq:=fun τ J Q=>ta τ J fun x J1=>tb τ J1 fun y J2=>q x y J2 Q
def IJ (q:F_) (ta:cq):cq:=fun τ J Q=>ta τ J fun x J1=>q x J1 Q
theorem kS {r:R2} {q:iF} (lr:LR X.K r q):∀ σ H Q,LE X.K G (tm q ta tb) σ H Q→L2.xF r (LE X.K G ta) (LE X.K G tb) σ H Q:=fun σ H Q ⟨τ,J,Q2,a2,h,k⟩ =>
 ⟨τ,J,_,a2,h,fun x J1 v H1 rx r1 e1 q1=>⟨τ,J1,_,a2.go r1 e1,q1,fun y J2 w H2 ry r2 e2 q2 =>
  lr J2 H2 x y v w Q2 Q (e2.rep rx) ry r2 q2 fun z J' u H' rz rr ee qq=>k z J' u H' rz rr ((e1.trans e2).trans ee) qq⟩⟩
theorem aP {op:Operator} {q:iF} (ho:iE X (binaryOp op) q) (ha:RE X G a ta) (hb:RE X G b tb):RE X G (.BinOp a op b pos) (tm q ta tb):=by
 obtain ⟨r,h,lr⟩:=ho
 exact ⟨hE (L2.aX h ha.run hb.run) (kS lr)⟩
theorem p_ {op:UnaryOp} {q:F_} (ho:IV X (unaryOp op) q) (ha:RE X G a ta):RE X G (.UnaryOp op a pos) (IJ q ta):=by
 obtain ⟨r,h,lr⟩:=ho
 exact ⟨hE (L2.vi h ha.run) fun σ H Q ⟨τ,J,Q2,a2,h,k⟩=>⟨τ,J,_,a2,h,fun x J1 v H1 rx r1 e1 q1 =>
  lr J1 H1 x v Q2 Q rx r1 q1 fun z J' u H' rz rr ee qq=>k z J' u H' rz rr (e1.trans ee) qq⟩⟩
theorem ar {q:iF} (hr:HW X q) (ha:RE X G a ta) (hb:RE X G b tb) (hs:cy b):RE X G (.Subscript a b pos) (tm q ta tb):=by
 obtain ⟨r,h,lr⟩:=hr
 exact ⟨hE (L2.bI h ha.run hb.run hs) (kS lr)⟩
theorem cZ {op:CmpOp} {q:iF} (ho:iE X (compareOp op) q) (ha:RE X G a ta) (hb:RE X G b tb) (hm:behindInMarks op b=false):RE X G (.Compare a [op] [b] pos) (tm q ta tb):=by
 obtain ⟨r,h,lr⟩:=ho
 exact ⟨hE (L2.kQ h ha.run hb.run hm) (kS lr)⟩
def rB (t:cq):ik:=fun τ J Q=>t τ J fun x J1=>∃ k,x=.bl k∧Q k J1
theorem aE {op:CmpOp} {q:iF} (ho:iE X (compareOp op) q) (ha:RE X G a ta) (hb:RE X G b tb) (hm:behindInMarks op b=false):RT X G (.Compare a [op] [b] pos) (rB (tm q ta tb)):=by
 obtain ⟨r,h,lr⟩:=ho
 refine ⟨GH (L2.cE h ha.run hb.run hm) fun σ H Q ⟨τ,J,Q2,a2,h,k⟩=>?_⟩
 refine kS lr σ H _ ⟨τ,J,_,a2,h,fun z J' u H' rz rr ee qq=>?_⟩
 obtain ⟨b,rfl,q⟩:=qq
 exact ⟨b,rz,k b J' H' rr ee q⟩
theorem bG (h:RE X G e te) (he:∀ whole,isTrue e X.env whole=(do let v ← whole;standAt e.pos;holding [v] (truthy v)):=by intro _;rfl):RT X G e (rB te) :=
 ⟨GH (L2.tF h.run he) fun σ H Q ⟨τ,J,Q2,a2,h,k⟩=>⟨τ,J,_,a2,h,fun z J' u H' rz rr ee ⟨b,eb,q⟩=>by subst eb;exact ⟨b,rz,k b J' H' rr ee q⟩⟩⟩
def o6 (J:Hq):PV→Option Bool
 | .non=>some false
 | .bl b=>some b
 | .int i=>some (i != 0)
 | .tup xs=>some (!xs.isEmpty)
 | .fl xs=>some (!xs.isEmpty)
 | .ref a=>match J a with
  | some (.lst xs)=>some (!xs.isEmpty)
  | some (.dct kvs _)=>some (!kvs.isEmpty)
  | _=>none
 | _=>none
theorem fm {α β:Type} {xs:List α} {ys:List β} (h:xs.length=ys.length):xs.isEmpty=ys.isEmpty:=by cases xs <;> cases ys <;> simp_all
theorem Ar {K:PySem.W.Frag} {J:Hq} {H:Hp} {x:PV} {v:V} {k:Bool} (r:bJ K J H x v) (hp:Rep K J H) (h:o6 J x=some k):L2.Dr K v H k:=by
 cases x with
 | non=>cases r;cases h;rfl
 | bl b=>cases r;cases h;rfl
 | int i=>cases r;cases h;rfl
 | str s=>cases h
 | ty n=>cases h
 | tup xs=>obtain ⟨a,vs,rfl,h1,h2⟩:=r;cases h;exact .inr (.inl ⟨vs,h1,by rw [fm h2.length]⟩)
 | fl xs=>obtain ⟨a,vs,rfl,h1,h2⟩:=r;cases h;exact .inl ⟨vs,h1.sq,by rw [fm h2.length]⟩
 | ref a =>
  cases r
  unfold o6 at h
  dsimp only at h
  cases e:J a with
  | none=>rw [e] at h;cases h
  | some o =>
   rw [e] at h
   have z:=hp a o e
   cases o with
   | lst xs=>obtain ⟨vs,h1,h2⟩:=z;cases h;exact .inl ⟨vs,.inl (.inl h1),by rw [fm h2.length]⟩
   | ins C fs=>cases h
   | tab=>cases h
   | dct kvs ep =>
    obtain ⟨gs,h1,h2⟩:=z;cases h
    refine .inr (.inr ⟨gs,ep,h1,?_⟩)
    have:=congrArg List.length h2.1
    simp only [List.length_map] at this
    rw [fm this]
def Gq (te:cq):ik:=fun τ J Q=>te τ J fun x J1=>∃ k,o6 J1 x=some k∧Q k J1
theorem D' (h:RE X G e te) (he:∀ whole,isTrue e X.env whole=(do let v ← whole;standAt e.pos;holding [v] (truthy v)):=by intro _;rfl):RT X G e (Gq te) :=
 ⟨GH (L2.zY h.run he) fun σ H Q ⟨τ,J,Q2,a2,h,k⟩=>⟨τ,J,_,a2,h,fun z J' u H' rz rr ee ⟨b,eb,q⟩=>⟨b,Ar rz rr eb,k b J' H' rr ee q⟩⟩⟩
def DF (t u:ik):ik:=fun τ J Q=>t τ J fun c J1=>if c=true then u τ J1 Q else Q false J1
def Ik (t u:ik):ik:=fun τ J Q=>t τ J fun c J1=>if c=true then Q true J1 else u τ J1 Q
def Gy (t:ik):ik:=fun τ J Q=>t τ J fun c J1=>Q (!c) J1
theorem cO (ha:RT X G a tA):RT X G (.UnaryOp .Not a pos) (Gy tA):=⟨GH (L2.sZ ha.run) fun σ H Q ⟨τ,J,Q2,a2,h,k⟩=>⟨τ,J,_,a2,h,fun b J' H' rr ee q=>k _ J' H' rr ee q⟩⟩
theorem dH (ha:RT X G a tA):RW X G (.BoolOp .And [a] pos) tA:=⟨L2.kI ha.run⟩
theorem gJ (ha:RT X G a tA):RW X G (.BoolOp .Or [a] pos) tA:=⟨L2.pK ha.run⟩
theorem xZ {σ:L2.St} {H:Hp} {Q:Bool→Hp→Prop}:LT X.K G (DF tA tB') σ H Q→L2.yK (LT X.K G tA) (LT X.K G tB') σ H Q:=fun ⟨τ,J,Q2,a2,h,k⟩ =>
 ⟨τ,J,_,a2,h,fun b J' H' rr ee q=>by
  cases b with
  | true=>simp only [if_true] at q ⊢;exact ⟨τ,J',Q2,a2.go rr ee,q,fun b J2 H2 r2 e2 q2=>k b J2 H2 r2 (ee.trans e2) q2⟩
  | false=>simp only [Bool.false_eq_true,if_false] at q ⊢;exact k _ J' H' rr ee q⟩
theorem BM {σ:L2.St} {H:Hp} {Q:Bool→Hp→Prop}:LT X.K G (Ik tA tB') σ H Q→L2.ET (LT X.K G tA) (LT X.K G tB') σ H Q:=fun ⟨τ,J,Q2,a2,h,k⟩ =>
 ⟨τ,J,_,a2,h,fun b J' H' rr ee q=>by
  cases b with
  | false=>simp only [Bool.false_eq_true,if_false] at q ⊢;exact ⟨τ,J',Q2,a2.go rr ee,q,fun b J2 H2 r2 e2 q2=>k b J2 H2 r2 (ee.trans e2) q2⟩
  | true=>simp only [if_true] at q ⊢;exact k _ J' H' rr ee q⟩
theorem eO (ha:RT X G a tA) (hb:RW X G (.BoolOp .And (b :: rest) pos) tB'):RW X G (.BoolOp .And (a :: b :: rest) pos) (DF tA tB'):=⟨IW (L2.oz ha.run hb.run) fun σ H Q h=>xZ h⟩
theorem iH (ha:RT X G a tA) (hb:RW X G (.BoolOp .Or (b :: rest) pos) tB'):RW X G (.BoolOp .Or (a :: b :: rest) pos) (Ik tA tB'):=⟨IW (L2.vI ha.run hb.run) fun σ H Q h=>BM h⟩
theorem du (h:RW X G e tA):RT X G e tA:=⟨h.run.pt⟩
def CG (ta tb:cq):cq:=fun τ J Q=>ta τ J fun x J1=>∃ c,x=.bl c∧if c=true then tb τ J1 Q else Q (.bl false) J1
def FQ (ta tb:cq):cq:=fun τ J Q=>ta τ J fun x J1=>∃ c,x=.bl c∧if c=true then Q (.bl true) J1 else tb τ J1 Q
def CC (ta:cq):cq:=fun τ J Q=>ta τ J fun x J1=>∃ c,x=.bl c∧Q (.bl (!c)) J1
theorem pq {op} (h:RE X G a ta):RE X G (.BoolOp op [a] pos) ta:=⟨L2.se h.run⟩
theorem tu (ha:RE X G a ta) (hb:RE X G (.BoolOp .And (b :: rest) pos) tb):RE X G (.BoolOp .And (a :: b :: rest) pos) (CG ta tb):=⟨hE (L2.rZ ha.run hb.run) fun σ H Q ⟨τ,J,Q2,a2,h,k⟩ =>
 ⟨τ,J,_,a2,h,fun x J' v H' rx rr ee ⟨c,ec,q⟩=>by
  subst ec
  refine ⟨c,rx,?_⟩
  cases c with
  | true=>simp only [if_true] at q ⊢;exact ⟨τ,J',Q2,a2.go rr ee,q,fun z J2 u H2 rz r2 e2 q2=>k z J2 u H2 rz r2 (ee.trans e2) q2⟩
  | false=>simp only [Bool.false_eq_true,if_false] at q ⊢;exact k (.bl false) J' _ H' rfl rr ee q⟩⟩
theorem E8 (ha:RE X G a ta) (hb:RE X G (.BoolOp .Or (b :: rest) pos) tb):RE X G (.BoolOp .Or (a :: b :: rest) pos) (FQ ta tb):=⟨hE (L2.xD ha.run hb.run) fun σ H Q ⟨τ,J,Q2,a2,h,k⟩ =>
 ⟨τ,J,_,a2,h,fun x J' v H' rx rr ee ⟨c,ec,q⟩=>by
  subst ec
  refine ⟨c,rx,?_⟩
  cases c with
  | false=>simp only [Bool.false_eq_true,if_false] at q ⊢;exact ⟨τ,J',Q2,a2.go rr ee,q,fun z J2 u H2 rz r2 e2 q2=>k z J2 u H2 rz r2 (ee.trans e2) q2⟩
  | true=>simp only [if_true] at q ⊢;exact k (.bl true) J' _ H' rfl rr ee q⟩⟩
theorem Dy (ha:RE X G a ta):RE X G (.UnaryOp .Not a pos) (CC ta):=⟨hE (L2.sD ha.run) fun σ H Q ⟨τ,J,Q2,a2,h,k⟩ =>
 ⟨τ,J,_,a2,h,fun x J' v H' rx rr ee ⟨c,ec,q⟩=>by subst ec;exact ⟨c,rx,k (.bl (!c)) J' _ H' rfl rr ee q⟩⟩⟩
def I_ (t:ik) (ta tb:cq):cq:=fun τ J Q=>t τ J fun c J1=>if c=true then ta τ J1 Q else tb τ J1 Q
theorem Cu (hc:RT X G c tA) (ha:RE X G a ta) (hb:RE X G b tb):RE X G (.IfExp c a b pos) (I_ tA ta tb):=⟨hE (L2.l6 hc.run ha.run hb.run) fun σ H Q ⟨τ,J,Q2,a2,h,k⟩ =>
 ⟨τ,J,_,a2,h,fun c J' H' rr ee q=>by
  cases c with
  | true=>simp only [if_true] at q ⊢;exact ⟨τ,J',Q2,a2.go rr ee,q,fun z J2 u H2 rz r2 e2 q2=>k z J2 u H2 rz r2 (ee.trans e2) q2⟩
  | false=>simp only [Bool.false_eq_true,if_false] at q ⊢;exact ⟨τ,J',Q2,a2.go rr ee,q,fun z J2 u H2 rz r2 e2 q2=>k z J2 u H2 rz r2 (ee.trans e2) q2⟩⟩⟩
def qN:kL:=fun _ J Q=>Q [] J
def j9 (ta:cq) (tr:kL):kL:=fun τ J Q=>ta τ J fun x J1=>tr τ J1 fun xs J2=>Q (x :: xs) J2
theorem ah:RA X G [] qN:=⟨HE L2.bh fun σ H Q ⟨τ,J,Q2,a2,h,k⟩=>k [] J [] H rfl a2.hp .refl h⟩
theorem af (ha:RE X G e te) (hr:RA X G es t) (hs:starEach (e :: es) X.env=(false,eval e X.env) :: starEach es X.env:=by rfl):RA X G (e :: es) (j9 te t) :=
 ⟨HE (L2.aJ ha.run hr.run hs) fun σ H Q ⟨τ,J,Q2,a2,h,k⟩=>⟨τ,J,_,a2,h,fun x J' v H' rx rr ee q=>⟨τ,J',_,a2.go rr ee,q,fun xs J2 vs H2 rs r2 e2 q2=>k (x :: xs) J2 (v :: vs) H2 ⟨v,vs,rfl,e2.rep rx,rs⟩ r2 (ee.trans e2) q2⟩⟩⟩
def vP:V→PV
 | .non=>.non | .bl b=>.bl b | .int i=>.int i | .str x=>.str x | _=>.non
theorem lP {K:PySem.W.Frag} {J:Hq} {H:Hp}:∀ {es:List Expr} {vs:List V},es.map pR=vs.map some→aB K J H (vs.map vP) vs
 | [],[],_=>rfl
 | [],_ :: _,h=>by cases h
 | _ :: _,[],h=>by cases h
 | e :: es,v :: vs,h=>by
  rw [List.map_cons,List.map_cons] at h
  injection h with h1 h2
  refine ⟨v,vs,rfl,?_,lP h2⟩
  cases e with
  | Constant c j pos =>
   cases c with
   | int i=>cases h1;rfl
   | str x=>cases h1;rfl
   | bool b=>cases h1;rfl
   | _=>cases h1
  | _=>cases h1
theorem r_ {es:List Expr} (vs:List V) (h:es.map pR=vs.map some) (xs:List PV) (hx:vs.map vP=xs):RA X G es (fun _ J Q=>Q xs J) :=
 ⟨HE (mh vs h) fun σ H Q ⟨τ,J,Q2,a2,q,k⟩=>k _ J _ H (by rw [← hx];exact lP h) a2.hp .refl q⟩
def GS (t:kL):cq:=fun τ J Q=>t τ J fun xs J1=>xs.length≤sizeLine∧Q (.tup xs) J1
theorem cv {x1} (h:RA X G es t):RE X G (.Tuple es x1 pos) (GS t):=⟨hE (L2.lA h.run) fun σ H Q ⟨τ,J,Q2,a2,h,k⟩=>⟨τ,J,_,a2,h,fun xs J' vs H' rs rr ee ⟨hl,q⟩ =>
 ⟨by rw [← rs.length];exact hl,fun p hp=>by
  have sm:=a7.new hp (.tup vs)
  have e2:=Ext.same (K:=X.K) (J:=J') sm
  exact k (.tup xs) J' (.ref p) _ ⟨p,vs,rfl,.inl (.inl aA),e2.gh rs⟩ (rr.same sm) (ee.trans e2) q⟩⟩⟩
def Gh (t:kL):cq:=fun τ J Q=>t τ J fun xs J1=>xs.length≤sizeLine∧∀ p,J1 p=none→Q (.ref p) (put J1 p (.lst xs))
theorem jY (h:RA X G es t):RE X G (.List es pos) (Gh t):=⟨hE (L2.gA h.run) fun σ H Q ⟨τ,J,Q2,a2,h,k⟩=>⟨τ,J,_,a2,h,fun xs J' vs H' rs rr ee ⟨hl,q⟩ =>
 ⟨by rw [← rs.length];exact hl,fun p hp=>k (.ref p) _ (.ref p) _ rfl (rr.xG hp rs) (ee.trans (.laid hp)) (q p (rr.free hp))⟩⟩⟩
def Je (t:kL):cq:=fun τ J Q=>t τ J fun xs J1=>xs.length≤sizeLine∧Q (.fl xs) J1
theorem sk {K:PySem.W.Frag} {J:Hq} {H:Hp} {xs:List PV} {vs:List V} {p:Addr} (rr:Rep K J H) (rs:aB K J H xs vs) (hp:H p=none):bJ K J (upd H p (.lst vs)) (.fl xs) (.ref p)∧Rep K J (upd H p (.lst vs))∧Ext K J H J (upd H p (.lst vs)):=by
 have sm:=a7.new hp (.lst vs)
 have e2:=Ext.same (K:=K) (J:=J) sm
 exact ⟨⟨p,vs,rfl,.inl ⟨rr.free hp,.inl aA⟩,e2.gh rs⟩,rr.same sm,e2⟩
theorem qT (h:RA X G es t):RE X G (.List es pos) (Je t):=⟨hE (L2.gA h.run) fun σ H Q ⟨τ,J,Q2,a2,h,k⟩=>⟨τ,J,_,a2,h,fun xs J' vs H' rs rr ee ⟨hl,q⟩ =>
 ⟨by rw [← rs.length];exact hl,fun p hp=>let ⟨x1,x2,x3⟩:=sk rr rs hp;k (.fl xs) _ (.ref p) _ x1 x2 (ee.trans x3) q⟩⟩⟩
abbrev EF:=Sr→Hq→(Option Int→Hq→Prop)→Prop
def LO (K:PySem.W.Frag) (G:G2) (t:EF):TO:=fun σ H Q=>∃ τ J Q2,pS K G τ J σ H∧t τ J Q2∧∀ b J' H',Rep K J' H'→Ext K J H J' H'→Q2 b J'→Q b H'
structure RO (X:Cx) (G:G2) (e:Option Expr) (t:EF):Prop where
 run:L2.PO X e (LO X.K G t)
theorem Jl {X:Cx} {e:Option Expr} {t t':TO} (h:L2.PO X e t) (k:∀ σ H Q,t' σ H Q→t σ H Q):L2.PO X e t':=fun pins s σ H Q I q=>h pins s σ H Q I (k _ _ _ q)
def uO:EF:=fun _ J Q=>Q none J
def CU (t:cq):EF:=fun τ J Q=>t τ J fun x J1=>∃ i,x=.int i∧Q (some i) J1
theorem kO:RO X G none uO:=⟨Jl L2.kU fun σ H Q ⟨τ,J,Q2,a2,h,k⟩=>k none J H a2.hp .refl h⟩
theorem kG (h:RE X G e te):RO X G (some e) (CU te):=⟨Jl (L2.g7 h.run) fun σ H Q ⟨τ,J,Q2,a2,h,k⟩=>⟨τ,J,_,a2,h,fun x J' v H' rx rr ee ⟨i,ei,q⟩=>by subst ei;exact ⟨i,rx,k _ J' H' rr ee q⟩⟩⟩
abbrev wO:=PV→Option Int→Option Int→Hq→(PV→Hq→Prop)→Prop
def IH (X:Cx) (q:wO):Prop:=∃ r,rW X r∧∀ J H x lo hi v Q2 Q,bJ X.K J H x v→Rep X.K J H→q x lo hi J Q2→Kn X.K J H Q2 Q→r v lo hi H Q
def IM (q:wO) (te:cq) (tl th:EF):cq:=fun τ J Q=>te τ J fun x J1=>tl τ J1 fun l J2=>th τ J2 fun u J3=>q x l u J3 Q
theorem iS {lo hi:Option Expr} {tl th:EF} {q:wO} (hr:IH X q) (he:RE X G e te) (hl:RO X G lo tl) (hu:RO X G hi th):RE X G (.Subscript e (.Slice lo hi none p2) pos) (IM q te tl th):=by
 obtain ⟨r,h,lr⟩:=hr
 exact ⟨hE (L2.gF h he.run hl.run hu.run) fun σ H Q ⟨τ,J,Q2,a2,h,k⟩=>⟨τ,J,_,a2,h,fun x J' v H' rx rr ee q1=>⟨τ,J',_,a2.go rr ee,q1,fun l J2 H2 r2 e2 q2 =>
  ⟨τ,J2,_,a2.go r2 (ee.trans e2),q2,fun u J3 H3 r3 e3 q3=>lr J3 H3 x l u v Q2 Q ((e2.trans e3).rep rx) r3 q3 fun z J4 w H4 rz r4 e4 q4=>k z J4 w H4 rz r4 (((ee.trans e2).trans e3).trans e4) q4⟩⟩⟩⟩
def GZ (q:um) (t:kL):cq:=fun τ J Q=>t τ J fun xs J1=>q xs J1 Q
theorem ub {r:List V→Hp→VK→Prop} {q:um} (lr:I8 X.K r q):∀ σ H Q,LE X.K G (GZ q t) σ H Q→L2.Cq r (LA X.K G t) σ H Q:=fun σ H Q ⟨τ,J,Q2,a2,h,k⟩ =>
 ⟨τ,J,_,a2,h,fun xs J1 vs H1 rs r1 e1 q1=>lr J1 H1 xs vs Q2 Q rs r1 q1 fun z J' u H' rz rr ee qq=>k z J' u H' rz rr (e1.trans ee) qq⟩
theorem aK {id:String} {q:um} (hc:Dx X (.builtin id) q) (hg:Gl X x) (hm:X.mg x=none) (hv:bootBuiltins x=some (.builtin id)) (ha:RA X G (e :: es) t) (hn:x≠"__name__":=by decide) (hdb:(x == ("__debug__":Str))=false:=by decide)
  (he:starEach (e :: es) X.env=(false,eval e X.env) :: starEach es X.env:=by rfl) (hpl:(backTo pos (starEach es X.env)).any (·.1)=false:=by rfl):RE X G (.Call (.Name x p) (e :: es) [] pos) (GZ q t):=by
 obtain ⟨r,h,lr⟩:=hc
 exact ⟨hE (L2.cS h hg hm hv ha.run hn hdb he hpl) (ub lr)⟩
theorem g6 {T:String} {q:um} (hc:Dx X (.type T) q) (hg:Gl X x) (hm:X.mg x=none) (hv:bootBuiltins x=some (.type T)) (ha:RA X G (e :: es) t) (hn:x≠"__name__":=by decide) (hdb:(x == ("__debug__":Str))=false:=by decide)
  (he:starEach (e :: es) X.env=(false,eval e X.env) :: starEach es X.env:=by rfl) (hpl:(backTo pos (starEach es X.env)).any (·.1)=false:=by rfl):RE X G (.Call (.Name x p) (e :: es) [] pos) (GZ q t):=by
 obtain ⟨r,h,lr⟩:=hc
 exact ⟨hE (L2.jJ h hg hm hv ha.run hn hdb he hpl) (ub lr)⟩
abbrev xk:=PV→List PV→Hq→(PV→Hq→Prop)→Prop
def Cz (X:Cx) (T id:String) (q:xk):Prop:=∃ r,nR X id r∧∀ J H x xs v vs Q2 Q,bJ X.K J H x v→aB X.K J H xs vs→Rep X.K J H→q x xs J Q2→Kn X.K J H Q2 Q→r v vs H Q
def EM (T:String) (J:Hq):PV→Prop
 | .str _=>T="str"
 | .fl _=>T="list"
 | .ref a=>(T="list"∧∃ xs,J a=some (.lst xs))∨(T="dict"∧∃ kvs ep,J a=some (.dct kvs ep))
 | _=>False
theorem t4 {K:PySem.W.Frag} {T:String} {J:Hq} {H:Hp} {x:PV} {v:V} (r:bJ K J H x v) (hp:Rep K J H) (h:EM T J x):L2.Hd K T v H:=by
 cases x with
 | str s=>cases r;exact h
 | fl xs=>obtain ⟨a,vs,rfl,h1,h2⟩:=r;exact .inl ⟨h,vs,h1.sq⟩
 | ref a =>
  cases r
  rcases h with ⟨h,xs,e⟩ | ⟨h,kvs,ep,e⟩
  ·obtain ⟨vs,h1,_⟩:=hp _ _ e;exact .inl ⟨h,vs,.inl (.inl h1)⟩
  ·obtain ⟨gs,h1,_⟩:=hp _ _ e;exact .inr (.inr (.inl ⟨h,.inr ⟨gs,ep,h1⟩⟩))
 | _=>cases h
def HK (T:String) (q:xk) (to:cq) (t:kL):cq:=fun τ J Q=>to τ J fun x J1=>EM T J1 x∧t τ J1 fun xs J2=>q x xs J2 Q
def FI (T:String) (q:xk) (to:cq):cq:=fun τ J Q=>to τ J fun x J1=>EM T J1 x∧q x [] J1 Q
theorem jc {name:Str} {T id:String} {q:xk} (pa:PlainAttrs T) (slot:Slot T name id) (hty:typeOf (.builtin id)=pure (.type "method_descriptor")) (hm:Cz X T id q) (ho:RE X G o to) (ha:RA X G (e :: es) t)
  (hbase:attributeBase o name X.env (eval o X.env)=eval o X.env:=by rfl)
  (hfew:((backTo cpos (starEach (e :: es) X.env)).all (fun x=>!x.1) && (backToKw cpos (keywordEach [] X.env)).all (fun x=>x.1.isSome)
   && decide ((e :: es).length + ([]:List Keyword).length + (if ([]:List Keyword).isEmpty then 0 else 1) < 30))=true:=by rfl)
  (hline:(apos.endLine == cpos.line)=true:=by rfl) (hs:starEach (e :: es) X.env=(false,eval e X.env) :: starEach es X.env:=by rfl) (hplain:(backTo cpos (starEach es X.env)).any (·.1)=false:=by rfl) :
  RE X G (.Call (.Attribute o name apos) (e :: es) [] cpos) (HK T q to t):=by
 obtain ⟨r,h,lr⟩:=hm
 exact ⟨hE (L2.lO pa slot hty h ho.run ha.run hbase hfew hline hs hplain) fun σ H Q ⟨τ,J,Q2,a2,h,k⟩=>⟨τ,J,_,a2,h,fun x J1 v H1 rx r1 e1 ⟨ty,q1⟩=>⟨t4 rx r1 ty,τ,J1,_,a2.go r1 e1,q1,fun xs J2 vs H2 rs r2 e2 q2 =>
  lr J2 H2 x xs v vs Q2 Q (e2.rep rx) rs r2 q2 fun z J' u H' rz rr ee qq=>k z J' u H' rz rr ((e1.trans e2).trans ee) qq⟩⟩⟩
theorem DB {name:Str} {T id:String} {q:xk} (pa:PlainAttrs T) (slot:Slot T name id) (hty:typeOf (.builtin id)=pure (.type "method_descriptor")) (hm:Cz X T id q) (ho:RE X G o to)
  (hbase:attributeBase o name X.env (eval o X.env)=eval o X.env:=by rfl) (hline:(apos.endLine == cpos.line)=true:=by rfl):RE X G (.Call (.Attribute o name apos) [] [] cpos) (FI T q to):=by
 obtain ⟨r,h,lr⟩:=hm
 exact ⟨hE (L2.Dg pa slot hty h ho.run hbase hline) fun σ H Q ⟨τ,J,Q2,a2,h,k⟩=>⟨τ,J,_,a2,h,fun x J1 v H1 rx r1 e1 ⟨ty,q1⟩=>⟨t4 rx r1 ty,
  lr J1 H1 x [] v [] Q2 Q rx rfl r1 q1 fun z J' u H' rz rr ee qq=>k z J' u H' rz rr (e1.trans ee) qq⟩⟩⟩
end
end Ov
namespace Ov
open PySem PySem.Spec PyProof.Rows
open L2 (V HO Hp Inv Cx VK XK TE TT TA TS TG lH TI TO g_ Ends qW Loc Gl Rd RelV Vals d_ rX b7 lp rW nR g8 R2 upd aA aH cR fz Sp mn It a7 cy bj Passes kM ay Meth Mk Binds aF bP au cK eZ dy)
abbrev bX:=List PV→Hq→(PV→Hq→Prop)→(Addr→Hq→Prop)→Prop
def EI (K:PySem.W.Frag) (J:Hq) (H:Hp) (E2:Addr→Hq→Prop) (E:XK):Prop:=∀ c J' H',Rep K J' H'→Ext K J H J' H'→E2 c J'→E (.ref c) none H'
def c9 (K:PySem.W.Frag) (sp:bX):Sp:=fun vs H Q E=>∃ xs J Q2 E2,aB K J H xs vs∧Rep K J H∧sp xs J Q2 E2∧Kn K J H Q2 Q∧EI K J H E2 E
theorem EI.ext {K:PySem.W.Frag} {J J':Hq} {H H':Hp} {E2:Addr→Hq→Prop} {E:XK} (k:EI K J H E2 E) (e:Ext K J H J' H'):EI K J' H' E2 E:=fun c J1 H1 r x q=>k c J1 H1 r (e.trans x) q
theorem _root_.L2.aF.JA {P:Program} {w:World} {K:PySem.W.Frag} {mg:Str→Option Value} {base:Heap} {k:Nat} {f:Addr} {fd:FuncData} {ps:List Str} {sp:Sp} (F:aF P w K mg base L2.lW k f fd ps sp):aF P w K mg base (cx P w) k f fd ps sp :=
 ⟨F.len,fun A outer s H args us vs Q E hr he hb hv hs=>codeAny_mono (F.run A outer s H args us vs Q E hr he hb hv hs) fun r s' q=>by
  cases r with
  | error e=>exact False.elim q
  | ok fl=>cases fl <;> exact q⟩
theorem _root_.L2.aF.F7 {P:Program} {w:World} {K:PySem.W.Frag} {mg:Str→Option Value} {base:Heap} {k:Nat} {f:Addr} {fd:FuncData} {ps:List Str} {sp:Sp} (F:aF P w K mg base (cx P w) k f fd ps sp):aF P w K mg base L2.lW k f fd ps (fun vs H Q _=>sp vs H Q L2.E0) :=
 ⟨fun vs H Q E q=>F.len vs H Q _ q,fun A outer s H args us vs Q E hr he hb hv hs=>codeAny_mono (F.run A outer s H args us vs Q _ hr he hb hv hs) fun r s' q=>by
  cases r with
  | error e=>obtain ⟨_,_,_,_,_,z⟩:=q;exact z.elim
  | ok fl=>cases fl <;> exact q⟩
def ba (P:Program) (w:World) (K:PySem.W.Frag) (mg:Str→Option Value) (base:Heap) (k:Nat) (x:Str) (ps:List Str) (sp:bX):Prop:=Dj P w K mg base k x ps (c9 K sp)
theorem ba.imp {P:Program} {w:World} {K:PySem.W.Frag} {mg:Str→Option Value} {base:Heap} {k:Nat} {x:Str} {ps:List Str} {sp sp':bX} (C:ba P w K mg base k x ps sp) (h:∀ xs J Q E,sp' xs J Q E→sp xs J Q E):ba P w K mg base k x ps sp':=by
 obtain ⟨f,fd,F,r⟩:=C
 exact ⟨f,fd,F.imp fun vs H Q E ⟨xs,J,Q2,E2,a,b,c,d⟩=>⟨xs,J,Q2,E2,a,b,h _ _ _ _ c,d⟩,r⟩
theorem _root_.Ov.my.lift {P:Program} {w:World} {K:PySem.W.Frag} {mg:Str→Option Value} {base:Heap} {k:Nat} {x:Str} {ps:List Str} {sp:Sp} (C:my P w K mg base k x ps sp) {sp':bX}
  (h:∀ xs J vs H Q2 E2 Q E,aB K J H xs vs→Rep K J H→sp' xs J Q2 E2→Kn K J H Q2 Q→sp vs H Q E):ba P w K mg base k x ps sp':=by
 obtain ⟨f,fd,F,r⟩:=C
 exact ⟨f,fd,(F.JA).imp fun vs H Q E ⟨xs,J,Q2,E2,a,b,c,d,_⟩=>h xs J vs H Q2 E2 Q E a b c d,r⟩
section
variable {X:Cx} {G:G2} {a b c e o value:Expr} {es rest:List Expr} {ta tb te tc to tv:cq} {tA tB':ik} {t:kL} {pos px p p2 apos cpos pos':Pos} {x:Str} {i j:Nat} {E:XK} {E2:Addr→Hq→Prop}
structure Aa (X:Cx) (G:G2) (E2:Addr→Hq→Prop) (E:XK):Prop where
 pass:Passes (cx X.prog X.w) X E
 kn:EI X.K G.1 G.2 E2 E
def uY (sp:bX) (E2:Addr→Hq→Prop) (t:kL):cq:=fun τ J Q=>t τ J fun xs J1=>sp xs J1 Q E2
theorem aR {k k':Nat} {ps:List Str} {sp:bX} (C:ba X.prog X.w X.K X.mg X.base k x ps sp) (B:Aa X G E2 E) (hr:bj k' X.A) (hk:k≤k') (hg:Gl X x) (ha:RA X G (e :: es) t)
  (hdb:(x == ("__debug__":Str))=false:=by decide) (he:starEach (e :: es) X.env=(false,eval e X.env) :: starEach es X.env:=by rfl) (hpl:(backTo pos (starEach es X.env)).any (·.1)=false:=by rfl) :
  RE X G (.Call (.Name x p) (e :: es) [] pos) (uY sp E2 t) :=
 ⟨hE (BA C B.pass hr hk hg ha.run hdb he hpl) fun σ H Q ⟨τ,J,Q2,a2,h,k⟩=>⟨τ,J,_,a2,h,fun xs J1 vs H1 rs r1 e1 q1=>by
  simp only [List.append_nil]
  exact ⟨xs,J1,Q2,E2,rs,r1,q1,fun z J' u H' rz rr ee qq=>k z J' u H' rz rr (e1.trans ee) qq,B.kn.ext (a2.ext.trans e1)⟩⟩⟩
def GR (C:Addr) (ta:cq) (f:Str):cq:=fun τ J Q=>ta τ J fun x J1=>∃ a fs v,x=.ref a∧J1 a=some (.ins C fs)∧fs.lookup f=some v∧Q v J1
theorem aO {C:Addr} {f:Str} (cl:kM X.K C) (na:ay X.K C f) (he:RE X G e ta) (hb:attributeBase e f X.env (eval e X.env)=eval e X.env:=by rfl):RE X G (.Attribute e f pos) (GR C ta f) :=
 ⟨hE (L2.Ex he.run hb) fun σ H Q ⟨τ,J,Q2,a2,h,k⟩=>⟨τ,J,_,a2,h,fun x J1 v H1 rx r1 e1 ⟨a,fs,y,ex,ja,lk,q⟩=>by
  subst ex;cases rx
  obtain ⟨dx,gs,ha,rf⟩:=r1 _ _ ja
  obtain ⟨w,lw,rw'⟩:=rf.look lk
  exact ⟨a,C,dx,gs,w,rfl,ha,cl,na,lw,k y J1 w H1 rw' r1 e1 q⟩⟩⟩
structure b9 (P:Program) (w:World) (K:PySem.W.Frag) (mg:Str→Option Value) (base:Heap) (C:Addr) (k:Nat) (m:Str) (ps:List Str) (sp:bX):Prop where
 cl:kM K C
 ex:∃ f fd,Meth K C m f∧aF P w K mg base (cx P w) k f fd ps (c9 K sp)∧Binds K fd ps []
theorem b9.imp {P:Program} {w:World} {K:PySem.W.Frag} {mg:Str→Option Value} {base:Heap} {C:Addr} {k:Nat} {m:Str} {ps:List Str} {sp sp':bX} (M:b9 P w K mg base C k m ps sp) (h:∀ xs J Q E,sp' xs J Q E→sp xs J Q E):b9 P w K mg base C k m ps sp':=by
 obtain ⟨cl,f,fd,hm,F,r⟩:=M
 exact ⟨cl,f,fd,hm,F.imp fun vs H Q E ⟨xs,J,Q2,E2,a,b,c,d⟩=>⟨xs,J,Q2,E2,a,b,h _ _ _ _ c,d⟩,r⟩
def Ai (C:Addr) (m:Str) (sp:bX) (E2:Addr→Hq→Prop) (ta:cq) (t:kL):cq:=fun τ J Q=>ta τ J fun x J1=>∃ a fs,x=.ref a∧J1 a=some (.ins C fs)∧fs.lookup m=none∧t τ J1 fun xs J2=>sp (x :: xs) J2 Q E2
theorem qi {C:Addr} {m:Str} {sp:bX} (B:Aa X G E2 E):∀ σ H Q,LE X.K G (Ai C m sp E2 to t) σ H Q→L2.xE C m (c9 X.K sp) [] E (LE X.K G to) (LA X.K G t) σ H Q:=fun σ H Q ⟨τ,J,Q2,a2,h,k⟩ =>
 ⟨τ,J,_,a2,h,fun x J1 v H1 rx r1 e1 ⟨a,fs,ex,ja,lk,q⟩=>by
  subst ex;cases rx
  obtain ⟨dx,gs,ha,rf⟩:=r1 _ _ ja
  refine ⟨a,dx,gs,rfl,ha,rf.none lk,τ,J1,_,a2.go r1 e1,q,fun xs J2 vs H2 rs r2 e2 q2=>?_⟩
  simp only [List.append_nil]
  exact ⟨.ref a :: xs,J2,Q2,E2,⟨.ref a,vs,rfl,rfl,rs⟩,r2,q2,fun z J' u H' rz rr ee qq=>k z J' u H' rz rr ((e1.trans e2).trans ee) qq,B.kn.ext ((a2.ext.trans e1).trans e2)⟩⟩
theorem a8 {C:Addr} {m:Str} {k k':Nat} {ps:List Str} {sp:bX} {pl:Sem Bool} (M:b9 X.prog X.w X.K X.mg X.base C k m ps sp) (B:Aa X G E2 E) (hr:bj k' X.A) (hk:k≤k') (ho:RE X G o to) (ha:RA X G (e :: es) t)
  (hst:starEach (e :: es) X.env=(false,eval e X.env) :: starEach es X.env:=by rfl) (hpl:(backTo pos (starEach es X.env)).any (·.1)=false:=by rfl)
  (ht:eval (.Call (.Attribute o m apos) (e :: es) [] pos) X.env=(do
   let ov ← eval o X.env
   standAt apos.atName
   let (f,first) ← holding [ov] (getMethod ov m pl)
   callWith pos f first (backTo pos (starEach (e :: es) X.env)) (backToKw pos (keywordEach [] X.env))):=by rfl) :
  RE X G (.Call (.Attribute o m apos) (e :: es) [] pos) (Ai C m sp E2 to t):=by
 obtain ⟨cl,f,fd,hm,F,b⟩:=M
 exact ⟨hE (L2.BN (pl:=pl) ho.run cl hm F (hr.mono hk) b .nil B.pass ha.run hst hpl ht) (qi B)⟩
theorem dQ {C:Addr} {m:Str} {k k':Nat} {ps:List Str} {sp:bX} {pl:Sem Bool} (M:b9 X.prog X.w X.K X.mg X.base C k m ps sp) (B:Aa X G E2 E) (hr:bj k' X.A) (hk:k≤k') (ho:RE X G o to)
  (ht:eval (.Call (.Attribute o m apos) [] [] pos) X.env=(do
   let ov ← eval o X.env
   standAt apos.atName
   let (f,first) ← holding [ov] (getMethod ov m pl)
   callWith pos f first (backTo pos (starEach [] X.env)) (backToKw pos (keywordEach [] X.env))):=by rfl) :
  RE X G (.Call (.Attribute o m apos) [] [] pos) (Ai C m sp E2 to qN):=by
 obtain ⟨cl,f,fd,hm,F,b⟩:=M
 refine ⟨hE (L2.yj (pl:=pl) ho.run cl hm F (hr.mono hk) b .nil B.pass ht) fun σ H Q h=>?_⟩
 have z:=qi B σ H Q h
 obtain ⟨τ,J,Q2,a2,h1,k1⟩:=z
 refine ⟨τ,J,Q2,a2,h1,fun x J1 v H1 rx r1 e1 q1=>?_⟩
 obtain ⟨a,dx,fs,h2,h3,h4,τ',J',Q',a2',h5,k5⟩:=k1 x J1 v H1 rx r1 e1 q1
 exact ⟨a,dx,fs,h2,h3,h4,k5 [] J' [] H1 rfl a2'.hp .refl h5⟩
structure wd (P:Program) (w:World) (K:PySem.W.Frag) (mg:Str→Option Value) (base:Heap) (C:Addr) (k:Nat) (x:Str) (ps:List Str) (sp:bX):Prop where
 m:mg x=some (.ref C)
 ex:∃ f fd,Mk K C f∧aF P w K mg base (cx P w) k f fd ps (c9 K sp)∧Binds K fd ps []
def B5 (C:Addr) (sp:bX) (E2:Addr→Hq→Prop) (t:kL):cq:=fun τ J Q=>t τ J fun xs J1=>∀ a,J1 a=none→sp (.ref a :: xs) (put J1 a (.ins C [])) (fun v J2=>v=.non∧Q (.ref a) J2) E2
theorem qp {C:Addr} {sp:bX} (B:Aa X G E2 E):∀ σ H Q,LE X.K G (B5 C sp E2 t) σ H Q→L2.x6 C (c9 X.K sp) [] E (LA X.K G t) σ H Q:=fun σ H Q ⟨τ,J,Q2,a2,h,k⟩ =>
 ⟨τ,J,_,a2,h,fun xs J1 vs H1 rs r1 e1 q1 x dx hx hdx ne=>by
  have s1:=a7.new hdx (.own x)
  have hx':upd H1 dx (.own x) x=none:=by rw [aH (Ne.symm ne)];exact hx
  have r2:=r1.same s1
  have e2:Ext X.K J1 H1 (put J1 x (.ins C [])) (upd (upd H1 dx (.own x)) x (.ins C dx [])):=(Ext.same s1).trans (.laid hx')
  have r3:Rep X.K (put J1 x (.ins C [])) (upd (upd H1 dx (.own x)) x (.ins C dx [])):=r2.vN (.laid hx') x (fun a ne=>aq ne) (fun a o ne _ z=>by rw [aH ne];exact z) fun u z=>by
   rw [av] at z;cases z
   exact ⟨dx,[],aA,rfl,rfl⟩
  simp only [List.append_nil]
  refine ⟨.ref x :: xs,_,_,E2,⟨.ref x,vs,rfl,rfl,e2.gh rs⟩,r3,q1 x (r1.free hx),fun z J' u H' rz rr ee ⟨ez,qq⟩=>?_,B.kn.ext ((a2.ext.trans e1).trans e2)⟩
  subst ez
  exact ⟨rz,k (.ref x) J' (.ref x) H' rfl rr ((e1.trans e2).trans ee) qq⟩⟩
theorem Aj {C:Addr} {k k':Nat} {ps:List Str} {sp:bX} (M:wd X.prog X.w X.K X.mg X.base C k x ps sp) (B:Aa X G E2 E) (hr:bj k' X.A) (hk:k + 1≤k') (hg:Gl X x) (ha:RA X G (e :: es) t)
  (hdb:(x == ("__debug__":Str))=false:=by decide) (he:starEach (e :: es) X.env=(false,eval e X.env) :: starEach es X.env:=by rfl) (hpl:(backTo pos (starEach es X.env)).any (·.1)=false:=by rfl) :
  RE X G (.Call (.Name x p) (e :: es) [] pos) (B5 C sp E2 t):=by
 obtain ⟨hm,f,fd,mk,F,b⟩:=M
 exact ⟨hE (L2.Bn mk F (hr.mono hk) hg hm b .nil B.pass ha.run hdb he hpl) (qp B)⟩
theorem rO {C:Addr} {k k':Nat} {ps:List Str} {sp:bX} (M:wd X.prog X.w X.K X.mg X.base C k x ps sp) (B:Aa X G E2 E) (hr:bj k' X.A) (hk:k + 1≤k') (hg:Gl X x)
  (hdb:(x == ("__debug__":Str))=false:=by decide):RE X G (.Call (.Name x p) [] [] pos) (B5 C sp E2 qN):=by
 obtain ⟨hm,f,fd,mk,F,b⟩:=M
 refine ⟨hE (L2.yI mk F (hr.mono hk) hg hm b .nil B.pass hdb) fun σ H Q h=>?_⟩
 obtain ⟨τ,J,Q2,a2,h1,k1⟩:=qp (t:=qN) B σ H Q h
 exact k1 [] J [] H rfl a2.hp .refl h1
end
section
variable {X:Cx} {G:G2} {st:Stmt} {rest:List Stmt} {t u:fR} {e tg o value:Expr} {es:List Expr} {te ta tv:cq} {tc:ik} {pos pos':Pos}
def l5:fR:=fun D τ J=>D.nx τ J
def bR (t u:fR):fR:=fun D τ J=>t { D with nx:=u D } τ J
theorem aI:RB X G [] l5:=⟨HX L2.er fun D σ H ⟨τ,J,D2,a2,h,g⟩=>g.nx τ J σ H a2.sl a2.hp .refl h⟩
theorem aj (h1:RS X G st t) (h2:RB X G rest u):RB X G (st :: rest) (bR t u):=⟨HX (L2.aM h1.run h2.run) fun D σ H ⟨τ,J,D2,a2,h,g⟩=>⟨τ,J,{ D2 with nx:=u D2 },a2,h,
 { nx:=fun τ' J' σ' H' rs rr ee q=>⟨τ',J',D2,⟨rs,rr,a2.ext.trans ee⟩,q,g.ext ee⟩,rt:=g.rt,bk:=g.bk,ct:=g.ct }⟩⟩
theorem ak (h1:RS X G st t):RB X G [st] t:=⟨L2.bc h1.run⟩
def sx (t u:fR):fR:=fun D τ J=>∃ M:Sr→Hq→Prop,t { D with nx:=M } τ J∧∀ τ' J',M τ' J'→u D τ' J'
theorem c_ (h1:RS X G st t) (h2:RB X G rest u):RB X G (st :: rest) (sx t u):=⟨HX (L2.aM h1.run h2.run) fun D σ H ⟨τ,J,D2,a2,⟨M,h,hm⟩,g⟩=>⟨τ,J,{ D2 with nx:=M },a2,h,
 { nx:=fun τ' J' σ' H' rs rr ee q=>⟨τ',J',D2,⟨rs,rr,a2.ext.trans ee⟩,hm _ _ q,g.ext ee⟩,rt:=g.rt,bk:=g.bk,ct:=g.ct }⟩⟩
def HR:fR:=fun D τ J=>D.bk τ J
def Hf:fR:=fun D τ J=>D.ct τ J
def uU (te:cq):fR:=fun D τ J=>te τ J fun _ J1=>D.nx τ J1
theorem aY (he:RE X G e te) (hs:swapsWith e none pos.line X.env=pure false:=by rfl):RS X G (.Expr e pos) (uU te):=⟨vh (L2.gL he.run hs) fun D σ H ⟨τ,J,D2,a2,h,g⟩ =>
 ⟨τ,J,_,a2,h,fun x J' v H' rx rr ee q=>g.nx τ J' σ H' (a2.sl.ext ee) rr ee q⟩⟩
def EZ (te:cq):fR:=fun D τ J=>te τ J D.rt
theorem az (he:RE X G e te):RS X G (.Return (some e) pos) (EZ te):=⟨vh (L2.cM he.run) fun D σ H ⟨τ,J,D2,a2,h,g⟩=>⟨τ,J,_,a2,h,fun x J' v H' rx rr ee q=>g.rt x J' v H' rx rr ee q⟩⟩
def CL:fR:=fun D _ J=>D.rt .non J
theorem Bw:RS X G (.Return none pos) CL:=⟨vh L2.oS fun D σ H ⟨τ,J,D2,a2,h,g⟩=>g.rt .non J .non H rfl a2.hp .refl h⟩
def tG (c:ik) (t u:fR):fR:=fun D τ J=>c τ J fun b J1=>if b=true then t D τ J1 else u D τ J1
theorem aU {c:Expr} {a b:List Stmt} (hc:RT X G c tc) (ha:RB X G a t) (hb:RB X G b u):RS X G (.If c a b pos) (tG tc t u):=⟨vh (L2.i4 hc.run ha.run hb.run) fun D σ H ⟨τ,J,D2,a2,h,g⟩ =>
 ⟨τ,J,_,a2,h,fun c J' H' rr ee q=>by
  cases c with
  | true=>simp only [if_true] at q ⊢;exact ⟨τ,J',D2,a2.go rr ee,q,g.ext ee⟩
  | false=>simp only [Bool.false_eq_true,if_false] at q ⊢;exact ⟨τ,J',D2,a2.go rr ee,q,g.ext ee⟩⟩⟩
abbrev tR:=PV→Sr→Hq→(Sr→Hq→Prop)→Prop
abbrev qg:=List PV→Sr→Hq→(Sr→Hq→Prop)→Prop
def LG (K:PySem.W.Frag) (G:G2) (t:tR):TG:=fun v σ H Q=>∃ x τ J Q2,bJ K J H x v∧pS K G τ J σ H∧t x τ J Q2∧∀ τ' J' σ' H',ig K J' H' τ' σ'→Rep K J' H'→Ext K J H J' H'→Q2 τ' J'→Q σ' H'
def JH (K:PySem.W.Frag) (G:G2) (t:qg):lH:=fun vs σ H Q=>∃ xs τ J Q2,aB K J H xs vs∧pS K G τ J σ H∧t xs τ J Q2∧∀ τ' J' σ' H',ig K J' H' τ' σ'→Rep K J' H'→Ext K J H J' H'→Q2 τ' J'→Q σ' H'
structure RG (X:Cx) (G:G2) (e:Expr) (t:tR):Prop where
 run:L2.PG X e (LG X.K G t)
structure G8 (X:Cx) (G:G2) (es:List Expr) (t:qg):Prop where
 run:L2.CD X es (JH X.K G t)
theorem HD {X:Cx} {e:Expr} {t t':TG} (h:L2.PG X e t) (k:∀ v σ H Q,t' v σ H Q→t v σ H Q):L2.PG X e t':=fun pins s σ H v u Q I r q=>h pins s σ H v u Q I r (k _ _ _ _ q)
theorem Gu {X:Cx} {e:List Expr} {t t':lH} (h:L2.CD X e t) (k:∀ v σ H Q,t' v σ H Q→t v σ H Q):L2.CD X e t':=fun pins s σ H v u Q I r q=>h pins s σ H v u Q I r (k _ _ _ _ q)
def Dd (i:Nat):tR:=fun x τ J Q=>Q (τ.set i (some x)) J
theorem bT {i:Nat} {x:Str} (hN:X.N.Nodup) (hi:X.N[i]?=some x) (hx:Loc X.env.scope x) (hf:X.fn x=true∨X.env.scope.names.lookup x=some .local:=by first | exact .inl rfl | exact .inr rfl | assumption):RG X G (.Name x pos) (Dd i) :=
 ⟨HD (L2.gY hN hi hx hf) fun v σ H Q ⟨x,τ,J,Q2,rx,a2,q,k⟩=>k _ J _ H (a2.sl.set i rx) a2.hp .refl q⟩
def IS:qg:=fun vs τ J Q=>vs=[]∧Q τ J
def IZ (t:tR) (u:qg):qg:=fun vs τ J Q=>∃ v r,vs=v :: r∧t v τ J fun τ' J'=>u r τ' J' Q
theorem pM:G8 X G [] IS:=⟨Gu L2.oB fun vs σ H Q ⟨xs,τ,J,Q2,rs,a2,⟨e,q⟩,k⟩=>by subst e;exact ⟨rs,k τ J σ H a2.sl a2.hp .refl q⟩⟩
theorem eX {e:Expr} {es:List Expr} {t:tR} {u:qg} (h1:RG X G e t) (h2:G8 X G es u)
  (hs:(assignEach (e :: es) X.env).map (·.2)=assign e X.env :: (assignEach es X.env).map (·.2):=by rfl):G8 X G (e :: es) (IZ t u):=⟨Gu (L2.lD h1.run h2.run hs) fun vs σ H Q ⟨xs,τ,J,Q2,rs,a2,⟨y,r,e,q⟩,k⟩=>by
 subst e
 obtain ⟨v,us,rfl,rv,ru⟩:=rs
 exact ⟨v,us,rfl,y,τ,J,_,rv,a2,q,fun τ' J' σ' H' rs' rr ee q'=>⟨r,τ',J',Q2,ee.gh ru,⟨rs',rr,a2.ext.trans ee⟩,q',fun τ2 J2 σ2 H2 rs2 rr2 ee2 q2=>k τ2 J2 σ2 H2 rs2 rr2 (ee.trans ee2) q2⟩⟩⟩
def Jd (n:Nat) (t:qg):tR:=fun x τ J Q=>∃ xs,x=.tup xs∧xs.length=n∧t xs τ J Q
theorem tT {k:Nat} {t:qg} {n:Nat} (hc:X.calm=true) (h:G8 X G es t)
  (hn:(assignEach es X.env).length=n:=by rfl) (hst:(assignEach es X.env).findIdx? (·.1)=none:=by rfl):RG X G (.Tuple es k pos) (Jd n t):=⟨HD (L2.sM hc h.run hn hst) fun v σ H Q ⟨x,τ,J,Q2,rx,a2,⟨xs,e,l,q⟩,k⟩=>by
 subst e
 obtain ⟨a,vs,rfl,h1,h2⟩:=rx
 exact ⟨a,vs,rfl,h1,by rw [← h2.length];exact l,xs,τ,J,Q2,h2,a2,q,k⟩⟩
def rK (te:cq) (g:tR):fR:=fun D τ J=>te τ J fun x J1=>g x τ J1 D.nx
theorem sj {tg e:Expr} {g:tR} (he:RE X G e te) (hg:RG X G tg g) (hs:swapsWithSole [tg] e pos.line X.env=pure false:=by rfl) (hw:swappedStores [tg] e X.env=pure none:=by rfl)
  (h1:(assignEach [tg] X.env).map (·.2)=[assign tg X.env]:=by rfl):RS X G (.Assign [tg] e pos) (rK te g):=⟨vh (L2.oP he.run hg.run hs hw h1) fun D σ H ⟨τ,J,D2,a2,h,g⟩ =>
 ⟨τ,J,_,a2,h,fun x J' v H' rx rr ee q=>⟨x,τ,J',_,rx,a2.go rr ee,q,fun τ' J2 σ' H2 rs r2 e2 q2=>g.nx τ' J2 σ' H2 rs r2 (ee.trans e2) q2⟩⟩⟩
theorem aL {i:Nat} {x:Str} {pos':Pos} (hN:X.N.Nodup) (hi:X.N[i]?=some x) (hx:Loc X.env.scope x) (he:RE X G e te) (hs:swapsWith e (some (.Name x pos')) pos.line X.env=pure false:=by rfl) (hf:X.fn x=true∨X.env.scope.names.lookup x=some .local:=by first | exact .inl rfl | exact .inr rfl | assumption) :
  RS X G (.Assign [.Name x pos'] e pos) (rK te (Dd i)):=⟨vh (L2.bV hN hi hx he.run hs hf) fun D σ H ⟨τ,J,D2,a2,h,g⟩ =>
 ⟨τ,J,_,a2,h,fun x J' v H' rx rr ee q=>g.nx _ J' _ H' ((a2.sl.ext ee).set i rx) rr ee q⟩⟩
def Fh (i j:Nat) (ta:kL):fR:=fun D τ J=>ta τ J fun vs J1=>∃ v w,vs=[v,w]∧D.nx ((τ.set i (some v)).set j (some w)) J1
theorem DE {i j:Nat} {x y:Str} {a b:Expr} {ta:kL} {px py pt:Pos} {kt k2 pt2} (hc:X.calm=true) (hN:X.N.Nodup) (hi:X.N[i]?=some x) (hj:X.N[j]?=some y) (hij:i≠j)
  (hx:X.env.scope.names.lookup x=some .local) (hy:X.env.scope.names.lookup y=some .local) (ha:RA X G [a,b] ta)
  (hw:swappedStores [.Tuple [.Name x px,.Name y py] kt pt] (.Tuple [a,b] k2 pt2) X.env=pure (some [x,y]))
  (hs:swapsWithSole [.Tuple [.Name x px,.Name y py] kt pt] (.Tuple [a,b] k2 pt2) pos.line X.env=pure false:=by rfl) :
  RS X G (.Assign [.Tuple [.Name x px,.Name y py] kt pt] (.Tuple [a,b] k2 pt2) pos) (Fh i j ta):=⟨vh (L2.j4 hc hN hi hj hij hx hy ha.run hw hs) fun D σ H ⟨τ,J,D2,a2,h,g⟩ =>
 ⟨τ,J,_,a2,h,fun xs J' vs H' rs rr ee ⟨v,w,e,q⟩=>by
  subst e
  obtain ⟨v',us,rfl,rv,w',us',rfl,rw',e'⟩:=rs
  cases e'
  exact ⟨v',w',rfl,g.nx _ J' _ H' (((a2.sl.ext ee).set i rv).set j rw') rr ee q⟩⟩⟩
def j0 (f:Str) (v:PV):List (Str × PV)→List (Str × PV)
 | []=>[(f,v)]
 | (g,w) :: r=>if g=f then (g,v) :: r else (g,w) :: j0 f v r
theorem qA {K:PySem.W.Frag} {J:Hq} {H:Hp} {f:Str} {y:PV} {v:V} (r:bJ K J H y v):∀ {fs:List (Str × PV)} {gs:List (Str × V)},il K J H fs gs→il K J H (j0 f y fs) (dy f v gs)
 | [],[],_=>⟨rfl,v,[],rfl,r,rfl⟩
 | [],_ :: _,h=>by cases h.1
 | _ :: _,[],h=>by cases h.1
 | (k,y') :: fs,(k',w) :: gs,h=>by
  obtain ⟨h1,v',us,h2,h3,h4⟩:=h
  simp only [List.map_cons,List.cons.injEq] at h1 h2
  obtain ⟨rfl,h1⟩:=h1
  obtain ⟨rfl,rfl⟩:=h2
  unfold j0 L2.dy
  by_cases hk:k=f
  ·rw [if_pos hk,if_pos hk]
   exact ⟨by simp only [List.map_cons,h1],v,_,rfl,r,h4⟩
  ·rw [if_neg hk,if_neg hk]
   obtain ⟨z1,z2⟩:=qA (f:=f) r (⟨h1,h4⟩:il K J H fs gs)
   exact ⟨by simp only [List.map_cons,z1],w,_,rfl,h3,z2⟩
def Cd (C:Addr) (ta tv:cq) (f:Str):fR:=fun D τ J=>tv τ J fun y J1=>ta τ J1 fun x J2=>∃ a fs,x=.ref a∧J2 a=some (.ins C fs)∧fs.length < 1000∧D.nx τ (put J2 a (.ins C (j0 f y fs)))
theorem Ext.Df {K:PySem.W.Frag} {J:Hq} {H:Hp} {p C dx:Addr} {fs gs:List (Str × PV)} {fs' gs':List (Str × V)} (h:J p=some (.ins C fs)) (k:H p=some (.ins C dx fs')):Ext K J H (put J p (.ins C gs)) (upd H p (.ins C dx gs')):=by
 have sm:∀ a u,a≠p→Rd H a u→Rd (upd H p (.ins C dx gs')) a u:=fun a u ne z=>by
  rcases z with z | ⟨o,z⟩
  ·exact .inl (by rw [aH ne];exact z)
  ·exact .inr ⟨o,by rw [aH ne];exact z⟩
 have nn:∀ a u,(∀ c d l,u≠HO.ins c d l)→Rd H a u→a≠p:=fun a u d z e=>by
  subst e
  rcases z with z | ⟨o,z⟩
  ·rw [k] at z;cases z;exact d _ _ _ rfl
  ·rw [k] at z;cases z
 refine ⟨fun a vs' z=>?_,fun a o z q _=>?_⟩
 ·rcases z with z | z
  ·exact .inl (sm a _ (nn a (.tup vs') (fun _ _ _ e=>nomatch e) z) z)
  ·exact .inr z
 ·have ne:a≠p:=by intro e;subst e;rw [h] at z;cases z
  exact ⟨by rw [aq ne];exact z,by rw [aH ne];exact q⟩
theorem ft {C:Addr} {f:Str} (cl:kM X.K C) (na:ay X.K C f) (ha:RE X G o ta) (hv:RE X G value tv) (hs:swapsWith value (some (.Attribute o f pos')) pos.line X.env=pure false:=by rfl):RS X G (.Assign [.Attribute o f pos'] value pos) (Cd C ta tv f) :=
 ⟨vh (L2.D8 ha.run hv.run hs) fun D σ H ⟨τ,J,D2,a2,h,g⟩=>⟨τ,J,_,a2,h,fun y J1 v H1 ry r1 e1 q1=>⟨τ,J1,_,a2.go r1 e1,q1,fun x J2 w H2 rx r2 e2 ⟨a,fs,ex,ja,hl,q2⟩=>by
  subst ex;cases rx
  obtain ⟨dx,gs,h2,rf⟩:=r2 _ _ ja
  have ll:gs.length=fs.length:=by have:=congrArg List.length rf.1;simpa using this.symm
  have e3:=Ext.Df (K:=X.K) (gs:=j0 f y fs) (gs':=dy f v gs) ja h2
  refine ⟨a,C,dx,gs,rfl,h2,cl,na,by omega,g.nx τ _ σ _ (((a2.sl.ext e1).ext e2).ext e3) ?_ ((e1.trans e2).trans e3) q2⟩
  refine r2.vN e3 a (fun b ne=>aq ne) (fun b o ne _ z=>by rw [aH ne];exact z) fun u z=>?_
  rw [av] at z;cases z
  exact ⟨dx,_,aA,e3.pZ (qA (e2.rep ry) rf)⟩⟩⟩⟩
def Eh (c:ik) (tb:fR):fR:=fun D τ J=>∃ W:Nat→Sr→Hq→Prop,(∃ m,W m τ J)∧∀ m τ J,W m τ J →
 c τ J fun b J1=>if b=true then ∃ N:Sr→Hq→Prop,(∀ τ' J',N τ' J'→∃ m',m' < m∧W m' τ' J')∧tb { D with nx:=N,ct:=N,bk:=D.nx } τ J1 else D.nx τ J1
theorem i6 {c:Expr} {body:List Stmt} {tb:fR} (hp:PassesOwn (model X.prog X.w) X.A X.env X.xe) (hc:RT X G c tc) (hb:RB X G body tb):RS X G (.While c body [] pos) (Eh tc tb):=⟨vh (L2.gE hp hc.run hb.run) fun D σ H ⟨τ,J,D2,a2,⟨W,⟨m0,w0⟩,h⟩,g⟩=>by
 refine ⟨fun m σ' H'=>∃ τ' J',pS X.K G τ' J' σ' H'∧Ext X.K J H J' H'∧W m τ' J',⟨m0,τ,J,a2,.refl,w0⟩,fun m σ1 H1 ⟨τ1,J1,a1,e1,w1⟩=>?_⟩
 refine ⟨τ1,J1,_,a1,h m τ1 J1 w1,fun b J2 H2 r2 e2 q=>?_⟩
 cases b with
 | false=>simp only [Bool.false_eq_true,if_false] at q ⊢;exact g.nx τ1 J2 σ1 H2 (a1.sl.ext e2) r2 (e1.trans e2) q
 | true =>
  simp only [if_true] at q ⊢
  obtain ⟨N,hN,q⟩:=q
  refine ⟨fun σ' H'=>∃ τ' J',pS X.K G τ' J' σ' H'∧Ext X.K J H J' H'∧N τ' J',fun σ' H' ⟨τ',J',a',e',n'⟩=>let ⟨m',lt,w'⟩:=hN τ' J' n';⟨m',lt,τ',J',a',e',w'⟩,τ1,J2,{ D2 with nx:=N,ct:=N,bk:=D2.nx },a1.go r2 e2,q,?_⟩
  have ge:=g.ext (e1.trans e2)
  exact { nx:=fun τ' J' σ' H' rs rr ee q=>⟨τ',J',⟨rs,rr,(a1.ext.trans e2).trans ee⟩,(e1.trans e2).trans ee,q⟩,rt:=ge.rt,bk:=ge.nx,ct:=fun τ' J' σ' H' rs rr ee q=>⟨τ',J',⟨rs,rr,(a1.ext.trans e2).trans ee⟩,(e1.trans e2).trans ee,q⟩ }⟩
structure tj where
 xs:List PV
 ok:Hq→Prop
structure m8 (K:PySem.W.Frag) (it:tj) (I:It) (J:Hq) (H:Hp):Prop where
 go:∀ J' H',Ext K J H J' H'→Rep K J' H'→it.ok J'→∀ i,i < it.xs.length→I.go i H'
 yl:∀ J' H',Ext K J H J' H'→Rep K J' H'→it.ok J'→∀ i,i < it.xs.length→∀ v H2,I.yld i H' v H2→∃ x,it.xs[i]?=some x∧bJ K J' H2 x v∧Rep K J' H2∧Ext K J' H' J' H2
 stop:∀ J' H',Ext K J H J' H'→Rep K J' H'→it.ok J'→I.stop it.xs.length H'
abbrev n6:=Sr→Hq→(tj→Hq→Prop)→Prop
def LI (K:PySem.W.Frag) (G:G2) (t:n6):TI:=fun σ H R=>∃ τ J R2,pS K G τ J σ H∧t τ J R2∧∀ it J' I H',m8 K it I J' H'→Rep K J' H'→Ext K J H J' H'→R2 it J'→R I H'
structure RI (X:Cx) (G:G2) (tg e:Expr) (t:n6):Prop where
 run:L2.PI X tg e (LI X.K G t)
theorem G3 {X:Cx} {tg e:Expr} {t t':TI} (h:L2.PI X tg e t) (k:∀ σ H Q,t' σ H Q→t σ H Q):L2.PI X tg e t':=fun pins s σ H Q I q=>h pins s σ H Q I (k _ _ _ q)
def E1 (wi:n6) (g:tR) (tb:fR):fR:=fun D τ J=>wi τ J fun it J1=>∃ Pv:Nat→Sr→Hq→Prop,Pv 0 τ J1∧(∀ i τ J,Pv i τ J→it.ok J) ∧
 (∀ i x τ J,it.xs[i]?=some x→Pv i τ J→g x τ J fun τ2 J2=>tb { D with nx:=Pv (i + 1),ct:=Pv (i + 1),bk:=D.nx } τ2 J2)∧∀ τ J,Pv it.xs.length τ J→D.nx τ J
theorem fS {iter:Expr} {body:List Stmt} {wi:n6} {g:tR} {tb:fR} {pos:Pos} (hp:PassesOwn (model X.prog X.w) X.A X.env X.xe) (hc:X.calm=true) (hi:RI X G tg iter wi) (hg:RG X G tg g) (hb:RB X G body tb)
  (hs:∀ x,foldedSetIterable iter X.env x=pure x:=by intro _;rfl):RS X G (.For tg iter body [] pos) (E1 wi g tb):=⟨vh (L2.jR hp hc hi.run hg.run hb.run hs) fun D σ H ⟨τ,J,D2,a2,h,g⟩=>by
 refine ⟨τ,J,_,a2,h,fun it J1 I H1 ir r1 e1 ⟨Pv,p0,pok,step,fin⟩=>?_⟩
 refine ⟨fun i m σ' H'=>m=it.xs.length - i∧i≤it.xs.length∧∃ τ' J',pS X.K G τ' J' σ' H'∧Ext X.K J1 H1 J' H'∧Pv i τ' J',⟨_,rfl,Nat.zero_le _,τ,J1,a2.go r1 e1,.refl,p0⟩,?_⟩
 rintro i m σ2 H2 ⟨rfl,hil,τ2,J2,a3,e3,p3⟩
 by_cases hlt:i < it.xs.length
 ·refine .inr ⟨ir.go J2 H2 e3 a3.hp (pok _ _ _ p3) i hlt,fun σ' H'=>∃ τ' J',pS X.K G τ' J' σ' H'∧Ext X.K J1 H1 J' H'∧Pv (i + 1) τ' J',fun σ' H' z=>⟨_,by omega,rfl,hlt,z⟩,fun v H4 y=>?_⟩
  obtain ⟨x,ex,rx,r4,e4⟩:=ir.yl J2 H2 e3 a3.hp (pok _ _ _ p3) i hlt v H4 y
  refine ⟨x,τ2,J2,_,rx,a3.go r4 e4,step i x τ2 J2 ex p3,fun τ5 J5 σ5 H5 rs5 r5 e5 q5=>?_⟩
  have ae:=(a3.ext.trans e4).trans e5
  have ge:=g.ext (((e1.trans e3).trans e4).trans e5)
  refine ⟨τ5,J5,{ D2 with nx:=Pv (i + 1),ct:=Pv (i + 1),bk:=D2.nx },⟨rs5,r5,ae⟩,q5,?_⟩
  exact { nx:=fun τ' J' σ' H' rs rr ee q=>⟨τ',J',⟨rs,rr,ae.trans ee⟩,((e3.trans e4).trans e5).trans ee,q⟩,rt:=ge.rt,bk:=ge.nx,ct:=fun τ' J' σ' H' rs rr ee q=>⟨τ',J',⟨rs,rr,ae.trans ee⟩,((e3.trans e4).trans e5).trans ee,q⟩ }
 ·have ei:i=it.xs.length:=by omega
  subst ei
  exact .inl ⟨ir.stop J2 H2 e3 a3.hp (pok _ _ _ p3),g.nx τ2 J2 σ2 H2 a3.sl a3.hp (e1.trans e3) (fin _ _ p3)⟩⟩
def G_ (J:Hq):PV→Option tj
 | .fl xs=>some ⟨xs,fun _=>True⟩
 | .ref a=>match J a with
  | some (.lst xs)=>some ⟨xs,fun J'=>J' a=some (.lst xs)⟩
  | _=>none
 | _=>none
def Jh (te:cq):n6:=fun τ J R=>te τ J fun x J1=>∃ it,G_ J1 x=some it∧R it J1
theorem m8.list {K:PySem.W.Frag} {it:tj} {a:Addr} {J:Hq} {H:Hp} (h:∀ J' H',Ext K J H J' H'→Rep K J' H'→it.ok J'→∃ vs,cR K H' a vs∧aB K J' H' it.xs vs):m8 K it (L2.AE K a) J H where
 go:=fun J' H' e r o i hi=>by
  obtain ⟨vs,s,rs⟩:=h J' H' e r o
  exact ⟨vs,vs[i]'(by rw [← rs.length];exact hi),s,by simp⟩
 yl:=fun J' H' e r o i hi v H2 y=>by
  obtain ⟨vs,s,rs⟩:=h J' H' e r o
  obtain ⟨e1,y⟩:=y
  subst e1
  obtain ⟨x,ex,rx⟩:=rs.get' (y vs s)
  exact ⟨x,ex,rx,r,.refl⟩
 stop:=fun J' H' e r o=>by
  obtain ⟨vs,s,rs⟩:=h J' H' e r o
  exact ⟨vs,s,by rw [rs.length];exact Nat.le_refl _⟩
theorem fk {l:Expr} {tl:cq} (hl:RE X G l tl):RI X G tg l (Jh tl):=⟨G3 (L2.iZ hl.run) fun σ H R ⟨τ,J,R2,a2,h,k⟩=>⟨τ,J,_,a2,h,fun x J1 v H1 rx r1 e1 ⟨it,ei,q⟩=>by
 cases x with
 | fl xs =>
  obtain ⟨a,vs,rfl,h1,h2⟩:=rx
  cases ei
  refine ⟨a,rfl,⟨vs,h1.sq⟩,k _ J1 _ H1 (.list fun J' H' e r _=>⟨vs,(e.flat h1).sq,e.gh h2⟩) r1 e1 q⟩
 | ref a =>
  cases rx
  unfold G_ at ei
  dsimp only at ei
  cases ej:J1 a with
  | none=>rw [ej] at ei;cases ei
  | some o =>
   rw [ej] at ei
   cases o with
   | lst xs =>
    cases ei
    obtain ⟨vs,h1,h2⟩:=r1 _ _ ej
    refine ⟨a,rfl,⟨vs,.inl (.inl h1)⟩,k _ J1 _ H1 (.list fun J' H' e r o=>?_) r1 e1 q⟩
    obtain ⟨vs',h1',h2'⟩:=r _ _ o
    exact ⟨vs',.inl (.inl h1'),h2'⟩
   | _=>cases ei
 | _=>cases ei⟩⟩
def Ju (te:cq):n6:=fun τ J R=>te τ J fun x J1=>∃ xs,x=.tup xs∧R ⟨xs,fun _=>True⟩ J1
def o8 (lo:Int) (n:Nat):List PV:=(List.range n).map fun (i:Nat)=>PV.int (lo + (i:Int))
theorem je (lo:Int) (n:Nat):(o8 lo n).length=n:=by simp [o8]
theorem rq (lo:Int) (n i:Nat) (x:PV):(o8 lo n)[i]?=some x↔i < n∧x=.int (lo + i):=by
 unfold o8
 rw [List.getElem?_map]
 by_cases h:i < n
 ·rw [List.getElem?_range h];simp [h,eq_comm]
 ·rw [List.getElem?_eq_none (by simpa using h)];simp [h]
theorem m8.EH {K:PySem.W.Frag} {J:Hq} {H:Hp} (lo:Int) (n:Nat):m8 K ⟨o8 lo n,fun _=>True⟩ (L2.yA lo n) J H where
 go:=fun J' H' e r o i hi=>by
  show i < n
  simpa [je] using hi
 yl:=fun J' H' e r o i hi v H2 y=>by
  obtain ⟨e1,y⟩:=y
  subst e1 y
  exact ⟨.int (lo + i),(rq lo n i _).mpr ⟨by simpa [je] using hi,rfl⟩,rfl,r,.refl⟩
 stop:=fun J' H' e r o=>by
  show n≤(o8 lo n).length
  rw [je];exact Nat.le_refl _
def IQ (ta:kL):n6:=fun τ J R=>ta τ J fun vs J1=>∃ j:Int,vs=[.int j]∧-(2 ^ 62)≤j∧j < 2 ^ 62∧R ⟨o8 0 j.toNat,fun _=>True⟩ J1
def JG (ta:kL):n6:=fun τ J R=>ta τ J fun vs J1=>∃ i j:Int,vs=[.int i,.int j]∧(-(2 ^ 62)≤i∧i < 2 ^ 62∧-(2 ^ 62)≤j∧j < 2 ^ 62)∧R ⟨o8 i (j - i).toNat,fun _=>True⟩ J1
theorem nA {a:Expr} {ta:kL} {p pos:Pos} (hg:Gl X "range") (hm:X.mg "range"=none) (ha:RA X G [a] ta) (hs:starEach [a] X.env=[(false,eval a X.env)]:=by rfl):RI X G tg (.Call (.Name "range" p) [a] [] pos) (IQ ta) :=
 ⟨G3 (L2.eu hg hm ha.run hs) fun σ H R ⟨τ,J,R2,a2,h,k⟩=>⟨τ,J,_,a2,h,fun xs J1 vs H1 rs r1 e1 ⟨j,ej,l1,l2,q⟩=>by
  subst ej
  obtain ⟨v,us,rfl,rv,e'⟩:=rs
  cases rv;cases e'
  exact ⟨j,rfl,l1,l2,k _ J1 _ H1 (.EH 0 _) r1 e1 q⟩⟩⟩
def eR (C:Addr) (E2:Addr→Hq→Prop) (t:kL):fR:=fun _ τ J=>t τ J fun xs J1=>xs.length≤sizeLine∧E2 C J1
theorem dq {E:XK} {E2:Addr→Hq→Prop} {C:Addr} {x:Str} {t:kL} {np cpos:Pos} (O:Own X.K X.mg x C) (hc:X.calm=true) (hx:Throws X E) (kn:EI X.K G.1 G.2 E2 E) (hg:Gl X x) (ha:RA X G (e :: es) t)
  (hd:(x == ("__debug__":Str))=false:=by decide) (he:starEach (e :: es) X.env=(false,eval e X.env) :: starEach es X.env:=by rfl) (hpl:(backTo cpos (starEach es X.env)).any (·.1)=false:=by rfl) :
  RS X G (.Raise (some (.Call (.Name x np) (e :: es) [] cpos)) none pos) (eR C E2 t):=⟨vh (v7 O hc hx hg ha.run hd he hpl) fun D σ H ⟨τ,J,D2,a2,h,g⟩ =>
 ⟨τ,J,_,a2,h,fun xs J1 vs H1 rs r1 e1 ⟨hl,q⟩=>⟨by rw [← rs.length];exact hl,kn C J1 H1 r1 (a2.ext.trans e1) q⟩⟩⟩
end
section
variable {P:Program} {w:World} {K:PySem.W.Frag} {mg:Str→Option Value} {base:Heap}
def sf (N:List Str) (xs:List PV):Sr:=xs.map some ++ List.replicate (N.length - xs.length) none
theorem xS {J:Hq} {H:Hp} {N:List Str} {xs:List PV} {vs:List V} (r:aB K J H xs vs):ig K J H (sf N xs) (L2.start N vs):=by
 refine ⟨by simp [sf,L2.start,r.length],fun i x e=>?_⟩
 unfold sf at e
 unfold L2.start
 by_cases hi:i < xs.length
 ·rw [List.getElem?_append_left (by simpa using hi),List.getElem?_map] at e
  cases ex:xs[i]? with
  | none=>rw [ex] at e;cases e
  | some y =>
   rw [ex] at e
   cases e
   obtain ⟨v,h1,h2⟩:=r.get ex
   exact ⟨v,by rw [List.getElem?_append_left (by rw [List.length_map,← r.length];exact hi),List.getElem?_map,h1];rfl,h2⟩
 ·rw [List.getElem?_append_right (by simpa using hi)] at e
  have:=List.mem_of_getElem? e
  rw [List.mem_replicate] at this
  cases this.2
theorem Jk {x qual:Str} {st:Stmt} {f:Addr} {fd:FuncData} {N ps:List Str} {k:Nat} {sp:bX} (F:bP K x qual st f fd) (S:au N ps (L2.ai st)) (len:∀ xs J Q E,sp xs J Q E→xs.length=ps.length)
  (hbody:∀ (cdv:Value) (A:Around) (outer:List Env) (s:Shared) (H:Hp) (E:XK) (G:G2) (xs:List PV) (J:Hq) (Q:PV→Hq→Prop) (E2:Addr→Hq→Prop),bj k (A.deeper (envOfC qual (L2.ai st) s.heap.objs.size f cdv))→sp xs J Q E2 →
   Aa (xi P w K mg base N qual (L2.ai st) f cdv A outer s H E) G E2 E →
   ∃ t,RB (xi P w K mg base N qual (L2.ai st) f cdv A outer s H E) G (L2.bC st) t∧t { nx:=fun _ J'=>Q .non J',rt:=Q } (sf N xs) J):aF P w K mg base (cx P w) (k + 1) f fd ps (c9 K sp):=by
 refine Jz F S (fun vs H Q E ⟨xs,J,Q2,E2,a,_,b,_⟩=>by rw [← a.length];exact len _ _ _ _ b) fun cdv A outer s H vs Q E hr ⟨xs,J,Q2,E2,rs,rr,hs,kn,ke⟩=>?_
 obtain ⟨t,hb,q⟩:=hbody cdv A outer s H E (J,H) xs J Q2 E2 hr hs ⟨tK,ke⟩
 refine ⟨_,⟨hb.run⟩,sf N xs,J,_,⟨xS rs,rr,.refl⟩,q,?_⟩
 exact { nx:=fun τ J' σ H' _ r e q=>kn .non J' .non H' rfl r e q,rt:=fun x J' v H' rx r e q=>kn x J' v H' rx r e q,bk:=fun _ _ _ _ _ _ _ q=>q.elim,ct:=fun _ _ _ _ _ _ _ q=>q.elim }
theorem _root_.Ov.Def.eE {x:Str} {st:Stmt} {k:Nat} {ps:List Str} {sp:bX} (D:Def K mg x st)
  (h:∀ f fd,bP K x x st f fd→aF P w K mg base (cx P w) k f fd ps (c9 K sp))
  (hb:∀ (kV doc pm:Value) (an:Option Addr) (cdv ct:Value) (us:List Value),us.length=ps.length→bindArgs (PySem.W.fnOf x x (L2.cf st) (L2.bC st) (L2.ai st) .none kV doc pm an cdv ct) ⟨us,[]⟩=pure (ps.zip us)) :
  ba P w K mg base k x ps sp:=D.HZ h hb
end
section
variable {X:Cx} {K:PySem.W.Frag}
def BH (g:Int→Int→PV):iF:=fun x y J Q=>∃ i j,x=.int i∧y=.int j∧Q (g i j) J
def qI (C:Int→Int→Prop) (g:Int→Int→PV):iF:=fun x y J Q=>∃ i j,x=.int i∧y=.int j∧C i j∧Q (g i j) J
theorem n4 {g:Int→Int→V} {g':Int→Int→PV} (hg:∀ J H i j,bJ K J H (g' i j) (g i j)):LR K (L2.Ab g) (BH g'):=fun J H x y v w Q2 Q rx ry r ⟨i,j,ex,ey,q⟩ k=>by
 subst ex ey;exact ⟨i,j,rx,ry,k _ J _ H (hg _ _ _ _) r .refl q⟩
theorem DU {C:Int→Int→Prop} {g:Int→Int→V} {g':Int→Int→PV} (hg:∀ J H i j,bJ K J H (g' i j) (g i j)):LR K (L2.rI C g) (qI C g'):=fun J H x y v w Q2 Q rx ry r ⟨i,j,ex,ey,c,q⟩ k=>by
 subst ex ey;exact ⟨i,j,rx,ry,c,k _ J _ H (hg _ _ _ _) r .refl q⟩
theorem dz:iE X (binaryOp .Add) (BH fun i j=>.int (i + j)):=⟨_,L2.fT,n4 fun _ _ _ _=>rfl⟩
theorem eV:iE X (binaryOp .Sub) (BH fun i j=>.int (i - j)):=⟨_,L2.sQ,n4 fun _ _ _ _=>rfl⟩
theorem cP:iE X (binaryOp .Mult) (qI CM fun i j=>.int (i * j)):=⟨_,bS,DU fun _ _ _ _=>rfl⟩
theorem jg:iE X (binaryOp .FloorDiv) (qI CQ fun i j=>.int (i.fdiv j)):=⟨_,eQ,DU fun _ _ _ _=>rfl⟩
theorem dw:iE X (binaryOp .Mod) (qI (fun _ j=>0 < j) fun i j=>.int (i % j)):=⟨_,L2.eW,DU fun _ _ _ _=>rfl⟩
theorem fh:iE X (compareOp .Lt) (BH fun i j=>.bl (decide (i < j))):=⟨_,L2.uH,n4 fun _ _ _ _=>rfl⟩
theorem xT:iE X (compareOp .LtE) (BH fun i j=>.bl (decide (i≤j))):=⟨_,L2.Ck,n4 fun _ _ _ _=>rfl⟩
theorem ka:iE X (compareOp .Gt) (BH fun i j=>.bl (decide (j < i))):=⟨_,L2.CW,n4 fun _ _ _ _=>rfl⟩
theorem yp:iE X (compareOp .GtE) (BH fun i j=>.bl (decide (j≤i))):=⟨_,L2.CP,n4 fun _ _ _ _=>rfl⟩
def qU (g:Int→PV):F_:=fun x J Q=>∃ i,x=.int i∧Q (g i) J
theorem lN:IV X (unaryOp .USub) (qU fun i=>.int (-i)):=⟨_,L2.zC,fun J H x v Q2 Q rx r ⟨i,ex,q⟩ k=>by subst ex;exact ⟨i,rx,k (.int (-i)) J _ H rfl r .refl q⟩⟩
def Gm:iF:=fun x y J Q=>∃ i j,x=.str i∧y=.str j∧Q (.bl (decide (i.cps.toList < j.cps.toList))) J
theorem tO:iE X (compareOp .Lt) Gm:=⟨_,L2.wK,fun J H x y v w Q2 Q rx ry r ⟨i,j,ex,ey,q⟩ k=>by subst ex ey;exact ⟨i,j,rx,ry,k (.bl _) J _ H rfl r .refl q⟩⟩
def yO:PV→Bool
 | .non=>true
 | _=>false
theorem uc {J:Hq} {H:Hp} {x:PV} {v:V} (r:bJ K J H x v):decide (v=.non)=yO x:=by
 cases x with
 | non=>cases r;rfl
 | tup xs=>obtain ⟨a,vs,rfl,_⟩:=r;rfl
 | fl xs=>obtain ⟨a,vs,rfl,_⟩:=r;rfl
 | _=>cases r;rfl
def Ji:iF:=fun x y J Q=>y=.non∧Q (.bl (yO x)) J
def zE:iF:=fun x y J Q=>y=.non∧Q (.bl (!yO x)) J
theorem uG:iE X (compareOp .Is) Ji:=⟨_,L2.Ek,fun J H x y v w Q2 Q rx ry r ⟨ey,q⟩ k=>by subst ey;cases ry;exact ⟨rfl,by rw [uc rx];exact k (.bl _) J _ H rfl r .refl q⟩⟩
theorem qB:iE X (compareOp .IsNot) zE:=⟨_,L2.Bz,fun J H x y v w Q2 Q rx ry r ⟨ey,q⟩ k=>by subst ey;cases ry;exact ⟨rfl,by rw [uc rx];exact k (.bl _) J _ H rfl r .refl q⟩⟩
mutual
def fw:PV→Py
 | .non=>.non | .bl b=>.bl b | .int i=>.int i | .str x=>.str x | .ref _=>.non | .ty _=>.non | .tup xs=>.tup (fE xs) | .fl xs=>.lst (fE xs)
def fE:List PV→List Py
 | []=>[]
 | x :: xs=>fw x :: fE xs
end
mutual
def kj:PV→Bool
 | .ref _=>false | .ty _=>false | .tup xs=>jL xs | .fl xs=>jL xs | _=>true
def jL:List PV→Bool
 | []=>true
 | x :: xs=>kj x && jL xs
end
mutual
theorem o_ {J:Hq} {H:Hp}:∀ {x:PV} {v:V},kj x=true→bJ K J H x v→At K H (fw x) v
 | .non,_,_,h=>h
 | .bl _,_,_,h=>h
 | .int _,_,_,h=>h
 | .str _,_,_,h=>h
 | .tup xs,_,p,⟨a,vs,e,h,k⟩=>⟨a,vs,e,h,l3 (by simpa [kj] using p) k⟩
 | .fl xs,_,p,⟨a,vs,e,h,k⟩=>⟨a,vs,e,h.sq,l3 (by simpa [kj] using p) k⟩
theorem l3 {J:Hq} {H:Hp}:∀ {xs:List PV} {vs:List V},jL xs=true→aB K J H xs vs→m5 K H (fE xs) vs
 | [],_,_,h=>h
 | x :: xs,_,p,⟨v,us,e,h,k⟩=>by
  have p':kj x=true∧jL xs=true:=by simpa [jL] using p
  exact ⟨v,us,e,o_ p'.1 h,l3 p'.2 k⟩
end
def eqQ (x y:PV):Bool:=gU (fw x) (fw y)
def Dv (x:PV):Prop:=kj x=true∧dep (fw x)≤60
def B6 (f:Bool→Bool):iF:=fun x y J Q=>Dv x∧kj y=true∧Q (.bl (f (eqQ x y))) J
theorem Cj (f:Bool→Bool):LR K (rP K f) (B6 f):=fun J H x y v w Q2 Q rx ry r ⟨⟨px,d⟩,py,q⟩ k=>⟨fw x,fw y,o_ px rx,o_ py ry,d,k (.bl _) J _ H rfl r .refl q⟩
theorem cj (hu:X.A.units + 61 < cLine):iE X (compareOp .Eq) (B6 id):=⟨_,Du hu,Cj id⟩
theorem iX (hu:X.A.units + 61 < cLine):iE X (compareOp .NotEq) (B6 not):=⟨_,DR hu,Cj not⟩
def dT (J:Hq):PV→PV→Option PV
 | .tup xs,.int i=>cK xs i
 | .fl xs,.int i=>cK xs i
 | .ref a,.int i=>match J a with
  | some (.lst xs)=>cK xs i
  | _=>none
 | _,_=>none
theorem aB.cK {J:Hq} {H:Hp} {xs:List PV} {vs:List V} {i:Int} {x:PV} (r:aB K J H xs vs) (h:L2.cK xs i=some x):∃ v,L2.cK vs i=some v∧bJ K J H x v:=by
 unfold L2.cK at h ⊢
 rw [← r.length]
 cases e:L2.xo xs.length i with
 | none=>rw [e] at h;cases h
 | some j =>
  rw [e] at h
  obtain ⟨v,h1,h2⟩:=r.get h
  exact ⟨v,h1,h2⟩
def Dz:iF:=fun x y J Q=>∃ v,dT J x y=some v∧Q v J
theorem aw:HW X Dz:=⟨_,L2.pJ.or L2.bW,fun J H x y v w Q2 Q rx ry r ⟨z,ez,q⟩ k=>by
 cases y with
 | int i =>
  cases ry
  cases x with
  | tup xs =>
   obtain ⟨a,vs,rfl,h1,h2⟩:=rx
   obtain ⟨u,e1,e2⟩:=h2.cK (show L2.cK xs i=some z from ez)
   exact .inr ⟨a,vs,i,u,rfl,rfl,h1,e1,k z J u H e2 r .refl q⟩
  | fl xs =>
   obtain ⟨a,vs,rfl,h1,h2⟩:=rx
   obtain ⟨u,e1,e2⟩:=h2.cK (show L2.cK xs i=some z from ez)
   exact .inl ⟨a,vs,i,u,rfl,rfl,h1.sq,e1,k z J u H e2 r .refl q⟩
  | ref a =>
   cases rx
   unfold dT at ez
   dsimp only at ez
   cases ej:J a with
   | none=>rw [ej] at ez;cases ez
   | some o =>
    rw [ej] at ez
    cases o with
    | lst xs =>
     obtain ⟨vs,h1,h2⟩:=r _ _ ej
     obtain ⟨u,e1,e2⟩:=h2.cK (show L2.cK xs i=some z from ez)
     exact .inl ⟨a,vs,i,u,rfl,rfl,.inl (.inl h1),e1,k z J u H e2 r .refl q⟩
    | _=>cases ez
  | _=>cases ez
 | _=>cases x <;> cases ez⟩
def ko (xs:List PV) (lo hi:Option Int):List PV:=(xs.drop (HT.c6 xs.length 0 lo)).take (HT.c6 xs.length xs.length hi - HT.c6 xs.length 0 lo)
theorem uF {J:Hq} {H:Hp} {xs:List PV} {vs:List V} {lo hi:Option Int} (r:aB K J H xs vs):aB K J H (ko xs lo hi) (L2.lq vs lo hi):=by
 unfold ko L2.lq
 rw [← r.length]
 exact (r.drop _).take _
def Gb:wO:=fun x lo hi J Q=>∃ xs,x=.tup xs∧¬ (HT.c6 xs.length 0 lo=0∧HT.c6 xs.length xs.length hi=xs.length)∧Q (.tup (ko xs lo hi)) J
theorem sV:IH X Gb:=⟨_,L2.Dl,fun J H x lo hi v Q2 Q rx r ⟨xs,ex,hn,q⟩ k=>by
 subst ex
 obtain ⟨a,vs,rfl,h1,h2⟩:=rx
 refine ⟨a,vs,rfl,h1,by rw [← h2.length];exact hn,fun p hp=>?_⟩
 have sm:=a7.new hp (.tup (L2.lq vs lo hi))
 have e2:=Ext.same (K:=X.K) (J:=J) sm
 exact k (.tup (ko xs lo hi)) J (.ref p) _ ⟨p,_,rfl,.inl (.inl aA),e2.gh (uF h2)⟩ (r.same sm) e2 q⟩
def mx (J:Hq):PV→Option (List PV)
 | .fl xs=>some xs
 | .ref a=>match J a with
  | some (.lst xs)=>some xs
  | _=>none
 | _=>none
theorem pE {J:Hq} {H:Hp} {x:PV} {v:V} {xs:List PV} (rx:bJ K J H x v) (r:Rep K J H) (h:mx J x=some xs):∃ a vs,v=.ref a∧cR K H a vs∧aB K J H xs vs:=by
 cases x with
 | fl ys=>obtain ⟨a,vs,rfl,h1,h2⟩:=rx;cases h;exact ⟨a,vs,rfl,h1.sq,h2⟩
 | ref a =>
  cases rx
  unfold mx at h
  dsimp only at h
  cases ej:J a with
  | none=>rw [ej] at h;cases h
  | some o =>
   rw [ej] at h
   cases o with
   | lst ys=>cases h;obtain ⟨vs,h1,h2⟩:=r _ _ ej;exact ⟨a,vs,rfl,.inl (.inl h1),h2⟩
   | _=>cases h
 | _=>cases h
def GC:wO:=fun x lo hi J Q=>∃ xs,mx J x=some xs∧Q (.fl (ko xs lo hi)) J
theorem FL:IH X GC:=⟨_,L2.pP,fun J H x lo hi v Q2 Q rx r ⟨xs,ex,q⟩ k=>by
 obtain ⟨a,vs,rfl,h1,h2⟩:=pE rx r ex
 refine ⟨a,vs,rfl,h1,fun p hp=>?_⟩
 obtain ⟨x1,x2,x3⟩:=sk r (uF (lo:=lo) (hi:=hi) h2) hp
 exact k _ J _ _ x1 x2 x3 q⟩
def He:wO:=fun x lo hi J Q=>∃ xs,mx J x=some xs∧∀ p,J p=none→Q (.ref p) (put J p (.lst (ko xs lo hi)))
def F2:um:=fun xs J Q=>∃ i,xs=[.int i]∧Q (.int (if i < 0 then -i else i)) J
theorem tP:Dx X (.builtin "abs") F2:=⟨_,L2.jb,fun J H xs vs Q2 Q rs r ⟨i,ex,q⟩ k=>by
 subst ex;obtain ⟨v,us,rfl,rv,e⟩:=rs;cases rv;cases e
 exact ⟨i,rfl,k (.int _) J _ H rfl r .refl q⟩⟩
def sI (J:Hq):PV→Option Nat
 | .tup xs=>some xs.length
 | x=>(mx J x).map List.length
def Gf:um:=fun xs J Q=>∃ x n,xs=[x]∧sI J x=some n∧Q (.int n) J
theorem bK:Dx X (.builtin "len") Gf:=⟨_,L2.fW,fun J H xs vs Q2 Q rs r ⟨x,n,ex,en,q⟩ k=>by
 subst ex;obtain ⟨v,us,rfl,rv,e⟩:=rs;cases e
 have go:∀ ys,mx J x=some ys→ys.length=n→∃ p ws,([v]:List V)=[.ref p]∧(cR X.K H p ws∨fz X.K H p ws)∧Q (.int ws.length) H:=fun ys h1 h2=>by
  obtain ⟨a,ws,rfl,h3,h4⟩:=pE rv r h1
  exact ⟨a,ws,rfl,.inl h3,by rw [← h4.length,h2];exact k (.int _) J _ H rfl r .refl q⟩
 cases x with
 | tup ys =>
  obtain ⟨a,ws,rfl,h1,h2⟩:=rv
  cases en
  exact ⟨a,ws,rfl,.inr h1,by rw [← h2.length];exact k (.int _) J _ H rfl r .refl q⟩
 | fl ys=>cases en;exact go _ rfl rfl
 | ref a =>
  unfold sI at en
  cases el:mx J (.ref a) with
  | none=>simp [el] at en
  | some ys=>simp [el] at en;exact go _ el en
 | _=>cases en⟩
def xm (J:Hq):PV→Option String
 | .non=>some "NoneType" | .bl _=>some "bool" | .int _=>some "int" | .str _=>some "str" | .tup _=>some "tuple" | .fl _=>some "list"
 | .ref a=>match J a with
  | some (.lst _)=>some "list"
  | some (.dct _ _)=>some "dict"
  | _=>none
 | _=>none
def iq (t n:String):Option Bool :=
 if n∈["int","bool","str","tuple","list"] then some (t == n || (t == "bool" && n == "int")) else none
theorem Ag (K:PySem.W.Frag) {t n:String} {b:Bool} (ht:t∈["NoneType","bool","int","str","tuple","list","dict"]) (h:iq t n=some b):PySem.W.kitOne K (.type t) (.type n)=some b:=by
 unfold iq at h
 by_cases hn:n∈["int","bool","str","tuple","list"]
 ·rw [if_pos hn] at h
  simp only [List.mem_cons,List.not_mem_nil,or_false] at ht hn
  rcases ht with rfl | rfl | rfl | rfl | rfl | rfl | rfl <;> rcases hn with rfl | rfl | rfl | rfl | rfl <;> cases h <;> with_unfolding_all rfl
 ·rw [if_neg hn] at h;cases h
theorem A7 {J:Hq} {x:PV} {t:String} (h:xm J x=some t):t∈["NoneType","bool","int","str","tuple","list","dict"]:=by
 cases x with
 | ref a =>
  unfold xm at h
  dsimp only at h
  cases ej:J a with
  | none=>rw [ej] at h;cases h
  | some o=>rw [ej] at h;cases o <;> cases h <;> simp
 | ty n=>cases h
 | _=>cases h;simp
def Ge:um:=fun xs J Q=>∃ x n t b,xs=[x,.ty n]∧xm J x=some t∧iq t n=some b∧Q (.bl b) J
theorem v8:b7 X (.builtin "isinstance") (fun xs H Q=>∃ x n t b,xs=[x,.ty n]∧(eZ X.K H x (.type t)∨(t="tuple"∧∃ a vs,x=.ref a∧fz X.K H a vs)∨(t="list"∧∃ a vs,x=.ref a∧cR X.K H a vs))∧PySem.W.kitOne X.K (.type t) (.type n)=some b∧Q (.bl b) H):=by
 intro pins s σ H xs us Q I r h
 obtain ⟨x,n,t,b,rfl,ty,e,q⟩:=h
 obtain ⟨u,w',rfl,rx,ry⟩:=L2.vals2 r
 cases (show w'=Value.type n from ry)
 rcases ty with ty | ⟨rfl,a,vs,rfl,hs⟩ | ⟨rfl,a,vs,rfl,hs⟩
 ·exact L2.vU I rx ty e fun tk=>⟨.bl b,H,I.tok _,rfl,q⟩
 ·cases rx
  obtain ⟨its,_,⟨o,h1,h2,_⟩,_⟩:=I.tuple hs
  exact PySem.W.kia_one PySem.W.kitx_tuple I.i7 ⟨o,h1,h2⟩ e (fun z=>nomatch z) fun tk=>⟨.bl b,H,I.tok _,rfl,q⟩
 ·cases rx
  obtain ⟨its,_,⟨o,_,h1,h2,_⟩,_⟩:=I.list hs
  exact PySem.W.kia_one PySem.W.kitx_list I.i7 ⟨o,h1,h2⟩ e (fun z=>nomatch z) fun tk=>⟨.bl b,H,I.tok _,rfl,q⟩
theorem jQ:Dx X (.builtin "isinstance") Ge:=⟨_,v8,fun J H xs vs Q2 Q rs r ⟨x,n,t,b,ex,et,es,q⟩ k=>by
 subst ex
 obtain ⟨v,us,rfl,rv,w,us',rfl,rw',e⟩:=rs
 cases rw';cases e
 refine ⟨v,n,t,b,rfl,?_,Ag X.K (A7 et) es,k (.bl _) J _ H rfl r .refl q⟩
 cases x with
 | non=>cases rv;cases et;exact .inl .non
 | bl i=>cases rv;cases et;exact .inl (.bl i)
 | int i=>cases rv;cases et;exact .inl (.int i)
 | str i=>cases rv;cases et;exact .inl (.str i)
 | tup xs=>obtain ⟨a,ws,rfl,h1,_⟩:=rv;cases et;exact .inr (.inl ⟨rfl,a,ws,rfl,h1⟩)
 | fl xs =>
  obtain ⟨a,ws,rfl,h1,_⟩:=rv;cases et
  exact .inr (.inr ⟨rfl,a,ws,rfl,h1.sq⟩)
 | ty n=>cases et
 | ref a =>
  cases rv
  unfold xm at et
  dsimp only at et
  cases ej:J a with
  | none=>rw [ej] at et;cases et
  | some o =>
   rw [ej] at et
   have z:=r _ _ ej
   cases o with
   | lst xs=>obtain ⟨ws,h1,_⟩:=z;cases et;exact .inl (.lst h1)
   | dct kvs ep=>obtain ⟨gs,h1,_⟩:=z;cases et;exact .inl (.dE h1)
   | tab=>cases et
   | ins C fs=>cases et⟩
def D7:um:=fun xs J Q=>∃ x ys,xs=[x]∧mx J x=some ys∧Q (.fl ys) J
def xp:um:=fun xs J Q=>∃ x ys,xs=[x]∧mx J x=some ys∧∀ p,J p=none→Q (.ref p) (put J p (.lst ys))
theorem rd:Dx X (.type "list") xp:=⟨_,L2.oA,fun J H xs vs Q2 Q rs r ⟨x,ys,ex,el,q⟩ k=>by
 subst ex;obtain ⟨v,us,rfl,rv,e⟩:=rs;cases e
 obtain ⟨a,ws,rfl,h3,h4⟩:=pE rv r el
 exact ⟨a,ws,rfl,.inl h3,fun p hp=>k (.ref p) _ _ _ rfl (r.xG hp h4) (.laid hp) (q p (r.free hp))⟩⟩
def Hn:um:=fun xs J Q=>∃ i j,xs=[.int i,.int j]∧Q (.int (if j > i then j else i)) J
def n_:xk:=fun x xs J Q=>∃ a ys y,x=.ref a∧xs=[y]∧J a=some (.lst ys)∧ys.length < sizeLine∧Q .non (put J a (.lst (ys ++ [y])))
theorem jK:Cz X "list" "list.append" n_:=⟨_,L2.eA,fun J H x xs v vs Q2 Q rx rs r ⟨a,ys,y,ex,exs,ja,hl,q⟩ k=>by
 subst ex exs;cases rx;obtain ⟨w,us,rfl,rw',e⟩:=rs;cases e
 obtain ⟨ws,h1,h2⟩:=r _ _ ja
 exact ⟨a,ws,w,rfl,rfl,h1,by rw [← h2.length];exact hl,k .non _ _ _ rfl (r.wrote (ys:=ys ++ [y]) ja h1 (h2.append (show aB X.K J H [y] [w] from ⟨w,[],rfl,rw',rfl⟩))) (.wrote ja h1) q⟩⟩
def FG:xk:=fun x xs J Q=>∃ a ys y,x=.ref a∧xs=[]∧J a=some (.lst ys)∧ys[ys.length - 1]?=some y∧Q y (put J a (.lst ys.dropLast))
theorem aB.dropLast {J:Hq} {H:Hp} {xs:List PV} {vs:List V} (r:aB K J H xs vs):aB K J H xs.dropLast vs.dropLast:=by
 rw [List.dropLast_eq_take,List.dropLast_eq_take,← r.length]
 exact r.take _
theorem C6:Cz X "list" "list.pop" FG:=⟨_,L2.DY,fun J H x xs v vs Q2 Q rx rs r ⟨a,ys,y,ex,exs,ja,hy,q⟩ k=>by
 subst ex exs;cases rx;cases rs
 obtain ⟨ws,h1,h2⟩:=r _ _ ja
 obtain ⟨w,e1,e2⟩:=h2.get hy
 have ex:=Ext.wrote (K:=X.K) (ys:=ys.dropLast) (vs:=ws.dropLast) ja h1
 exact ⟨a,ws,w,rfl,rfl,h1,by rw [← h2.length];exact e1,k y _ w _ (ex.rep e2) (r.wrote ja h1 h2.dropLast) ex q⟩⟩
def DA:xk:=fun x xs J Q=>∃ a ys,x=.ref a∧xs=[]∧J a=some (.lst ys)∧Q .non (put J a (.lst []))
def Ax:V→List V→Hp→VK→Prop:=fun x vs H Q=>∃ l xs i y,x=.ref l∧vs=[.int (i:Nat),y]∧H l=some (.lst xs)∧i≤xs.length∧xs.length < sizeLine∧i < 2 ^ 62∧Q .non (upd H l (.lst (xs.take i ++ y :: xs.drop i)))
theorem su (its:List Value) (i:Nat) (u:Value) (h:i≤its.length):((its.toArray.extract 0 (min ((i:Int)).toNat its.toArray.size)).push u ++ its.toArray.extract (min ((i:Int)).toNat its.toArray.size))=(its.take i ++ u :: its.drop i).toArray:=by
 have e:min ((i:Int)).toNat its.toArray.size=i:=by simp;omega
 rw [e]
 apply Array.ext'
 simp
 exact List.take_of_length_le (by simp)
theorem v9:nR X "list.insert" Ax:=by
 intro pins s σ H x vs v us Q I rx rv h
 obtain ⟨l,xs,i,y,rfl,rfl,hH,hi,hz,hb,q⟩:=h
 cases rx
 obtain ⟨u,w,rfl,ru,rw'⟩:=L2.vals2 rv
 obtain ⟨t,rfl⟩:=ru
 obtain ⟨z,its,n,r,hl,e⟩:=I.xR hH
 have h63:((i:Nat):Int) < 2 ^ 63:=by
  have:((i:Nat):Int) < ((2 ^ 62:Nat):Int):=Int.ofNat_lt.mpr hb
  exact Int.lt_trans this (by decide)
 have hf:Builtin.List.listFitsIndex ((i:Nat):Int)=true:=fitsIndex_both (Int.le_trans (by decide) (Int.natCast_nonneg i)) h63
 have hs:its.toArray.size≤sizeLine:=by rw [List.size_toArray,← hl];exact z
 have hn:¬(!Builtin.List.listFitsIndex ((i:Nat):Int))=true:=by rw [hf];exact fun z=>nomatch z
 have hneg:¬ (((i:Nat):Int) < 0):=by omega
 have hins:=su its i w (by omega)
 clear hb h63 hf
 generalize ((i:Nat):Int)=ii at *
 have mm:=PySem.AutoSeq1.list_insert_list_int_val_1 l its.toArray n ii t w hn hs
 refine call_meets PySem.F.slot_list_insert ⟨_,e,rfl⟩ PySem.F.entry_list_insert (PySem.F.args_list_insert_3 _ _ _) mm ⟨e,?_⟩
 refine ⟨.non,_,I.AU (its':=its.take i ++ w :: its.drop i) hH e ?_ ((r.take i).append (.cons rw' (r.drop i))) ?_,rfl,q⟩
 ·simp only [if_neg hneg]
  exact hins
 ·rw [List.length_append,List.length_cons,List.length_take,List.length_drop];omega
def uy:xk:=fun x xs J Q=>∃ a ys i y,x=.ref a∧xs=[.int (i:Nat),y]∧J a=some (.lst ys)∧i≤ys.length∧ys.length < sizeLine∧i < 2 ^ 62∧Q .non (put J a (.lst (ys.take i ++ y :: ys.drop i)))
theorem jB:Cz X "list" "list.insert" uy:=⟨_,v9,fun J H x xs v vs Q2 Q rx rs r ⟨a,ys,i,y,ex,exs,ja,hi,hl,hb,q⟩ k=>by
 subst ex exs;cases rx;obtain ⟨w0,us,rfl,rw0,w,us',rfl,rw',e⟩:=rs;cases e;cases rw0
 obtain ⟨ws,h1,h2⟩:=r _ _ ja
 exact ⟨a,ws,i,w,rfl,rfl,h1,by rw [← h2.length];exact hi,by rw [← h2.length];exact hl,hb,k .non _ _ _ rfl (r.wrote (ys:=ys.take i ++ y :: ys.drop i) ja h1 ((h2.take i).append (show aB X.K J H (y :: ys.drop i) (w :: ws.drop i) from ⟨w,_,rfl,rw',h2.drop i⟩))) (.wrote ja h1) q⟩⟩
end
def kg (ks:List (Str × Nat)) (τ:Sr):Sr:=ks.map fun p=>(τ[p.2]?).getD none
theorem vg {K:PySem.W.Frag} {J:Hq} {H:Hp} {τ:Sr} {σ:L2.St} (r:ig K J H τ σ) {x:PV} {v:V} (rx:bJ K J H x v) (ks:List (Str × Nat)):ig K J H (some x :: kg ks τ) (some v :: cn ks σ):=by
 refine ⟨by simp [kg,cn],fun i y e=>?_⟩
 cases i with
 | zero=>rw [List.getElem?_cons_zero] at e ⊢;cases e;exact ⟨v,rfl,rx⟩
 | succ i =>
  rw [List.getElem?_cons_succ] at e ⊢
  unfold kg at e
  unfold cn
  rw [List.getElem?_map] at e ⊢
  cases ep:ks[i]? with
  | none=>rw [ep] at e;cases e
  | some p =>
   rw [ep] at e
   have e':(τ[p.2]?).getD none=some y:=Option.some.inj e
   have e2:τ[p.2]?=some (some y):=by
    cases q:τ[p.2]? with
    | none=>rw [q] at e';cases e'
    | some w=>rw [q] at e';exact congrArg some e'
   obtain ⟨v',h1,h2⟩:=r.get _ _ e2
   exact ⟨v',by show some ((σ[p.2]?).getD none)=_;rw [h1];rfl,h2⟩
def Sub (J J':Hq):Prop:=∀ a o,J a=some o→J' a=some o
theorem Sub.refl (J:Hq):Sub J J:=fun _ _ h=>h
theorem Sub.put {J:Hq} {D:Addr} {o:HQ} (h:J D=none):Sub J (put J D o):=fun a u e=>by
 have ne:a≠D:=by intro z;subst z;rw [h] at e;cases e
 rw [aq ne];exact e
def Ic (it:tj) (J1:Hq) (ks:List (Str × Nat)) (τ:Sr) (tc:ik) (te:cq) (c:PV→Bool) (g:PV→PV):Prop:=it.xs.length < sizeLine∧∀ J',Sub J1 J'→it.ok J' ∧
 ∀ x∈it.xs,tc (some x :: kg ks τ) J' (fun b J2=>b=c x∧J2=J')∧(c x=true→te (some x :: kg ks τ) J' fun y J2=>y=g x∧J2=J')
def wb (wi:n6) (ks:List (Str × Nat)) (tc:ik) (te:cq):cq:=fun τ J Q=>wi τ J fun it J1=>∃ (c:PV→Bool) (g:PV→PV),Ic it J1 ks τ tc te c g∧Q (.fl ((it.xs.filter c).map g)) J1
def C4 (wi:n6) (ks:List (Str × Nat)) (tc:ik) (te:cq):cq:=fun τ J Q=>wi τ J fun it J1=>∃ (c:PV→Bool) (g:PV→PV),Ic it J1 ks τ tc te c g∧∀ p,J1 p=none→Q (.ref p) (put J1 p (.lst ((it.xs.filter c).map g)))
def uA:ik:=fun _ J Q=>Q true J
section
variable {X:Cx} {G:G2}
theorem j5 {α:Type} (c:α→Bool) {xs:List α} {i:Nat} {x:α} (h:xs[i]?=some x):(xs.take (i + 1)).filter c=(xs.take i).filter c ++ (if c x=true then [x] else []):=by
 rw [List.take_add_one,h,List.filter_append]
 congr 1
 simp only [Option.toList_some,List.filter_cons,List.filter_nil]
theorem oN {K:PySem.W.Frag} {ks:List (Str × Nat)} {tc:ik} {te:cq} {σ:L2.St} {H:Hp} {Q:VK} {τ:Sr} {J:Hq} (a2:pS K G τ J σ H) {it:tj} {J1:Hq} {I:It} {H1:Hp} (ir:m8 K it I J1 H1) (r1:Rep K J1 H1) (e1:Ext K J H J1 H1) {c:PV→Bool} {g:PV→PV}
  (w:Ic it J1 ks τ tc te c g)
  (q:∀ D H2,H1 D=none→J1 D=none→Rep K (put J1 D (.lst ((it.xs.filter c).map g))) H2→Ext K J1 H1 (put J1 D (.lst ((it.xs.filter c).map g))) H2→Q (.ref D) H2) :
  ∀ D,H1 D=none→∃ W:Nat→Nat→Hp→Prop,(∃ m,W 0 m (upd H1 D (.lst [])))∧∀ i m H2,W i m H2→(I.stop i H2∧Q (.ref D) H2) ∨
   (I.go i H2∧∀ v H3,I.yld i H2 v H3→LT K G tc (some v :: cn ks σ) H3 fun b H4=>if b=true then LE K G te (some v :: cn ks σ) H4 fun y H5=>∃ ys,H5 D=some (.lst ys)∧ys.length < sizeLine∧∃ m',m' < m∧W (i + 1) m' (upd H5 D (.lst (ys ++ [y]))) else ∃ m',m' < m∧W (i + 1) m' H4):=by
 intro D hD
 obtain ⟨hlen,w⟩:=w
 have jD:J1 D=none:=r1.free hD
 refine ⟨fun i m H2=>m=it.xs.length - i∧i≤it.xs.length∧Rep K (put J1 D (.lst (((it.xs.take i).filter c).map g))) H2∧Ext K J1 H1 (put J1 D (.lst (((it.xs.take i).filter c).map g))) H2,⟨_,rfl,Nat.zero_le _,r1.xG (xs:=[]) (vs:=[]) hD rfl,.laid hD⟩,?_⟩
 rintro i m H2 ⟨rfl,hi,r2,e2⟩
 obtain ⟨ok,ww⟩:=w _ (Sub.put (o:=.lst (((it.xs.take i).filter c).map g)) jD)
 by_cases hlt:i < it.xs.length
 ·refine .inr ⟨ir.go _ H2 e2 r2 ok i hlt,fun v H3 y=>?_⟩
  obtain ⟨x,ex,rx,r3,e3⟩:=ir.yl _ H2 e2 r2 ok i hlt v H3 y
  obtain ⟨hc,he⟩:=ww x (List.mem_of_getElem? ex)
  have a3:pS K G (some x :: kg ks τ) _ (some v :: cn ks σ) H3:=⟨vg (a2.sl.ext ((e1.trans e2).trans e3)) rx ks,r3,((a2.ext.trans e1).trans e2).trans e3⟩
  refine ⟨_,_,_,a3,hc,fun b J4 H4 r4 e4 ⟨eb,ej⟩=>?_⟩
  subst ej
  cases hb:c x with
  | false =>
   rw [eb,hb]
   simp only [Bool.false_eq_true,if_false]
   refine ⟨_,by omega,rfl,hlt,?_⟩
   rw [j5 c ex,hb]
   simp only [Bool.false_eq_true,if_false,List.append_nil]
   exact ⟨r4,(e2.trans e3).trans e4⟩
  | true =>
   rw [eb,hb]
   simp only [if_true]
   refine ⟨_,_,_,a3.go r4 e4,he hb,fun z J5 u H5 rz r5 e5 ⟨ez,ej⟩=>?_⟩
   subst ej ez
   obtain ⟨ys,h5,ry⟩:=r5 D _ av
   have ll:ys.length≤i:=by
    rw [← ry.length,List.length_map]
    exact Nat.le_trans (List.length_filter_le _ _) (by rw [List.length_take];omega)
   have r6:=r5.wrote (ys:=((it.xs.take i).filter c).map g ++ [g x]) (vs:=ys ++ [u]) av h5 (ry.append (show aB K _ H5 [g x] [u] from ⟨u,[],rfl,rz,rfl⟩))
   have e6:=Ext.wrote (K:=K) (ys:=((it.xs.take i).filter c).map g ++ [g x]) (vs:=ys ++ [u]) (J:=put J1 D (.lst (((it.xs.take i).filter c).map g))) av h5
   rw [dI] at r6 e6
   refine ⟨ys,h5,by omega,_,by omega,rfl,hlt,?_⟩
   rw [j5 c ex,hb,if_pos rfl,List.map_append]
   exact ⟨r6,(((e2.trans e3).trans e4).trans e5).trans e6⟩
 ·have ei:i=it.xs.length:=by omega
  subst ei
  rw [List.take_length] at r2 e2 ok
  exact .inl ⟨ir.stop _ H2 e2 r2 ok,q D H2 hD jD r2 e2⟩
theorem freeze {K:PySem.W.Frag} {J1:Hq} {H2:Hp} {D:Addr} {xs:List PV} (jD:J1 D=none) (r:Rep K (put J1 D (.lst xs)) H2):bJ K J1 H2 (.fl xs) (.ref D)∧Rep K J1 H2∧Ext K (put J1 D (.lst xs)) H2 J1 H2:=by
 obtain ⟨ys,h,ry⟩:=r D _ av
 have less:∀ a,J1 a=put J1 D (.lst xs) a∨J1 a=none:=fun a=>by
  by_cases e:a=D
  ·subst e;exact .inr jD
  ·rw [aq e];exact .inl rfl
 have e:=Ext.less (K:=K) (H:=H2) less
 exact ⟨⟨D,ys,rfl,.inl ⟨jD,.inl h⟩,e.gh ry⟩,r.less less,e⟩
theorem yd {wi:n6} {ks:List (Str × Nat)} {tc:ik} {te:cq}:∀ σ H Q,LE X.K G (wb wi ks tc te) σ H Q→Eg (LI X.K G wi) ks (LT X.K G tc) (LE X.K G te) σ H Q:=fun σ H Q ⟨τ,J,Q2,a2,h,k⟩ =>
 ⟨τ,J,_,a2,h,fun it J1 I H1 ir r1 e1 ⟨c,g,w,q⟩=>oN (Q:=Q) a2 ir r1 e1 w fun D H2 hD jD r2 e2=>let ⟨x1,x2,x3⟩:=freeze jD r2;k _ J1 _ H2 x1 x2 ((e1.trans e2).trans x3) q⟩
theorem yv {wi:n6} {ks:List (Str × Nat)} {tc:ik} {te:cq}:∀ σ H Q,LE X.K G (C4 wi ks tc te) σ H Q→Eg (LI X.K G wi) ks (LT X.K G tc) (LE X.K G te) σ H Q:=fun σ H Q ⟨τ,J,Q2,a2,h,k⟩ =>
 ⟨τ,J,_,a2,h,fun it J1 I H1 ir r1 e1 ⟨c,g,w,q⟩=>oN (Q:=Q) a2 ir r1 e1 w fun D H2 hD jD r2 e2=>k (.ref D) _ _ H2 rfl r2 (e1.trans e2) (q D jD)⟩
theorem zT {wi:n6} {ks:List (Str × Nat)} {te:cq}:∀ σ H Q,LE X.K G (wb wi ks uA te) σ H Q→G4 (LI X.K G wi) ks (LE X.K G te) σ H Q:=fun σ H Q ⟨τ,J,Q2,a2,h,k⟩ =>
 ⟨τ,J,_,a2,h,fun it J1 I H1 ir r1 e1 ⟨c,g,w,q⟩ D hD=>by
  obtain ⟨W,w0,turn⟩:=oN (Q:=Q) a2 ir r1 e1 w (fun D H2 hD jD r2 e2=>let ⟨x1,x2,x3⟩:=freeze jD r2;k _ J1 _ H2 x1 x2 ((e1.trans e2).trans x3) q) D hD
  refine ⟨W,w0,fun i m H2 hw=>?_⟩
  rcases turn i m H2 hw with z | ⟨go,z⟩
  ·exact .inl z
  ·refine .inr ⟨go,fun v H3 y=>?_⟩
   obtain ⟨τ',J',Q',a',t',k'⟩:=z v H3 y
   have:=k' true J' H3 a'.hp .refl t'
   simpa using this⟩
variable {elt iter cnd:Expr} {x y:Str} {px py:Pos} {sc:Scope} {pos spos:Pos} {wi:n6} {te:cq} {tc:ik} {i:Nat}
theorem ES (osc:Scope) (N:List Str) (ks:List (Str × Nat)) (hc:X.calm=true) (ho:X.env.scope=osc) (hN:X.N=N) (hi:RI X G (.Name x px) iter wi) (he:∀ cl C s₀ H₀ fp pins,RE (dJ X sc cl C x ks s₀ H₀ fp pins) G elt te)
  (ok:bY sc osc N x ks:=by decide +kernel) (hs:∀ x,foldedSetIterable iter X.env x=pure x:=by intro _;rfl):RE X G (.ListComp elt [⟨.Name x px,iter,[],0⟩] sc pos) (wb wi ks uA te) :=
 ⟨hE (CK osc N ks hc ho hN hi.run (fun cl C s₀ H₀ fp pins=>(he cl C s₀ H₀ fp pins).run) ok hs) zT⟩
theorem qv {t:cq} {u:TE} (h:∀ σ H Q,LE X.K G t σ H Q→u σ H Q):∀ D σ H,LS X.K G (rK t (Dd i)) D σ H→u σ H fun v H1=>D.nx (σ.set i (some v)) H1:=fun D σ H ⟨τ,J,D2,a2,q,g⟩ =>
 h σ H _ ⟨τ,J,_,a2,q,fun x J' v H' rx rr ee q=>g.nx _ J' _ H' ((a2.sl.ext ee).set i rx) rr ee q⟩
theorem Dk (osc:Scope) (N:List Str) (ks:List (Str × Nat)) (hc:X.calm=true) (ho:X.env.scope=osc) (hN:X.N=N) (hnd:X.N.Nodup) (hy:X.N[i]?=some y) (hl:Loc X.env.scope y) (hi:RI X G (.Name x px) iter wi) (he:∀ cl C s₀ H₀ fp pins,RE (dJ X sc cl C x ks s₀ H₀ fp pins) G elt te) (hcn:∀ cl C s₀ H₀ fp pins,RT (dJ X sc cl C x ks s₀ H₀ fp pins) G cnd tc)
  (ok:bY sc osc N x ks:=by decide +kernel) (hs:∀ x,foldedSetIterable iter X.env x=pure x:=by intro _;rfl) (hsw:swapsWith (.ListComp elt [⟨.Name x px,iter,[cnd],0⟩] sc pos) (some (.Name y py)) spos.line X.env=pure true:=by rfl) (hf:X.fn y=true∨X.env.scope.names.lookup y=some .local:=by first | exact .inl rfl | exact .inr rfl | assumption) :
  RS X G (.Assign [.Name y py] (.ListComp elt [⟨.Name x px,iter,[cnd],0⟩] sc pos) spos) (rK (wb wi ks tc te) (Dd i)) :=
 ⟨vh (yV osc N ks hc ho hN hnd hy hl hi.run (fun cl C s₀ H₀ fp pins=>(he cl C s₀ H₀ fp pins).run) (fun cl C s₀ H₀ fp pins=>(hcn cl C s₀ H₀ fp pins).run) ok hs hsw hf) (qv yd)⟩
theorem A9 (osc:Scope) (N:List Str) (ks:List (Str × Nat)) (hc:X.calm=true) (ho:X.env.scope=osc) (hN:X.N=N) (hnd:X.N.Nodup) (hy:X.N[i]?=some y) (hl:Loc X.env.scope y) (hi:RI X G (.Name x px) iter wi) (he:∀ cl C s₀ H₀ fp pins,RE (dJ X sc cl C x ks s₀ H₀ fp pins) G elt te) (hcn:∀ cl C s₀ H₀ fp pins,RT (dJ X sc cl C x ks s₀ H₀ fp pins) G cnd tc)
  (ok:bY sc osc N x ks:=by decide +kernel) (hs:∀ x,foldedSetIterable iter X.env x=pure x:=by intro _;rfl) (hsw:swapsWith (.ListComp elt [⟨.Name x px,iter,[cnd],0⟩] sc pos) (some (.Name y py)) spos.line X.env=pure true:=by rfl) (hf:X.fn y=true∨X.env.scope.names.lookup y=some .local:=by first | exact .inl rfl | exact .inr rfl | assumption) :
  RS X G (.Assign [.Name y py] (.ListComp elt [⟨.Name x px,iter,[cnd],0⟩] sc pos) spos) (rK (C4 wi ks tc te) (Dd i)) :=
 ⟨vh (yV osc N ks hc ho hN hnd hy hl hi.run (fun cl C s₀ H₀ fp pins=>(he cl C s₀ H₀ fp pins).run) (fun cl C s₀ H₀ fp pins=>(hcn cl C s₀ H₀ fp pins).run) ok hs hsw hf) (qv yv)⟩
end
end Ov
namespace Ov
open PySem PySem.Spec PyProof.Rows
section
open HT (lexLt)
def iz:List Str→List Str→Bool
 | [],[]=>false
 | [],_ :: _=>true
 | _ :: _,[]=>false
 | x :: xs,y :: ys=>if x=y then iz xs ys else decide (x.cps.toList < y.cps.toList)
theorem jO (x y:Str) (xs ys:List Str):iz (x :: xs) (y :: ys)=if x=y then iz xs ys else decide (x.cps.toList < y.cps.toList):=rfl
theorem i8:iz [] []=false:=rfl
theorem mM (y:Str) (ys:List Str):iz [] (y :: ys)=true:=rfl
theorem mH (x:Str) (xs:List Str):iz (x :: xs) []=false:=rfl
theorem xO (A:Around) (s:Shared) (a:Str) (t:Tok) (c:Str) (u:Tok):∃ e,SeqAt.EqAt A s (.str a t) (.str c u) e∧(e=true↔a=c) :=
 ⟨(a == c),SeqAt.EqAt.str_str a t c u,by simp⟩
theorem xQ (A:Around) (s:Shared) (a:Str) (t:Tok) (c:Str) (u:Tok) (prog:Program) (w:World) (E:Value→Shared→Prop) (Q:Value→Shared→Prop) (h:Q (.bool (decide (a.cps.toList < c.cps.toList))) s) :
  wpAny (model prog w) A (richCompare .Lt (.str a t) (.str c u)) Q E s :=
 (PyProof.Rows.lt_str h:wpAny (model prog w) A (compareOp .Lt (.str a t) (.str c u)) Q E s)
open PySem.SeqAt
open PySem.AutoSeq1 (wpAny_loadPart')
open PySem.MeetsSeq PySem.MeetsSeq2 PySem.MeetsSeq3
theorem mE (l b:Addr) (items items2:Array Value) (n n2:Nat) (dd dd2:Option Addr) (sl sl2:Array (Option Value)) (ns ms:List Str) (hi:StrsAre items.toList ns) (hj:StrsAre items2.toList ms) :
  Meets (Builtin.«tuple.__lt__» ⟨[.ref l,.ref b],[]⟩)
   (fun _ R s=>s.heap.get? l=some { cls:=.type "tuple",dict:=dd,data:=.seq items n,slots:=sl }∧s.heap.get? b=some { cls:=.type "tuple",dict:=dd2,data:=.seq items2 n2,slots:=sl2 } ∧
    R (.ok (.ret (.bool (iz ns ms)))) s) :=
 .of_wp fun prog w A R s h=>by
  obtain ⟨hp,g,d,tk,os⟩:=s;obtain ⟨hl,hb,h⟩:=h
  have f2:=AutoSeq1.sub_tuple_tuple
  have z1:items.size=ns.length:=by rw [← hi.length];simp
  have z2:items2.size=ms.length:=by rw [← hj.length];simp
  wp_walk using wpAny_loadPart' hl,wpAny_loadPart' hb,wpAny_forIn_list _ (fun rest b s'=>b.1=none∧s'=⟨hp,g,d,tk,os⟩∧∃ (vs ws:List Value) (ns' ms':List Str),rest=vs.zip ws ∧
   StrsAre vs ns'∧StrsAre ws ms'∧ns'.length + items2.size=ms'.length + items.size∧R (.ok (.ret (.bool (iz ns' ms')))) ⟨hp,g,d,tk,os⟩) _
  case turn =>
   rintro ⟨y,x⟩ rest b s' ⟨hb',rfl,vs,ws,ns',ms',hz,hvi,hwi,hlen,hR⟩
   cases hvi with
   | nil=>rw [List.zip_nil_left] at hz;cases hz
   | cons a t hvi' =>
    cases hwi with
    | nil=>rw [List.zip_nil_right] at hz;cases hz
    | cons c u hwi' =>
     rw [List.zip_cons_cons] at hz
     injection hz with hyx hrest
     injection hyx with hy hx
     subst hy hx
     rw [jO] at hR
     simp only [List.length_cons] at hlen
     obtain ⟨e,he,hiff⟩:=xO A.in1 ⟨hp,g,d,tk,os⟩ a t c u
     refine wpAny_bind (he prog w _ _ ?_)
     cases e with
     | true =>
      rw [if_pos (hiff.mp rfl)] at hR
      wp_walk
      exact ⟨rfl,rfl,_,_,_,_,hrest,hvi',hwi',by omega,hR⟩
     | false =>
      rw [if_neg (fun q=>absurd (hiff.mpr q) Bool.false_ne_true)] at hR
      have hri:=xQ A.in1 ⟨hp,g,d,tk,os⟩ a t c u prog w
      wp_walk using hri
      exact ⟨_,rfl,by simpa using hR⟩
  case fin =>
   rintro ⟨b1,b2⟩ s' ⟨hb',rfl,vs,ws,ns',ms',hz,hvi,hwi,hlen,hR⟩
   simp only at hb'
   subst hb'
   have hv:iz ns' ms'=decide (items.size < items2.size):=by
    cases hvi with
    | nil =>
     cases hwi with
     | nil =>
      simp only [List.length_nil] at hlen
      rw [i8]
      exact (decide_eq_false (by omega)).symm
     | cons c u hw =>
      simp only [List.length_nil,List.length_cons] at hlen
      rw [mM]
      exact (decide_eq_true (by omega)).symm
    | cons a t hv =>
     cases hwi with
     | nil =>
      simp only [List.length_nil,List.length_cons] at hlen
      rw [mH]
      exact (decide_eq_false (by omega)).symm
     | cons c u hw =>
      rw [List.zip_cons_cons] at hz
      cases hz
   rw [hv] at hR
   wp_walk
   exact ⟨_,rfl,by simpa [Builtin.Tuple.tupleCompareSizes] using hR⟩
  case h =>
   exact ⟨rfl,rfl,items.toList,items2.toList,ns,ms,rfl,hi,hj,by omega,h⟩
section
variable {prog:Program} {w:World} {A:Around} {E:Value→Shared→Prop} {s:Shared}
theorem sG {l b:Addr} {items items2:Array Value} {ns ms:List Str} {Q:Value→Shared→Prop} (hl:IsTup s.heap l items) (hb:IsTup s.heap b items2) (hi:StrsAre items.toList ns) (hj:StrsAre items2.toList ms)
  (hu:A.units < cLine) (h:Q (.bool (iz ns ms)) s):wpAny (model prog w) A (compareOp .Lt (.ref l) (.ref b)) Q E s:=by
 obtain ⟨⟨cls,dd,data,sl⟩,ho,hc,n,hd⟩:=id hl
 obtain ⟨⟨cls2,dd2,data2,sl2⟩,ho2,hc2,n2,hd2⟩:=id hb
 simp only at hc hd hc2 hd2
 subst hc hd hc2 hd2
 exact richCompare_meets_room (op:=.Lt) ⟨_,ho,rfl⟩ ⟨_,ho2,rfl⟩ PySem.F.slot_tuple_lt PySem.F.entry_tuple_lt (PySem.F.args_tuple_lt_2 _ _) (mE l b items items2 n n2 dd dd2 sl sl2 ns ms hi hj)
  ⟨ho,ho2,show Value.bool (iz ns ms)≠Value.notImplemented∧Q (.bool (iz ns ms)) s from ⟨(fun x=>nomatch x),h⟩⟩ hu
end
end
open L2 (V HO Hp Inv Cx VK XK TE TT TA TS TG lH TI TO g_ Ends qW Loc Gl Rd RelV Vals d_ rX b7 lp rW nR g8 R2 upd aA aH cR fz Sp mn It a7 cy bj Passes kM ay Meth Mk Binds aF bP au cK eZ dy)
section
variable {X:Cx} {K:PySem.W.Frag}
theorem BE (hu:X.A.units < cLine):d_ X (compareOp .Lt) (fun x y H Q=>∃ a b ns ms,x=.ref a∧y=.ref b∧fz X.K H a (ns.map V.str)∧fz X.K H b (ms.map V.str)∧Q (.bl (iz ns ms)) H):=by
 intro pins s σ H x y v u Q I rx ry h
 obtain ⟨a,b,ns,ms,rfl,rfl,ha,hb,q⟩:=h
 cases rx;cases ry
 obtain ⟨is,r1,t1,_⟩:=I.tuple ha
 obtain ⟨js,r2,t2,_⟩:=I.tuple hb
 exact sG t1 t2 (by simpa using fU r1) (by simpa using fU r2) hu ⟨.bl _,H,I,rfl,q⟩
theorem lQ {J:Hq} {H:Hp}:∀ {ns:List Str} {vs:List V},aB K J H (ns.map PV.str) vs→vs=ns.map V.str
 | [],_,h=>h
 | n :: ns,_,⟨v,us,e,h,k⟩=>by subst e;cases h;rw [lQ k];rfl
def C0:iF:=fun x y J Q=>∃ ns ms,x=.tup (ns.map .str)∧y=.tup (ms.map .str)∧Q (.bl (iz ns ms)) J
theorem A_ (hu:X.A.units < cLine):iE X (compareOp .Lt) C0:=⟨_,BE hu,fun J H x y v w Q2 Q rx ry r ⟨ns,ms,ex,ey,q⟩ k=>by
 subst ex ey
 obtain ⟨a,vs,rfl,h1,h2⟩:=rx
 obtain ⟨b,ws,rfl,h3,h4⟩:=ry
 cases lQ h2;cases lQ h4
 exact ⟨a,b,ns,ms,rfl,rfl,h1,h3,k (.bl _) J _ H rfl r .refl q⟩⟩
def Ff:iF:=fun x y J Q=>∃ xs ys,mx J x=some xs∧mx J y=some ys∧xs.length + ys.length≤sizeLine∧Q (.fl (xs ++ ys)) J
end
def bt (K:PySem.W.Frag) (C:Addr) (m qual:Str) (st:Stmt):Prop:=∃ f fd,Meth K C m f∧bP K m qual st f fd
structure cQ (K:PySem.W.Frag) (mg:Str→Option Value) (x:Str) (C:Addr):Prop where
 cl:kM K C
 m:mg x=some (.ref C)
 mkz:PySem.W.makesIn K C=true
 kp:PySem.W.keepIn K (.ref C)=true
theorem a_ {K:PySem.W.Frag} {C f:Addr} {m qual:Str} {st:Stmt} {od an:Option Addr} {sl:Array (Option Value)} {oc kV dc pm cd ct:Value} (a:PySem.W.findIn K (.ref C) m=some (some (.ref f))) (i:PySem.W.isFn K (.ref f)=true)
  (l:K.lookup f=some ⟨oc,od,.func (PySem.W.fnOf m qual (L2.cf st) (L2.bC st) (L2.ai st) .none kV dc pm an cd ct),sl⟩) (c:PySem.W.codeIn K cd qual=true) (k:PySem.W.keepIn K (.ref f)=true):bt K C m qual st :=
 ⟨f,_,⟨a,i,k⟩,L2.tL l c k⟩
theorem pL {K:PySem.W.Frag} {h:Heap} {mg:Str→Option Value} {x:Str} {C:Addr} (X:K.In h) (G:h.Ns mainGlobals mg) (aC:PySem.W.nsIn K mainGlobals x=some (some (.ref C)))
  (pg:PySem.W.plainGet K C Str.empty=true) (hd:PySem.W.hasDictIn K C=true) (po:PySem.W.plainOver K C=true) (sa:PySem.W.findIn K (.ref C) "__setattr__"=some (some (.builtin "object.__setattr__"))) (mk:PySem.W.makesIn K C=true) (kc:PySem.W.keepIn K (.ref C)=true):cQ K mg x C :=
 ⟨⟨pg,hd,po,sa⟩,PySem.W.mg_of X G aC,mk,kc⟩
section
variable {P:Program} {w:World} {K:PySem.W.Frag} {mg:Str→Option Value} {base:Heap}
theorem bt.mw {C:Addr} {m qual:Str} {st:Stmt} {k:Nat} {ps:List Str} {sp:bX} (D:bt K C m qual st) (cl:kM K C) (h:∀ f fd,bP K m qual st f fd→aF P w K mg base (cx P w) k f fd ps (c9 K sp))
  (hb:∀ (kV doc pm:Value) (an:Option Addr) (cdv ct:Value) (us:List Value),us.length=ps.length→bindArgs (PySem.W.fnOf m qual (L2.cf st) (L2.bC st) (L2.ai st) .none kV doc pm an cdv ct) ⟨us,[]⟩=pure (ps.zip us)):b9 P w K mg base C k m ps sp:=by
 obtain ⟨f,fd,hm,F⟩:=D
 exact ⟨cl,f,fd,hm,h f fd F,F.binds hb⟩
theorem bt.IA {x:Str} {C:Addr} {qual:Str} {st:Stmt} {k:Nat} {ps:List Str} {sp:bX} (D:bt K C "__init__" qual st) (kd:cQ K mg x C) (h:∀ f fd,bP K "__init__" qual st f fd→aF P w K mg base (cx P w) k f fd ps (c9 K sp))
  (hb:∀ (kV doc pm:Value) (an:Option Addr) (cdv ct:Value) (us:List Value),us.length=ps.length→bindArgs (PySem.W.fnOf "__init__" qual (L2.cf st) (L2.bC st) (L2.ai st) .none kV doc pm an cdv ct) ⟨us,[]⟩=pure (ps.zip us)):wd P w K mg base C k x ps sp:=by
 obtain ⟨f,fd,hm,F⟩:=D
 exact ⟨kd.m,f,fd,⟨kd.mkz,hm.at_,hm.fn,kd.kp⟩,h f fd F,F.binds hb⟩
end
theorem yc {F:List Value→Prop} (h:∀ a,F [a]):∀ us:List Value,us.length=1→F us
 | [a],_=>h a
theorem gH {F:List Value→Prop} (h:∀ a b,F [a,b]):∀ us:List Value,us.length=2→F us
 | [a,b],_=>h a b
theorem EG {F:List Value→Prop} (h:∀ a b c,F [a,b,c]):∀ us:List Value,us.length=3→F us
 | [a,b,c],_=>h a b c
theorem GY {F:List Value→Prop} (h:∀ a b c d,F [a,b,c,d]):∀ us:List Value,us.length=4→F us
 | [a,b,c,d],_=>h a b c d
theorem Jt {F:List Value→Prop} (h:∀ a b c d e,F [a,b,c,d,e]):∀ us:List Value,us.length=5→F us
 | [a,b,c,d,e],_=>h a b c d e
theorem Jp {F:List Value→Prop} (h:∀ a b c d e f,F [a,b,c,d,e,f]):∀ us:List Value,us.length=6→F us
 | [a,b,c,d,e,f],_=>h a b c d e f
end Ov
namespace Ov
open PySem PySem.Spec PyProof.Rows
open L2 (V HO Hp Inv Cx VK XK Rd cR fz Sp a7 bj Passes aF bP au cK upd aA aH)
def fr (q:Rat):PV:=.tup [.int q.num,.int (q.den:Int)]
theorem DQ (a b:Rat):(fr a=fr b)=(a=b):=by
 apply propext
 constructor
 ·intro h
  unfold fr at h
  simp only [PV.tup.injEq,List.cons.injEq,PV.int.injEq,and_true] at h
  exact Rat.ext h.1 (by have:=h.2;omega)
 ·intro h;rw [h]
theorem Ci (a:Rat):fr a=.tup [.int a.num,.int (a.den:Int)]:=rfl
theorem De (J:Hq) (q:Rat):dT J (fr q) (.int 0)=some (.int q.num):=cJ _ _
theorem DS (J:Hq) (q:Rat):dT J (fr q) (.int 1)=some (.int (q.den:Int)):=dX _ _ _
theorem Fp (J:Hq) (q:Rat):xm J (fr q)=some "tuple":=rfl
theorem C2 (J:Hq) (q:Rat):sI J (fr q)=some 2:=rfl
theorem yG (q:Rat):kj (fr q)=true:=by simp [fr,kj,jL]
theorem oR (q:Rat):yO (fr q)=false:=rfl
theorem DO (q:Rat):dep (fw (fr q))=1:=by simp [fr,fw,fE,dep,c8]
theorem Fw (q:Rat):Dv (fr q)=True:=eq_true ⟨yG q,by rw [DO];decide⟩
theorem Ef (i:Int):Dv (.int i)=True:=eq_true ⟨by simp [kj],by simp [fw,dep]⟩
theorem Eb (i:Str):Dv (.str i)=True:=eq_true ⟨by simp [kj],by simp [fw,dep]⟩
theorem F0 (i:Bool):Dv (.bl i)=True:=eq_true ⟨by simp [kj],by simp [fw,dep]⟩
theorem DT:Dv .non=True:=eq_true ⟨by simp [kj],by simp [fw,dep]⟩
theorem BV (i:Int):kj (.int i)=true:=by simp [kj]
theorem u7 (i:Str):kj (.str i)=true:=by simp [kj]
theorem Eu (i:Bool):kj (.bl i)=true:=by simp [kj]
theorem Be:kj .non=true:=by simp [kj]
theorem vX (x:PV) (xs:List PV):jL (x :: xs)=(kj x && jL xs):=by simp [jL]
theorem eq_int (a b:Int):eqQ (.int a) (.int b)=decide (a=b):=by unfold eqQ fw gU;rw [Bool.beq_eq_decide_eq]
theorem eq_str (a b:Str):eqQ (.str a) (.str b)=decide (a=b):=by
 unfold eqQ fw gU
 cases h:a == b with
 | true=>simp at h;simp [h]
 | false=>simp at h;simp [h]
theorem GI (a b:Bool):eqQ (.bl a) (.bl b)=decide (a=b):=by unfold eqQ fw gU;rw [Bool.beq_eq_decide_eq]
def sU (xs ys:List PV):Bool:=gx (fE xs) (fE ys)
theorem sX (xs ys:List PV):eqQ (.tup xs) (.tup ys)=sU xs ys:=by unfold eqQ fw gU sU;rfl
theorem eL (x y:PV) (xs ys:List PV):sU (x :: xs) (y :: ys)=(eqQ x y && sU xs ys):=by unfold sU eqQ;simp [fE,gx]
theorem oO:sU [] []=true:=by unfold sU;simp [fE,gx]
theorem eq_self (x:PV):eqQ x x=true:=qS _
theorem zU (a b:Rat):eqQ (fr a) (fr b)=decide (a=b):=by
 rw [Ci,Ci,sX,eL,eL,oO,eq_int,eq_int,Bool.and_true,← Bool.decide_and]
 exact decide_eq_decide.mpr (by rw [Av])
theorem Jo (a b c:PV):ko [a,b,c] (some 1) none=[b,c]:=rfl
theorem ty_int (b:Bool):(iq "int" "int"=some b)=(b=true):=by cases b <;> simp [iq]
theorem ty_bool (b:Bool):(iq "int" "bool"=some b)=(b=false):=by cases b <;> simp [iq]
theorem FC (b:Bool):(iq "bool" "bool"=some b)=(b=true):=by cases b <;> simp [iq]
theorem ty_str (b:Bool):(iq "str" "str"=some b)=(b=true):=by cases b <;> simp [iq]
theorem Es (b:Bool):(iq "tuple" "tuple"=some b)=(b=true):=by cases b <;> simp [iq]
theorem ty_list (b:Bool):(iq "list" "list"=some b)=(b=true):=by cases b <;> simp [iq]
theorem cX {n:Nat} (h:n≤1000):n≤sizeLine:=Nat.le_of_lt (L2.aW h)
theorem Ca:(0≤sizeLine)=True:=eq_true (Nat.zero_le _)
theorem ER:(1≤sizeLine)=True:=eq_true (cX (by decide))
theorem GG:(2≤sizeLine)=True:=eq_true (cX (by decide))
theorem Fc:(3≤sizeLine)=True:=eq_true (cX (by decide))
theorem FX:(4≤sizeLine)=True:=eq_true (cX (by decide))
section
variable (J:Hq) (xs:List PV) (a:Addr) (i:Int) (b:Bool) (z:Str) (T:String)
theorem HA:dT J (.tup xs) (.int i)=cK xs i:=rfl
theorem HJ:dT J (.fl xs) (.int i)=cK xs i:=rfl
theorem Fn:dT J (.ref a) (.int i)=(match J a with | some (.lst xs)=>cK xs i | _=>none):=rfl
theorem Hi:mx J (.fl xs)=some xs:=rfl
theorem Io:mx J (.ref a)=(match J a with | some (.lst xs)=>some xs | _=>none):=rfl
theorem F4:sI J (.tup xs)=some xs.length:=rfl
theorem FY:sI J (.fl xs)=some xs.length:=rfl
theorem Cp:sI J (.ref a)=(match J a with | some (.lst xs)=>some xs | _=>none).map List.length:=rfl
theorem HU:xm J .non=some "NoneType":=rfl
theorem FD:xm J (.bl b)=some "bool":=rfl
theorem Iq:xm J (.int i)=some "int":=rfl
theorem Hw:xm J (.str z)=some "str":=rfl
theorem HY:xm J (.tup xs)=some "tuple":=rfl
theorem Hx:xm J (.fl xs)=some "list":=rfl
theorem HP:xm J (.ref a)=(match J a with | some (.lst _)=>some "list" | some (.dct _ _)=>some "dict" | _=>none):=rfl
theorem FO:o6 J .non=some false:=rfl
theorem CS:o6 J (.bl b)=some b:=rfl
theorem FZ:o6 J (.int i)=some (i != 0):=rfl
theorem GB:o6 J (.tup xs)=some (!xs.isEmpty):=rfl
theorem Fd:o6 J (.fl xs)=some (!xs.isEmpty):=rfl
theorem FP:o6 J (.ref a)=(match J a with | some (.lst xs)=>some (!xs.isEmpty) | some (.dct kvs _)=>some (!kvs.isEmpty) | _=>none):=rfl
theorem HC:G_ J (.fl xs)=some ⟨xs,fun _=>True⟩:=rfl
theorem Ij:G_ J (.ref a)=(match J a with | some (.lst xs)=>some ⟨xs,fun J'=>J' a=some (.lst xs)⟩ | _=>none):=rfl
theorem Fy:yO .non=true:=rfl
theorem IF:yO (.bl b)=false:=rfl
theorem HS:yO (.int i)=false:=rfl
theorem Ib:yO (.str z)=false:=rfl
theorem Hz:yO (.tup xs)=false:=rfl
theorem Im:yO (.fl xs)=false:=rfl
theorem Iy:yO (.ref a)=false:=rfl
theorem Hj:EM T J (.fl xs)=(T="list"):=rfl
theorem H0:EM T J (.str z)=(T="str"):=rfl
theorem Ii:EM T J (.ref a)=((T="list"∧∃ xs,J a=some (.lst xs))∨(T="dict"∧∃ kvs ep,J a=some (.dct kvs ep))):=rfl
end
def Fo (it:tj) (g:tR) (tb:fR) (D:En) (τ:Sr) (J1:Hq):Prop:=∃ Pv:Nat→Sr→Hq→Prop,Pv 0 τ J1∧(∀ i τ J,Pv i τ J→it.ok J) ∧
 (∀ i x τ J,it.xs[i]?=some x→Pv i τ J→g x τ J fun τ2 J2=>tb { D with nx:=Pv (i + 1),ct:=Pv (i + 1),bk:=D.nx } τ2 J2)∧∀ τ J,Pv it.xs.length τ J→D.nx τ J
theorem AW (wi:n6) (g:tR) (tb:fR) (D:En) (τ:Sr) (J:Hq):E1 wi g tb D τ J=wi τ J fun it J1=>Fo it g tb D τ J1:=rfl
theorem vE {lo:Int} {n:Nat} {g:tR} {tb:fR} {D:En} {τ:Sr} {J1:Hq} (Pv:Nat→Sr→Hq→Prop) (h0:Pv 0 τ J1)
  (hs:∀ (i:Nat) τ J,i < n→Pv i τ J→g (.int (lo + (i:Int))) τ J fun τ2 J2=>tb { D with nx:=Pv (i + 1),ct:=Pv (i + 1),bk:=D.nx } τ2 J2) (hd:∀ τ J,Pv n τ J→D.nx τ J):Fo ⟨o8 lo n,fun _=>True⟩ g tb D τ J1 :=
 ⟨Pv,h0,fun _ _ _ _=>trivial,fun i x τ J e p=>by obtain ⟨a,b⟩:=(rq lo n i x).mp e;subst b;exact hs i τ J a p,fun τ J p=>hd τ J (by simpa [je] using p)⟩
structure bD (mg:Str→Option Value):Prop extends xj mg where
 str:mg "str"=none
 dict:mg "dict"=none
 max:mg "max"=none
 zip:mg "zip"=none
 enumerate:mg "enumerate"=none
def mC (J' J:Hq):Prop:=∀ a,J' a=J a∨J' a=none
def Fg (Q:PV→Hq→Prop) (v:PV) (J:Hq):Prop:=∃ x J',mC J' J∧(x=v∨∃ a xs,v=.ref a∧x=.fl xs∧J a=some (.lst xs)∧J' a=none)∧Q x J'
theorem Fg.same {Q:PV→Hq→Prop} {v:PV} {J:Hq} (h:Q v J):Fg Q v J:=⟨v,J,fun _=>.inl rfl,.inl rfl,h⟩
theorem Fg.less {Q:PV→Hq→Prop} {v:PV} {J J':Hq} (l:mC J' J) (h:Q v J'):Fg Q v J:=⟨v,J',l,.inl rfl,h⟩
theorem Fg.mr {Q:PV→Hq→Prop} {a:Addr} {xs:List PV} {J J':Hq} (l:mC J' J) (ha:J a=some (.lst xs)) (hn:J' a=none) (h:Q (.fl xs) J'):Fg Q (.ref a) J:=⟨.fl xs,J',l,.inr ⟨a,xs,rfl,rfl,ha,hn⟩,h⟩
section
variable {P:Program} {w:World} {K:PySem.W.Frag} {mg:Str→Option Value} {base:Heap}
theorem Fg.kn {J:Hq} {H:Hp} {Q2:PV→Hq→Prop} {Q:VK} (k:Kn K J H Q2 Q):Kn K J H (Fg Q2) Q:=fun z J1 u H1 rz r1 e1 ⟨x,J',l,hx,q⟩=>by
 have el:=Ext.less (K:=K) (H:=H1) l
 rcases hx with rfl | ⟨a,xs,rfl,rfl,ha,hn⟩
 ·exact k x J' u H1 (el.rep rz) (r1.less l) (e1.trans el) q
 ·cases rz
  obtain ⟨vs,h1,h2⟩:=r1 _ _ ha
  exact k (.fl xs) J' _ H1 ⟨a,vs,rfl,.inl ⟨hn,.inl h1⟩,el.gh h2⟩ (r1.less l) (e1.trans el) q
theorem GW {x qual:Str} {st:Stmt} {f:Addr} {fd:FuncData} {N ps:List Str} {k:Nat} {sp:bX} (F:bP K x qual st f fd) (S:au N ps (L2.ai st)) (len:∀ xs J Q E,sp xs J Q E→xs.length=ps.length)
  (hbody:∀ (cdv:Value) (A:Around) (outer:List Env) (s:Shared) (H:Hp) (E:XK) (G:G2) (xs:List PV) (J:Hq) (Q:PV→Hq→Prop) (E2:Addr→Hq→Prop),bj k (A.deeper (envOfC qual (L2.ai st) s.heap.objs.size f cdv))→sp xs J Q E2 →
   Aa (xi P w K mg base N qual (L2.ai st) f cdv A outer s H E) G E2 E →
   ∃ t,RB (xi P w K mg base N qual (L2.ai st) f cdv A outer s H E) G (L2.bC st) t∧t { nx:=fun _ J'=>Fg Q .non J',rt:=Fg Q } (sf N xs) J):aF P w K mg base (cx P w) (k + 1) f fd ps (c9 K sp):=by
 have:=Jk (sp:=fun xs J Q E=>∃ Q0,Q=Fg Q0∧sp xs J Q0 E) F S (fun xs J Q E ⟨Q0,_,h⟩=>len xs J Q0 E h) (fun cdv A outer s H E G xs J Q E2 hr ⟨Q0,eq,h⟩ B=>by subst eq;exact hbody cdv A outer s H E G xs J Q0 E2 hr h B)
 exact this.imp fun vs H Q E ⟨xs,J,Q2,E2,a,b,c,d,e⟩=>⟨xs,J,Fg Q2,E2,a,b,⟨Q2,rfl,c⟩,Fg.kn d,e⟩
end
theorem HI {X:Cx} {G:G2}:Aa X G (fun _ _=>False) L2.E0:=⟨fun _ _ _ _ _ _ _ ⟨_,_,_,_,_,z⟩=>z.elim,fun _ _ _ _ _ z=>z.elim⟩
theorem jS {K:PySem.W.Frag} {J:Hq} {H:Hp}:∀ ns:List Int,aB K J H (ns.map PV.int) (ns.map V.int)
 | []=>rfl
 | n :: ns=>⟨_,_,rfl,rfl,jS ns⟩
end Ov
namespace Ov
open PySem PySem.Spec PyProof.Rows L2
theorem E7 {α:Type} (a b c d e:α) (xs:List α):cK (a :: b :: c :: d :: e :: xs) 4=some e:=a9 (j:=4) rfl
theorem FN {α:Type} (a b c d e f:α) (xs:List α):cK (a :: b :: c :: d :: e :: f :: xs) 5=some f:=a9 (j:=5) rfl
theorem E4 {α:Type} (a b c d e f g:α) (xs:List α):cK (a :: b :: c :: d :: e :: f :: g :: xs) 6=some g:=a9 (j:=6) rfl
theorem Fe {α:Type} (a b c d e f g h:α) (xs:List α):cK (a :: b :: c :: d :: e :: f :: g :: h :: xs) 7=some h:=a9 (j:=7) rfl
theorem FJ {α:Type} (a b c d e f g h i:α) (xs:List α):cK (a :: b :: c :: d :: e :: f :: g :: h :: i :: xs) 8=some i:=a9 (j:=8) rfl
theorem Gg {α:Type} (a b c d e f g h i j:α) (xs:List α):cK (a :: b :: c :: d :: e :: f :: g :: h :: i :: j :: xs) 9=some j:=a9 (j:=9) rfl
theorem Ds {α:Type} (a b c d e f g h i j k:α) (xs:List α):cK (a :: b :: c :: d :: e :: f :: g :: h :: i :: j :: k :: xs) 10=some k:=a9 (j:=10) rfl
theorem El {α:Type} (a b c d e f g h i j k l:α) (xs:List α):cK (a :: b :: c :: d :: e :: f :: g :: h :: i :: j :: k :: l :: xs) 11=some l:=a9 (j:=11) rfl
theorem FF:(5≤sizeLine)=True:=eq_true (cX (by decide))
theorem GP:(6≤sizeLine)=True:=eq_true (cX (by decide))
theorem FK:(7≤sizeLine)=True:=eq_true (cX (by decide))
theorem F5:(8≤sizeLine)=True:=eq_true (cX (by decide))
theorem Fl:(9≤sizeLine)=True:=eq_true (cX (by decide))
theorem C5:(10≤sizeLine)=True:=eq_true (cX (by decide))
theorem DJ:(11≤sizeLine)=True:=eq_true (cX (by decide))
theorem D6:(12≤sizeLine)=True:=eq_true (cX (by decide))
theorem qY {ss:List Int} (h:ss.all (fun s=>decide (0 < s) && decide (s < 2 ^ 63))=true):∀ s∈ss,0 < s∧Bd 9000 s:=fun s hs=>by
 have:=List.all_eq_true.mp h s hs
 rw [Bool.and_eq_true,decide_eq_true_eq,decide_eq_true_eq] at this
 exact ⟨this.1,(Bd.small (by omega) (by omega)).mono (by decide)⟩
theorem Sz.div {n:Nat} {t b:Int} (ht:Bd n t) (hb:Bd n b) (h:b≠0):Sz n (Rat.divInt t b):=⟨ht.le (uM t b),hb.le (oY h)⟩
end Ov
namespace Ov
open PySem PySem.Spec PyProof.Rows
open L2 (V HO Hp Inv Cx VK XK TE TT TA TS TG lH TI TO g_ Ends qW Loc Gl Rd RelV Vals d_ rX b7 lp rW nR g8 R2 upd aA aH cR fz Sp mn It a7 cy bj Passes kM ay Meth Mk Binds aF bP au cK eZ dy)
section
variable {X:Cx} {G:G2}
abbrev vY:=PV→PV→PV→Hq→(Hq→Prop)→Prop
def Iu (X:Cx) (q:vY):Prop:=∃ r,g8 X r∧∀ J H o i y ov iv u R2 R,bJ X.K J H o ov→bJ X.K J H i iv→bJ X.K J H y u→Rep X.K J H→q o i y J R2→(∀ J' H',Rep X.K J' H'→Ext X.K J H J' H'→R2 J'→R H')→r ov iv u H R
def Hk (to ti:cq) (t:vY):tR:=fun y τ J R=>to τ J fun o J1=>ti τ J1 fun i J2=>t o i y J2 fun J3=>R τ J3
theorem DP {o i:Expr} {to ti:cq} {t:vY} {pos:Pos} (hs:Iu X t) (ho:RE X G o to) (hi:RE X G i ti)
  (ha:∀ v,assign (.Subscript o i pos) X.env v=(do
   let ov ← holding [v] (eval o X.env)
   let iv ← holding [v,ov] (eval i X.env)
   standAt pos
   holding [v,ov,iv] (setItem ov iv v)
   release [v,ov,iv] []):=by intro _;rfl):RG X G (.Subscript o i pos) (Hk to ti t):=by
 obtain ⟨r,hr,lf⟩:=hs
 exact ⟨HD (L2.pe ho.run hi.run hr ha) fun v σ H Q ⟨y,τ,J,Q2,ry,a2,h,k⟩ =>
  ⟨τ,J,_,a2,h,fun x J1 ov H1 rx r1 e1 h1=>⟨τ,J1,_,a2.go r1 e1,h1,fun z J2 iv H2 rz r2 e2 h2 =>
   lf J2 H2 x z y ov iv v _ _ (e2.rep rx) rz (e2.rep (e1.rep ry)) r2 h2 fun J3 H3 r3 e3 q=>k τ J3 σ H3 ((((a2.sl.ext e1).ext e2).ext e3)) r3 ((e1.trans e2).trans e3) q⟩⟩⟩
def Fx:vY:=fun o i y J R=>∃ p xs k j,o=.ref p∧i=.int k∧J p=some (.lst xs)∧L2.xo xs.length k=some j∧R (put J p (.lst (xs.set j y)))
theorem og {o i e:Expr} {to ti te:cq} {t:vY} {pos pos':Pos} (hs:Iu X t) (ho:RE X G o to) (hi:RE X G i ti) (he:RE X G e te)
  (ha:∀ v,assign (.Subscript o i pos') X.env v=(do
   let ov ← holding [v] (eval o X.env)
   let iv ← holding [v,ov] (eval i X.env)
   standAt pos'
   holding [v,ov,iv] (setItem ov iv v)
   release [v,ov,iv] []):=by intro _;rfl)
  (hq:swapsWithSole [.Subscript o i pos'] e pos.line X.env=pure false:=by rfl) (hw:swappedStores [.Subscript o i pos'] e X.env=pure none:=by rfl)
  (h1:(assignEach [.Subscript o i pos'] X.env).map (·.2)=[assign (.Subscript o i pos') X.env]:=by rfl):RS X G (.Assign [.Subscript o i pos'] e pos) (rK te (Hk to ti t)):=sj he (DP hs ho hi ha) hq hw h1
def IP (X:Cx) (op:Operator) (q:iF):Prop:=∃ r,L2.Ie X op r∧LR X.K r q
def Gr (i:Nat) (te:cq) (q:iF):fR:=fun D τ J=>∃ x,τ[i]?=some (some x)∧te τ J fun y J1=>q x y J1 fun z J2=>D.nx (τ.set i (some z)) J2
theorem yD {i:Nat} {x:Str} {e:Expr} {te:cq} {op:Operator} {q:iF} {pos pos':Pos} (hN:X.N.Nodup) (hi:X.N[i]?=some x) (hx:Loc X.env.scope x) (he:RE X G e te) (ho:IP X op q) (hf:X.fn x=true∨X.env.scope.names.lookup x=some .local:=by first | exact .inl rfl | exact .inr rfl | assumption) :
  RS X G (.AugAssign (.Name x pos') op e pos) (Gr i te q):=by
 obtain ⟨r,hr,lf⟩:=ho
 exact ⟨vh (L2.Ew hN hi hx he.run hr hf) fun D σ H ⟨τ,J,D2,a2,⟨x,hx,h⟩,g⟩=>by
  obtain ⟨v,h1,h2⟩:=a2.sl.get _ _ hx
  exact ⟨v,h1,τ,J,_,a2,h,fun y J1 u H1 ry r1 e1 q1=>lf J1 H1 x y v u _ _ (e1.rep h2) ry r1 q1 fun z J2 u2 H2 rz r2 e2 q2=>g.nx _ J2 _ H2 (((a2.sl.ext e1).ext e2).set i rz) r2 (e1.trans e2) q2⟩⟩
theorem xJ:IP X .Sub (BH fun i j=>.int (i - j)):=⟨_,L2.Ed,fun J H x y v w Q2 Q rx ry r ⟨i,j,ex,ey,q⟩ k=>by
 subst ex ey;cases rx;cases ry;exact ⟨i,j,rfl,rfl,k (.int _) J _ H rfl r .refl q⟩⟩
end
theorem iw {xs:List PV} {ok:Hq→Prop} {g:tR} {tb:fR} {D:En} {τ:Sr} {J1:Hq} (Pv:Nat→Sr→Hq→Prop) (h0:Pv 0 τ J1) (hk:∀ i τ J,Pv i τ J→ok J)
  (hs:∀ (i:Nat) x τ J,xs[i]?=some x→Pv i τ J→g x τ J fun τ2 J2=>tb { D with nx:=Pv (i + 1),ct:=Pv (i + 1),bk:=D.nx } τ2 J2) (hd:∀ τ J,Pv xs.length τ J→D.nx τ J):Fo ⟨xs,ok⟩ g tb D τ J1:=⟨Pv,h0,hk,hs,hd⟩
theorem uz {α:Type} (xs:List α) (x:α):cK (xs ++ [x]) (-1)=some x:=by
 unfold L2.cK L2.xo
 rw [if_neg (by decide),if_pos (by simp;omega)]
 have e:(-1 + ((xs ++ [x]).length:Int)).toNat=xs.length:=by simp only [List.length_append,List.length_cons,List.length_nil];omega
 rw [e]
 simp
theorem gq {K:PySem.W.Frag} {h:Heap} {mg:Str→Option Value} {x:Str} {C:Addr} (X:K.In h) (G:h.Ns mainGlobals mg) (a:PySem.W.nsIn K mainGlobals x=some (some (.ref C))) (b:(PySem.W.excIn K C Hy "ValueError.__new__" && yB K C)=true):Own K mg x C :=
 ⟨PySem.W.mg_of X G a,(Bool.and_eq_true_iff.mp b).1,Ba (Bool.and_eq_true_iff.mp b).2⟩
theorem ml {J:Hq} {x:PV} {ys:List PV} (h:mx J x=some ys):x=.fl ys∨∃ a,x=.ref a∧J a=some (.lst ys):=by
 cases x with
 | fl xs=>cases h;exact .inl rfl
 | ref a =>
  right
  refine ⟨a,rfl,?_⟩
  unfold mx at h
  simp only at h
  split at h
  ·rename_i e;cases h;exact e
  ·cases h
 | _=>cases h
theorem Et {J:Hq} {x:PV} {ys:List PV} (h:mx J x=some ys):sI J x=some ys.length:=by
 rcases ml h with rfl | ⟨a,rfl,ha⟩
 ·rfl
 ·rw [Cp,ha];rfl
theorem GQ {J:Hq} {x:PV} {ys:List PV} (h:mx J x=some ys) (i:Int):dT J x (.int i)=cK ys i:=by
 rcases ml h with rfl | ⟨a,rfl,ha⟩
 ·rfl
 ·rw [Fn,ha]
def D1 (j:Nat):List PV:=.bl true :: (List.range 10).map fun k=>.bl (decide (j=k))
def Ir (c:Nat→Addr) (N n:Nat) (t:(Addr→Hq→Prop)→fR):fR:=fun D τ J =>
 t (fun a J'=>∃ j,j < 10∧a=c j∧D.nx ((List.replicate N none).set n (some (.fl (D1 j)))) J') D τ J
section
variable {X:Cx} {G:G2}
end
theorem DI {a b:fR} {D:En} {τ:Sr} {J:Hq} (h:a { D with nx:=fun τ' J'=>b D τ' J' } τ J):bR a b D τ J:=h
def EN (J:Hq):PV→Option (List PV)
 | .tup xs=>some xs
 | .fl xs=>some xs
 | .ref a=>match J a with
  | some (.lst xs)=>some xs
  | _=>none
 | _=>none
theorem zw {K:PySem.W.Frag} {J:Hq} {H:Hp} {y:PV} {u:V} {xs:List PV} (h:EN J y=some xs) (r:bJ K J H y u) (rr:Rep K J H):∃ p vs,u=.ref p∧(cR K H p vs∨fz K H p vs)∧aB K J H xs vs:=by
 cases y with
 | tup ys=>cases h;obtain ⟨a,vs,rfl,h1,h2⟩:=r;exact ⟨a,vs,rfl,.inr h1,h2⟩
 | fl ys=>cases h;obtain ⟨a,vs,rfl,h1,h2⟩:=r;exact ⟨a,vs,rfl,.inl h1.sq,h2⟩
 | ref a =>
  cases r
  unfold EN at h
  simp only at h
  split at h
  ·rename_i e;cases h
   obtain ⟨vs,h1,h2⟩:=rr _ _ e
   exact ⟨a,vs,rfl,.inl (cR.of h1),h2⟩
  ·cases h
 | _=>cases h
theorem dY {K:PySem.W.Frag} {J:Hq} {H:Hp}:∀ {ns:List Str} {vs:List V},aB K J H (ns.map PV.str) vs→vs=ns.map V.str
 | [],_,h=>h
 | n :: ns,_,⟨v,us,e,h,k⟩=>by subst e;cases h;rw [dY k];rfl
theorem iT {K:PySem.W.Frag} {J:Hq} {H:Hp}:∀ {ns:List Int} {vs:List V},aB K J H (ns.map PV.int) vs→vs=ns.map V.int
 | [],_,h=>h
 | n :: ns,_,⟨v,us,e,h,k⟩=>by subst e;cases h;rw [iT k];rfl
theorem vw {α:Type} [BEq α] [LawfulBEq α] [DecidableEq α] (x y:α):(x == y)=decide (x=y):=by by_cases h:x=y <;> simp [h]
theorem AZ (s:Str) (ss:List Str):L2.EO (.str s) (ss.map V.str)=decide (s∈ss):=by
 unfold L2.EO
 induction ss with
 | nil=>rfl
 | cons x ss ih =>
  rw [List.map_cons,List.any_cons,ih,show L2.Ac (.str x) (.str s)=(x == s) from rfl,vw]
  by_cases h:x=s
  ·subst h;simp
  ·simp [h,show ¬ s=x from fun e=>h e.symm]
theorem BS (s:Int) (ss:List Int):L2.EO (.int s) (ss.map V.int)=decide (s∈ss):=by
 unfold L2.EO
 induction ss with
 | nil=>rfl
 | cons x ss ih =>
  rw [List.map_cons,List.any_cons,ih,show L2.Ac (.int x) (.int s)=(x == s) from rfl,vw]
  by_cases h:x=s
  ·subst h;simp
  ·simp [h,show ¬ s=x from fun e=>h e.symm]
section
variable {X:Cx} {G:G2}
def GK (f:Bool→Bool):iF:=fun x y J Q=>∃ (s:Str) (ss:List Str),x=.str s∧EN J y=some (ss.map .str)∧Q (.bl (f (decide (s∈ss)))) J
def IC (f:Bool→Bool):iF:=fun x y J Q=>∃ (s:Int) (ss:List Int),x=.int s∧EN J y=some (ss.map .int)∧Q (.bl (f (decide (s∈ss)))) J
theorem xf (ss:List Str):(ss.map V.str).all L2.f_=true:=by simp [L2.f_]
theorem vM (ss:List Int):(ss.map V.int).all L2.f_=true:=by simp [L2.f_]
theorem u_:iE X (compareOp .NotIn) (GK not):=⟨_,L2.oM,fun J H x y v w Q2 Q rx ry r ⟨s,ss,ex,hy,q⟩ k=>by
 subst ex;cases rx
 obtain ⟨p,vs,rfl,hq,h2⟩:=zw hy ry r
 cases dY h2
 exact ⟨p,_,rfl,hq,rfl,xf ss,k (.bl _) J _ H (by rw [if_pos rfl,AZ];rfl) r .refl q⟩⟩
theorem DW:iE X (compareOp .In) (IC id):=⟨_,L2.wG,fun J H x y v w Q2 Q rx ry r ⟨s,ss,ex,hy,q⟩ k=>by
 subst ex;cases rx
 obtain ⟨p,vs,rfl,hq,h2⟩:=zw hy ry r
 cases iT h2
 exact ⟨p,_,rfl,hq,rfl,vM ss,k (.bl _) J _ H (by rw [if_neg (by decide),BS];rfl) r .refl q⟩⟩
end
end Ov
namespace L2
open PySem PySem.Spec PyProof.Rows
section
variable {X:Cx} {tg:Expr}
end
end L2
namespace Ov
open PySem PySem.Spec PyProof.Rows
open L2 (V HO Hp Inv Cx VK XK TE TT TA TS TG lH TI TO g_ Ends qW Loc Gl Rd RelV Vals d_ rX b7 lp rW nR g8 R2 upd aA aH cR fz Sp mn It a7 cy bj Passes kM ay Meth Mk Binds aF bP au cK eZ dy)
section
variable {X:Cx} {G:G2} {tg:Expr}
theorem zB {K:PySem.W.Frag} {J:Hq} {H:Hp} {y:PV} {u:V} {xs:List PV} (h:mx J y=some xs) (r:bJ K J H y u) (rr:Rep K J H):∃ p vs,u=.ref p∧cR K H p vs∧aB K J H xs vs:=by
 rcases ml h with rfl | ⟨a,rfl,ha⟩
 ·obtain ⟨a,vs,rfl,h1,h2⟩:=r;exact ⟨a,vs,rfl,h1.sq,h2⟩
 ·cases r
  obtain ⟨vs,h1,h2⟩:=rr _ _ ha
  exact ⟨a,vs,rfl,cR.of h1,h2⟩
theorem aB.flat {K:PySem.W.Frag} {J:Hq} {H:Hp} {xs:List PV} {vs:List V} (r:aB K J H xs vs):∀ k:Nat,aB K J H (List.replicate k xs).flatten (List.replicate k vs).flatten
 | 0=>rfl
 | k + 1=>by rw [List.replicate_succ,List.replicate_succ,List.flatten_cons,List.flatten_cons];exact r.append (aB.flat r k)
end
end Ov
namespace L2
open PySem PySem.Spec PyProof.Rows
section
variable {X:Cx} {pins:List (Addr × Obj)} {σ:St} {H:Hp} {s:Shared} {h':Heap}
theorem Inv.vd {t':Nat} {ch:List Addr} (I:Inv X pins σ H s) (k:∀ b o,b ∉ ch→s.heap.get? b=some o→h'.get? b=some o) (hf:∀ b∈ch,gf X pins H b):Inv X pins σ H { s with heap:=h',toks:=t' }:=by
 have nit:∀ b u,H b=some u→b ∉ ch:=fun b u e z=>by rw [(hf b z).1] at e;cases e
 refine I.step (g':=s.gens) (d':=s.drawn) (ch:=ch) (fun b hb=>?_) (fun b o _ _ hc e _=>k b o hc e) (fun b o _ _ hc e _=>⟨o.slots,k b o hc e⟩) (fun _ _ _ _ n=>n)
  (fun b o hc e=>⟨o,k b o hc e⟩) (fun _ _ e=>e) (fun _ _ _ e=>e) (fun b ps e=>⟨#[],by rw [e];simp⟩) (fun m hm=>?_) (fun b u e=>?_) I.bare
 ·obtain ⟨f0,f1,f2,f3,f4,f5⟩:=hf b hb
  exact ⟨f3,f1,f4,f5⟩
 ·obtain ⟨o,es,ep,ho,r⟩:=hm
  exact ⟨o,es,ep,k _ o (fun z=>(hf _ z).2.1 rfl) ho,r⟩
 ·refine (I.hok b u e).me (fun c v hc q=>k c v ?_ q) (fun _ q=>q) fun _ _ q=>q
  rcases hc with z | z
  ·rw [z];exact nit b u e
  ·exact nit c _ z
end
section
variable {X:Cx}
end
end L2
namespace Ov
open PySem PySem.Spec PyProof.Rows
open L2 (V HO Hp Inv Cx VK XK TE TT TA TS TG lH TI TO g_ Ends qW Loc Gl Rd RelV Vals d_ rX b7 lp rW nR g8 R2 upd aA aH cR fz Sp mn It a7 cy bj Passes kM ay Meth Mk Binds aF bP au cK eZ dy)
section
variable {X:Cx} {G:G2}
end
end Ov
namespace L2
open PySem PySem.Spec PyProof.Rows
section
variable {α β:Type}
def iG (kvs:List (Str × α)) (k:Str):Option α:=(kvs.find? fun kv=>decide (kv.1=k)).map (·.2)
def oV (kvs:List (Str × α)) (k:Str) (v:α):List (Str × α):=if kvs.any (fun kv=>decide (kv.1=k)) then kvs.map (fun kv=>if kv.1=k then (kv.1,v) else kv) else kvs ++ [(k,v)]
def y0 (kvs:List (Str × α)) (k:Str):List (Str × α):=kvs.filter fun kv=>decide (kv.1≠k)
theorem iJ (p:Str × α) (r:List (Str × α)) (k:Str):iG (p :: r) k=if p.1=k then some p.2 else iG r k:=by
 unfold iG
 rw [List.find?_cons]
 by_cases h:p.1=k <;> simp [h]
theorem t8 (kvs:List (Str × α)) (k:Str) (v:α):(oV kvs k v).length≤kvs.length + 1:=by
 unfold oV;split <;> simp
theorem Aq (kvs:List (Str × α)) (k:Str):(y0 kvs k).length≤kvs.length:=List.length_filter_le _ _
abbrev kX (R:α→β→Prop):List (Str × α)→List (Str × β)→Prop:=Paired fun p q=>p.1=q.1∧R p.2 q.2
variable {R:α→β→Prop}
theorem kX.va {kvs:List (Str × α)} {vs:List (Str × β)} (h:kX R kvs vs) (k:Str):(∀ x,iG kvs k=some x→∃ y,iG vs k=some y∧R x y)∧(iG kvs k).isSome=(iG vs k).isSome:=by
 induction h with
 | nil=>exact ⟨fun x e=>by simp [iG] at e,rfl⟩
 | @cons p q kvs vs r _ ih =>
  rw [iJ,iJ,← r.1]
  by_cases e:p.1=k
  ·rw [if_pos e,if_pos e];exact ⟨fun x z=>by cases z;exact ⟨_,rfl,r.2⟩,rfl⟩
  ·rw [if_neg e,if_neg e];exact ih
theorem kX.any {kvs:List (Str × α)} {vs:List (Str × β)} (h:kX R kvs vs) (k:Str):(kvs.any fun kv=>decide (kv.1=k))=vs.any fun kv=>decide (kv.1=k):=by
 induction h with
 | nil=>rfl
 | cons r _ ih=>rw [List.any_cons,List.any_cons,ih,r.1]
theorem kX.snoc {kvs:List (Str × α)} {vs:List (Str × β)} (h:kX R kvs vs) {k:Str} {x:α} {y:β} (r:R x y):kX R (kvs ++ [(k,x)]) (vs ++ [(k,y)]):=by
 induction h with
 | nil=>exact .cons ⟨rfl,r⟩ .nil
 | cons q _ ih=>exact .cons q ih
theorem kX.pu {kvs:List (Str × α)} {vs:List (Str × β)} (h:kX R kvs vs) {k:Str} {x:α} {y:β} (r:R x y):kX R (oV kvs k x) (oV vs k y):=by
 unfold oV
 rw [h.any k]
 split
 ·rename_i hany;clear hany
  induction h with
  | nil=>exact .nil
  | @cons p q kvs vs z _ ih =>
   rw [List.map_cons,List.map_cons]
   refine .cons ?_ ih
   by_cases e:p.1=k
   ·rw [if_pos e,if_pos (z.1 ▸ e)];exact ⟨z.1,r⟩
   ·rw [if_neg e,if_neg (z.1 ▸ e)];exact z
 ·exact h.snoc r
theorem kX.dr {kvs:List (Str × α)} {vs:List (Str × β)} (h:kX R kvs vs) (k:Str):kX R (y0 kvs k) (y0 vs k):=by
 unfold y0
 induction h with
 | nil=>exact .nil
 | @cons p q kvs vs z _ ih =>
  rw [List.filter_cons,List.filter_cons,z.1]
  split
  ·exact .cons z ih
  ·exact ih
theorem kX.len {kvs:List (Str × α)} {vs:List (Str × β)} (h:kX R kvs vs):kvs.length=vs.length:=Paired.length h
theorem kX.keys {kvs:List (Str × α)} {vs:List (Str × β)} (h:kX R kvs vs):kvs.map (·.1)=vs.map (·.1):=by
 induction h with
 | nil=>rfl
 | cons r _ ih=>rw [List.map_cons,List.map_cons,ih,r.1]
end
theorem wJ (vs:List (Str × Value)) (k:Str):valueAt vs k=iG vs k:=rfl
theorem str_is {P:Program} {w:World} {k:Str} {u:Value} (r:RelV (.str k) u):(PySem.strKind P w).is k u=true:=by
 obtain ⟨t,rfl⟩:=r
 simp [PySem.strKind,Value.isStrOf]
theorem zl {P:Program} {w:World} {k:Str} {u:Value} (h:(PySem.strKind P w).is k u=true):RelV (.str k) u:=Value.isStrOf_shape h
section
variable {X:Cx} {pins:List (Addr × Obj)} {σ:St} {H:Hp} {s:Shared} {a:Addr} {A:Around} {E:Value→Shared→Prop} {kvs:List (Str × V)} {ep:Nat}
theorem jx (I:Inv X pins σ H s) (e:H a=some (.dE kvs ep)):kvs.length≤sizeLine∧(a == sysModules)=false∧∃ vs,kX RelV kvs vs∧s.heap.DictAt (PySem.strKind X.prog X.w) a vs ep:=I.hok a _ e
theorem lG {h':Heap} {t':Nat} {kvs':List (Str × V)} {vs':List (Str × Value)} (I:Inv X pins σ H s) (e:H a=some (.dE kvs ep)) (hs:Heap.SameBut a s.heap h') (hz:kvs'.length≤sizeLine) (hd:(a == sysModules)=false) (rel:kX RelV kvs' vs') (dd:h'.DictOf (PySem.strKind X.prog X.w) a vs') :
  ∃ ep',Inv X pins σ (upd H a (.dE kvs' ep')) { s with heap:=h',toks:=t' }:=by
 obtain ⟨ep',da⟩:=dd.dictAt
 refine ⟨ep',I.write (x:=a) (e:=a) (by rw [e];exact True.intro) (.inl rfl) (fun b q hb z=>(hs.2 b hb).trans z) (let ⟨q,_,_,hq,_⟩:=dd;⟨q,hq⟩) ⟨hz,hd,vs',rel,da⟩⟩
theorem Inv.GO (I:Inv X pins σ H s):sysModules < s.heap.objs.size:=by
 have h:mainGlobals < s.heap.objs.size:=(I.mod.glob.keeps I.bk).lt
 exact Nat.lt_trans (by decide) h
end
theorem wt {P:Program} {w:World} {kvs:List (Str × V)} {vs:List (Str × Value)} (rel:kX RelV kvs vs):∀ {us:List Value},us.length=kvs.length→(∀ (j:Nat) (v:Value),us[j]?=some v→∃ k x,vs[j]?=some (k,x)∧(PySem.strKind P w).is k v=true)→Vals (kvs.map fun kv=>V.str kv.1) us:=by
 induction rel with
 | nil =>
  intro us hlen _
  cases us with
  | nil=>exact .nil
  | cons _ _=>cases hlen
 | @cons p q kvs vs z _ ih =>
  intro us hlen hget
  cases us with
  | nil=>cases hlen
  | cons u us =>
   rw [List.map_cons]
   refine .cons ?_ (ih (by simpa using hlen) fun j v e=>?_)
   ·obtain ⟨k,x,e1,e2⟩:=hget 0 u rfl
    rw [List.getElem?_cons_zero] at e1
    cases e1
    rw [z.1];exact zl e2
   ·obtain ⟨k,x,e1,e2⟩:=hget (j + 1) v (by rw [List.getElem?_cons_succ];exact e)
    rw [List.getElem?_cons_succ] at e1
    exact ⟨k,x,e1,e2⟩
def Hs:R2:=fun x y H Q=>∃ a kvs ep k v,x=.ref a∧y=.str k∧H a=some (.dE kvs ep)∧iG kvs k=some v∧Q v H
def Gw (f:Bool→Bool):R2:=fun x y H Q=>∃ a kvs ep k,x=.str k∧y=.ref a∧H a=some (.dE kvs ep)∧Q (.bl (f (iG kvs k).isSome)) H
def D3:List V→Hp→VK→Prop:=fun xs H Q=>∃ a kvs ep,xs=[.ref a]∧H a=some (.dE kvs ep)∧∀ p,H p=none→Q (.ref p) (upd H p (.lst (kvs.map fun kv=>.str kv.1)))
def Ft:V→List V→Hp→VK→Prop:=fun x xs H Q=>∃ a kvs ep k v,x=.ref a∧xs=[.str k]∧H a=some (.dE kvs ep)∧iG kvs k=some v∧∀ ep',Q v (upd H a (.dE (y0 kvs k) ep'))
def Gj:g_:=fun o i v H Q=>∃ a kvs ep k,o=.ref a∧i=.str k∧H a=some (.dE kvs ep)∧kvs.length < sizeLine∧∀ ep',Q (upd H a (.dE (oV kvs k v) ep'))
def EW:TE:=fun _ H Q=>∀ p,H p=none→∀ ep,Q (.ref p) (upd H p (.dE [] ep))
section
variable {X:Cx}
theorem Gk:lp X Hs:=by
 intro value slice pins s σ H x y v u Q I rx ry q hs
 obtain ⟨a,kvs,ep,k,z,rfl,rfl,hp,hz,q⟩:=q
 cases rx
 obtain ⟨_,hd,vs,rel,da⟩:=jx I hp
 have hT:s.TypeIs (.ref a) "dict":=da.dictOf.typeIs
 obtain ⟨w',hw,rw'⟩:=(rel.va k).1 z hz
 unfold subscriptTail
 refine wpAny_bind ?_
 rw [getitemInPython_of_ne hT.not_modules]
 refine wpAny_bind (wpAny_specialOf hT PySem.F.slot_dict_getitem.lookup ?_)
 have fin:wpAny (model X.prog X.w) X.A (subscripted slice false (.ref a) u) (fun r s₃=>wpAny (model X.prog X.w) X.A (letTemporaryGo value (.ref a) r >>= fun _=>pure r) (EP X pins σ Q) X.xe s₃) X.xe s:=by
  rw [hs]
  exact wpAny_operating (wpAny_getItem_of (str_is ry) da.dictOf.mapOf hw (wpAny_bind (wpAny_letTemporaryGo (wpAny_pure ⟨z,H,I.tok _,rw',q⟩))))
 first
  | exact wpAny_pure (wpAny_bind fin)
  | exact wpAny_bind (wpAny_pure (wpAny_bind fin))
  | exact wpAny_bind fin
theorem Dh:d_ X (compareOp .In) (Gw id):=by
 intro pins s σ H x y v u Q I rx ry ⟨a,kvs,ep,k,ex,ey,hp,q⟩
 subst ex ey
 cases ry
 obtain ⟨_,hd,vs,rel,da⟩:=jx I hp
 refine wpAny_in_of (str_is rx) hd da.dictOf.mapOf ?_
 exact ⟨.bl _,H,I.tok _,by rw [wJ,← (rel.va k).2];rfl,q⟩
theorem qk (hc:X.calm=true):b7 X (.type "list") D3:=by
 intro pins s σ H xs us Q I r ⟨a,kvs,ep,ex,hp,q⟩
 subst ex
 obtain ⟨u,rfl,ru⟩:=vals1 r
 cases ru
 obtain ⟨hz,hd,vs,rel,da⟩:=jx I hp
 have hl:=rel.len
 refine PySem.W.kdl_call (PySem.W.kdl_dict (knd:=PySem.strKind X.prog X.w) (kvs:=vs) (ep:=ep) hd) (I.ok.hd hc) da (by rw [← hl];exact hz) fun h' tk acc c hk hS hacc=>?_
 have hkeys:Vals (kvs.map fun kv=>V.str kv.1) acc.toList:=by
  have hlen:acc.toList.length=kvs.length:=by rw [Array.length_toList,hacc.1,hl]
  have hget:∀ j v,acc.toList[j]?=some v→∃ k x,vs[j]?=some (k,x)∧(PySem.strKind X.prog X.w).is k v=true:=fun j v e=>hacc.2 j v (by rw [← Array.getElem?_toList];exact e)
  exact wt rel hlen hget
 have I2:Inv X pins σ (upd H s.heap.objs.size (.lst (kvs.map fun kv=>V.str kv.1))) { s with heap:=h',toks:=tk } :=
  I.laid (t':=tk) hk (Nat.le_refl _) (show cb X.prog X.w _ _ _ (.lst _) from ⟨by rw [List.length_map];exact hz,acc.toList,c,hkeys,by rw [Array.toArray_toList];exact hS⟩)
 exact ⟨.ref s.heap.objs.size,_,I2,rfl,q _ (I.hok.fresh (Nat.le_refl _))⟩
theorem BO:nR X "dict.pop" Ft:=by
 intro pins s σ H x xs v us Q I rx r ⟨a,kvs,ep,k,z,ex,exs,hp,hv,q⟩
 subst ex exs
 cases rx
 obtain ⟨u,rfl,ru⟩:=vals1 r
 obtain ⟨hz,hd,vs,rel,da⟩:=jx I hp
 obtain ⟨w',hw,rw'⟩:=(rel.va k).1 z hv
 have hpart:(keyPart u).isSome=true:=by obtain ⟨t,q⟩:=(show ∃ t,u=Value.str k t from ru);subst q;rfl
 refine call_meetsIn PySem.F.slot_dict_pop da.dictOf.typeIs PySem.F.entry_dict_pop (PySem.F.args_dict_pop_2 _ _) (meets_dict_pop_there (PySem.strKind X.prog X.w) a (str_is ru) [] (.inl rfl) hpart)
  ⟨vs,w',da.dictOf,by rw [← rel.len];exact hz,hw,fun h' dd' hs=>?_⟩
 obtain ⟨ep',I2⟩:=lG (t':=s.toks + 1) I hp hs (Nat.le_trans (Aq kvs k) hz) hd (rel.dr k) dd'
 exact ⟨z,_,I2,rw',q ep'⟩
theorem Dt:g8 X Gj:=by
 intro pins s σ H o i v ov iv u Q I ro ri rv ⟨a,kvs,ep,k,eo,ei,hp,hl,q⟩
 subst eo ei
 cases ro
 obtain ⟨hz,hd,vs,rel,da⟩:=jx I hp
 refine wpAny_setItem_pairs (hsz:=by rw [← rel.len];exact hz) (str_is ri) da.dictOf fun h' dd' hs=>?_
 obtain ⟨ep',I2⟩:=lG (t':=s.toks + 1) I hp hs (show (oV kvs k v).length≤sizeLine from Nat.le_trans (t8 kvs k v) hl) hd (rel.pu rv) dd'
 exact ⟨_,I2,q ep'⟩
theorem Ah {pos:Pos}:PE X (.Dict [] [] pos) EW:=fun pins s σ H Q I h=>by
 have hd:(s.heap.push { cls:=.type "dict",data:=.dict #[] }).DictOf (PySem.strKind X.prog X.w) s.heap.objs.size []:=Heap.DictOf.new s.heap
 obtain ⟨ep,da⟩:=hd.dictAt
 exact wpAny_Dict_empty ⟨.ref s.heap.objs.size,_,I.laid (a:=s.heap.objs.size) (o:=.dE [] ep) (t':=s.toks) (fun _ _ q=>Heap.get?_push_of_some _ q) (Nat.le_refl _)
  ⟨Nat.zero_le _,beq_eq_false_iff_ne.mpr (Ne.symm (Nat.ne_of_lt I.GO)),[],.nil,da⟩,rfl,h _ (I.hok.fresh (Nat.le_refl _)) ep⟩
end
def I9 (a:Addr) (ks:List Str) (ep:Nat):It :=
 ⟨fun i H=>(∃ kvs,H a=some (.dE kvs ep)∧kvs.map (·.1)=ks)∧i < ks.length,
  fun i H z H'=>H'=H∧∃ k,ks[i]?=some k∧z=.str k,
  fun i H=>(∃ kvs,H a=some (.dE kvs ep)∧kvs.map (·.1)=ks)∧ks.length≤i⟩
theorem wV {P:Program} {w:World} {K:PySem.W.Frag} {tg:Expr} (a it:Addr) (ks:List Str) (ep:Nat):Turn P w K tg (I9 a ks ep) [it] it (fun i h=>h.IsKeyIter it a i ks.length ep) where
 mem:=by simp
 obj:=fun i h st b hb=>by
  have e:b=it:=by simpa using hb
  subst e
  obtain ⟨o,e,c,d⟩:=st
  exact ⟨o,e,fun v z=>by rw [d] at z;cases z⟩
 keep:=fun i h h' st k=>st.at fun o e=>k it (by simp) o e
 item:=by
  intro X hP hw hK hc i pins s σ H E I hf st hg
  subst hP hw hK
  obtain ⟨⟨kvs,hp,hks⟩,hi⟩:=hg
  obtain ⟨hz,hd,vs,rel,da⟩:=jx I hp
  have hl:ks.length=vs.length:=by rw [← hks,List.length_map];exact rel.len
  obtain ⟨f0,f1,f2,f3,f4,f5⟩:=hf it (by simp)
  obtain ⟨⟨k,x⟩,hx⟩:∃ p,vs[i]?=some p:=⟨vs[i]'(by omega),List.getElem?_eq_getElem (by omega)⟩
  have hk:ks[i]?=some k:=by rw [← hks,rel.keys,List.getElem?_map,hx];rfl
  refine wpAny_pyNext_dict_item (by rw [← hl];exact st) da hx fun key h' hkey st' sb=>?_
  rw [← hl] at st'
  have I1:Inv X pins σ H { s with heap:=h' }:=I.turned (t':=s.toks) (fun b o hb e=>(sb.2 b hb).trans e) f0 f1 f3 f4 f5
  obtain ⟨o,e,c,d⟩:=id st'
  exact ⟨key,rfl,xX (s:={ s with heap:=h' }) e c d (by decide) ⟨.str k,H,I1,zl hkey,⟨rfl,k,hk,rfl⟩,st',fun b hb=>(hf b hb).1⟩⟩
 done:=by
  intro X hP hw hK hc i pins s σ H E I hf st hg
  subst hP hw hK
  obtain ⟨⟨kvs,hp,hks⟩,hi⟩:=hg
  obtain ⟨hz,hd,vs,rel,da⟩:=jx I hp
  have hl:ks.length=vs.length:=by rw [← hks,List.length_map];exact rel.len
  obtain ⟨f0,f1,f2,f3,f4,f5⟩:=hf it (by simp)
  refine wpAny_pyNext_dict_end (I.ok.hd hc) (by rw [← hl];exact st) da (by rw [List.getElem?_eq_none_iff];omega) fun h' hk=>⟨rfl,I.turned (t':=s.toks) (fun b o hb e=>hk b o hb e) f0 f1 f3 f4 f5⟩
 self:=fun _ _ _ _ _ st h=>wpAny_pyIter_keyiter st h
def FH (td:TE):TI:=fun σ H R=>td σ H fun x H1=>∃ a kvs ep,x=.ref a∧H1 a=some (.dE kvs ep)∧R (I9 a (kvs.map (·.1)) ep) H1
theorem An {X:Cx} {tg l:Expr} {tl:TE} (hl:PE X l tl):PI X tg l (FH tl):=by
 intro pins s σ H R I h
 refine bx (hl pins s σ H _ I h) fun v s1 ⟨x,H1,I1,r1,q1⟩=>?_
 obtain ⟨a,kvs,ep,e,hp,q⟩:=q1
 subst e
 cases r1
 obtain ⟨hz,hd,vs,rel,da⟩:=jx I1 hp
 refine wpAny_pyIter_dict hd da ?_
 refine ⟨s1.heap.objs.size,[s1.heap.objs.size],_,_,H1,rfl,I1.kept (t':=s1.toks) fun b o e=>Heap.get?_push_of_some _ e,wV a _ (kvs.map (·.1)) ep,⟨_,Heap.get?_push_size _ rfl,rfl,by rw [List.length_map,rel.len];rfl⟩,fun b hb=>?_,q⟩
 have e:b=s1.heap.objs.size:=by simpa using hb
 subst e
 exact I1.A3 (Nat.le_refl _) (I1.hok.fresh (Nat.le_refl _))
end L2
namespace Ov
open PySem PySem.Spec PyProof.Rows L2
def Gx (X:Cx) (ifs:List Expr) (t:TT):Prop :=
 ∀ (pins:List (Addr × Obj)) (s:Shared) (σ:L2.St) (H:Hp) (Q:Bool→Hp→Prop),Inv X pins σ H s→t σ H Q →
  wpAny (model X.prog X.w) X.A (forIn ifs true fun c r=>if r=true then do let ok ← isTrue c X.env (eval c X.env);pure (ForInStep.yield ok) else pure (ForInStep.yield r)) (TP X pins σ Q) X.xe s
theorem Bg {X:Cx}:Gx X [] (fun _ H Q=>Q true H):=fun pins s σ H Q I h=>by rw [List.forIn_nil];exact wpAny_pure ⟨H,I,h⟩
section
variable {prog:Program} {w:World} {A:Around} {R:Result→Shared→Prop} {s:Shared}
theorem sA {kx vx iter:Expr} {ifs:List Expr} {x:Str} {px:Pos} {sc:Scope} {pos:Pos} {it:Value} {D:Addr} {env:Env} (I:Nat→Shared→Prop)
  (turn:∀ n s,I n s→wpAny (model prog w) A (pyNext it) (fun r s₁=>match r with
   | none=>R (.ok .next) s₁
   | some v=>wpAny (model prog w) A (letOwnedTupleGo (.Name x px) it v) (fun _ s₂=>wpAny (model prog w) A (assign (.Name x px) env v) (fun _ s₃=>wpAny (model prog w) A (forIn ifs true fun c r=>if r=true then do let ok ← isTrue c env (eval c env);pure (ForInStep.yield ok) else pure (ForInStep.yield r)) (fun ok s₃=>if ok=true then wpAny (model prog w) A (eval kx env) (fun kv s₄ =>
     wpAny (model prog w) A (eval vx env) (fun vv s₅=>wpAny (model prog w) A (dictSet D kv vv) (fun _ s₅=>∃ m,m < n∧I m s₅) (fun _ _=>False) s₅) (fun _ _=>False) s₄) (fun _ _=>False) s₃ else ∃ m,m < n∧I m s₃) (fun _ _=>False) s₃) (fun _ _=>False) s₂) (fun _ _=>False) s₁) (fun _ _=>False) s)
  (n:Nat) (h:I n s):codeAny (model prog w) A (.compLoop (.DictComp kx vx [⟨.Name x px,iter,ifs,0⟩] sc pos) 0 it (.ref D) env) R s:=by
 refine codeAny_loop rfl I (fun n s hI=>?_) n h
 show wpAny _ _ ((compTurn (.DictComp kx vx [⟨.Name x px,iter,ifs,0⟩] sc pos) 0 it (.ref D) env).onRaise (fun x=>do noteFrame x env;theTreesLotGoes x)) _ _ s
 refine wpAny_noted ?_
 rw [compTurn_dict]
 have no:∀ (e:Value) (s':Shared),False→notedBy (model prog w) A env (fun e s'=>R (.error e) s') e s':=fun _ _ z=>z.elim
 refine wpAny_bind (wpAny_standAt (wpAny_bind (wpAny_mono (turn n s hI) (fun r s₁ h₁=>?_) no)))
 cases r with
 | none=>exact wpAny_pure h₁
 | some v =>
  refine wpAny_bind (wpAny_mono h₁ (fun _ s₂ h₂=>?_) no)
  refine wpAny_bind (wpAny_mono h₂ (fun _ s₃ h₃=>wpAny_bind (wpAny_mono h₃ (fun ok s₃' h₃'=>?_) no)) no)
  cases ok with
  | false=>exact wpAny_pure ⟨rfl,h₃'⟩
  | true =>
   exact wpAny_bind (wpAny_bind (wpAny_mono h₃' (fun kv s₄ h₄=>wpAny_bind (wpAny_holding (wpAny_mono h₄ (fun vv s₅ h₅=>wpAny_bind (wpAny_standAt (wpAny_holding (wpAny_mono h₅ (fun _ s₆ h₆=>wpAny_pure ⟨rfl,h₆⟩) no)))) no))) no))
end
def Jb (wi:TI) (ks:List (Str × Nat)) (tc:TT) (tk te:TE):TE:=fun σ H Q=>wi σ H fun J H1=>∀ D,H1 D=none→∀ ep,∃ W:Nat→Nat→Hp→Prop,(∃ m,W 0 m (upd H1 D (.dE [] ep))) ∧
 ∀ i m H2,W i m H2→(J.stop i H2∧Q (.ref D) H2)∨(J.go i H2∧∀ v H3,J.yld i H2 v H3→tc (some v :: cn ks σ) H3 fun b H4=>if b=true then tk (some v :: cn ks σ) H4 fun y H5=>te (some v :: cn ks σ) H5 fun z H6=>∃ kvs ep k,y=.str k∧H6 D=some (.dE kvs ep)∧kvs.length < sizeLine∧∃ m',m' < m∧∀ ep',W (i + 1) m' (upd H6 D (.dE (L2.oV kvs k z) ep')) else ∃ m',m' < m∧W (i + 1) m' H4)
section
variable {X:Cx}
theorem vS {kx vx iter:Expr} {ifs:List Expr} {x:Str} {px:Pos} {sc:Scope} {pos:Pos} {tk te:TE} {tc:TT} {ks:List (Str × Nat)} {cl:List (Str × Addr)} {pins:List (Addr × Obj)} {σ:L2.St} {H:Hp} {s:Shared} {it:Addr} {fp:List Addr} {tn:Nat→Heap→Prop} {J:It} {Q:VK}
  {RR:Value→Addr→Result→Shared→Prop} {E:Value→Shared→Prop}
  (hc:X.calm=true) (ok:bY sc X.env.scope X.N x ks) (h1:∀ y c,cl.lookup y=some c→X.env.cells.lookup y=some c) (h2:∀ y∈sc.names,y.2=.free→∃ c,cl.lookup y.1=some c)
  (hk:∀ cl C s₀ H₀ fp pins,PE (dJ X sc cl C x ks s₀ H₀ fp pins) kx tk) (he:∀ cl C s₀ H₀ fp pins,PE (dJ X sc cl C x ks s₀ H₀ fp pins) vx te) (hcn:∀ cl C s₀ H₀ fp pins,Gx (dJ X sc cl C x ks s₀ H₀ fp pins) ifs tc)
  (I:Inv X pins σ H s) (T:Turn X.prog X.w X.K (.Name x px) J fp it tn) (st:tn 0 s.heap) (f:∀ b∈fp,gf X pins H b)
  (hw:∀ D,H D=none→∀ ep,∃ W:Nat→Nat→Hp→Prop,(∃ m,W 0 m (upd H D (.dE [] ep)))∧∀ i m H2,W i m H2→(J.stop i H2∧Q (.ref D) H2) ∨
   (J.go i H2∧∀ v H3,J.yld i H2 v H3→tc (some v :: cn ks σ) H3 fun b H4=>if b=true then tk (some v :: cn ks σ) H4 fun y H5=>te (some v :: cn ks σ) H5 fun z H6=>∃ kvs ep k,y=.str k∧H6 D=some (.dE kvs ep)∧kvs.length < sizeLine∧∃ m',m' < m∧∀ ep',W (i + 1) m' (upd H6 D (.dE (L2.oV kvs k z) ep')) else ∃ m',m' < m∧W (i + 1) m' H4))
  (hR:∀ (D C:Addr) (s':Shared) (H':Hp) (m:Str→Option Value),Inv X pins σ H' s'→Q (.ref D) H'→s'.heap.Ns C m→H' C=none→C≠X.env.locals→X.s₀.heap.objs.size≤C→(∀ y c,X.env.cells.lookup y=some c→c≠C)→(∀ p∈X.pn ++ pins,p.1≠C)→RR (.ref D) C (.ok .next) s') :
  wpAny (model X.prog X.w) X.A newDict (fun acc s₃=>wpAny (model X.prog X.w) X.A (newFunctionEnv sc X.env.globals cl [] X.env.qual none .none (some X.env)) (fun cenv s₄ =>
   codeAny (model X.prog X.w) X.A (.compStart (.DictComp kx vx [⟨.Name x px,iter,ifs,0⟩] sc pos) 0 (.ref it) acc { cenv with scope:=relabel sc X.env }) (RR acc cenv.locals) s₄) E s₃) E s:=by
 have okk:=ok
 obtain ⟨kd,nc,lx,ll,fr,kk,nd⟩:=okk
 have hD0:H s.heap.objs.size=none:=I.hok.fresh (Nat.le_refl _)
 have hdd:(s.heap.push { cls:=.type "dict",dict:=none,data:=.dict #[] }).DictOf (PySem.strKind X.prog X.w) s.heap.objs.size []:=Heap.DictOf.new s.heap
 obtain ⟨ep0,da⟩:=hdd.dictAt
 obtain ⟨W,⟨m0,w0⟩,turn⟩:=hw s.heap.objs.size hD0 ep0
 refine wpAny_newObj_type ?_
 have I3:Inv X pins σ (upd H s.heap.objs.size (.dE [] ep0)) { s with heap:=s.heap.push { cls:=.type "dict",dict:=none,data:=.dict #[] } } :=
  I.laid (t':=s.toks) (fun b u e=>Heap.get?_push_of_some _ e) (Nat.le_refl _) ⟨Nat.zero_le _,beq_eq_false_iff_ne.mpr (Ne.symm (Nat.ne_of_lt I.GO)),[],.nil,da⟩
 have st3:tn 0 (s.heap.push { cls:=.type "dict",dict:=none,data:=.dict #[] }):=T.keep 0 _ _ st fun b hb o e=>Heap.get?_push_of_some _ e
 clear da hdd
 generalize hD:s.heap.objs.size=D at *
 generalize hH:upd H D (.dE [] ep0)=H3 at *
 generalize hs3:({ s with heap:=s.heap.push { cls:=.type "dict",dict:=none,data:=.dict #[] } }:Shared)=s3 at *
 have e3:s.heap.push { cls:=.type "dict",dict:=none,data:=.dict #[] }=s3.heap:=by rw [← hs3]
 rw [e3] at st3
 have fD:∀ b∈fp,b≠D:=fun b hb z=>by
  obtain ⟨o,ho,_⟩:=T.obj 0 _ st b hb
  have:=Heap.lt_size ho
  rw [z,← hD] at this
  exact Nat.lt_irrefl _ this
 have f3:∀ b∈fp,gf X pins H3 b:=fun b hb=>⟨by rw [← hH,aH (fD b hb)];exact (f b hb).1,(f b hb).2⟩
 have g3:∀ b∈fp,∃ o,s3.heap.get? b=some o:=fun b hb=>by
  obtain ⟨o,ho,_⟩:=T.obj 0 _ st3 b hb
  exact ⟨o,ho⟩
 refine wpAny_newFunctionEnv nc (by intro y hy;simp at hy) (fun h₁ hns hsb=>?_) kd
 have kp:∀ b o,s3.heap.get? b=some o→h₁.get? b=some o:=fun b o e=>hsb.extBut b o (Nat.ne_of_lt (Heap.lt_size e)) (Heap.get?_push_of_some _ e)
 have J0:=l7 (fp:=fp) (cl:=cl) (t':=s3.toks + ([]:List (Str × Value)).length) I3 ok h1 h2 (fun b hb=>⟨f3 b hb,g3 b hb⟩) hns kp
 have st4:tn 0 h₁:=T.keep 0 _ _ st3 fun b hb o e=>kp b o e
 have ltC:∀ b o,s3.heap.get? b=some o→b≠s3.heap.objs.size:=fun b o e=>Nat.ne_of_lt (Heap.lt_size e)
 have cC:∀ y c,X.env.cells.lookup y=some c→c≠s3.heap.objs.size:=fun y c e=>by
  obtain ⟨v,o,ho,_⟩:=I3.cell y c e
  exact ltC c o ho
 have pC:∀ p∈X.pn ++ pins,p.1≠s3.heap.objs.size:=fun p hp=>ltC _ _ (I3.pin p hp).1
 have lC:s3.heap.objs.size≠X.env.locals:=Nat.ne_of_gt I3.lt
 have fX:∀ {H':Hp},(∀ b∈fp,H' b=none)→∀ b∈fp,gf (dJ X sc cl s3.heap.objs.size x ks s3 H3 fp pins) [] H' b:=fun hn b hb=>by
  obtain ⟨o,ho⟩:=g3 b hb
  obtain ⟨_,q1,q2,q3,q4,q5⟩:=f b hb
  refine ⟨hn b hb,ltC b o ho,fun z=>?_,.inl hb,fun y c e=>q4 y c (h1 y c e),fun p hp=>q5 p (by simpa [dJ] using hp)⟩
  rcases List.mem_cons.mp (I3.iA b z) with e | e
  ·exact q1 e
  ·exact q2 e
 have back:∀ {o:Option V} {H':Hp} {s':Shared},Inv (dJ X sc cl s3.heap.objs.size x ks s3 H3 fp pins) [] (o :: cn ks σ) H' s'→Inv X pins σ H' s':=fun {o H' s'} J=>by
  obtain ⟨hh,g,d,t,os'⟩:=s'
  obtain rfl:os'=s3.os:=J.os
  exact I3.call (h':=hh) (g':=g) (d':=d) (t':=t) (ch:=fp) J.base J.hok J.bare fun b hb=>⟨(f b hb).2.2.2.1,(f b hb).2.1,(f b hb).2.2.2.2.1,(f b hb).2.2.2.2.2⟩
 have lookX:(relabel sc X.env).names.lookup x=some .local:=lookup_relabel_local lx
 have loop:∀ s',(∃ (i:Nat) (o:Option V) (H':Hp),Inv (dJ X sc cl s3.heap.objs.size x ks s3 H3 fp pins) [] (o :: cn ks σ) H' s'∧tn i s'.heap∧(∀ b∈fp,H' b=none)∧W i m0 H') →
   codeAny (model X.prog X.w) X.A (.compLoop (.DictComp kx vx [⟨.Name x px,iter,ifs,0⟩] sc pos) 0 (.ref it) (.ref D) (compEnvC sc cl s3.heap.objs.size X.env)) (RR (.ref D) s3.heap.objs.size) s':=by
  intro s' hs'
  refine sA (fun n s'=>∃ (i:Nat) (o:Option V) (H':Hp),Inv (dJ X sc cl s3.heap.objs.size x ks s3 H3 fp pins) [] (o :: cn ks σ) H' s'∧tn i s'.heap∧(∀ b∈fp,H' b=none)∧W i n H') ?_ m0 hs'
  rintro n s5 ⟨i,o,H5,J5,t5,n5,w5⟩
  rcases turn i n H5 w5 with ⟨stop,hq⟩ | ⟨go,step⟩
  ·refine bx (T.done (dJ X sc cl s3.heap.objs.size x ks s3 H3 fp pins) rfl rfl rfl hc i [] s5 _ H5 _ J5 (fX n5) t5 stop) fun r s6 ⟨hr,J6⟩=>?_
   subst hr
   obtain ⟨m,hm,_⟩:=J6.loc
   exact hR D _ s6 H5 m (back J6) hq hm J6.free lC I3.sz cC pC
  ·refine bx (T.item (dJ X sc cl s3.heap.objs.size x ks s3 H3 fp pins) rfl rfl rfl hc i [] s5 _ H5 _ J5 (fX n5) t5 go) fun r s6 ⟨u,hr,h6⟩=>?_
   subst hr
   refine bx h6 fun _ s7 ⟨v,H7,J7,r7,y7,t7,n7⟩=>?_
   have J7':=J7.pinned (fX n7) (T.obj _ _ t7)
   refine wpAny_assign_Name (dN (X:=dJ X sc cl s3.heap.objs.size x ks s3 H3 fp pins) (i:=0) J7' nd rfl (.inl lookX) r7 (fun s8 J8=>?_) (.inr lookX))
   refine bx (hcn cl s3.heap.objs.size s3 H3 fp pins _ s8 _ H7 _ J8 (step v H7 y7)) fun ok s8' ⟨H8,J8',q8⟩=>?_
   cases ok with
   | false =>
    simp only [Bool.false_eq_true,if_false] at q8 ⊢
    obtain ⟨m',hm,w'⟩:=q8
    refine ⟨m',hm,i + 1,_,_,J8'.dP,?_,?_,w'⟩
    ·exact T.keep _ _ _ t7 fun b hb o e=>(J8'.pin (b,o) (List.mem_append_right _ (List.mem_append_right _ (bA hb e)))).1
    ·intro b hb
     obtain ⟨o,e,d⟩:=T.obj _ _ t7 b hb
     exact (J8'.pin (b,o) (List.mem_append_right _ (List.mem_append_right _ (bA hb e)))).2.1
   | true =>
    simp only [if_true] at q8 ⊢
    refine bx (hk cl s3.heap.objs.size s3 H3 fp pins _ s8' _ H8 _ J8' q8) fun ky s8'' ⟨vk,H8',J8'',rk,q8'⟩=>?_
    refine bx (he cl s3.heap.objs.size s3 H3 fp pins _ s8'' _ H8' _ J8'' q8') fun y s9 ⟨vy,H9,J9,r9,kvs,ep,k,ek,hys,hz,m',hm,w'⟩=>?_
    subst ek
    obtain ⟨hz',hd',vs,rel,da⟩:=jx J9 hys
    refine wpAny_dictSet_pairs (hsz:=by rw [← rel.len];exact hz') (str_is rk) da.dictOf fun h' dd' hsb=>?_
    obtain ⟨ep',J10⟩:=lG (t':=s9.toks + 1) J9 hys hsb (show (L2.oV kvs k vy).length≤sizeLine from Nat.le_trans (t8 kvs k vy) hz) hd' (rel.pu r9) dd'
    refine ⟨m',hm,i + 1,_,_,J10.dP,?_,?_,w' ep'⟩
    ·exact T.keep _ _ _ t7 fun b hb o e=>(J10.pin (b,o) (List.mem_append_right _ (List.mem_append_right _ (bA hb e)))).1
    ·intro b hb
     obtain ⟨o,e,d⟩:=T.obj _ _ t7 b hb
     exact (J10.pin (b,o) (List.mem_append_right _ (List.mem_append_right _ (bA hb e)))).2.1
 have l0:=loop _ ⟨0,none,H3,J0,st4,fun b hb=>(f3 b hb).1,w0⟩
 exact codeAny_compStart_dict l0 (T.self _ 0 _ _ _ st4 l0)
theorem GD {kx vx iter:Expr} {ifs:List Expr} {x:Str} {px:Pos} {sc:Scope} {pos:Pos} {wi:TI} {tk te:TE} {tc:TT} (osc:Scope) (N:List Str) (ks:List (Str × Nat)) (hc:X.calm=true) (ho:X.env.scope=osc) (hN:X.N=N) (hi:PI X (.Name x px) iter wi)
  (hk:∀ cl C s₀ H₀ fp pins,PE (dJ X sc cl C x ks s₀ H₀ fp pins) kx tk) (he:∀ cl C s₀ H₀ fp pins,PE (dJ X sc cl C x ks s₀ H₀ fp pins) vx te) (hcn:∀ cl C s₀ H₀ fp pins,Gx (dJ X sc cl C x ks s₀ H₀ fp pins) ifs tc) (ok:bY sc osc N x ks:=by decide +kernel) (hs:∀ x,foldedSetIterable iter X.env x=pure x:=by intro _;rfl) :
  PE X (.DictComp kx vx [⟨.Name x px,iter,ifs,0⟩] sc pos) (Jb wi ks tc tk te):=by
 intro pins s σ H Q I hw
 obtain ⟨cl,hcl,h1,h2⟩:=fY (iI ok I ho)
 have ok':bY sc X.env.scope X.N x ks:=by rw [ho,hN];exact ok
 rw [arm_eval_DictComp]
 refine wpAny_comprehension_free (use:=none) rfl hs hcl ok.1 ok.2.2.2.1 (bx (hi pins s σ H _ I hw) fun v s1 h3=>bx h3 fun itv s2 h4=>?_)
 obtain ⟨it,fp,tn,J,H2,rfl,I2,T,st2,f2,hR⟩:=h4
 refine vS (RR:=fun acc C=>compPost (model X.prog X.w) X.A X.xe none (EP X pins σ Q) acc C) hc ok' h1 h2 hk he hcn I2 T st2 f2 hR ?_
 intro D C s' H' m J' q hn hC cl' cs cc cp
 refine ⟨m,hn,fun h' hsb=>⟨.ref D,H',?_,rfl,q⟩⟩
 exact J'.turned (t':=s'.toks) (it:=C) (fun b o ne e=>hsb.extBut b o ne e) hC cl' (.inr cs) cc cp
end
end Ov
namespace Ov
open PySem PySem.Spec PyProof.Rows
open L2 (V HO Hp Inv Cx VK XK TE TT TA TS TG lH TI TO g_ Ends qW Loc Gl Rd RelV Vals d_ rX b7 lp rW nR g8 R2 upd aA aH cR fz Sp mn It a7 cy bj Passes kM ay Meth Mk Binds aF bP au cK eZ dy iG oV y0 kX)
section
variable {K:PySem.W.Frag} {J:Hq} {H:Hp}
theorem dm:∀ {kvs:List (Str × PV)} {gs:List (Str × V)},il K J H kvs gs→kX (bJ K J H) kvs gs
 | [],[],_=>.nil
 | [],_ :: _,h=>by cases h.1
 | _ :: _,[],h=>by cases h.1
 | (k,y) :: fs,(k',w) :: gs,h=>by
  obtain ⟨h1,v',us,h2,h3,h4⟩:=h
  simp only [List.map_cons,List.cons.injEq] at h1 h2
  obtain ⟨rfl,h1⟩:=h1
  obtain ⟨rfl,rfl⟩:=h2
  exact .cons ⟨rfl,h3⟩ (dm ⟨h1,h4⟩)
theorem p9:∀ {kvs:List (Str × PV)} {gs:List (Str × V)},kX (bJ K J H) kvs gs→il K J H kvs gs
 | _,_,.nil=>⟨rfl,rfl⟩
 | _,_,.cons (a:=p) (b:=q) r t=>by
  obtain ⟨h1,h2⟩:=p9 t
  exact ⟨by rw [List.map_cons,List.map_cons,h1,r.1],q.2,_,rfl,r.2,h2⟩
theorem Ext.gB {p:Addr} {kvs kvs':List (Str × PV)} {gs gs':List (Str × V)} {ep ep':Nat} (h:J p=some (.dct kvs ep)) (k:H p=some (.dE gs ep)):Ext K J H (put J p (.dct kvs' ep')) (upd H p (.dE gs' ep')):=by
 have sm:∀ a u,a≠p→Rd H a u→Rd (upd H p (.dE gs' ep')) a u:=fun a u ne z=>by
  rcases z with z | ⟨o,z⟩
  ·exact .inl (by rw [aH ne];exact z)
  ·exact .inr ⟨o,by rw [aH ne];exact z⟩
 refine ⟨fun a vs' z=>?_,fun a o z q _=>?_⟩
 ·rcases z with z | z
  ·have ne:a≠p:=by
    intro e;subst e
    rcases z with z | ⟨o,z⟩
    ·rw [k] at z;cases z
    ·rw [k] at z;cases z
   exact .inl (sm a _ ne z)
  ·exact .inr z
 ·have ne:a≠p:=by intro e;subst e;rw [h] at z;cases z
  exact ⟨by rw [aq ne];exact z,by rw [aH ne];exact q⟩
theorem Rep.gB {p:Addr} {kvs kvs':List (Str × PV)} {gs gs':List (Str × V)} {ep ep':Nat} (r:Rep K J H) (h:J p=some (.dct kvs ep)) (k:H p=some (.dE gs ep)) (q:kX (bJ K J H) kvs' gs'):Rep K (put J p (.dct kvs' ep')) (upd H p (.dE gs' ep')):=by
 have e:=Ext.gB (K:=K) (kvs':=kvs') (gs':=gs') (ep':=ep') h k
 refine r.vN e p (fun a ne=>aq ne) (fun a o ne _ z=>by rw [aH ne];exact z) fun u z=>?_
 rw [av] at z;cases z
 exact ⟨gs',aA,e.pZ (p9 q)⟩
theorem Rep.CN {p:Addr} {ep:Nat} (r:Rep K J H) (n:H p=none):Rep K (put J p (.dct [] ep)) (upd H p (.dE [] ep)):=by
 have e:=Ext.laid (K:=K) (J:=J) (o:=.dE [] ep) (u:=.dct [] ep) n
 refine r.vN e p (fun a ne=>aq ne) (fun a o ne _ z=>by rw [aH ne];exact z) fun u z=>?_
 rw [av] at z;cases z
 exact ⟨[],aA,⟨rfl,rfl⟩⟩
end
def GA:iF:=fun x y J Q=>∃ a kvs ep k v,x=.ref a∧y=.str k∧J a=some (.dct kvs ep)∧iG kvs k=some v∧Q v J
def Dc (f:Bool→Bool):iF:=fun x y J Q=>∃ a kvs ep k,x=.str k∧y=.ref a∧J a=some (.dct kvs ep)∧Q (.bl (f (iG kvs k).isSome)) J
def EV:um:=fun xs J Q=>∃ a kvs ep,xs=[.ref a]∧J a=some (.dct kvs ep)∧Q (.int kvs.length) J
def yu:um:=fun xs J Q=>∃ a kvs ep,xs=[.ref a]∧J a=some (.dct kvs ep)∧Q (.fl (kvs.map fun kv=>.str kv.1)) J
def Cs:xk:=fun x xs J Q=>∃ a kvs ep k v,x=.ref a∧xs=[.str k]∧J a=some (.dct kvs ep)∧iG kvs k=some v∧∀ ep',Q v (put J a (.dct (y0 kvs k) ep'))
def B_:vY:=fun o i y J R=>∃ a kvs ep k,o=.ref a∧i=.str k∧J a=some (.dct kvs ep)∧kvs.length < sizeLine∧∀ ep',R (put J a (.dct (oV kvs k y) ep'))
def CB:cq:=fun _ J Q=>∀ p,J p=none→∀ ep,Q (.ref p) (put J p (.dct [] ep))
def IY (te:cq):n6:=fun τ J R=>te τ J fun x J1=>∃ a kvs ep,x=.ref a∧J1 a=some (.dct kvs ep)∧R ⟨kvs.map fun kv=>.str kv.1,fun J'=>J' a=some (.dct kvs ep)⟩ J1
section
variable {X:Cx} {G:G2}
theorem dW:HW X GA:=⟨_,L2.Gk,fun J H x y v w Q2 Q rx ry r ⟨a,kvs,ep,k,z,ex,ey,ja,hz,q⟩ kn=>by
 subst ex ey
 cases rx;cases ry
 obtain ⟨gs,h1,h2⟩:=r _ _ ja
 obtain ⟨u,hu,ru⟩:=((dm h2).va k).1 z hz
 exact ⟨a,gs,ep,k,u,rfl,rfl,h1,hu,kn z J u H ru r .refl q⟩⟩
theorem C_ (f:Bool→Bool):LR X.K (L2.Gw f) (Dc f):=fun J H x y v w Q2 Q rx ry r ⟨a,kvs,ep,k,ex,ey,ja,q⟩ kn=>by
 subst ex ey
 cases rx;cases ry
 obtain ⟨gs,h1,h2⟩:=r _ _ ja
 exact ⟨a,gs,ep,k,rfl,rfl,h1,by rw [← ((dm h2).va k).2];exact kn (.bl _) J _ H rfl r .refl q⟩
theorem DN:iE X (compareOp .In) (Dc id):=⟨_,L2.Dh,C_ id⟩
theorem jN {K:PySem.W.Frag} {J:Hq} {H:Hp}:∀ {ks:List Str},aB K J H (ks.map PV.str) (ks.map V.str)
 | []=>rfl
 | k :: ks=>⟨_,_,rfl,rfl,jN (ks:=ks)⟩
theorem rM (hc:X.calm=true):Dx X (.type "list") yu:=⟨_,L2.qk hc,fun J H xs vs Q2 Q rs r ⟨a,kvs,ep,ex,ja,q⟩ k=>by
 subst ex;obtain ⟨v,us,rfl,rv,e⟩:=rs;cases e;cases rv
 obtain ⟨gs,h1,h2⟩:=r _ _ ja
 refine ⟨a,gs,ep,rfl,h1,fun p hp=>?_⟩
 have hk:aB X.K J H (kvs.map fun kv=>PV.str kv.1) (gs.map fun kv=>V.str kv.1):=by
  have:=(dm h2).keys
  rw [show (kvs.map fun kv=>PV.str kv.1)=(kvs.map (·.1)).map PV.str by rw [List.map_map];rfl,show (gs.map fun kv=>V.str kv.1)=(gs.map (·.1)).map V.str by rw [List.map_map];rfl,this]
  exact jN
 obtain ⟨x1,x2,x3⟩:=sk r hk hp
 exact k _ J _ _ x1 x2 x3 q⟩
theorem Bf:Cz X "dict" "dict.pop" Cs:=⟨_,L2.BO,fun J H x xs v vs Q2 Q rx rs r ⟨a,kvs,ep,k,z,ex,exs,ja,hz,q⟩ kn=>by
 subst ex exs;cases rx
 obtain ⟨u,us,rfl,ru,e⟩:=rs;cases e;cases ru
 obtain ⟨gs,h1,h2⟩:=r _ _ ja
 have pk:=dm h2
 obtain ⟨y,hy,ry⟩:=(pk.va k).1 z hz
 refine ⟨a,gs,ep,k,y,rfl,rfl,h1,hy,fun ep'=>?_⟩
 have e2:=Ext.gB (K:=X.K) (kvs':=y0 kvs k) (gs':=y0 gs k) (ep':=ep') ja h1
 exact kn z _ y _ (e2.rep ry) (r.gB ja h1 (pk.dr k)) e2 (q ep')⟩
theorem kW:Iu X B_:=⟨_,L2.Dt,fun J H o i y ov iv u R2 R ro ri ry r ⟨a,kvs,ep,k,eo,ei,ja,hl,q⟩ kk=>by
 subst eo ei;cases ro;cases ri
 obtain ⟨gs,h1,h2⟩:=r _ _ ja
 have pk:=dm h2
 refine ⟨a,gs,ep,k,rfl,rfl,h1,by rw [← pk.len];exact hl,fun ep'=>?_⟩
 exact kk _ _ (r.gB ja h1 (pk.pu ry)) (Ext.gB (K:=X.K) ja h1) (q ep')⟩
theorem uQ {pos:Pos}:RE X G (.Dict [] [] pos) CB:=⟨hE L2.Ah fun σ H Q ⟨τ,J,Q2,a2,q,k⟩ p hp ep=>k (.ref p) _ _ _ rfl (a2.hp.CN hp) (.laid hp) (q p (a2.hp.free hp) ep)⟩
theorem vn {tg l:Expr} {tl:cq} (hl:RE X G l tl):RI X G tg l (IY tl):=⟨G3 (L2.An hl.run) fun σ H R ⟨τ,J,R2,a2,h,k⟩=>⟨τ,J,_,a2,h,fun x J1 v H1 rx r1 e1 ⟨a,kvs,ep,ex,ja,q⟩=>by
 subst ex;cases rx
 obtain ⟨gs,h1,h2⟩:=r1 _ _ ja
 have pk:=dm h2
 have hl':=pk.len
 refine ⟨a,gs,ep,rfl,h1,k _ J1 _ H1 ?_ r1 e1 q⟩
 have hks:=pk.keys
 have key:∀ J' H',Rep X.K J' H'→J' a=some (.dct kvs ep)→∃ gs',H' a=some (.dE gs' ep)∧gs'.map (·.1)=gs.map (·.1):=fun J' H' r o=>by
  obtain ⟨gs',h1',h2'⟩:=r _ _ o
  exact ⟨gs',h1',by rw [← (dm h2').keys,hks]⟩
 exact {
  go:=fun J' H' e r o i hi=>⟨key J' H' r o,by rw [List.length_map] at hi ⊢;omega⟩
  yl:=fun J' H' e r o i hi v H2 y=>by
   obtain ⟨rfl,k,hk,rfl⟩:=y
   rw [← hks,List.getElem?_map] at hk
   obtain ⟨kv,hkv,rfl⟩:=Option.map_eq_some_iff.mp hk
   exact ⟨.str kv.1,by rw [List.getElem?_map,hkv];rfl,rfl,r,.refl⟩
  stop:=fun J' H' e r o=>⟨key J' H' r o,by rw [List.length_map,List.length_map];omega⟩ }⟩⟩
def Hu (wi:n6) (ks:List (Str × Nat)) (tc:ik) (tk te:cq):cq:=fun τ J Q=>wi τ J fun it J1=>∀ D,J1 D=none→∀ ep,∃ W:Nat→Hq→Prop,W 0 (put J1 D (.dct [] ep))∧(∀ i J2,W i J2→it.ok J2) ∧
 (∀ i x J2,it.xs[i]?=some x→W i J2→tc (some x :: kg ks τ) J2 fun b J3=>if b=true then tk (some x :: kg ks τ) J3 fun y J4=>te (some x :: kg ks τ) J4 fun z J5 =>
  ∃ kvs ep k,y=.str k∧J5 D=some (.dct kvs ep)∧kvs.length < sizeLine∧∀ ep',W (i + 1) (put J5 D (.dct (oV kvs k z) ep')) else W (i + 1) J3)∧∀ J2,W it.xs.length J2→Q (.ref D) J2
theorem B4 {wi:n6} {ks:List (Str × Nat)} {tc:ik} {tk te:cq}:∀ σ H Q,LE X.K G (Hu wi ks tc tk te) σ H Q→Jb (LI X.K G wi) ks (LT X.K G tc) (LE X.K G tk) (LE X.K G te) σ H Q:=fun σ H Q ⟨τ,J,Q2,a2,h,k⟩ =>
 ⟨τ,J,_,a2,h,fun it J1 I H1 ir r1 e1 w D hD ep=>by
  obtain ⟨W,w0,wok,step,fin⟩:=w D (r1.free hD) ep
  refine ⟨fun i m H2=>m=it.xs.length - i∧i≤it.xs.length∧∃ J2,Rep X.K J2 H2∧Ext X.K J1 H1 J2 H2∧W i J2,⟨_,rfl,Nat.zero_le _,_,r1.CN hD,.laid hD,w0⟩,?_⟩
  rintro i m H2 ⟨rfl,hi,J2,r2,e2,w2⟩
  by_cases hlt:i < it.xs.length
  ·refine .inr ⟨ir.go J2 H2 e2 r2 (wok i J2 w2) i hlt,fun v H3 y=>?_⟩
   obtain ⟨x,ex,rx,r3,e3⟩:=ir.yl J2 H2 e2 r2 (wok i J2 w2) i hlt v H3 y
   have a3:pS X.K G (some x :: kg ks τ) J2 (some v :: cn ks σ) H3:=⟨vg (a2.sl.ext ((e1.trans e2).trans e3)) rx ks,r3,((a2.ext.trans e1).trans e2).trans e3⟩
   refine ⟨_,_,_,a3,step i x J2 ex w2,fun b J4 H4 r4 e4 q=>?_⟩
   cases b with
   | false =>
    simp only [Bool.false_eq_true,if_false] at q ⊢
    exact ⟨_,by omega,rfl,hlt,J4,r4,(e2.trans e3).trans e4,q⟩
   | true =>
    simp only [if_true] at q ⊢
    refine ⟨_,_,_,a3.go r4 e4,q,fun yk J5 u H5 rk r5 e5 q5=>?_⟩
    refine ⟨_,_,_,(a3.go r4 e4).go r5 e5,q5,fun z J6 vz H6 rz r6 e6 ⟨kvs,ep2,kk,ek,jD,hl,q6⟩=>?_⟩
    subst ek
    cases rk
    obtain ⟨gs,h1,h2⟩:=r6 _ _ jD
    have pk:=dm h2
    refine ⟨gs,ep2,kk,rfl,h1,by rw [← pk.len];exact hl,it.xs.length - (i + 1),by omega,fun ep'=>⟨rfl,hlt,_,r6.gB jD h1 (pk.pu rz),?_,q6 ep'⟩⟩
    exact ((((e2.trans e3).trans e4).trans e5).trans e6).trans (Ext.gB (K:=X.K) jD h1)
  ·have ei:i=it.xs.length:=by omega
   subst ei
   exact .inl ⟨ir.stop J2 H2 e2 r2 (wok _ J2 w2),k (.ref D) J2 _ H2 rfl r2 (e1.trans e2) (fin J2 w2)⟩⟩
theorem Hg {X:Cx} {ifs:List Expr} {t t':TT} (h:Gx X ifs t) (k:∀ σ H Q,t' σ H Q→t σ H Q):Gx X ifs t':=fun pins s σ H Q I q=>h pins s σ H Q I (k _ _ _ q)
variable {kx vx iter cnd:Expr} {x y:Str} {px py:Pos} {sc:Scope} {pos spos:Pos} {wi:n6} {tk te:cq} {tc:ik} {i:Nat}
theorem E_ (osc:Scope) (N:List Str) (ks:List (Str × Nat)) (hc:X.calm=true) (ho:X.env.scope=osc) (hN:X.N=N) (hi:RI X G (.Name x px) iter wi) (hk:∀ cl C s₀ H₀ fp pins,RE (dJ X sc cl C x ks s₀ H₀ fp pins) G kx tk) (he:∀ cl C s₀ H₀ fp pins,RE (dJ X sc cl C x ks s₀ H₀ fp pins) G vx te)
  (ok:bY sc osc N x ks:=by decide +kernel) (hs:∀ x,foldedSetIterable iter X.env x=pure x:=by intro _;rfl):RE X G (.DictComp kx vx [⟨.Name x px,iter,[],0⟩] sc pos) (Hu wi ks uA tk te) :=
 ⟨hE (GD osc N ks hc ho hN hi.run (fun cl C s₀ H₀ fp pins=>(hk cl C s₀ H₀ fp pins).run) (fun cl C s₀ H₀ fp pins=>(he cl C s₀ H₀ fp pins).run) (fun cl C s₀ H₀ fp pins=>Hg Bg fun σ H Q ⟨τ,J,Q2,a2,q,k⟩=>k true J H a2.hp .refl q) ok hs) B4⟩
end
def tS (tabs:List Addr):bX:=fun xs J Q _=>∃ ns:List Int,xs=[.fl (ns.map .int)]∧ns.length≤63∧(∀ T∈tabs,J T=some .tab)∧(∀ a,a ∉ tabs→J a=none)∧∀ J',(∀ T∈tabs,J' T=some .tab)→Q (.bl true) J'
def zG (tabs:List Addr) (K:PySem.W.Frag):Sp:=fun vs H Q _=>∃ (a:Addr) (ns:List Int),vs=[.ref a]∧cR K H a (ns.map V.int)∧ns.length≤63∧(∀ T∈tabs,H T=some (.ext (de T))) ∧
 (∀ b,H b≠none→b=a∨b∈tabs)∧(∀ u,H a=some u→∃ o xs,u=.mr o (.lst xs))∧∀ H',a7 H H'→Q (.bl true) H'
theorem wg {P:Program} {w:World} {K:PySem.W.Frag} {mg:Str→Option Value} {base:Heap} {k:Nat} {f:Addr} {fd:FuncData} {ps:List Str} {tabs:List Addr} (F:aF P w K mg base (cx P w) k f fd ps (c9 K (tS tabs))) :
  aF P w K mg base L2.lW k f fd ps (zG tabs K) :=
 F.F7.imp fun vs H Q E ⟨a,ns,e,hS,hl,hT,hA,hK,q⟩=>by
  subst e
  classical
  have na:∀ u,H a=some u→a ∉ tabs:=fun u hu hm=>by
   obtain ⟨o,xs,rfl⟩:=hK u hu
   rw [hT a hm] at hu;cases hu
  refine ⟨[.fl (ns.map .int)],fun b=>if b∈tabs then some .tab else none,fun x J'=>x=.bl true∧∀ T∈tabs,J' T=some .tab,fun _ _=>False,⟨.ref a,[],rfl,⟨a,ns.map V.int,rfl,?_,jS ns⟩,rfl⟩,?_,⟨ns,rfl,hl,fun T hT=>if_pos hT,fun b hb=>if_neg hb,fun J' h=>⟨rfl,h⟩⟩,?_,?_⟩
  ·rcases hS with h | h
   ·refine .inl ⟨?_,h⟩
    have:a ∉ tabs:=by
     rcases h with h | ⟨o,h⟩
     ·exact na _ h
     ·exact na _ h
    exact if_neg this
   ·exact .inr h
  ·intro b o z
   by_cases hb:b∈tabs
   ·have z':=(if_pos hb).symm.trans z
    cases z'
    exact hT b hb
   ·have z':=(if_neg hb).symm.trans z
    cases z'
  ·rintro z J' u H' rz rr ee ⟨rfl,ht⟩
   cases rz
   refine q H' fun b o hb=>?_
   rcases hA b (by rw [hb];simp) with rfl | hm
   ·obtain ⟨ob,xs,rfl⟩:=hK o hb
    exact (ee.ll b _ (if_neg (na _ hb)) hb (.inr ⟨_,_,rfl⟩)).2
   ·have:=hT b hm
    rw [hb] at this;cases this
    exact rr b _ (ht b hm)
  ·intro _ _ _ _ _ z;exact z.elim
end Ov
namespace L2
open PySem PySem.Spec PyProof.Rows
def ED (k:Str):Value→Bool
 | .str y _=>y.cps.toList == k.cps.toList
 | _=>false
theorem nh {ss:List Str} {us:List Value} (r:Vals (ss.map V.str) us):us.length=ss.length∧∀ (j:Nat) (u:Value),us[j]?=some u→∃ y t,ss[j]?=some y∧u=.str y t:=by
 induction ss generalizing us with
 | nil=>cases r;exact ⟨rfl,fun j u e=>by simp at e⟩
 | cons y ss ih =>
  rw [List.map_cons] at r
  cases r with
  | cons ru rr =>
   obtain ⟨t,rfl⟩:=ru
   obtain ⟨h1,h2⟩:=ih rr
   refine ⟨by simp [h1],fun j u e=>?_⟩
   cases j with
   | zero=>cases e;exact ⟨y,t,rfl,rfl⟩
   | succ j=>exact h2 j u (by simpa using e)
theorem nE {α β:Type} (f:α→β):∀ (l:List α) (j:Nat),(l.eraseIdx j).map f=(l.map f).eraseIdx j
 | [],_=>rfl
 | _ :: _,0=>rfl
 | x :: l,j + 1=>by simp only [List.eraseIdx_cons_succ,List.map_cons,nE f l j]
section
variable {X:Cx}
def AJ (K:PySem.W.Frag):V→List V→Hp→VK→Prop:=fun x vs H Q=>∃ (l:Addr) (ss:List Str) (k:Str) (j:Nat),x=.ref l∧vs=[.str k]∧H l=some (.lst (ss.map V.str))∧ss[j]?=some k∧(∀ m:Nat,m < j→ss[m]?≠some k)∧Q (.int (j:Nat)) H
theorem wR:nR X "list.index" (AJ X.K):=by
 intro pins s σ H x vs v us Q I rx rv h
 obtain ⟨l,ss,k,j,rfl,rfl,hH,hj,hno,q⟩:=h
 cases rx
 obtain ⟨u,rfl,ru⟩:=rv.one
 obtain ⟨t,rfl⟩:=ru
 obtain ⟨z,its,n,r,hl,e⟩:=I.xR hH
 obtain ⟨h1,h2⟩:=nh r
 obtain ⟨hjl,hje⟩:=List.getElem?_eq_some_iff.mp hj
 have hz:ss.length≤sizeLine:=by simpa using z
 have hs:sizeLine=16777216:=sizeLine_eq
 have at_:∀ (m:Nat) (hm:m < its.toArray.size),ED k its.toArray[m]=decide (ss[m]?=some k):=fun m hm=>by
  obtain ⟨y,t',hy,hu⟩:=h2 m its[m] (List.getElem?_eq_getElem (by simpa using hm))
  show ED k its[m]=_
  rw [hu,hy]
  show (y.cps.toList == k.cps.toList)=_
  by_cases hk:y=k
  ·subst hk;simp
  ·have:(y.cps.toList == k.cps.toList)=false:=by
    rw [beq_eq_false_iff_ne]
    intro z
    exact hk (by cases y;cases k;simp at z;rw [z])
   rw [this];symm;exact decide_eq_false fun z=>hk (Option.some.inj z)
 refine call_meets PySem.F.slot_list_index ⟨_,e,rfl⟩ PySem.F.entry_list_index (PySem.F.args_list_index_2 _ _)
  (MeetsSeq.list_index l its.toArray n (.str k t) (ED k) (fun y hy=>?_) j (by simpa using (show j < its.length by omega)) (by omega) ?_ fun m hm hlt=>?_) ⟨e,⟨.int _,H,I.tok _,⟨_,rfl⟩,q⟩⟩
 ·obtain ⟨m,hm⟩:=List.mem_iff_getElem?.mp (show y∈its by simpa using hy)
  obtain ⟨y',t',_,rfl⟩:=h2 m y hm
  exact SeqRoads2.EqGives.str _ _ _ _
 ·rw [at_];exact decide_eq_true hj
 ·rw [at_];exact decide_eq_false (hno m hlt)
def yU:V→List V→Hp→VK→Prop:=fun x vs H Q=>∃ (l:Addr) (ss:List Str) (k:Str) (j:Nat),x=.ref l∧vs=[.str k]∧H l=some (.lst (ss.map V.str))∧ss[j]?=some k∧(∀ m:Nat,m < j→ss[m]?≠some k)∧Q .non (upd H l (.lst ((ss.eraseIdx j).map V.str)))
theorem r8:nR X "list.remove" yU:=by
 intro pins s σ H x vs v us Q I rx rv h
 obtain ⟨l,ss,k,j,rfl,rfl,hH,hj,hno,q⟩:=h
 cases rx
 obtain ⟨u,rfl,ru⟩:=rv.one
 obtain ⟨t,rfl⟩:=ru
 obtain ⟨z,its,n,r,hl,e⟩:=I.xR hH
 obtain ⟨h1,h2⟩:=nh r
 obtain ⟨hjl,hje⟩:=List.getElem?_eq_some_iff.mp hj
 have hz:ss.length≤sizeLine:=by simpa using z
 have at_:∀ (m:Nat) (hm:m < its.toArray.size),ED k its.toArray[m]=decide (ss[m]?=some k):=fun m hm=>by
  obtain ⟨y,t',hy,hu⟩:=h2 m its[m] (List.getElem?_eq_getElem (by simpa using hm))
  show ED k its[m]=_
  rw [hu,hy]
  show (y.cps.toList == k.cps.toList)=_
  by_cases hk:y=k
  ·subst hk;simp
  ·have:(y.cps.toList == k.cps.toList)=false:=by
    rw [beq_eq_false_iff_ne]
    intro z
    exact hk (by cases y;cases k;simp at z;rw [z])
   rw [this];symm;exact decide_eq_false fun z=>hk (Option.some.inj z)
 refine call_meets PySem.F.slot_list_remove ⟨_,e,rfl⟩ PySem.F.entry_list_remove (PySem.F.args_list_remove_2 _ _)
  (MeetsSeq.list_remove l its.toArray n (.str k t) (ED k) (fun y hy=>?_) j (by simpa using (show j < its.length by omega)) ?_ (fun m hm hlt=>?_) (by rw [List.size_toArray];omega)) ⟨e,?_⟩
 ·obtain ⟨m,hm⟩:=List.mem_iff_getElem?.mp (show y∈its by simpa using hy)
  obtain ⟨y',t',_,rfl⟩:=h2 m y hm
  exact SeqRoads2.EqGives.str _ _ _ _
 ·rw [at_];exact decide_eq_true hj
 ·rw [at_];exact decide_eq_false (hno m hlt)
 ·refine ⟨.non,_,I.AU (its':=its.eraseIdx j) hH e (by rw [List.eraseIdxIfInBounds_toArray]) ?_ ?_,rfl,q⟩
  ·rw [nE];exact r.eraseIdx j
  ·rw [List.length_map];exact Nat.le_trans (List.length_eraseIdx_le _ _) hz
end
end L2
namespace Ov
open PySem PySem.Spec PyProof.Rows
open L2 (V HO Hp Inv Cx VK XK TE TT TA TS TG lH TI TO g_ Ends qW Loc Gl Rd RelV Vals d_ rX b7 lp rW nR g8 R2 upd aA aH cR fz Sp mn It a7 cy bj Passes kM ay Meth Mk Binds aF bP au cK eZ dy)
section
variable {X:Cx} {G:G2}
def zi:xk:=fun x xs J Q=>∃ (a:Addr) (ss:List Str) (k:Str) (j:Nat),x=.ref a∧xs=[.str k]∧J a=some (.lst (ss.map .str))∧ss[j]?=some k∧(∀ m:Nat,m < j→ss[m]?≠some k)∧Q (.int (j:Nat)) J
theorem zR:Cz X "list" "list.index" zi:=⟨_,L2.wR,fun J H x xs v vs Q2 Q rx rs r ⟨a,ss,k,j,ex,exs,ja,hj,hno,q⟩ kn=>by
 subst ex exs;cases rx
 obtain ⟨w,us,rfl,rw',e⟩:=rs;cases e;cases rw'
 obtain ⟨ws,h1,h2⟩:=r _ _ ja
 cases dY h2
 exact ⟨a,ss,k,j,rfl,rfl,h1,hj,hno,kn (.int _) J _ H rfl r .refl q⟩⟩
def uT:xk:=fun x xs J Q=>∃ (a:Addr) (ss:List Str) (k:Str) (j:Nat),x=.ref a∧xs=[.str k]∧J a=some (.lst (ss.map .str))∧ss[j]?=some k∧(∀ m:Nat,m < j→ss[m]?≠some k)∧Q .non (put J a (.lst ((ss.eraseIdx j).map .str)))
theorem xb:Cz X "list" "list.remove" uT:=⟨_,L2.r8,fun J H x xs v vs Q2 Q rx rs r ⟨a,ss,k,j,ex,exs,ja,hj,hno,q⟩ kn=>by
 subst ex exs;cases rx
 obtain ⟨w,us,rfl,rw',e⟩:=rs;cases e;cases rw'
 obtain ⟨ws,h1,h2⟩:=r _ _ ja
 cases dY h2
 exact ⟨a,ss,k,j,rfl,rfl,h1,hj,hno,kn .non _ _ _ rfl (r.wrote (ys:=(ss.eraseIdx j).map .str) ja h1 jN) (.wrote ja h1) q⟩⟩
variable {a b c:Expr} {ta tb tc:cq} {pos:Pos}
def mf (q q':iF) (ta tb tc:cq):cq:=fun τ J Q=>ta τ J fun x J1=>tb τ J1 fun y J2=>q x y J2 fun z J3=>∃ k,z=.bl k∧(if k=true then tc τ J3 fun w J4=>q' y w J4 Q else Q (.bl false) J3)
theorem l_ {r r':R2} {q q':iF} (lr:LR X.K r q) (lr':LR X.K r' q'):∀ σ H Q,LE X.K G (mf q q' ta tb tc) σ H Q→L2.sv r r' (LE X.K G ta) (LE X.K G tb) (LE X.K G tc) σ H Q:=fun σ H Q ⟨τ,J,Q2,a2,hh,k⟩=>⟨τ,J,_,a2,hh,fun x J1 v H1 rx r1 e1 q1=>⟨τ,J1,_,a2.go r1 e1,q1,fun y J2 w H2 ry r2 e2 q2 =>
  lr J2 H2 x y v w _ _ (e2.rep rx) ry r2 q2 fun z J3 u H3 rz r3 e3 ⟨kk,ez,q3⟩=>by
   subst ez;cases rz
   refine ⟨kk,rfl,?_⟩
   cases kk with
   | false=>simp only [Bool.false_eq_true,if_false] at q3 ⊢;exact k (.bl false) J3 _ H3 rfl r3 ((e1.trans e2).trans e3) q3
   | true =>
    simp only [if_true] at q3 ⊢
    exact ⟨τ,J3,_,((a2.go r1 e1).go r2 e2).go r3 e3,q3,fun w2 J4 u4 H4 r4 rr4 e4 q4=>lr' J4 H4 y w2 w u4 Q2 Q ((e3.trans e4).rep ry) r4 rr4 q4 fun z' J' u' H' rz' rr' ee' qq=>k z' J' u' H' rz' rr' ((((e1.trans e2).trans e3).trans e4).trans ee') qq⟩⟩⟩
theorem yF {op op':CmpOp} {q q':iF} (ho:iE X (compareOp op) q) (ho':iE X (compareOp op') q') (ha:RE X G a ta) (hb:RE X G b tb) (hc:RE X G c tc) (hm:lastMarks [op,op'] [b,c]=false:=by with_unfolding_all rfl) :
  RE X G (.Compare a [op,op'] [b,c] pos) (mf q q' ta tb tc):=by
 obtain ⟨r,h,lr⟩:=ho
 obtain ⟨r',h',lr'⟩:=ho'
 exact ⟨hE (L2.yo h h' ha.run hb.run hc.run hm) (l_ lr lr')⟩
theorem xt {op op':CmpOp} {q q':iF} (ho:iE X (compareOp op) q) (ho':iE X (compareOp op') q') (ha:RE X G a ta) (hb:RE X G b tb) (hc:RE X G c tc) (hm:lastMarks [op,op'] [b,c]=false:=by with_unfolding_all rfl) :
  RT X G (.Compare a [op,op'] [b,c] pos) (rB (mf q q' ta tb tc)):=by
 obtain ⟨r,h,lr⟩:=ho
 obtain ⟨r',h',lr'⟩:=ho'
 exact ⟨GH (L2.zp h h' ha.run hb.run hc.run hm) fun σ H Q ⟨τ,J,Q2,a2,hh,k⟩=>l_ lr lr' σ H _ ⟨τ,J,_,a2,hh,fun x J' v H' rx rr ee ⟨kk,ex,q⟩=>by subst ex;cases rx;exact ⟨kk,rfl,k kk J' H' rr ee q⟩⟩⟩
end
end Ov
namespace L2
open PySem PySem.Spec PyProof.Rows
def IK (K:PySem.W.Frag) (a:Addr):It :=
 ⟨fun i H=>∃ xs x,cR K H a xs∧xs[i]?=some x,
  fun i H z H'=>∃ T x,H T=none∧z=.ref T∧H'=upd H T (.tup [.int (i:Nat),x])∧(∀ xs,cR K H a xs→xs[i]?=some x),
  fun i H=>∃ xs,cR K H a xs∧xs.length≤i⟩
theorem wI {P:Program} {w:World} {K:PySem.W.Frag} {elts:List Expr} {x1} {pos:Pos} {e it l:Addr} (ne:e≠it) :
  Turn P w K (.Tuple elts x1 pos) (IK K l) [e,it] e (fun i h=>(∃ old,IsEnum h e it (i:Int) old)∧h.IsListIter it l i) where
 mem:=by simp
 obj:=fun i h ⟨⟨old,he⟩,h1⟩ c hc=>by
  simp only [List.mem_cons,List.not_mem_nil,or_false] at hc
  rcases hc with rfl | rfl
  ·exact ⟨_,he,fun v z=>by cases z⟩
  ·obtain ⟨o,e,c,d⟩:=h1;exact ⟨o,e,fun v z=>by rw [d] at z;cases z⟩
 keep:=fun i h h' ⟨⟨old,he⟩,h1⟩ k=>⟨⟨old,k e (by simp) _ he⟩,h1.at fun o q=>k it (by simp) o q⟩
 item:=by
  intro X hP hw hK hc i pins s σ H E I hf st hg
  subst hP hw hK
  obtain ⟨⟨old,he⟩,h1⟩:=st
  obtain ⟨xs,x,hqx,hx⟩:=hg
  obtain ⟨its,rv,p,hzx⟩:=I.list hqx
  obtain ⟨u,hu,rx⟩:=rv.get hx
  refine wpAny_pyNext_enum_item he h1 p.isList (x:=u) (by simpa using hu) ne fun h' a1 a3 a5 a6 hk=>?_
  refine ⟨_,rfl,wpAny_letOwnedTupleGo_enum a1 fun h'' hz' hs'=>?_⟩
  have hT:H s.heap.objs.size=none:=I.hok.fresh (Nat.le_refl _)
  have lt:∀ {c o},s.heap.get? c=some o→c≠s.heap.objs.size:=fun e=>Nat.ne_of_lt (Heap.lt_size e)
  have I0:Inv X pins σ (upd H s.heap.objs.size (.tup [.int (i:Nat),x])) { s with heap:=s.heap.push { cls:=.type "tuple",data:=.seq #[.int i s.toks,u] },toks:=s.toks + 1 }:=I.laid (t':=s.toks + 1) (fun b u e=>Heap.get?_push_of_some _ e) (Nat.le_refl _) ⟨by simp [sizeLine],[.int i s.toks,u],.cons ⟨_,rfl⟩ (.cons rx .nil),⟨_,Heap.get?_push_size _ rfl,rfl,_,rfl⟩⟩
  have fpn:∀ b∈[e,it],b≠s.heap.objs.size:=fun b hb=>by
   simp only [List.mem_cons,List.not_mem_nil,or_false] at hb
   rcases hb with rfl | rfl
   ·exact lt he
   ·obtain ⟨o,e,_⟩:=h1;exact lt e
  have fpu:∀ b∈[e,it],gf X pins (upd H s.heap.objs.size (.tup [.int (i:Nat),x])) b:=fun b hb=>⟨by rw [aH (fpn b hb)];exact (hf b hb).1,(hf b hb).2⟩
  have I1:Inv X pins σ (upd H s.heap.objs.size (.tup [.int (i:Nat),x])) { s with heap:=h'',toks:=s.toks + 1 }:=Inv.vd (s:={ s with heap:=s.heap.push { cls:=.type "tuple",data:=.seq #[.int i s.toks,u] },toks:=s.toks + 1 }) (t':=s.toks + 1) (ch:=[e,it]) I0 (fun b o hb eb=>by
   simp only [List.mem_cons,List.not_mem_nil,or_false,not_or] at hb
   rcases Heap.get?_push_cases eb with ⟨rfl,rfl⟩ | e'
   ·exact hs'.extBut _ _ hb.1 a5
   ·exact hs'.extBut _ _ hb.1 (hk b o hb.1 hb.2 e')) fpu
  refine ⟨.ref s.heap.objs.size,_,I1,rfl,⟨_,x,hT,rfl,rfl,fun zs hq=>by rw [I.lV hq hqx];exact hx⟩,⟨⟨_,by rw [Int.natCast_add];exact hz'⟩,a3.extBut hs'.extBut (Ne.symm ne)⟩,fun b hb=>(fpu b hb).1⟩
 done:=by
  intro X hP hw hK hc i pins s σ H E I hf st hg
  subst hP hw hK
  obtain ⟨⟨old,he⟩,h1⟩:=st
  obtain ⟨xs,hqx,hl⟩:=hg
  obtain ⟨its,rv,p,hzx⟩:=I.list hqx
  have e1:=rv.length
  refine wpAny_pyNext_enum_end (I.ok.hd hc) he h1 p.isList (by rw [List.getElem?_toArray,List.getElem?_eq_none_iff];omega) fun h' hk=>⟨rfl,I.vd (t':=s.toks) (ch:=[e,it]) (fun b o hb e=>?_) hf⟩
  simp only [List.mem_cons,List.not_mem_nil,or_false,not_or] at hb
  exact hk b o hb.2 e
 self:=fun _ _ _ _ _ st h=>let ⟨⟨_,he⟩,_⟩:=st;wpAny_pyIter_enum he h
def Fs (K:PySem.W.Frag) (ta:TA):TI:=fun σ H R=>ta σ H fun vs H1=>∃ a xs,vs=[.ref a]∧cR K H1 a xs∧R (IK K a) H1
section
variable {X:Cx}
theorem AQ {l:Expr} {elts:List Expr} {x1} {tp:Pos} {ta:TA} {p pos:Pos} (hg:Gl X "enumerate") (hm:X.mg "enumerate"=none) (ha:PA X [l] ta) (hs:starEach [l] X.env=(false,eval l X.env) :: starEach [] X.env:=by rfl) (hp:(backTo pos (starEach [] X.env)).any (·.1)=false:=by rfl):PI X (.Tuple elts x1 tp) (.Call (.Name "enumerate" p) [l] [] pos) (Fs X.K ta):=by
 intro pins s σ H R I h
 refine Call_ (j1 I hg hm PyProof.Rows.Boot.«enumerate» (PyProof.Rows.callWith_type1 (bx (ha pos pins s σ H _ I h) fun us s1 ⟨vs,H1,I1,r1,q1⟩=>?_) hs hp))
 obtain ⟨a,xs,e,hqa,q⟩:=q1
 subst e
 cases r1 with
 | cons r rr =>
  cases rr
  cases r
  obtain ⟨its,rv,pl,hz⟩:=I1.list hqa
  refine call_enumerate_list pl.isList ?_
  intro h' b1 b2 b6 hk
  refine wpAny_pyIter_enum b1 ?_
  have ne:s1.heap.objs.size + 1≠s1.heap.objs.size:=Nat.succ_ne_self _
  refine ⟨_,_,_,_,H1,rfl,I1.kept (t':=s1.toks) hk,wI ne,⟨⟨_,b1⟩,b2⟩,fun c hc=>?_,q⟩
  have hc':s1.heap.objs.size≤c:=by
   simp only [List.mem_cons,List.not_mem_nil,or_false] at hc
   show @LE.le Nat _ _ _
   rcases hc with rfl | rfl
   ·exact Nat.le_add_right _ _
   ·exact Nat.le_refl _
  exact I1.A3 hc' (I1.hok.fresh hc')
end
end L2
namespace Ov
open PySem PySem.Spec PyProof.Rows
open L2 (V HO Hp Inv Cx VK XK TE TT TA TS TG lH TI TO g_ Ends qW Loc Gl Rd RelV Vals d_ rX b7 lp rW nR g8 R2 upd aA aH cR fz Sp mn It a7 cy bj Passes kM ay Meth Mk Binds aF bP au cK eZ dy)
def qs (xs:List PV):List PV:=(List.range xs.length).zipWith (fun i x=>PV.tup [.int ((i:Nat):Int),x]) xs
theorem gR (xs:List PV):(qs xs).length=xs.length:=by unfold qs;simp
theorem nZ (xs:List PV) (i:Nat) (x:PV) (h:xs[i]?=some x):(qs xs)[i]?=some (.tup [.int (i:Int),x]):=by
 unfold qs
 obtain ⟨hi,e⟩:=List.getElem?_eq_some_iff.mp h
 rw [List.getElem?_zipWith,List.getElem?_range hi,h]
section
variable {X:Cx} {G:G2}
def IU (ta:kL):n6:=fun τ J R=>ta τ J fun vs J1=>∃ x xs,vs=[x]∧mx J1 x=some xs∧R ⟨qs xs,fun J'=>mx J' x=some xs⟩ J1
theorem B3 {l:Expr} {elts:List Expr} {x1} {tp:Pos} {ta:kL} {p pos:Pos} (hg:Gl X "enumerate") (hm:X.mg "enumerate"=none) (ha:RA X G [l] ta) (hs:starEach [l] X.env=(false,eval l X.env) :: starEach [] X.env:=by rfl) (hp:(backTo pos (starEach [] X.env)).any (·.1)=false:=by rfl) :
  RI X G (.Tuple elts x1 tp) (.Call (.Name "enumerate" p) [l] [] pos) (IU ta):=⟨G3 (L2.AQ hg hm ha.run hs hp) fun σ H R ⟨τ,J,R2,a2,h,k⟩=>⟨τ,J,_,a2,h,fun vs J1 us H1 rs r1 e1 ⟨x,xs,ev,hx,q⟩=>by
 subst ev
 obtain ⟨v,us',rfl,rv,e'⟩:=rs
 cases e'
 obtain ⟨a,ws,rfl,h1,h2⟩:=zB hx rv r1
 refine ⟨a,ws,rfl,h1,k _ J1 _ H1 ?_ r1 e1 q⟩
 have at_:∀ J' H',Ext X.K J1 H1 J' H'→Rep X.K J' H'→mx J' x=some xs→∃ vs,cR X.K H' a vs∧aB X.K J' H' xs vs:=fun J' H' e r o=>by
  obtain ⟨c,vs,eb,g1,g2⟩:=zB o (e.rep rv) r
  cases eb
  exact ⟨vs,g1,g2⟩
 exact {
  go:=fun J' H' e r o i hi=>by
   obtain ⟨vs,s,rs⟩:=at_ J' H' e r o
   rw [gR] at hi
   exact ⟨vs,vs[i]'(by rw [← rs.length];exact hi),s,by simp⟩
  yl:=fun J' H' e r o i hi v H2 y=>by
   obtain ⟨vs,s,rs⟩:=at_ J' H' e r o
   obtain ⟨T,z,hT,rfl,rfl,y1⟩:=y
   obtain ⟨c,ec,rc⟩:=rs.get' (y1 vs s)
   have sm:=a7.new hT (.tup [.int (i:Nat),z])
   have e2:=Ext.same (K:=X.K) (J:=J') sm
   refine ⟨.tup [.int (i:Int),c],nZ _ _ _ ec,⟨T,[.int (i:Nat),z],rfl,.inl (.inl aA),e2.gh ⟨.int (i:Nat),_,rfl,rfl,z,_,rfl,rc,rfl⟩⟩,r.same sm,e2⟩
  stop:=fun J' H' e r o=>by
   obtain ⟨vs,s,rs⟩:=at_ J' H' e r o
   exact ⟨vs,s,by rw [gR,← rs.length];exact Nat.le_refl _⟩ }⟩⟩
end
section
variable {X:Cx} {pins:List (Addr × Obj)} {σ:L2.St} {H:Hp} {s:Shared}
open Classical in
def eT (K:PySem.W.Frag) (H:Hp) (zs:List Py) (y:Py) (u:Value):Bool:=decide (∃ z∈zs,∃ v,RelV v u∧At K H z v∧gU z y=true)
end
section
variable {X:Cx} {G:G2}
end
end Ov
namespace Ov
open PySem
structure aG where
 m:Rat
 h:Str
 f:Str
 deriving DecidableEq
def slt (a b:Str):Prop:=a.cps.toList < b.cps.toList
instance (a b:Str):Decidable (slt a b):=inferInstanceAs (Decidable (a.cps.toList < b.cps.toList))
def aG.lt (a b:aG):Bool:=if a.m=b.m then (if a.h=b.h then decide (slt a.f b.f) else decide (slt a.h b.h)) else decide (a.m < b.m)
theorem jf (a:Str):¬ slt a a:=List.lt_irrefl _
theorem j2 {a b c:Str} (h:slt a b) (k:slt b c):slt a c:=List.lt_trans h k
theorem x4:∀ (a b:List Nat),a≠b→a < b∨b < a
 | [],[],h=>absurd rfl h
 | [],_ :: _,_=>.inl (List.nil_lt_cons _ _)
 | _ :: _,[],_=>.inr (List.nil_lt_cons _ _)
 | x :: a,y :: b,h=>by
  rcases Nat.lt_trichotomy x y with z | z | z
  ·exact .inl (List.cons_lt_cons_iff.mpr (.inl z))
  ·subst z
   rcases x4 a b (fun e=>h (by rw [e])) with q | q
   ·exact .inl (List.cons_lt_cons_iff.mpr (.inr ⟨rfl,q⟩))
   ·exact .inr (List.cons_lt_cons_iff.mpr (.inr ⟨rfl,q⟩))
  ·exact .inr (List.cons_lt_cons_iff.mpr (.inl z))
theorem oF {a b:Str} (h:a≠b):slt a b∨slt b a:=by
 have ne:a.cps.toList≠b.cps.toList:=fun e=>h (by cases a;cases b;simp at e;rw [e])
 exact x4 _ _ ne
theorem DC {a b:Str} (h:slt a b):a≠b:=fun e=>by subst e;exact jf _ h
theorem aG.lt_iff (a b:aG):a.lt b=true↔a.m < b.m∨(a.m=b.m∧(slt a.h b.h∨(a.h=b.h∧slt a.f b.f))):=by
 unfold aG.lt
 by_cases e:a.m=b.m
 ·rw [if_pos e]
  have n:¬ a.m < b.m:=by rw [e];exact Rat.lt_irrefl
  by_cases k:a.h=b.h
  ·rw [if_pos k]
   have n2:¬ slt a.h b.h:=fun z=>DC z k
   simp [e,k,n,n2]
   try (intro z;first | exact absurd z Rat.lt_irrefl | exact absurd z (jf _))
  ·rw [if_neg k]
   simp [e,k]
   try (intro z;exact absurd z Rat.lt_irrefl)
 ·rw [if_neg e]
  simp [e]
theorem aG.Ee (a:aG):a.lt a=false:=by
 cases h:a.lt a with
 | false=>rfl
 | true =>
  rcases (aG.lt_iff a a).mp h with h | ⟨_,h | ⟨_,h⟩⟩
  ·exact absurd h Rat.lt_irrefl
  ·exact absurd h (jf _)
  ·exact absurd h (jf _)
theorem nS {a b c:Rat} (h:a < b) (k:b < c):a < c:=by grind
theorem aG.lt_trans {a b c:aG} (h:a.lt b=true) (k:b.lt c=true):a.lt c=true:=by
 rw [aG.lt_iff] at *
 rcases h with h | ⟨e,h⟩ <;> rcases k with k | ⟨e',k⟩
 ·exact .inl (nS h k)
 ·exact .inl (e' ▸ h)
 ·exact .inl (e ▸ k)
 ·refine .inr ⟨e.trans e',?_⟩
  rcases h with h | ⟨z,h⟩ <;> rcases k with k | ⟨z',k⟩
  ·exact .inl (j2 h k)
  ·exact .inl (z' ▸ h)
  ·exact .inl (z ▸ k)
  ·exact .inr ⟨z.trans z',j2 h k⟩
theorem aG.xr {a b:aG} (h:a≠b):a.lt b=true∨b.lt a=true:=by
 rw [aG.lt_iff,aG.lt_iff]
 by_cases e:a.m=b.m
 ·by_cases z:a.h=b.h
  ·have:a.f≠b.f:=fun q=>h (by cases a;cases b;simp_all)
   rcases oF this with q | q
   ·exact .inl (.inr ⟨e,.inr ⟨z,q⟩⟩)
   ·exact .inr (.inr ⟨e.symm,.inr ⟨z.symm,q⟩⟩)
  ·rcases oF z with q | q
   ·exact .inl (.inr ⟨e,.inl q⟩)
   ·exact .inr (.inr ⟨e.symm,.inl q⟩)
 ·rcases (by grind:a.m < b.m∨b.m < a.m) with q | q
  ·exact .inl (.inl q)
  ·exact .inr (.inl q)
def gg (l:List aG):Prop:=l.Pairwise fun a b=>a.lt b=true
def ip (b:aG) (l:List aG):List aG:=l.filter (fun x=>x.lt b) ++ b :: l.filter (fun x=>!x.lt b)
def pY (h f:Str) (x:aG):Bool:=decide (x.h=h∧x.f=f)
def c7 (h f:Str) (l:List aG):List aG:=l.filter fun x=>!pY h f x
theorem nW {h f:Str} {l:List aG} (s:gg l):gg (c7 h f l):=s.filter _
theorem qj {b:aG} {l:List aG} (s:gg l) (n:∀ x∈l,x≠b):gg (ip b l):=by
 unfold ip gg
 rw [List.pairwise_append]
 refine ⟨s.filter _,?_,?_⟩
 ·rw [List.pairwise_cons]
  refine ⟨fun y hy=>?_,s.filter _⟩
  rw [List.mem_filter] at hy
  rcases aG.xr (n y hy.1) with q | q
  ·simp [q] at hy
  ·exact q
 ·intro x hx y hy
  rw [List.mem_filter] at hx
  rcases List.mem_cons.mp hy with rfl | hy
  ·exact hx.2
  ·rw [List.mem_filter] at hy
   rcases aG.xr (n y hy.1) with q | q
   ·simp [q] at hy
   ·exact aG.lt_trans hx.2 q
theorem BK {h f:Str} {l:List aG} {m:Rat}:∀ x∈c7 h f l,x≠⟨m,h,f⟩:=fun x hx e=>by
 subst e
 unfold c7 at hx
 rw [List.mem_filter] at hx
 simp [pY] at hx
theorem ni (p:aG→Bool):∀ {l:List aG} {i:Nat},i≤l.length→(∀ (j:Nat) x,j < i→l[j]?=some x→p x=true)→(∀ (j:Nat) x,i≤j→l[j]?=some x→p x=false)→l.take i ++ l.drop i=l∧l.filter p=l.take i∧l.filter (fun x=>!p x)=l.drop i
 | l,0,_,_,h=>by
  refine ⟨by simp,?_,?_⟩
  ·rw [List.take_zero]
   apply List.filter_eq_nil_iff.mpr
   intro x hx
   obtain ⟨j,hj⟩:=List.mem_iff_getElem?.mp hx
   rw [h j x (Nat.zero_le _) hj];simp
  ·rw [List.drop_zero]
   apply List.filter_eq_self.mpr
   intro x hx
   obtain ⟨j,hj⟩:=List.mem_iff_getElem?.mp hx
   rw [h j x (Nat.zero_le _) hj];rfl
 | [],i + 1,hi,_,_=>by simp at hi
 | x :: l,i + 1,hi,h1,h2=>by
  obtain ⟨a,b,c⟩:=ni p (l:=l) (i:=i) (by simpa using hi) (fun j y hj e=>h1 (j + 1) y (by omega) (by simpa using e)) (fun j y hj e=>h2 (j + 1) y (by omega) (by simpa using e))
  have hx:p x=true:=h1 0 x (by omega) rfl
  refine ⟨by simp,?_,?_⟩
  ·rw [List.filter_cons,hx];simp [b]
  ·rw [List.filter_cons,hx];simp [c]
theorem AG {b:aG} {l:List aG} {i:Nat} (hi:i≤l.length) (h1:∀ (j:Nat) x,j < i→l[j]?=some x→x.lt b=true) (h2:∀ (j:Nat) x,i≤j→l[j]?=some x→x.lt b=false):l.take i ++ b :: l.drop i=ip b l:=by
 obtain ⟨_,e1,e2⟩:=ni (fun x=>x.lt b) hi h1 h2
 unfold ip
 rw [e1,e2]
theorem uo {l:List aG} {b x y:aG} {i j:Nat} (s:gg l) (hx:l[i]?=some x) (hy:l[j]?=some y) (h:j≤i) (k:x.lt b=true):y.lt b=true:=by
 rcases Nat.lt_or_eq_of_le h with h | h
 ·obtain ⟨hi,ei⟩:=List.getElem?_eq_some_iff.mp hx
  obtain ⟨hj,ej⟩:=List.getElem?_eq_some_iff.mp hy
  have:=List.pairwise_iff_getElem.mp s j i hj hi h
  rw [ei,ej] at this
  exact aG.lt_trans this k
 ·subst h;rw [hx] at hy;cases hy;exact k
theorem xP {l:List aG} {b x y:aG} {i j:Nat} (s:gg l) (hx:l[i]?=some x) (hy:l[j]?=some y) (h:i≤j) (k:x.lt b=false):y.lt b=false:=by
 cases q:y.lt b with
 | false=>rfl
 | true=>rw [uo s hy hx h q] at k;cases k
theorem yJ {b x:aG} {l:List aG} (h:x∈ip b l):x=b∨x∈l:=by
 unfold ip at h
 rcases List.mem_append.mp h with h | h
 ·exact .inr (List.mem_filter.mp h).1
 ·rcases List.mem_cons.mp h with h | h
  ·exact .inl h
  ·exact .inr (List.mem_filter.mp h).1
theorem iP (p:aG→Bool):∀ l:List aG,(l.filter p).length + (l.filter fun x=>!p x).length=l.length
 | []=>rfl
 | x :: l=>by
  have:=iP p l
  cases h:p x <;> simp [h] <;> omega
theorem xH (b:aG) (l:List aG):(ip b l).length=l.length + 1:=by
 unfold ip
 rw [List.length_append,List.length_cons]
 have:=iP (fun x=>x.lt b) l
 omega
theorem n8 (h f:Str) (l:List aG):(c7 h f l).length≤l.length:=List.length_filter_le _ _
structure aQ where
 m:Rat
 p:Rat
 v:Int
 deriving DecidableEq
def aQ.at (l:aQ) (t:Rat):Rat:=l.p + (t - l.m) * l.v
def turned (rows:List aQ) (t:Rat) (v:Int):List aQ :=
 match rows.getLast? with
 | none=>[]
 | some l =>
  let rest:=if l.m=t then rows.dropLast else rows
  if rest.getLast?.map aQ.v=some v then rest else rest ++ [⟨t,l.at t,v⟩]
theorem fc (ls:List aQ) (l:aQ) (t:Rat) (v:Int):turned (ls ++ [l]) t v =
  if l.m=t then (if ls.getLast?.map aQ.v=some v then ls else ls ++ [⟨t,l.at t,v⟩]) else (if l.v=v then ls ++ [l] else ls ++ [l] ++ [⟨t,l.at t,v⟩]):=by
 unfold turned
 simp only [List.getLast?_concat,List.dropLast_concat]
 split
 ·rfl
 ·simp only [List.getLast?_concat,Option.map_some,Option.some.injEq]
theorem jH {rows:List aQ} {t:Rat} {v:Int} (h:rows≠[]):turned rows t v≠[]:=by
 obtain ⟨ls,l,rfl⟩:∃ ls l,rows=ls ++ [l]:=⟨rows.dropLast,rows.getLast h,(List.dropLast_concat_getLast h).symm⟩
 rw [fc]
 split
 ·split
  ·rename_i e
   intro z;subst z;cases e
  ·simp
 ·split <;> simp
theorem lR {rows:List aQ} {t:Rat} {v:Int} {x:aQ} (h:x∈turned rows t v):x∈rows∨∃ l∈rows,x=⟨t,l.at t,v⟩:=by
 by_cases e:rows=[]
 ·subst e;cases h
 obtain ⟨ls,l,rfl⟩:∃ ls l,rows=ls ++ [l]:=⟨rows.dropLast,rows.getLast e,(List.dropLast_concat_getLast e).symm⟩
 rw [fc] at h
 have key:∀ {y:List aQ},(∀ z∈y,z∈ls ++ [l])→x∈y ++ [⟨t,l.at t,v⟩]→x∈ls ++ [l]∨∃ l'∈ls ++ [l],x=⟨t,l'.at t,v⟩:=fun hy hx=>by
  rcases List.mem_append.mp hx with h | h
  ·exact .inl (hy _ h)
  ·exact .inr ⟨l,by simp,by simpa using h⟩
 split at h
 ·split at h
  ·exact .inl (List.mem_append.mpr (.inl h))
  ·exact key (fun z hz=>List.mem_append.mpr (.inl hz)) h
 ·split at h
  ·exact .inl h
  ·exact key (fun z hz=>hz) h
theorem f6 (rows:List aQ) (t:Rat) (v:Int):(turned rows t v).length≤rows.length + 1:=by
 by_cases e:rows=[]
 ·subst e;simp [turned]
 obtain ⟨ls,l,rfl⟩:∃ ls l,rows=ls ++ [l]:=⟨rows.dropLast,rows.getLast e,(List.dropLast_concat_getLast e).symm⟩
 rw [fc]
 split <;> split <;> simp <;> omega
def qo (rows:List aQ) (t:Rat):Option aQ:=(rows.filter fun l=>decide (l.m≤t)).getLast?
def lb (ms:List Rat) (t:Rat):Nat→Nat
 | 0=>0
 | k + 1=>if ms.getD k 0≤t then k + 1 else lb ms t k
theorem CV (ms:List Rat) (t:Rat):∀ k,lb ms t k≤k
 | 0=>Nat.le_refl _
 | k + 1=>by unfold lb;split;exact Nat.le_refl _;exact Nat.le_succ_of_le (CV ms t k)
theorem zg {ms:List Rat} {t:Rat} {j:Nat} (h:ms.getD j 0≤t):∀ {k},j < k→0 < lb ms t k
 | 0,hk=>absurd hk (Nat.not_lt_zero _)
 | k + 1,hk=>by
  unfold lb
  split
  ·exact Nat.succ_pos _
  ·rename_i c
   exact zg h (by rcases Nat.lt_succ_iff_lt_or_eq.mp hk with e | e;exact e;subst e;exact absurd h c)
theorem vA (t:Rat) (rows:List aQ):∀ k,k≤rows.length→((rows.take k).filter fun l=>decide (l.m≤t)).getLast?=if lb (rows.map aQ.m) t k=0 then none else rows[lb (rows.map aQ.m) t k - 1]?
 | 0,_=>rfl
 | k + 1,hk=>by
  have hk':k < rows.length:=by omega
  have e:rows.take (k + 1)=rows.take k ++ [rows[k]]:=by rw [List.take_add_one,List.getElem?_eq_getElem hk'];rfl
  have em:(rows.map aQ.m).getD k 0=rows[k].m:=by simp [List.getD,hk']
  rw [e,List.filter_append]
  unfold lb
  rw [em]
  by_cases c:rows[k].m≤t
  ·rw [if_pos c,List.filter_cons,if_pos (decide_eq_true c),List.filter_nil,List.getLast?_concat,if_neg (Nat.succ_ne_zero _),Nat.add_sub_cancel,List.getElem?_eq_getElem hk']
  ·rw [if_neg c,List.filter_cons,if_neg (by simp [c]),List.filter_nil,List.append_nil]
   exact vA t rows k (by omega)
theorem yh (rows:List aQ) (t:Rat):qo rows t=if lb (rows.map aQ.m) t rows.length=0 then none else rows[lb (rows.map aQ.m) t rows.length - 1]?:=by
 have:=vA t rows rows.length (Nat.le_refl _)
 rw [List.take_length] at this
 exact this
def G6 (g:Option Rat) (t:Rat):Bool:=match g with | none=>true | some q=>decide (t < q)
def there (rows:List aQ) (g:Option Rat) (t:Rat):Bool :=
 match rows.head? with
 | none=>false
 | some l=>!decide (t < l.m) && G6 g t
theorem yC {rows:List aQ} {g:Option Rat} {t:Rat} (h:there rows g t=true):∃ l,qo rows t=some l∧l∈rows∧l.m≤t∧0 < lb (rows.map aQ.m) t rows.length∧rows[lb (rows.map aQ.m) t rows.length - 1]?=some l:=by
 cases rows with
 | nil=>cases h
 | cons l0 ls =>
  have h0:l0.m≤t:=by
   unfold there at h
   simp only [List.head?_cons,Bool.and_eq_true,Bool.not_eq_true',decide_eq_false_iff_not] at h
   exact Rat.not_lt.mp h.1
  have hp:0 < lb ((l0 :: ls).map aQ.m) t (l0 :: ls).length:=zg (j:=0) (by simpa using h0) (by simp)
  have hle:=CV ((l0 :: ls).map aQ.m) t (l0 :: ls).length
  have hx:=yh (l0 :: ls) t
  rw [if_neg (by omega)] at hx
  obtain ⟨l,hl⟩:∃ l,(l0 :: ls)[lb ((l0 :: ls).map aQ.m) t (l0 :: ls).length - 1]?=some l:=⟨_,List.getElem?_eq_getElem (by omega)⟩
  rw [hl] at hx
  have hm:=List.mem_of_getLast? hx
  rw [List.mem_filter] at hm
  exact ⟨l,hx,hm.1,of_decide_eq_true hm.2,hp,hl⟩
def Sc (D A:Nat) (q:Rat):Prop:=∃ a:Int,q * (D:Rat)=(a:Rat)∧a.natAbs≤A
theorem Sc.mono {D A B:Nat} {q:Rat} (h:Sc D A q) (k:A≤B):Sc D B q:=let ⟨a,e,l⟩:=h;⟨a,e,Nat.le_trans l k⟩
theorem FA {D:Nat} (h:0 < D):(D:Rat)≠0:=by
 intro e
 have:D=0:=by exact_mod_cast e
 omega
theorem Sc.sz {D A n:Nat} {q:Rat} (h:Sc D A q) (hD:0 < D) (h1:D < 2 ^ n) (h2:A < 2 ^ n):Sz n q:=by
 obtain ⟨a,e,l⟩:=h
 have nz:=FA hD
 have:q=Rat.divInt a (D:Int):=by
  rw [Rat.divInt_eq_div,← e]
  have:((D:Int):Rat)=(D:Rat):=rfl
  rw [this]
  generalize (D:Rat)=d at nz ⊢
  grind
 rw [this]
 exact Sz.div ⟨Nat.lt_of_le_of_lt l h2⟩ ⟨by simpa using h1⟩ (by omega)
theorem Sc.add {D A B:Nat} {p q:Rat} (h:Sc D A p) (k:Sc D B q):Sc D (A + B) (p + q):=by
 obtain ⟨a,e,l⟩:=h
 obtain ⟨b,f,m⟩:=k
 refine ⟨a + b,?_,by omega⟩
 rw [Rat.intCast_add,← e,← f]
 grind
theorem Sc.sub {D A B:Nat} {p q:Rat} (h:Sc D A p) (k:Sc D B q):Sc D (A + B) (p - q):=by
 obtain ⟨a,e,l⟩:=h
 obtain ⟨b,f,m⟩:=k
 refine ⟨a - b,?_,by omega⟩
 rw [Rat.intCast_sub,← e,← f]
 grind
theorem Sc.mul {D A B:Nat} {p:Rat} {v:Int} (h:Sc D A p) (k:v.natAbs≤B):Sc D (A * B) (p * v):=by
 obtain ⟨a,e,l⟩:=h
 refine ⟨a * v,?_,?_⟩
 ·rw [Rat.intCast_mul,← e]
  grind
 ·rw [Int.natAbs_mul];exact Nat.mul_le_mul l k
theorem Sc.scale {D A E:Nat} {p:Rat} (h:Sc D A p):Sc (E * D) (E * A) p:=by
 obtain ⟨a,e,l⟩:=h
 refine ⟨E * a,?_,?_⟩
 ·rw [Rat.intCast_mul,← e]
  have h1:((E * D:Nat):Rat)=(E:Rat) * (D:Rat):=Rat.natCast_mul ..
  have h2:((E:Int):Rat)=(E:Rat):=rfl
  rw [h1,h2]
  grind
 ·rw [Int.natAbs_mul];exact Nat.mul_le_mul (by simp) l
theorem Sc.IB {D A:Nat} {t:Int} {b:Nat} (hb:0 < b) (hd:b ∣ D) (hA:t.natAbs * (D / b)≤A):Sc D A (Rat.divInt t b):=by
 obtain ⟨c,rfl⟩:=hd
 rw [Nat.mul_div_cancel_left _ hb] at hA
 refine ⟨t * c,?_,by rw [Int.natAbs_mul];simpa using hA⟩
 have nb:=FA hb
 have e1:((b:Int):Rat)=(b:Rat):=rfl
 have e2:((c:Int):Rat)=(c:Rat):=rfl
 rw [Rat.divInt_eq_div,Rat.intCast_mul,e1,e2,Rat.natCast_mul]
 generalize (b:Rat)=b at nb ⊢
 grind
def fK:Nat:=9690712164777231700912800
theorem Jm:∀ b:Nat,1≤b→b≤60→b ∣ fK:=by
 intro b h1 h2
 have:∀ b:Fin 61,1≤b.val→b.val ∣ fK:=by decide
 exact this ⟨b,by omega⟩ h1
theorem pB:0 < fK:=by decide
def MM:Nat:=2097152 * fK
structure BC (D k:Nat) (l:aQ):Prop where
 m:Sc fK MM l.m
 p:Sc (D * fK) (fK * 2 ^ 101 + k * (2000 * (D * MM))) l.p
 v:l.v.natAbs≤1000
theorem BC.mono {D k j:Nat} {l:aQ} (h:BC D k l) (e:k≤j):BC D j l:=⟨h.m,h.p.mono (Nat.add_le_add_left (Nat.mul_le_mul_right _ e) _),h.v⟩
theorem BC.at {D k:Nat} {l:aQ} {t:Rat} (h:BC D k l) (ht:Sc fK MM t):Sc (D * fK) (fK * 2 ^ 101 + (k + 1) * (2000 * (D * MM))) (l.at t):=by
 have h1:Sc (D * fK) (D * (MM + MM)) (t - l.m):=(ht.sub h.m).scale
 have h2:=h1.mul h.v
 exact (h.p.add h2).mono (by
  have e:(k + 1) * (2000 * (D * MM))=k * (2000 * (D * MM)) + 2000 * (D * MM):=Nat.succ_mul ..
  rw [e,Nat.mul_add D]
  generalize D * MM=x
  generalize k * (2000 * x)=y
  omega)
theorem BC.turn {D k:Nat} {l:aQ} {t:Rat} {v:Int} (h:BC D k l) (ht:Sc fK MM t) (hv:v.natAbs≤1000):BC D (k + 1) ⟨t,l.at t,v⟩:=⟨ht,h.at ht,hv⟩
theorem E9:MM < 2 ^ 106:=by decide
theorem tX {q:Rat} (h:Sc fK MM q):Sz 106 q:=h.sz pB (by decide) E9
structure Gd (D k:Nat) (rows:List aQ):Prop where
 ne:rows≠[]
 ok:∀ l∈rows,BC D k l
 len:rows.length≤k + 1
theorem Gd.turn {D k:Nat} {rows:List aQ} {t:Rat} {v:Int} (h:Gd D k rows) (ht:Sc fK MM t) (hv:v.natAbs≤1000):Gd D (k + 1) (turned rows t v) :=
 ⟨jH h.ne,fun x hx=>by
  rcases lR hx with h1 | ⟨l,h1,rfl⟩
  ·exact (h.ok x h1).mono (Nat.le_succ _)
  ·exact (h.ok l h1).turn ht hv,Nat.le_trans (f6 _ _ _) (Nat.succ_le_succ h.len)⟩
def Later (c q:Rat):Prop:=q=c∨∃ u s:Nat,1≤u∧u≤60∧1≤s∧s≤500 * u∧q=Rat.divInt ((c.num * u).fdiv c.den + s) u
theorem Later.le {c q:Rat} (h:Later c q):c≤q:=by
 rcases h with rfl | ⟨u,s,h1,h2,h3,h4,rfl⟩
 ·exact Rat.le_refl
 have hf:c.num * u < ((c.num * u).fdiv c.den + 1) * c.den:=by
  rw [Int.fdiv_eq_ediv_of_nonneg _ (by omega)]
  exact Int.lt_ediv_add_one_mul_self (c.num * u) (lM c)
 generalize (c.num * u).fdiv c.den=F at hf ⊢
 have h5:c.num * u≤(F + s) * c.den:=by
  have:(F + 1) * c.den≤(F + s) * c.den:=Int.mul_le_mul_of_nonneg_right (by omega) (by omega)
  omega
 have hu:(0:Rat) < (u:Rat):=by exact_mod_cast (show 0 < u by omega)
 have hd:(0:Rat) < ((c.den:Int):Rat):=by exact_mod_cast lM c
 refine Rat.not_lt.mp fun hlt=>?_
 rw [Rat.divInt_eq_div] at hlt
 have e1:((u:Int):Rat)=(u:Rat):=rfl
 rw [e1,Rat.div_lt_iff hu] at hlt
 have h6:=Rat.mul_lt_mul_of_pos_right hlt hd
 have e2:c * (u:Rat) * ((c.den:Int):Rat)=((c.num * u:Int):Rat):=by
  rw [Rat.intCast_mul,cast_eq c,e1];grind
 rw [e2,← Rat.intCast_mul] at h6
 have h7:(F + s) * c.den < c.num * u:=by exact_mod_cast h6
 omega
section
variable {α:Type} {lt:α→α→Bool}
def ku (lt:α→α→Bool) (b:α) (l:List α):List α:=l.filter (fun x=>lt x b) ++ b :: l.filter (fun x=>!lt x b)
def kq (lt:α→α→Bool) (l:List α):Prop:=l.Pairwise fun a b=>lt a b=true
theorem yX (p:α→Bool):∀ {l:List α} {i:Nat},i≤l.length→(∀ (j:Nat) x,j < i→l[j]?=some x→p x=true)→(∀ (j:Nat) x,i≤j→l[j]?=some x→p x=false)→l.filter p=l.take i∧l.filter (fun x=>!p x)=l.drop i
 | l,0,_,_,h=>by
  refine ⟨?_,?_⟩
  ·rw [List.take_zero]
   apply List.filter_eq_nil_iff.mpr
   intro x hx
   obtain ⟨j,hj⟩:=List.mem_iff_getElem?.mp hx
   rw [h j x (Nat.zero_le _) hj];simp
  ·rw [List.drop_zero]
   apply List.filter_eq_self.mpr
   intro x hx
   obtain ⟨j,hj⟩:=List.mem_iff_getElem?.mp hx
   rw [h j x (Nat.zero_le _) hj];rfl
 | [],i + 1,hi,_,_=>by simp at hi
 | x :: l,i + 1,hi,h1,h2=>by
  obtain ⟨b,c⟩:=yX p (l:=l) (i:=i) (by simpa using hi) (fun j y hj e=>h1 (j + 1) y (by omega) (by simpa using e)) (fun j y hj e=>h2 (j + 1) y (by omega) (by simpa using e))
  have hx:p x=true:=h1 0 x (by omega) rfl
  refine ⟨?_,?_⟩
  ·rw [List.filter_cons,hx];simp [b]
  ·rw [List.filter_cons,hx];simp [c]
theorem uV {b:α} {l:List α} {i:Nat} (hi:i≤l.length) (h1:∀ (j:Nat) x,j < i→l[j]?=some x→lt x b=true) (h2:∀ (j:Nat) x,i≤j→l[j]?=some x→lt x b=false):l.take i ++ b :: l.drop i=ku lt b l:=by
 obtain ⟨e1,e2⟩:=yX (fun x=>lt x b) hi h1 h2
 unfold ku
 rw [e1,e2]
theorem rg {b x:α} {l:List α}:x∈ku lt b l↔x=b∨x∈l:=by
 unfold ku
 rw [List.mem_append,List.mem_cons,List.mem_filter,List.mem_filter]
 constructor
 ·rintro (h | h | h)
  ·exact .inr h.1
  ·exact .inl h
  ·exact .inr h.1
 ·rintro (h | h)
  ·exact .inr (.inl h)
  ·cases e:lt x b
   ·exact .inr (.inr ⟨h,by simp⟩)
   ·exact .inl ⟨h,rfl⟩
theorem zH (b:α) (l:List α):(ku lt b l).length=l.length + 1:=by
 unfold ku
 rw [List.length_append,List.length_cons]
 have:∀ l:List α,(l.filter fun x=>lt x b).length + (l.filter fun x=>!lt x b).length=l.length:=by
  intro l
  induction l with
  | nil=>rfl
  | cons x l ih=>cases h:lt x b <;> simp [h] <;> omega
 have:=this l
 omega
theorem zP (tr:∀ {a b c},lt a b=true→lt b c=true→lt a c=true) {b:α} {l:List α} (s:kq lt l) (Fq:∀ x∈l,lt x b=true∨lt b x=true):kq lt (ku lt b l):=by
 unfold ku kq
 rw [List.pairwise_append]
 refine ⟨s.filter _,?_,?_⟩
 ·rw [List.pairwise_cons]
  refine ⟨fun y hy=>?_,s.filter _⟩
  rw [List.mem_filter] at hy
  rcases Fq y hy.1 with q | q
  ·simp [q] at hy
  ·exact q
 ·intro x hx y hy
  rw [List.mem_filter] at hx
  rcases List.mem_cons.mp hy with rfl | hy
  ·exact hx.2
  ·rw [List.mem_filter] at hy
   rcases Fq y hy.1 with q | q
   ·simp [q] at hy
   ·exact tr hx.2 q
theorem qC (tr:∀ {a b c},lt a b=true→lt b c=true→lt a c=true) {l:List α} {b x y:α} {i j:Nat} (s:kq lt l) (hx:l[i]?=some x) (hy:l[j]?=some y) (h:j≤i) (k:lt x b=true):lt y b=true:=by
 rcases Nat.lt_or_eq_of_le h with h | h
 ·obtain ⟨hi,ei⟩:=List.getElem?_eq_some_iff.mp hx
  obtain ⟨hj,ej⟩:=List.getElem?_eq_some_iff.mp hy
  have:=List.pairwise_iff_getElem.mp s j i hj hi h
  rw [ei,ej] at this
  exact tr this k
 ·subst h;rw [hx] at hy;cases hy;exact k
theorem w6 (tr:∀ {a b c},lt a b=true→lt b c=true→lt a c=true) {l:List α} {b x y:α} {i j:Nat} (s:kq lt l) (hx:l[i]?=some x) (hy:l[j]?=some y) (h:i≤j) (k:lt x b=false):lt y b=false:=by
 cases q:lt y b with
 | false=>rfl
 | true=>have:=qC (lt:=lt) (b:=b) tr s hy hx h q;rw [this] at k;cases k
theorem jj (Ad:∀ a,lt a a=false) (tr:∀ {a b c},lt a b=true→lt b c=true→lt a c=true):∀ {l k:List α},kq lt l→kq lt k→(∀ x,x∈l↔x∈k)→l=k
 | [],[],_,_,_=>rfl
 | [],y :: k,_,_,h=>by have:=(h y).mpr List.mem_cons_self;cases this
 | x :: l,[],_,_,h=>by have:=(h x).mp List.mem_cons_self;cases this
 | x :: l,y :: k,hl,hk,h=>by
  obtain ⟨a1,a2⟩:=List.pairwise_cons.mp hl
  obtain ⟨b1,b2⟩:=List.pairwise_cons.mp hk
  have exy:x=y:=by
   rcases List.mem_cons.mp ((h x).mp List.mem_cons_self) with e | e
   ·exact e
   ·rcases List.mem_cons.mp ((h y).mpr List.mem_cons_self) with e' | e'
    ·exact e'.symm
    ·have:=tr (a1 y e') (b1 x e)
     rw [Ad] at this;cases this
  subst exy
  rw [jj Ad tr a2 b2 fun z=>?_]
  constructor
  ·intro hz
   rcases List.mem_cons.mp ((h z).mp (List.mem_cons_of_mem _ hz)) with e | e
   ·have:=a1 z hz;rw [e,Ad] at this;cases this
   ·exact e
  ·intro hz
   rcases List.mem_cons.mp ((h z).mpr (List.mem_cons_of_mem _ hz)) with e | e
   ·have:=b1 z hz;rw [e,Ad] at this;cases this
   ·exact e
end
structure Ky where
 p:Rat
 v:Int
 n:Str
 deriving DecidableEq
def Ky.lt (a b:Ky):Bool:=if a.p=b.p then (if a.v=b.v then decide (slt a.n b.n) else decide (a.v < b.v)) else decide (a.p < b.p)
theorem Ky.lt_iff (a b:Ky):a.lt b=true↔a.p < b.p∨(a.p=b.p∧(a.v < b.v∨(a.v=b.v∧slt a.n b.n))):=by
 unfold Ky.lt
 by_cases e:a.p=b.p
 ·rw [if_pos e]
  have n:¬ a.p < b.p:=by rw [e];exact Rat.lt_irrefl
  by_cases k:a.v=b.v
  ·rw [if_pos k,decide_eq_true_eq]
   have n2:¬ a.v < b.v:=by omega
   exact ⟨fun h=>.inr ⟨e,.inr ⟨k,h⟩⟩,fun h=>by
    rcases h with h | ⟨_,h | h⟩
    ·exact absurd h n
    ·exact absurd h n2
    ·exact h.2⟩
  ·rw [if_neg k,decide_eq_true_eq]
   exact ⟨fun h=>.inr ⟨e,.inl h⟩,fun h=>by
    rcases h with h | ⟨_,h | h⟩
    ·exact absurd h n
    ·exact h
    ·exact absurd h.1 k⟩
 ·rw [if_neg e,decide_eq_true_eq]
  exact ⟨.inl,fun h=>by
   rcases h with h | h
   ·exact h
   ·exact absurd h.1 e⟩
theorem Ky.Ad (a:Ky):a.lt a=false:=by
 cases h:a.lt a with
 | false=>rfl
 | true =>
  rcases (Ky.lt_iff a a).mp h with h | ⟨_,h | ⟨_,h⟩⟩
  ·exact absurd h Rat.lt_irrefl
  ·omega
  ·exact absurd h (jf _)
theorem Ky.tr {a b c:Ky} (h:a.lt b=true) (k:b.lt c=true):a.lt c=true:=by
 rw [Ky.lt_iff] at *
 rcases h with h | ⟨e,h⟩ <;> rcases k with k | ⟨e',k⟩
 ·exact .inl (nS h k)
 ·exact .inl (e' ▸ h)
 ·exact .inl (e ▸ k)
 ·refine .inr ⟨e.trans e',?_⟩
  rcases h with h | ⟨z,h⟩ <;> rcases k with k | ⟨z',k⟩
  ·exact .inl (by omega)
  ·exact .inl (by omega)
  ·exact .inl (by omega)
  ·exact .inr ⟨z.trans z',j2 h k⟩
theorem Ky.Fq {a b:Ky} (h:a.n≠b.n):a.lt b=true∨b.lt a=true:=by
 rw [Ky.lt_iff,Ky.lt_iff]
 by_cases e:a.p=b.p
 ·by_cases z:a.v=b.v
  ·rcases oF h with q | q
   ·exact .inl (.inr ⟨e,.inr ⟨z,q⟩⟩)
   ·exact .inr (.inr ⟨e.symm,.inr ⟨z.symm,q⟩⟩)
  ·rcases (by omega:a.v < b.v∨b.v < a.v) with q | q
   ·exact .inl (.inr ⟨e,.inl q⟩)
   ·exact .inr (.inr ⟨e.symm,.inl q⟩)
 ·rcases (by grind:a.p < b.p∨b.p < a.p) with q | q
  ·exact .inl (.inl q)
  ·exact .inr (.inl q)
theorem Ky.E6 {a b:Ky} (h:a.lt b=true):b.lt a=false:=by
 cases k:b.lt a with
 | false=>rfl
 | true=>have:=Ky.tr h k;rw [Ky.Ad] at this;cases this
def cT (ks:List Ky):List Ky:=ks.foldl (fun acc x=>ku Ky.lt x acc) []
theorem fH (ks:List Ky) (x:Ky):cT (ks ++ [x])=ku Ky.lt x (cT ks):=by unfold cT;rw [List.foldl_append];rfl
theorem snoc_ind {α:Type} {p:List α→Prop} (h0:p []) (h1:∀ l x,p l→p (l ++ [x])) (l:List α):p l:=by
 have:∀ l:List α,p l.reverse:=by
  intro l
  induction l with
  | nil=>exact h0
  | cons x l ih=>rw [List.reverse_cons];exact h1 _ _ ih
 have:=this l.reverse
 rwa [List.reverse_reverse] at this
theorem f9 {α:Type} {l:List α} {x:α} (h:(l ++ [x]).Nodup):l.Nodup∧x ∉ l:=by
 rw [List.nodup_append] at h
 exact ⟨h.1,fun hm=>h.2.2 x hm x (by simp) rfl⟩
theorem bq:∀ (ks:List Ky) (x:Ky),x∈cT ks↔x∈ks:=by
 intro ks
 refine snoc_ind (p:=fun ks=>∀ x:Ky,x∈cT ks↔x∈ks) (fun x=>by simp [cT]) (fun ks y ih x=>?_) ks
 rw [fH,rg,ih,List.mem_append,List.mem_singleton]
 exact Or.comm
theorem dg {ks:List Ky} (h:(ks.map Ky.n).Nodup):kq Ky.lt (cT ks):=by
 revert h
 refine snoc_ind (p:=fun ks=>(ks.map Ky.n).Nodup→kq Ky.lt (cT ks)) (fun _=>List.Pairwise.nil) (fun ks y ih h=>?_) ks
 ·rw [List.map_append,List.map_cons,List.map_nil] at h
  obtain ⟨h1,h2⟩:=f9 h
  rw [fH]
  refine zP (lt:=Ky.lt) Ky.tr (ih h1) fun x hx=>Ky.Fq fun e=>h2 ?_
  rw [← e]
  exact List.mem_map_of_mem ((bq ks x).mp hx)
theorem i9 (ks:List Ky):(cT ks).length=ks.length:=by
 refine snoc_ind (p:=fun ks=>(cT ks).length=ks.length) rfl (fun ks y ih=>?_) ks
 rw [fH,zH,ih,List.length_append];rfl
theorem zI {ks js:List Ky} (h:(ks.map Ky.n).Nodup) (k:(js.map Ky.n).Nodup) (e:∀ x,x∈ks↔x∈js):cT ks=cT js :=
 jj (lt:=Ky.lt) Ky.Ad Ky.tr (dg h) (dg k) fun x=>by rw [bq,bq];exact e x
def key (t:Rat) (x:Str × aQ):Ky:=⟨x.2.at t,x.2.v,x.1⟩
def bZ (t:Rat) (fs:List (Str × aQ)):List Str:=(cT (fs.map (key t))).map Ky.n
theorem c5 (t:Rat) (fs:List (Str × aQ)):(fs.map (key t)).map Ky.n=fs.map (·.1):=by rw [List.map_map];rfl
theorem qE {t:Rat} {fs:List (Str × aQ)} {n:Str}:n∈bZ t fs↔n∈fs.map (·.1):=by
 rw [← c5 t fs]
 unfold bZ
 rw [List.mem_map,List.mem_map]
 exact ⟨fun ⟨x,h,e⟩=>⟨x,(bq _ _).mp h,e⟩,fun ⟨x,h,e⟩=>⟨x,(bq _ _).mpr h,e⟩⟩
theorem qz (t:Rat) (fs:List (Str × aQ)):(bZ t fs).length=fs.length:=by unfold bZ;rw [List.length_map,i9,List.length_map]
theorem nH {l:List Ky} (s:kq Ky.lt l) (h:∀ x∈l,∀ y∈l,x.n=y.n→x=y):(l.map Ky.n).Nodup:=by
 refine List.pairwise_map.mpr (s.imp_of_mem fun {a b} ha hb hab e=>?_)
 have:=h a ha b hb e
 subst this
 rw [Ky.Ad] at hab;cases hab
theorem jk {ks:List Ky} (h:(ks.map Ky.n).Nodup):∀ x∈ks,∀ y∈ks,x.n=y.n→x=y:=by
 intro x hx y hy e
 obtain ⟨i,hi,rfl⟩:=List.getElem_of_mem hx
 obtain ⟨j,hj,rfl⟩:=List.getElem_of_mem hy
 have:=(List.getElem_inj (xs:=ks.map Ky.n) (i:=i) (j:=j) (h₀:=by simpa using hi) (h₁:=by simpa using hj) h).mp (by rw [List.getElem_map,List.getElem_map];exact e)
 subst this;rfl
theorem l8 {t:Rat} {fs:List (Str × aQ)} (h:(fs.map (·.1)).Nodup):(bZ t fs).Nodup:=by
 rw [← c5 t fs] at h
 exact nH (dg h) fun x hx y hy e=>jk h x ((bq _ _).mp hx) y ((bq _ _).mp hy) e
theorem ra {t:Rat} {fs gs:List (Str × aQ)} (h:(fs.map (·.1)).Nodup) (k:(gs.map (·.1)).Nodup) (e:∀ x,x∈fs.map (key t)↔x∈gs.map (key t)):bZ t fs=bZ t gs:=by
 unfold bZ
 rw [zI (by rw [c5];exact h) (by rw [c5];exact k) e]
theorem ij {α β:Type} {fs:List (Str × α)} {f:α→β} (h:(fs.map (·.1)).Nodup) {n:Str} {l:α} (hm:(n,l)∈fs):L2.iG (fs.map fun x=>(x.1,f x.2)) n=some (f l):=by
 induction fs with
 | nil=>cases hm
 | cons x fs ih =>
  rw [List.map_cons,List.nodup_cons] at h
  rw [List.map_cons,L2.iJ]
  rcases List.mem_cons.mp hm with e | e
  ·subst e;rw [if_pos rfl]
  ·have ne:x.1≠n:=fun z=>h.1 (by rw [z];exact List.mem_map_of_mem (f:=fun x:Str × α=>x.1) e)
   rw [if_neg ne];exact ih h.2 e
theorem k4 {α β:Type} {fs:List (Str × α)} {f:α→β} (h:(fs.map (·.1)).Nodup) {n:Str} (hm:n∈fs.map (·.1)):∃ l,(n,l)∈fs∧L2.iG (fs.map fun x=>(x.1,f x.2)) n=some (f l):=by
 obtain ⟨⟨m,l⟩,hx,rfl⟩:=List.mem_map.mp hm
 exact ⟨l,hx,ij h hx⟩
theorem AD {α β:Type} {fs:List (Str × α)} {f:α→β} {n:Str} (hm:n ∉ fs.map (·.1)):L2.iG (fs.map fun x=>(x.1,f x.2)) n=none:=by
 induction fs with
 | nil=>rfl
 | cons x fs ih =>
  rw [List.map_cons,L2.iJ]
  rw [List.map_cons,List.mem_cons,not_or] at hm
  rw [if_neg (fun e=>hm.1 e.symm)];exact ih hm.2
theorem vO {α β:Type} {fs:List (Str × α)} {f:α→β} {n:Str} (h:(fs.map (·.1)).Nodup):(L2.iG (fs.map fun x=>(x.1,f x.2)) n).isSome=decide (n∈fs.map (·.1)):=by
 by_cases hm:n∈fs.map (·.1)
 ·obtain ⟨l,_,e⟩:=k4 (f:=f) h hm
  rw [e,decide_eq_true hm];rfl
 ·rw [AD hm,decide_eq_false hm];rfl
theorem sJ {α β:Type} {fs:List (Str × α)} {f:α→β} {n:Str} {l:α} (hm:n ∉ fs.map (·.1)):L2.oV (fs.map fun x=>(x.1,f x.2)) n (f l)=(fs ++ [(n,l)]).map fun x=>(x.1,f x.2):=by
 unfold L2.oV
 rw [if_neg,List.map_append]
 ·rfl
 ·intro h
  rw [List.any_eq_true] at h
  obtain ⟨y,hy,e⟩:=h
  obtain ⟨x,hx,rfl⟩:=List.mem_map.mp hy
  exact hm (by rw [← of_decide_eq_true e];exact List.mem_map_of_mem (f:=fun x:Str × α=>x.1) hx)
def PP:Nat:=1000000 * fK + 1000 * MM
structure mG (l:aQ):Prop where
 m0:0≤l.m
 m:Sc fK MM l.m
 p:∃ a:Int,l.p * (fK:Rat)=(a:Rat)
 b0:-(1000000 + 1000 * l.m)≤l.p
 b1:l.p≤1000000 + 1000 * l.m
 v:l.v.natAbs≤1000
theorem Fb:(0:Rat) < (fK:Rat):=by
 have:((0:Nat):Rat) < ((fK:Nat):Rat):=Rat.natCast_lt_natCast.mpr pB
 simpa using this
theorem mG.sc {l:aQ} (h:mG l):Sc fK PP l.p:=by
 obtain ⟨a,ha⟩:=h.p
 obtain ⟨k,hk,hk1⟩:=h.m
 have hL:=Fb
 have b0:=h.b0
 have b1:=h.b1
 have e1:(a:Rat)≤(((1000000 * fK + 1000 * k:Int)):Rat):=by
  rw [← ha,Rat.intCast_add,Rat.intCast_mul,Rat.intCast_mul,← hk]
  have:l.p * (fK:Rat)≤(1000000 + 1000 * l.m) * (fK:Rat):=Rat.mul_le_mul_of_nonneg_right b1 (Rat.le_of_lt hL)
  have e:(((fK:Nat):Int):Rat)=(fK:Rat):=rfl
  rw [e]
  grind
 have e2:(((-(1000000 * fK + 1000 * k):Int)):Rat)≤(a:Rat):=by
  rw [← ha,Rat.intCast_neg,Rat.intCast_add,Rat.intCast_mul,Rat.intCast_mul,← hk]
  have:-(1000000 + 1000 * l.m) * (fK:Rat)≤l.p * (fK:Rat):=Rat.mul_le_mul_of_nonneg_right b0 (Rat.le_of_lt hL)
  have e:(((fK:Nat):Int):Rat)=(fK:Rat):=rfl
  rw [e]
  grind
 have e1:=Rat.intCast_le_intCast.mp e1
 have e2:=Rat.intCast_le_intCast.mp e2
 refine ⟨a,ha,?_⟩
 unfold PP
 have:(k:Int)≤MM:=by omega
 have:-(MM:Int)≤k:=by omega
 omega
theorem F1:PP < 2 ^ 120:=by decide
theorem mG.IT {l:aQ} (h:mG l):Sz 120 l.p:=h.sc.sz pB (by decide) F1
theorem mG.Jc {l:aQ} (h:mG l):Sz 120 l.m:=(tX h.m).mono (by decide)
theorem mG.at {l:aQ} {t:Rat} {v:Int} (h:mG l) (h0:l.m≤t) (ht:Sc fK MM t) (hv:v.natAbs≤1000):mG ⟨t,l.at t,v⟩:=by
 have hm:=h.m0
 have t0:0≤t:=Rat.le_trans hm h0
 have d0:0≤t - l.m:=by grind
 have v1:(l.v:Rat)≤1000:=by
  have:((l.v:Int):Rat)≤((1000:Int):Rat):=Rat.intCast_le_intCast.mpr (by have:=h.v;omega)
  exact this
 have v2:-1000≤(l.v:Rat):=by
  have:((-1000:Int):Rat)≤((l.v:Int):Rat):=Rat.intCast_le_intCast.mpr (by have:=h.v;omega)
  exact this
 have m1:(t - l.m) * (l.v:Rat)≤(t - l.m) * 1000:=Rat.mul_le_mul_of_nonneg_left v1 d0
 have m2:(t - l.m) * (-1000)≤(t - l.m) * (l.v:Rat):=Rat.mul_le_mul_of_nonneg_left v2 d0
 have b0:=h.b0
 have b1:=h.b1
 refine ⟨t0,ht,?_,?_,?_,hv⟩
 ·obtain ⟨a,ha⟩:=h.p
  obtain ⟨k,hk,_⟩:=h.m
  obtain ⟨j,hj,_⟩:=ht
  refine ⟨a + (j - k) * l.v,?_⟩
  unfold aQ.at
  dsimp only
  rw [Rat.intCast_add,Rat.intCast_mul,Rat.intCast_sub,← ha,← hk,← hj]
  grind
 ·show -(1000000 + 1000 * t)≤l.p + (t - l.m) * (l.v:Rat)
  grind
 ·show l.p + (t - l.m) * (l.v:Rat)≤1000000 + 1000 * t
  grind
theorem mG.new {t:Rat} {p v:Int} (t0:0≤t) (ht:Sc fK MM t) (hp:p.natAbs≤1000000) (hv:v.natAbs≤1000):mG ⟨t,(p:Rat),v⟩:=by
 have p1:(p:Rat)≤1000000:=by
  have:((p:Int):Rat)≤((1000000:Int):Rat):=Rat.intCast_le_intCast.mpr (by omega)
  exact this
 have p2:-1000000≤(p:Rat):=by
  have:((-1000000:Int):Rat)≤((p:Int):Rat):=Rat.intCast_le_intCast.mpr (by omega)
  exact this
 refine ⟨t0,ht,⟨p * fK,by rw [Rat.intCast_mul];rfl⟩,?_,?_,hv⟩
 ·show -(1000000 + 1000 * t)≤(p:Rat)
  grind
 ·show (p:Rat)≤1000000 + 1000 * t
  grind
def wL (b:aG) (l:List aG):List aG:=if b∈l then l else ip b l
theorem nL {b x:aG} {l:List aG}:x∈ip b l↔x=b∨x∈l:=rg (lt:=aG.lt)
theorem yQ {b x:aG} {l:List aG}:x∈wL b l↔x=b∨x∈l:=by
 unfold wL
 split
 ·rename_i h
  exact ⟨.inr,fun z=>by rcases z with rfl | z;exact h;exact z⟩
 ·exact nL
theorem xB {b:aG} {l:List aG} (s:gg l):gg (wL b l):=by
 unfold wL
 split
 ·exact s
 ·rename_i h
  exact qj s fun x hx e=>h (e ▸ hx)
def ou (bs:List aG):List aG:=bs.foldl (fun acc b=>wL b acc) []
theorem nO (bs:List aG) (b:aG):ou (bs ++ [b])=wL b (ou bs):=by unfold ou;rw [List.foldl_append];rfl
theorem xq (bs:List aG) (x:aG):x∈ou bs↔x∈bs:=by
 refine snoc_ind (p:=fun bs=>∀ x:aG,x∈ou bs↔x∈bs) (fun x=>by simp [ou]) (fun bs y ih x=>?_) bs x
 rw [nO,yQ,ih,List.mem_append,List.mem_singleton]
 exact Or.comm
theorem zh (bs:List aG):gg (ou bs):=by
 refine snoc_ind (p:=fun bs=>gg (ou bs)) List.Pairwise.nil (fun bs y ih=>?_) bs
 rw [nO];exact xB ih
theorem zK {l k:List aG} (h:gg l) (h':gg k) (e:∀ x,x∈l↔x∈k):l=k:=jj (lt:=aG.lt) aG.Ee aG.lt_trans h h' e
def fB (t:Rat) (a b:Ky):Rat:=t + (b.p - a.p) / ((a.v - b.v:Int):Rat)
def h_ (t:Rat) (a b:Ky):aG:=⟨fB t a b,a.n,b.n⟩
def l4 (t:Rat) (ks:List Ky) (m:Rat):List aG:=ou (((ks.flatMap fun a=>ks.map fun b=>(a,b)).filter fun p=>decide (p.2.v < p.1.v∧p.1.p < p.2.p∧fB t p.1 p.2≤m)).map fun p=>h_ t p.1 p.2)
theorem vV {t m:Rat} {ks:List Ky} {x:aG}:x∈l4 t ks m↔∃ a∈ks,∃ b∈ks,b.v < a.v∧a.p < b.p∧fB t a b≤m∧x=h_ t a b:=by
 unfold l4
 rw [xq,List.mem_map]
 constructor
 ·rintro ⟨⟨a,b⟩,h,rfl⟩
  rw [List.mem_filter,List.mem_flatMap] at h
  obtain ⟨⟨c,hc,h1⟩,h2⟩:=h
  obtain ⟨d,hd,e⟩:=List.mem_map.mp h1
  cases e
  have h2:=of_decide_eq_true h2
  exact ⟨_,hc,_,hd,h2.1,h2.2.1,h2.2.2,rfl⟩
 ·rintro ⟨a,ha,b,hb,h1,h2,h3,rfl⟩
  exact ⟨(a,b),List.mem_filter.mpr ⟨List.mem_flatMap.mpr ⟨a,ha,List.mem_map.mpr ⟨b,hb,rfl⟩⟩,decide_eq_true ⟨h1,h2,h3⟩⟩,rfl⟩
theorem wj (t m:Rat) (ks:List Ky):gg (l4 t ks m):=zh _
def jw (l l':aQ):Rat:=(l'.at 0 - l.at 0) / ((l.v - l'.v:Int):Rat)
theorem yw {a b:Int} (h:a≠b):((a - b:Int):Rat)≠0:=by
 intro e
 have:(a - b:Int)=0:=by exact_mod_cast (show ((a - b:Int):Rat)=((0:Int):Rat) from e)
 omega
theorem k_ {t:Rat} {n n':Str} {l l':aQ} (h:l.v≠l'.v):jw l l'=fB t (key t (n,l)) (key t (n',l')):=by
 have k:=yw h
 unfold jw fB key aQ.at
 dsimp only
 rw [Rat.intCast_sub] at *
 grind
theorem xA {a b:Rat} (ha:0 < a) (hb:0 < b):0 < a / b:=by
 have e:a / b * b=a:=by grind
 rcases Rat.le_total (a:=a / b) (b:=0) with h | h
 ·have:=Rat.mul_le_mul_of_nonneg_right h (Rat.le_of_lt hb)
  rw [e,Rat.zero_mul] at this
  exact absurd ha (Rat.not_lt.mpr this)
 ·rcases (by grind:a / b=0∨0 < a / b) with h | h
  ·rw [h,Rat.zero_mul] at e;rw [← e] at ha;exact absurd ha Rat.lt_irrefl
  ·exact h
def B0 (t:Rat) (l l':aQ):Option Rat:=if l.v≠l'.v∧t < jw l l' then some (jw l l') else none
theorem Bu {t:Rat} {n n':Str} {l l':aQ} (h:(key t (n,l)).lt (key t (n',l'))=true):(l.v≠l'.v∧t < jw l l')↔(l'.v < l.v∧l.at t < l'.at t):=by
 rw [Ky.lt_iff] at h
 unfold key at h
 dsimp only at h
 constructor
 ·rintro ⟨h1,h2⟩
  rw [k_ (t:=t) (n:=n) (n':=n') h1] at h2
  unfold fB key at h2
  dsimp only at h2
  have k:=yw h1
  have h3:0 < (l'.at t - l.at t) / ((l.v - l'.v:Int):Rat):=by grind
  have hp:l.at t≠l'.at t:=by
   intro e
   rw [e] at h3
   have:(l'.at t - l'.at t) / ((l.v - l'.v:Int):Rat)=0:=by grind
   rw [this] at h3
   exact absurd h3 Rat.lt_irrefl
  have hlt:l.at t < l'.at t:=by
   rcases h with h | ⟨h,_⟩
   ·exact h
   ·exact absurd h hp
  refine ⟨?_,hlt⟩
  rcases (by omega:l'.v < l.v∨l.v < l'.v) with q | q
  ·exact q
  ·exfalso
   have hn:((l.v - l'.v:Int):Rat) < 0:=by
    have:((l.v - l'.v:Int):Rat) < ((0:Int):Rat):=Rat.intCast_lt_intCast.mpr (by omega)
    exact this
   have hd:0 < l'.at t - l.at t:=by grind
   have e:(l'.at t - l.at t) / ((l.v - l'.v:Int):Rat) * ((l.v - l'.v:Int):Rat)=l'.at t - l.at t:=by grind
   generalize (l'.at t - l.at t) / ((l.v - l'.v:Int):Rat)=z at h3 e
   have:z * ((l.v - l'.v:Int):Rat) < 0:=by
    have:=Rat.mul_lt_mul_of_pos_left hn h3
    rwa [Rat.mul_zero] at this
   grind
 ·rintro ⟨h1,h2⟩
  have hne:l.v≠l'.v:=by omega
  refine ⟨hne,?_⟩
  rw [k_ (t:=t) (n:=n) (n':=n') hne]
  unfold fB key
  dsimp only
  have hpos:0 < ((l.v - l'.v:Int):Rat):=by
   have:((0:Int):Rat) < ((l.v - l'.v:Int):Rat):=Rat.intCast_lt_intCast.mpr (by omega)
   exact this
  have hd:0 < l'.at t - l.at t:=by grind
  have:0 < (l'.at t - l.at t) / ((l.v - l'.v:Int):Rat):=xA hd hpos
  grind
end Ov
namespace Ov
def mP (t:Rat) (c:Ky × Ky→Bool) (rows:List aG) (p:Ky × Ky):List aG:=if c p=true then ip (h_ t p.1 p.2) (c7 p.1.n p.2.n rows) else rows
def di (t:Rat) (c:Ky × Ky→Bool) (ps:List (Ky × Ky)):List aG:=ps.foldl (mP t c) []
theorem fN (t:Rat) (c:Ky × Ky→Bool) (ps:List (Ky × Ky)) (p:Ky × Ky):di t c (ps ++ [p])=mP t c (di t c ps) p:=by unfold di;rw [List.foldl_append];rfl
theorem m_ (t:Rat) (c:Ky × Ky→Bool) (ps:List (Ky × Ky)):gg (di t c ps):=by
 refine snoc_ind (p:=fun ps=>gg (di t c ps)) List.Pairwise.nil (fun l x ih=>?_) ps
 rw [fN]
 unfold mP
 split
 ·exact qj (nW ih) BK
 ·exact ih
theorem nN {t:Rat} {c:Ky × Ky→Bool} {x:aG} (ps:List (Ky × Ky)):x∈di t c ps→∃ p∈ps,c p=true∧x=h_ t p.1 p.2:=by
 refine snoc_ind (p:=fun ps=>x∈di t c ps→∃ p∈ps,c p=true∧x=h_ t p.1 p.2) (fun h=>by cases h) (fun l y ih h=>?_) ps
 rw [fN] at h
 unfold mP at h
 split at h
 ·rename_i hc
  rcases yJ h with e | h
  ·exact ⟨y,by simp,hc,e⟩
  ·obtain ⟨p,hp,k⟩:=ih (List.mem_filter.mp h).1
   exact ⟨p,List.mem_append.mpr (.inl hp),k⟩
 ·obtain ⟨p,hp,k⟩:=ih h
  exact ⟨p,List.mem_append.mpr (.inl hp),k⟩
def yx (ps:List (Ky × Ky)):Prop:=∀ p∈ps,∀ q∈ps,p.1.n=q.1.n→p.2.n=q.2.n→p=q
theorem w8 {t:Rat} {c:Ky × Ky→Bool} {x:aG} (ps:List (Ky × Ky)):yx ps→(x∈di t c ps↔∃ p∈ps,c p=true∧x=h_ t p.1 p.2):=by
 refine snoc_ind (p:=fun ps=>yx ps→(x∈di t c ps↔∃ p∈ps,c p=true∧x=h_ t p.1 p.2)) (fun _=>Iff.intro (fun h=>nomatch h) (fun h=>by obtain ⟨_,h,_⟩:=h;cases h)) (fun l y ih inj=>?_) ps
 have ih:=ih fun p hp q hq=>inj p (List.mem_append.mpr (.inl hp)) q (List.mem_append.mpr (.inl hq))
 refine ⟨nN _,?_⟩
 rintro ⟨p,hp,hc,rfl⟩
 rw [fN]
 unfold mP
 have hold:p∈l→h_ t p.1 p.2∈di t c l:=fun h=>ih.mpr ⟨p,h,hc,rfl⟩
 split
 ·rename_i hy
  rw [nL]
  by_cases e:p=y
  ·left;rw [e]
  ·right
   have hl:p∈l:=by
    rcases List.mem_append.mp hp with h | h
    ·exact h
    ·exact absurd (by simpa using h) e
   refine List.mem_filter.mpr ⟨hold hl,?_⟩
   unfold pY
   have:¬ ((h_ t p.1 p.2).h=y.1.n∧(h_ t p.1 p.2).f=y.2.n):=fun z=>e (inj p hp y (by simp) z.1 z.2)
   rw [decide_eq_false this];rfl
 ·rename_i hy
  rcases List.mem_append.mp hp with h | h
  ·exact hold h
  ·have:p=y:=by simpa using h
   subst this;exact absurd hc hy
theorem yx.of {ks:List Ky} (h:(ks.map Ky.n).Nodup) {ps:List (Ky × Ky)} (hp:∀ p∈ps,p.1∈ks∧p.2∈ks):yx ps:=fun p h1 q h2 e1 e2=>by
 have a:=jk h p.1 (hp p h1).1 q.1 (hp q h2).1 e1
 have b:=jk h p.2 (hp p h1).2 q.2 (hp q h2).2 e2
 cases p;cases q;simp only at a b;rw [a,b]
def rV (ks:List Ky):Nat→List (Ky × Ky)
 | 0=>[]
 | i + 1=>rV ks i ++ (match ks[i]? with | some a=>(ks.drop (i + 1)).map fun b=>(a,b) | none=>[])
theorem iK {ks:List Ky} {p:Ky × Ky}:∀ {i:Nat},p∈rV ks i↔∃ i' j,i' < i∧i' < j∧ks[i']?=some p.1∧ks[j]?=some p.2
 | 0=>⟨fun h=>(by cases h),fun ⟨_,_,h,_⟩=>by omega⟩
 | i + 1=>by
  unfold rV
  rw [List.mem_append,iK (i:=i)]
  constructor
  ·rintro (⟨i',j,h1,h⟩ | h)
   ·exact ⟨i',j,by omega,h⟩
   ·cases e:ks[i]? with
    | none=>rw [e] at h;cases h
    | some a =>
     rw [e] at h
     obtain ⟨b,hb,rfl⟩:=List.mem_map.mp h
     obtain ⟨j,hj⟩:=List.mem_iff_getElem?.mp hb
     rw [List.getElem?_drop] at hj
     exact ⟨i,_,by omega,by omega,e,hj⟩
  ·rintro ⟨i',j,h1,h2,h3,h4⟩
   by_cases e:i' < i
   ·exact .inl ⟨i',j,e,h2,h3,h4⟩
   ·have:i'=i:=by omega
    subst this
    right
    rw [h3]
    refine List.mem_map.mpr ⟨p.2,List.mem_iff_getElem?.mpr ⟨j - (i' + 1),?_⟩,rfl⟩
    rw [List.getElem?_drop,show i' + 1 + (j - (i' + 1))=j by omega];exact h4
def eJ (t m:Rat) (p:Ky × Ky):Bool:=decide (p.2.v < p.1.v∧p.1.p < p.2.p∧fB t p.1 p.2≤m)
theorem Ay {t m:Rat} {ks:List Ky} (h:(ks.map Ky.n).Nodup):di t (eJ t m) (rV (cT ks) (cT ks).length)=l4 t ks m:=by
 have hs:=dg h
 have hn:((cT ks).map Ky.n).Nodup:=nH hs (fun x hx y hy e=>jk h x ((bq _ _).mp hx) y ((bq _ _).mp hy) e)
 refine zK (m_ _ _ _) (wj _ _ _) fun x=>?_
 rw [w8 _ (yx.of hn fun p hp=>by
  obtain ⟨i,j,_,_,h3,h4⟩:=iK.mp hp
  exact ⟨List.mem_of_getElem? h3,List.mem_of_getElem? h4⟩),vV]
 constructor
 ·rintro ⟨p,hp,hc,rfl⟩
  obtain ⟨i,j,_,_,h3,h4⟩:=iK.mp hp
  have hc:=of_decide_eq_true hc
  exact ⟨p.1,(bq _ _).mp (List.mem_of_getElem? h3),p.2,(bq _ _).mp (List.mem_of_getElem? h4),hc.1,hc.2.1,hc.2.2,rfl⟩
 ·rintro ⟨a,ha,b,hb,h1,h2,h3,rfl⟩
  obtain ⟨i,hi⟩:=List.mem_iff_getElem?.mp ((bq _ _).mpr ha)
  obtain ⟨j,hj⟩:=List.mem_iff_getElem?.mp ((bq _ _).mpr hb)
  have hab:a.lt b=true:=(Ky.lt_iff a b).mpr (.inl h2)
  have hij:i < j:=by
   obtain ⟨hil,ei⟩:=List.getElem?_eq_some_iff.mp hi
   obtain ⟨hjl,ej⟩:=List.getElem?_eq_some_iff.mp hj
   rcases Nat.lt_trichotomy i j with z | z | z
   ·exact z
   ·subst z;rw [ei] at ej;subst ej;rw [Ky.Ad] at hab;cases hab
   ·have:=List.pairwise_iff_getElem.mp hs j i hjl hil z
    rw [ei,ej] at this
    rw [Ky.E6 this] at hab;cases hab
  exact ⟨(a,b),iK.mpr ⟨i,j,(List.getElem?_eq_some_iff.mp hi).1,hij,hi,hj⟩,decide_eq_true ⟨h1,h2,h3⟩,rfl⟩
end Ov
set_option maxHeartbeats 4000000
namespace Ov
open PySem PySem.Spec PyProof.Rows L2
def top (i:Nat):Stmt:=PySem.Challenge.pw_overhaul_k32_whole_order_kept.main.body.getD i (.Pass ⟨0,0,0,0⟩)
set_option compiler.extract_closed false
set_option hygiene false
local macro_rules | `(tactic| dsimp! only [$ls,*])=>`(tactic| simp only [By,uL,sR,lJ,BB,ui,AO,qM,xF,Hb,vT,tC,rI,Ab,rU,II,Ja,Bv,AX,Af,Int.reduceLT,Bh,qd,sH,Cq,lI,Bs,yH,BU,uS,uK,AY,yK,ET,tB,Hc,vD,G',uk,BJ,uC,Am,vj,uJ,CT,EX,E3,CJ,GF,Jn,cJ,dX,hW,zX,HO.lst.injEq,HO.tup.injEq,List.set_cons_zero,List.set_cons_succ,List.getElem?_cons_zero,List.getElem?_cons_succ,Option.some.injEq,exists_eq_left',exists_eq_left,exists_and_left,exists_eq,exists_eq',V.int.injEq,V.bl.injEq,V.ref.injEq,V.str.injEq,V.ty.injEq,decide_eq_true_eq,true_and,and_true,List.cons.injEq,List.append_nil,List.cons_append,List.nil_append,reduceCtorEq,Bool.not_eq_true',decide_eq_false_iff_not,and_assoc,ite_not,if_true,if_false,Bool.false_eq_true,decide_true,decide_false,L2.start,List.map_cons,List.map_nil,List.length_cons,List.length_nil,Nat.reduceAdd,Nat.reduceSub,List.replicate,pH,Cx.yS,Cx.jW,false_and,and_false,exists_false,false_or,or_false,id,cn,Option.getD_some,F',G5,tY,kP,Fz,Dp,Aw,Ce,$ls,*])
local macro_rules | `(tactic| simp_arith [$t:term])=>`(tactic| refine Jk F $t (fun xs J Q E h=>?_) (fun cdv A outer s H E G xs J Q E2 hr h B=>?_))
local macro_rules | `(tactic| simp_arith! only [$ls,*])=>`(tactic| simp only [AW,Ir,Hk,Fx,Gr,jG,rC,tm,IJ,rB,Gq,DF,Ik,Gy,CG,FQ,CC,I_,qN,j9,GS,Gh,Je,uO,CU,IM,GZ,HK,FI,uY,GR,Ai,B5,l5,uU,EZ,CL,tG,Dd,IS,IZ,Jd,rK,Fh,Cd,j0,uA,Jh,Ju,IQ,JG,HR,Hf,BH,qI,qU,Gm,Ji,zE,Dz,Gb,GC,He,F2,Gf,Ge,D7,xp,Hn,n_,FG,DA,uy,Ff,HA,HJ,Fn,Hi,Io,F4,FY,Cp,HU,FD,Iq,Hw,HY,Hx,HP,FO,CS,FZ,GB,Fd,FP,HC,Ij,Fy,IF,HS,Ib,Hz,Im,Iy,Hj,H0,Ii,B6,Ef,Eb,F0,DT,Fw,BV,u7,Eu,Be,yG,eq_int,eq_str,GI,zU,De,DS,Fp,C2,oR,DQ,sf,List.map_cons,List.map_nil,List.length_cons,List.length_nil,Nat.reduceAdd,Nat.reduceSub,Nat.reduceLeDiff,List.replicate,List.cons_append,List.nil_append,List.append_nil,List.getElem?_cons_zero,List.getElem?_cons_succ,List.set_cons_zero,List.set_cons_succ,Option.some.injEq,exists_eq_left',exists_eq_left,exists_and_left,exists_eq,exists_eq',PV.int.injEq,PV.bl.injEq,PV.ref.injEq,PV.str.injEq,PV.ty.injEq,PV.tup.injEq,PV.fl.injEq,HQ.lst.injEq,HQ.ins.injEq,HQ.dct.injEq,decide_eq_true_eq,true_and,and_true,List.cons.injEq,reduceCtorEq,Bool.not_eq_true',decide_eq_false_iff_not,and_assoc,ite_not,if_true,if_false,Bool.false_eq_true,decide_true,decide_false,false_and,and_false,exists_false,false_or,or_false,id,cJ,dX,hW,zX,E7,FN,E4,Fe,FJ,Gg,Ds,El,Jo,Bool.not_true,Bool.not_false,Option.map_some,av,Bool.and_true,Bool.true_and,Bool.and_false,Bool.false_and,Ca,ER,GG,Fc,FX,FF,GP,FK,F5,Fl,C5,DJ,D6,FC,ty_int,ty_bool,ty_str,Es,ty_list,String.reduceEq,List.isEmpty_cons,List.isEmpty_nil,kg,Option.getD_some,List.not_mem_nil,exists_const,GA,Dc,EV,yu,Cs,B_,CB,IY,zi,uT,mf,IU,$ls,*])
local macro_rules | `(tactic| simp_all! only [$ls,*])=>`(tactic| repeat (first | refine DI ?_ | simp_arith! only [$ls,*]))
section
variable {P:Program} {w:World} {K:PySem.W.Frag} {mg:Str→Option Value} {base:Heap}
abbrev jl:Stmt:=(top 12)
theorem j3:L2.au ["one","two"] ["one","two"] (L2.ai jl):=dt
def ma:Sp:=fun vs H Q _=>∃ a b:Int,vs=[.int a,.int b]∧Q (.int (Int.gcd a b:Nat)) H
theorem wu {f:Addr} {fd:FuncData} (F:bP K "shared" "shared" jl f fd) (Z:xj mg):aF P w K mg base lW 1 f fd ["one","two"] ma:=by
 refine F.ok j3 (fun vs H Q E h=>?_) (fun cdv A outer s H vs Q E hr h=>?_)
 ·obtain ⟨a,b,rfl,_⟩:=h
  rfl
 obtain ⟨a,b,rfl,q⟩:=h
 refine ⟨_,(QB.run (aM (j4 (i:=0) (j:=1) rfl j3.nd rfl rfl (by decide) rfl rfl (aJ (cS jb rfl Z.abs boot_abs (aJ (pv 0) bh)) (aJ (cS jb rfl Z.abs boot_abs (aJ (pv 1) bh)) bh)) rfl)
   (aM (gE PassesOwn.never (cE Ct (pv 1) aD (ax _)) (bc (j4 (i:=0) (j:=1) rfl j3.nd rfl rfl (by decide) rfl rfl (aJ (pv 1) (aJ (aX eW (pv 0) (pv 1)) bh)) rfl)))
   (bc (cM (pv 0)))))),?_⟩
 refine ⟨_,rfl,a,rfl,_,rfl,b,rfl,_,_,rfl,?_⟩
 refine q_ (fun σ H'=>∃ x y:Int,σ=[some (.int x),some (.int y)]∧H=H'∧0≤x∧0≤y∧Int.gcd x y=Int.gcd a b) (fun σ _=>match σ with | [_,some (.int y)]=>y.toNat | _=>0)
  ⟨_,_,rfl,rfl,by split <;> omega,by split <;> omega,AV a b⟩ ?_ (fun σ H Q Q' m h=>?_)
 ·rintro σ H' ⟨x,y,rfl,rfl,hx,hy,hg⟩
  dsimp! only [rJoin]
  split
  ·rename_i hy0
   subst hy0
   rw [← hg,uE hx] at q
   exact q
  ·rename_i hy0
   have h1:=Int.emod_lt_of_pos x (show 0 < y by omega)
   have h2:=Int.emod_nonneg x hy0
   exact ⟨by omega,hy,h2,(rj hy0).trans hg,by omega⟩
 ·obtain ⟨v,e,hs,k,ek,hq⟩:=h
  exact ⟨v,e,hs,k,ek,m _ _ hq⟩
def Dig:List Int→List Int→Prop
 | [],[]=>True
 | d :: ds,s :: ss=>(0≤d∧d < s)∧Dig ds ss
 | _,_=>False
theorem Dig.snoc:∀ {ds ss:List Int} {d s:Int},Dig ds ss→0≤d→d < s→Dig (ds ++ [d]) (ss ++ [s])
 | [],[],_,_,_,h0,h1=>⟨⟨h0,h1⟩,trivial⟩
 | _ :: _,_ :: _,_,_,h,h0,h1=>⟨h.1,Dig.snoc h.2 h0 h1⟩
 | [],_ :: _,_,_,h,_,_=>h.elim
 | _ :: _,[],_,_,h,_,_=>h.elim
theorem Dig.cons:∀ {ds ss:List Int} {s:Int},Dig ds (s :: ss)→∃ d r,ds=d :: r∧0≤d∧d < s∧Dig r ss
 | [],_,_,h=>h.elim
 | d :: r,_,_,h=>⟨d,r,rfl,h.1.1,h.1.2,h.2⟩
theorem Dig.nil:∀ {ds:List Int},Dig ds []→ds=[]
 | [],_=>rfl
 | _ :: _,h=>h.elim
theorem Dig.len:∀ {ds ss:List Int},Dig ds ss→ds.length=ss.length
 | [],[],_=>rfl
 | _ :: _,_ :: _,h=>congrArg Nat.succ (Dig.len h.2)
 | [],_ :: _,h=>h.elim
 | _ :: _,[],h=>h.elim
theorem take_snoc {xs:List Int} {i:Nat} {x:Int} (h:xs[i]?=some x):xs.take (i + 1)=xs.take i ++ [x]:=by
 rw [List.take_add_one,h]
 rfl
theorem md {ns:List Int} {i:Nat} {y:V} (h:(ns.map V.int)[i]?=some y):∃ z,y=V.int z∧ns[i]?=some z:=by
 rw [List.getElem?_map] at h
 cases e:ns[i]? with
 | none=>rw [e] at h;cases h
 | some z=>rw [e] at h;exact ⟨z,(Option.some.inj h).symm,rfl⟩
abbrev oh:Stmt:=(top 44)
theorem Bo:L2.au ["_law_script","_law_k"] ["_law_script","_law_k"] (L2.ai oh):=dt
abbrev jm:Stmt:=(top 45)
theorem cD:L2.au ["_law_cell_here","_law_sizes","_law_out","_law_rest","_law_size","_law_one","_law_k","_law_two"] ["_law_cell_here","_law_sizes"] (L2.ai jm):=dt
def lj (K:PySem.W.Frag):Sp:=fun vs H Q _=>∃ (c:Int) (a:Addr) (ss:List Int),vs=[.int c,.ref a]∧cR K H a (ss.map V.int)∧(∀ s∈ss,0 < s∧Bd 9000 s)∧ss.length≤1000 ∧
 ∀ (r:Addr) (H':Hp) (ds:List Int),H r=none→a7 H H'→H' r=some (.lst (ds.map V.int))→Dig ds ss→Q (.ref r) H'
theorem wN {f:Addr} {fd:FuncData} (F:bP K "_law_digits" "_law_digits" jm f fd) (Z:xj mg):aF P w K mg base lW 1 f fd ["_law_cell_here","_law_sizes"] (lj K):=by
 refine F.ok cD (fun vs H Q E h=>?_) (fun cdv A outer s H vs Q E hr h=>?_)
 ·obtain ⟨c,a,ss,rfl,_⟩:=h
  rfl
 obtain ⟨c,a,ss,rfl,hS,hs,hl,q⟩:=h
 refine ⟨_,(QB.run (aM (bV (i:=2) cD.nd rfl (Or.inl rfl) (gA bh))
   (aM (i4 (cE CP (pv 0) (aX zd aD aD) (ax _)) (aM (bV (i:=3) cD.nd rfl (Or.inl rfl) (aX sQ (pv 0) (aX zd aD aD)))
   (aM (jR PassesOwn.never rfl (iZ (pv 1)) (gY (i:=4) cD.nd rfl (Or.inl rfl)) (aM (gL (lO PySem.F.plainAttrs_list PySem.F.slot_list_append PySem.F.type_list_append eA (pv 2) (aJ (aX eW (pv 3) (pv 4)) bh)))
   (bc (bV (i:=3) cD.nd rfl (Or.inl rfl) (aX eQ (pv 3) (pv 4))))))
   (bc (cM (pv 2))))) er)
   (aM (bV (i:=5) cD.nd rfl (Or.inl rfl) (aX eW (pv 0) aD))
   (aM (jR PassesOwn.never rfl (eu rfl Z.range (aJ (cS fW rfl Z.len boot_len (aJ (pv 1) bh)) bh)) (gY (i:=6) cD.nd rfl (Or.inl rfl)) (aM (bV (i:=5) cD.nd rfl (Or.inl rfl) (aX eW (aX fT (aX bS (pv 5) aD) (aX bS aD (aX fT (pv 6) aD))) aD))
   (aM (bV (i:=7) cD.nd rfl (Or.inl rfl) (aX eW (aX fT (aX fT (aX bS (pv 5) (pv 5)) (aX bS aD (pv 5))) (pv 6)) aD))
   (bc (gL (lO PySem.F.plainAttrs_list PySem.F.slot_list_append PySem.F.type_list_append eA (pv 2) (aJ (aX eW (aX eQ (pv 7) aD) (bI pJ (pv 1) (pv 6) (fun _ _=>rfl))) bh)))))))
   (bc (cM (pv 2)))))))),?_⟩
 refine ⟨Nat.zero_le _,fun r hr'=>?_⟩
 have g0:=a7.new hr' (.lst [])
 refine ⟨_,rfl,_,_,rfl,rfl,⟨by decide,by decide,by decide⟩,_,_,rfl,rfl,_,rfl,?_⟩
 refine zo (fun _=>?_) (fun _=>?_)
 ·refine ⟨_,rfl,_,_,rfl,rfl,⟨by decide,by decide,by decide⟩,_,_,rfl,rfl,?_⟩
  refine ⟨_,rfl,a,rfl,⟨_,g0.seq hS⟩,x_ (K:=K) (a:=a) (xs:=ss.map V.int) (fun i σ H2=>∃ (ds:List Int) (rest:Int) (u:Option V),σ=[some (.int c),some (.ref a),some (.ref r),some (.int rest),u,none,none,none] ∧
   a7 H H2∧H2 r=some (.lst (ds.map V.int))∧Dig ds (ss.take i)) ⟨[],_,none,rfl,g0,aA,trivial⟩ (fun i σ H2 _ ⟨_,_,_,_,s2,_⟩=>s2.seq hS) ?_ ?_⟩
  ·rintro i y σ H2 hi ⟨ds,rest,u,rfl,s2,hd,hD⟩
   obtain ⟨z,rfl,hz⟩:=md hi
   obtain ⟨z0,zb⟩:=hs z (List.mem_of_getElem? hz)
   have hil:i < ss.length:=(List.getElem?_eq_some_iff.mp hz).1
   have dl:=hD.len
   rw [List.length_take] at dl
   refine ⟨_,rfl,.inl ⟨rfl,_,cR.of hd⟩,_,rfl,_,rfl,_,_,rfl,rfl,z0,r,_,_,rfl,rfl,hd,?_,?_⟩
   ·rw [List.length_map]
    exact aW (by omega)
   refine ⟨_,rfl,_,rfl,_,_,rfl,rfl,⟨by omega,zb⟩,?_⟩
   refine ⟨ds ++ [rest % z],_,_,rfl,s2.EL hr' _,?_,?_⟩
   ·rw [aA,List.map_append]
    rfl
   ·rw [take_snoc hz]
    exact hD.snoc (Int.emod_nonneg _ (by omega)) (Int.emod_lt_of_pos _ z0)
  ·rintro σ H2 ⟨ds,rest,u,rfl,s2,hd,hD⟩
   rw [List.length_map,List.take_length] at hD
   exact ⟨_,rfl,q r H2 ds hr' s2 hd hD⟩
 ·refine ⟨_,rfl,_,_,rfl,rfl,(show (0:Int) < 2147483647 by decide),?_⟩
  refine ⟨_,rfl,a,_,rfl,.inl (g0.seq hS),_,rfl,?_,?_,nI (lo:=0) (n:=(ss.map V.int).length) (fun i σ H2=>∃ (ds:List Int) (one:Int) (u v:Option V),σ=[some (.int c),some (.ref a),some (.ref r),none,none,some (.int one),u,v] ∧
   0≤one∧one < 2147483647∧a7 H H2∧H2 r=some (.lst (ds.map V.int))∧Dig ds (ss.take i)) ⟨[],_,none,none,rfl,Int.emod_nonneg _ (by decide),Int.emod_lt_of_pos _ (by decide),g0,aA,trivial⟩ ?_ ?_⟩
  ·omega
  ·rw [List.length_map];omega
  ·rintro i σ H2 hi ⟨ds,one,u,v,rfl,o0,o1,s2,hd,hD⟩
   rw [List.length_map] at hi
   have hz:ss[i]?=some ss[i]:=List.getElem?_eq_getElem hi
   obtain ⟨z0,zb⟩:=hs ss[i] (List.getElem_mem hi)
   have dl:=hD.len
   rw [List.length_take] at dl
   have e1:cK (ss.map V.int) (0 + (i:Int))=some (.int ss[i]):=by
    rw [Int.zero_add]
    exact a9 (by rw [List.getElem?_map,hz];rfl)
   dsimp! only [rJoin]
   have A0:0≤(one * 48271 + 10007 * (0 + (i:Int) + 1)) % 2147483629:=Int.emod_nonneg _ (by decide)
   have A1:(one * 48271 + 10007 * (0 + (i:Int) + 1)) % 2147483629 < 2147483629:=Int.emod_lt_of_pos _ (by decide)
   generalize (one * 48271 + 10007 * (0 + (i:Int) + 1)) % 2147483629=A at A0 A1 ⊢
   generalize ((A * A + 69621 * A + (0 + (i:Int))) % 2147483563).fdiv 11=B
   have small:∀ x:Int,0≤x→x < 2147483648→Bd 64 x:=fun x h1 h2=>Bd.small (by omega) (by omega)
   refine ⟨.of (small _ o0 (by omega)) (small _ (by decide) (by decide)),.of (small _ (by decide) (by decide)) (small _ (by omega) (by omega)),.of (small _ A0 (by omega)) (small _ A0 (by omega)),
    .of (small _ (by decide) (by decide)) (small _ A0 (by omega)),.inl ⟨rfl,_,cR.of hd⟩,⟨by decide,(small _ (by decide) (by decide)).mono (by decide)⟩,_,s2.seq hS,_,e1,_,rfl,z0,_,hd,?_,A0,by omega,s2.EL hr' _,ds ++ [B % ss[i]],?_,?_⟩
   ·rw [List.length_map]
    exact aW (by omega)
   ·rw [aA,List.map_append]
    rfl
   ·rw [take_snoc hz]
    exact hD.snoc (Int.emod_nonneg _ (by omega)) (Int.emod_lt_of_pos _ z0)
  ·rintro σ H2 ⟨ds,one,u,v,rfl,o0,o1,s2,hd,hD⟩
   rw [List.length_map,List.take_length] at hD
   exact ⟨_,rfl,q r H2 ds hr' s2 hd hD⟩
def EY (H:Hp) (q:Rat) (Q:VK):Prop:=∀ (r:Addr) (H':Hp),a7 H H'→H' r=some (.tup [.int q.num,.int q.den])→Q (.ref r) H'
abbrev fM:Stmt:=(top 13)
theorem gG:L2.au ["top","bottom","divisor"] ["top","bottom"] (L2.ai fM):=dt
def eK:Sp:=fun vs H Q _=>∃ t b:Int,vs=[.int t,.int b]∧b≠0∧Bd 9000 b∧EY H (Rat.divInt t b) Q
theorem zQ {n:Nat} {t b:Int} (h:b≠0) (hb:Bd n b):Bd n ((Int.gcd t b:Nat):Int):=hb.le (by have:=D9 (t:=t) h;omega)
theorem rT {f:Addr} {fd:FuncData} (F:bP K "fraction" "fraction" fM f fd) (Z:xj mg) (C_shared:my P w K mg base 1 "shared" ["one","two"] ma):aF P w K mg base lW 2 f fd ["top","bottom"] eK:=by
 refine F.ok gG (fun vs H Q E h=>?_) (fun cdv A outer s H vs Q E hr h=>?_)
 ·obtain ⟨t,b,rfl,_⟩:=h
  rfl
 obtain ⟨t,b,rfl,hb,bb,q⟩:=h
 have hg:=tW (t:=t) hb
 have gb:=zQ (t:=t) hb bb
 refine ⟨_,(QB.run (aM (i4 (cE x8 (pv 1) aD (ax _)) jC er)
   (aM (bV (i:=2) gG.nd rfl (Or.inl rfl) (rp C_shared hr (by decide) rfl (aJ (pv 0) (aJ (pv 1) bh))))
   (rH (i4 (cE uH (pv 1) aD (ax _)) (bc (bV (i:=2) gG.nd rfl (Or.inl rfl) (vi zC (pv 2)))) er)
   (bc (cM (lA (aJ (aX eQ (pv 0) (pv 2)) (aJ (aX eQ (pv 1) (pv 2)) bh))))))))),?_⟩
 refine ⟨_,rfl,rfl,_,rfl,?_⟩
 refine zo (fun c=>absurd (V.int.inj (of_decide_eq_true c)) hb) (fun _=>?_)
 refine ⟨_,rfl,_,rfl,t,b,rfl,?_⟩
 refine ⟨fun σ' H'=>∃ d:Int,σ'=[some (.int t),some (.int b),some (.int d)]∧H=H'∧d≠0∧Bd 9000 d∧t.fdiv d=(Rat.divInt t b).num∧b.fdiv d=(Rat.divInt t b).den,?_,?_⟩
 ·refine ⟨_,rfl,_,_,rfl,rfl,_,rfl,zo (fun c=>?_) (fun c=>?_)⟩
  ·have c':b < 0:=of_decide_eq_true c
   exact ⟨_,rfl,_,rfl,_,rfl,rfl,by omega,gb.neg,vG c',Bi c'⟩
  ·have c':0 < b:=by
    have:=of_decide_eq_false (Bool.eq_false_iff.mpr c)
    omega
   exact ⟨_,rfl,rfl,by omega,gb,oH c',den_pos c'⟩
 rintro _ _ ⟨d,rfl,rfl,hd,bd,e1,e2⟩
 refine ⟨_,rfl,_,rfl,_,_,rfl,rfl,⟨hd,bd⟩,_,rfl,_,rfl,_,_,rfl,rfl,⟨hd,bd⟩,(by show 2≤sizeLine;decide),fun p hp=>?_⟩
 exact q p _ (a7.new hp _) (by rw [aA];show some (HO.tup [V.int (t.fdiv d),V.int (b.fdiv d)])=_;rw [e1,e2])
abbrev ve:Stmt:=(top 47)
theorem oe:L2.au ["_law_top","_law_bottom","_law_one","_law_two"] ["_law_top","_law_bottom"] (L2.ai ve):=dt
def B8:Sp:=fun vs H Q _=>∃ t b:Int,vs=[.int t,.int b]∧0 < b∧Bd 9000 b∧EY H (Rat.divInt t b) Q
theorem Dq {f:Addr} {fd:FuncData} (F:bP K "_law_low" "_law_low" ve f fd) (Z:xj mg):aF P w K mg base lW 1 f fd ["_law_top","_law_bottom"] B8:=by
 refine F.ok oe (fun vs H Q E h=>?_) (fun cdv A outer s H vs Q E hr h=>?_)
 ·obtain ⟨t,b,rfl,_⟩:=h
  rfl
 obtain ⟨t,b,rfl,hb,bb,q⟩:=h
 have hg:=tW (t:=t) (show b≠0 by omega)
 have gb:=zQ (t:=t) (show b≠0 by omega) bb
 refine ⟨_,(QB.run (aM (bV (i:=2) oe.nd rfl (Or.inl rfl) (cS jb rfl Z.abs boot_abs (aJ (pv 0) bh)))
   (aM (bV (i:=3) oe.nd rfl (Or.inl rfl) (pv 1))
   (aM (gE PassesOwn.never (cE Ct (pv 3) aD (ax _)) (bc (j4 (i:=2) (j:=3) rfl oe.nd rfl rfl (by decide) rfl rfl (aJ (pv 3) (aJ (aX eW (pv 2) (pv 3)) bh)) rfl)))
   (bc (cM (lA (aJ (aX eQ (pv 0) (pv 2)) (aJ (aX eQ (pv 1) (pv 2)) bh))))))))),?_⟩
 refine ⟨_,rfl,t,rfl,_,rfl,?_⟩
 refine q_ (fun σ H'=>∃ x y:Int,σ=[some (.int t),some (.int b),some (.int x),some (.int y)]∧H=H'∧0≤x∧0≤y∧Int.gcd x y=Int.gcd t b) (fun σ _=>match σ with | [_,_,_,some (.int y)]=>y.toNat | _=>0)
  ⟨_,_,rfl,rfl,by split <;> omega,by omega,xV t b⟩ ?_ (fun σ H Q Q' m h=>?_)
 ·rintro σ H' ⟨x,y,rfl,rfl,hx,hy,hg'⟩
  dsimp! only [rJoin]
  split
  ·rename_i hy0
   subst hy0
   have ex:x=((Int.gcd t b:Nat):Int):=by rw [← hg',uE hx]
   subst ex
   refine ⟨⟨by omega,gb⟩,⟨by omega,gb⟩,(by show 2≤sizeLine;decide),fun p hp=>?_⟩
   exact q p _ (a7.new hp _) (by rw [aA,oH hb,den_pos hb])
  ·rename_i hy0
   have h1:=Int.emod_lt_of_pos x (show 0 < y by omega)
   have h2:=Int.emod_nonneg x hy0
   exact ⟨by omega,hy,h2,(rj hy0).trans hg',by omega⟩
 ·obtain ⟨v,e,hs,k,ek,hq⟩:=h
  exact ⟨v,e,hs,k,ek,m _ _ hq⟩
theorem zJ {m n:Nat} {t b:Int} (hb:b≠0) (h1:Bd m t) (h2:Bd n b) (k:Nat) (hm:m≤k) (hn:n≤k):Sz k (Rat.divInt t b) :=
 ⟨(h1.le (uM t b)).mono hm,(h2.le (oY hb)).mono hn⟩
theorem pD (p q:Rat):(p.den:Int) * (q.den:Int)≠0:=Int.mul_ne_zero (dB p) (dB q)
theorem Sz.add {m n k:Nat} {p q:Rat} (h:Sz m p) (g:Sz n q) (hk:m + n + 1≤k:=by decide):Sz k (p + q):=by
 rw [← add_eq]
 exact zJ (pD p q) (.add (.mul h.num g.den (Nat.le_refl _)) (.mul g.num h.den (Nat.le_refl _)) (Nat.le_refl _)) (.mul h.den g.den (Nat.le_refl _)) k (by omega) (by omega)
theorem Sz.sub {m n k:Nat} {p q:Rat} (h:Sz m p) (g:Sz n q) (hk:m + n + 1≤k:=by decide):Sz k (p - q):=by
 rw [← sub_eq]
 exact zJ (pD p q) (.sub (.mul h.num g.den (Nat.le_refl _)) (.mul g.num h.den (Nat.le_refl _)) (Nat.le_refl _)) (.mul h.den g.den (Nat.le_refl _)) k (by omega) (by omega)
theorem Sz.mul {m n k:Nat} {p:Rat} {i:Int} (h:Sz m p) (g:Bd n i) (hk:m + n≤k:=by decide):Sz k (p * i):=by
 rw [← mul_eq]
 exact zJ (dB p) (.mul h.num g (Nat.le_refl _)) h.den k hk (by omega)
def Fm (K:PySem.W.Frag) (g:Rat→Rat→Rat):Sp:=fun vs H Q _=>∃ (a b:Addr) (p q:Rat),vs=[.ref a,.ref b]∧Ak K H a p∧Ak K H b q∧Sz 4000 p∧Sz 4000 q∧EY H (g p q) Q
abbrev pG:Stmt:=(top 14)
theorem BP:L2.au ["one","two"] ["one","two"] (L2.ai pG):=dt
theorem BI {f:Addr} {fd:FuncData} (F:bP K "plus" "plus" pG f fd) (Z:xj mg) (C_fraction:my P w K mg base 2 "fraction" ["top","bottom"] eK):aF P w K mg base lW 3 f fd ["one","two"] (Fm K fun p q=>p + q):=by
 refine F.ok BP (fun vs H Q E h=>?_) (fun cdv A outer s H vs Q E hr h=>?_)
 ·obtain ⟨a,b,p,q,rfl,_⟩:=h
  rfl
 obtain ⟨a,b,p,q,rfl,ha,hb,sp,sq,k⟩:=h
 refine ⟨_,(QB.run (bc (cM (rp C_fraction hr (by decide) rfl (aJ (aX fT (aX bS (bI bW (pv 0) aD (fun _ _=>rfl)) (bI bW (pv 1) aD (fun _ _=>rfl))) (aX bS (bI bW (pv 1) aD (fun _ _=>rfl)) (bI bW (pv 0) aD (fun _ _=>rfl)))) (aJ (aX bS (bI bW (pv 0) aD (fun _ _=>rfl)) (bI bW (pv 1) aD (fun _ _=>rfl))) bh)))))),?_⟩
 refine ⟨_,rfl,_,_,_,_,rfl,rfl,ha,rfl,_,rfl,_,_,_,_,rfl,rfl,hb,rfl,_,_,rfl,rfl,.of sp.num sq.den,_,rfl,_,_,_,_,rfl,rfl,hb,rfl,_,rfl,_,_,_,_,rfl,rfl,ha,rfl,_,_,rfl,rfl,.of sq.num sp.den,_,_,rfl,rfl,_,rfl,_,_,_,_,rfl,rfl,ha,rfl,_,rfl,_,_,_,_,rfl,rfl,hb,rfl,_,_,rfl,rfl,.of sp.den sq.den,_,_,rfl,pD p q,.mul sp.den sq.den,?_⟩
 rw [add_eq]
 exact k
abbrev la:Stmt:=(top 15)
theorem xu:L2.au ["one","two"] ["one","two"] (L2.ai la):=dt
theorem xK {f:Addr} {fd:FuncData} (F:bP K "minus" "minus" la f fd) (Z:xj mg) (C_fraction:my P w K mg base 2 "fraction" ["top","bottom"] eK):aF P w K mg base lW 3 f fd ["one","two"] (Fm K fun p q=>p - q):=by
 refine F.ok xu (fun vs H Q E h=>?_) (fun cdv A outer s H vs Q E hr h=>?_)
 ·obtain ⟨a,b,p,q,rfl,_⟩:=h
  rfl
 obtain ⟨a,b,p,q,rfl,ha,hb,sp,sq,k⟩:=h
 refine ⟨_,(QB.run (bc (cM (rp C_fraction hr (by decide) rfl (aJ (aX sQ (aX bS (bI bW (pv 0) aD (fun _ _=>rfl)) (bI bW (pv 1) aD (fun _ _=>rfl))) (aX bS (bI bW (pv 1) aD (fun _ _=>rfl)) (bI bW (pv 0) aD (fun _ _=>rfl)))) (aJ (aX bS (bI bW (pv 0) aD (fun _ _=>rfl)) (bI bW (pv 1) aD (fun _ _=>rfl))) bh)))))),?_⟩
 refine ⟨_,rfl,_,_,_,_,rfl,rfl,ha,rfl,_,rfl,_,_,_,_,rfl,rfl,hb,rfl,_,_,rfl,rfl,.of sp.num sq.den,_,rfl,_,_,_,_,rfl,rfl,hb,rfl,_,rfl,_,_,_,_,rfl,rfl,ha,rfl,_,_,rfl,rfl,.of sq.num sp.den,_,_,rfl,rfl,_,rfl,_,_,_,_,rfl,rfl,ha,rfl,_,rfl,_,_,_,_,rfl,rfl,hb,rfl,_,_,rfl,rfl,.of sp.den sq.den,_,_,rfl,pD p q,.mul sp.den sq.den,?_⟩
 rw [sub_eq]
 exact k
abbrev kK:Stmt:=(top 16)
theorem y6:L2.au ["one","many"] ["one","many"] (L2.ai kK):=dt
def ux (K:PySem.W.Frag):Sp:=fun vs H Q _=>∃ (a:Addr) (p:Rat) (m:Int),vs=[.ref a,.int m]∧Ak K H a p∧Sz 9000 p∧Bd 9000 m∧EY H (p * m) Q
theorem x5 {f:Addr} {fd:FuncData} (F:bP K "times" "times" kK f fd) (Z:xj mg) (C_fraction:my P w K mg base 2 "fraction" ["top","bottom"] eK):aF P w K mg base lW 3 f fd ["one","many"] (ux K):=by
 refine F.ok y6 (fun vs H Q E h=>?_) (fun cdv A outer s H vs Q E hr h=>?_)
 ·obtain ⟨a,p,m,rfl,_⟩:=h
  rfl
 obtain ⟨a,p,m,rfl,ha,sp,bm,k⟩:=h
 refine ⟨_,(QB.run (bc (cM (rp C_fraction hr (by decide) rfl (aJ (aX bS (bI bW (pv 0) aD (fun _ _=>rfl)) (pv 1)) (aJ (bI bW (pv 0) aD (fun _ _=>rfl)) bh)))))),?_⟩
 refine ⟨_,rfl,_,_,_,_,rfl,rfl,ha,rfl,_,rfl,_,_,rfl,rfl,.of sp.num bm,_,rfl,_,_,_,_,rfl,rfl,ha,rfl,_,_,rfl,dB p,sp.den,?_⟩
 rw [mul_eq]
 exact k
abbrev om:Stmt:=(top 17)
theorem Bk:L2.au ["one","two"] ["one","two"] (L2.ai om):=dt
def yZ (K:PySem.W.Frag):Sp:=fun vs H Q _=>∃ (a b:Addr) (p q:Rat),vs=[.ref a,.ref b]∧Ak K H a p∧Ak K H b q∧Sz 9000 p∧Sz 9000 q∧Q (.bl (decide (p < q))) H
theorem AK (p q:Rat):decide (p.num * q.den < q.num * p.den)=decide (p < q):=decide_eq_decide.mpr (Rat.lt_iff p q).symm
theorem Ae {f:Addr} {fd:FuncData} (F:bP K "less" "less" om f fd) (Z:xj mg):aF P w K mg base lW 1 f fd ["one","two"] (yZ K):=by
 refine F.ok Bk (fun vs H Q E h=>?_) (fun cdv A outer s H vs Q E hr h=>?_)
 ·obtain ⟨a,b,p,q,rfl,_⟩:=h
  rfl
 obtain ⟨a,b,p,q,rfl,ha,hb,sp,sq,k⟩:=h
 refine ⟨_,(QB.run (bc (cM (kQ uH (aX bS (bI bW (pv 0) aD (fun _ _=>rfl)) (bI bW (pv 1) aD (fun _ _=>rfl))) (aX bS (bI bW (pv 1) aD (fun _ _=>rfl)) (bI bW (pv 0) aD (fun _ _=>rfl))) (ax _))))),?_⟩
 refine ⟨_,rfl,_,_,_,_,rfl,rfl,ha,rfl,_,rfl,_,_,_,_,rfl,rfl,hb,rfl,_,_,rfl,rfl,.of sp.num sq.den,_,rfl,_,_,_,_,rfl,rfl,hb,rfl,_,rfl,_,_,_,_,rfl,rfl,ha,rfl,_,_,rfl,rfl,.of sq.num sp.den,_,_,rfl,rfl,?_⟩
 show Q (.bl (decide (p.num * q.den < q.num * p.den))) H
 rw [AK]
 exact k
theorem ur {K:PySem.W.Frag} {J:Hq} {H:Hp}:∀ {ns:List Int} {vs:List V},aB K J H (ns.map PV.int) vs→vs=ns.map V.int
 | [],_,h=>h
 | n :: ns,_,⟨v,us,e,h,k⟩=>by subst e;cases h;rw [ur k];rfl
theorem Ea {K:PySem.W.Frag} {J:Hq} {H:Hp} {x:PV} {vs:List V} (h:aB K J H [x] vs):∃ v,vs=[v]∧bJ K J H x v:=by
 obtain ⟨v,us,rfl,h1,h2⟩:=h;cases h2;exact ⟨v,rfl,h1⟩
theorem fQ {K:PySem.W.Frag} {J:Hq} {H:Hp} {x y:PV} {vs:List V} (h:aB K J H [x,y] vs):∃ v u,vs=[v,u]∧bJ K J H x v∧bJ K J H y u:=by
 obtain ⟨v,us,rfl,h1,u,us',rfl,h2,h3⟩:=h;cases h3;exact ⟨v,u,rfl,h1,h2⟩
theorem ly {K:PySem.W.Frag} {J:Hq} {H:Hp} {q:Rat} {v:V} (h:bJ K J H (fr q) v):∃ a,v=.ref a∧Ak K H a q:=by
 obtain ⟨a,vs,rfl,h1,h2⟩:=h
 obtain ⟨x,y,rfl,r1,r2⟩:=fQ h2
 cases r1;cases r2
 exact ⟨a,rfl,h1⟩
theorem oJ {K:PySem.W.Frag} {J:Hq} {H:Hp} {q:Rat} {Q2:PV→Hq→Prop} {Q:VK} (r:Rep K J H) (k:Kn K J H Q2 Q) (h:Q2 (fr q) J):EY H q Q:=fun a H' s e =>
 k (fr q) J (.ref a) H' ⟨a,_,rfl,fz.of e,⟨_,_,rfl,rfl,_,_,rfl,rfl,rfl⟩⟩ (r.same s) (.same s) h
def yM:bX:=fun xs J Q _=>∃ (c:Int) (ss:List Int),xs=[.int c,.fl (ss.map .int)]∧(∀ s∈ss,0 < s∧Bd 9000 s)∧ss.length≤1000∧∀ ds,Dig ds ss→Q (.fl (ds.map .int)) J
theorem p8 (C:my P w K mg base 1 "_law_digits" ["_law_cell_here","_law_sizes"] (lj K)):ba P w K mg base 1 "_law_digits" ["_law_cell_here","_law_sizes"] yM:=C.lift fun xs J vs H Q2 E2 Q E rs r ⟨c,ss,ex,h0,h1,q⟩ kn=>by
 subst ex
 obtain ⟨v,u,rfl,r1,⟨a,ws,rfl,h2,h3⟩⟩:=fQ rs
 cases r1;cases ur h3
 refine ⟨c,a,ss,rfl,h2.sq,h0,h1,fun p H' ds hp s e D=>kn (.fl (ds.map .int)) J (.ref p) H' ⟨p,_,rfl,.inl ⟨r.free hp,.inl e⟩,jS ds⟩ (r.same s) (.same s) (q ds D)⟩
def lF:bX:=fun xs J Q _=>∃ t b:Int,xs=[.int t,.int b]∧0 < b∧Bd 9000 b∧Q (fr (Rat.divInt t b)) J
theorem y_ (C:my P w K mg base 1 "_law_low" ["_law_top","_law_bottom"] B8):ba P w K mg base 1 "_law_low" ["_law_top","_law_bottom"] lF:=C.lift fun xs J vs H Q2 E2 Q E rs r ⟨t,b,ex,h0,h1,q⟩ kn=>by
 subst ex
 obtain ⟨v,u,rfl,r1,r2⟩:=fQ rs
 cases r1;cases r2
 exact ⟨t,b,rfl,h0,h1,oJ r kn q⟩
def cA:bX:=fun xs J Q _=>∃ p q:Rat,xs=[fr p,fr q]∧Sz 9000 p∧Sz 9000 q∧Q (.bl (decide (p < q))) J
theorem wW (C:my P w K mg base 1 "less" ["one","two"] (yZ K)):ba P w K mg base 1 "less" ["one","two"] cA:=C.lift fun xs J vs H Q2 E2 Q E rs r ⟨p,q,ex,h0,h1,z⟩ kn=>by
 subst ex
 obtain ⟨v,u,rfl,r1,r2⟩:=fQ rs
 obtain ⟨a,rfl,f1⟩:=ly r1
 obtain ⟨b,rfl,f2⟩:=ly r2
 exact ⟨a,b,p,q,rfl,f1,f2,h0,h1,kn (.bl _) J _ H rfl r .refl z⟩
def s_ (g:Rat→Rat→Rat):bX:=fun xs J Q _=>∃ p q:Rat,xs=[fr p,fr q]∧Sz 4000 p∧Sz 4000 q∧Q (fr (g p q)) J
theorem Cm {x:Str} {ps:List Str} {k:Nat} {g:Rat→Rat→Rat} (C:my P w K mg base k x ps (Fm K g)):ba P w K mg base k x ps (s_ g):=C.lift fun xs J vs H Q2 E2 Q E rs r ⟨p,q,ex,h0,h1,z⟩ kn=>by
 subst ex
 obtain ⟨v,u,rfl,r1,r2⟩:=fQ rs
 obtain ⟨a,rfl,f1⟩:=ly r1
 obtain ⟨b,rfl,f2⟩:=ly r2
 exact ⟨a,b,p,q,rfl,f1,f2,h0,h1,oJ r kn z⟩
theorem vW (C:my P w K mg base 3 "plus" ["one","two"] (Fm K fun p q=>p + q)):ba P w K mg base 3 "plus" ["one","two"] (s_ fun p q=>p + q):=Cm C
theorem sL (C:my P w K mg base 3 "minus" ["one","two"] (Fm K fun p q=>p - q)):ba P w K mg base 3 "minus" ["one","two"] (s_ fun p q=>p - q):=Cm C
def lU:bX:=fun xs J Q _=>∃ (p:Rat) (m:Int),xs=[fr p,.int m]∧Sz 9000 p∧Bd 9000 m∧Q (fr (p * m)) J
theorem tD (C:my P w K mg base 3 "times" ["one","many"] (ux K)):ba P w K mg base 3 "times" ["one","many"] lU:=C.lift fun xs J vs H Q2 E2 Q E rs r ⟨p,m,ex,h0,h1,z⟩ kn=>by
 subst ex
 obtain ⟨v,u,rfl,r1,r2⟩:=fQ rs
 obtain ⟨a,rfl,f1⟩:=ly r1
 cases r2
 exact ⟨a,p,m,rfl,f1,h0,h1,oJ r kn z⟩
def aQ.V (l:aQ):PV:=.tup [fr l.m,fr l.p,.int l.v]
theorem rE (m p:Rat) (v:Int):PV.tup [fr m,fr p,.int v]=(aQ.mk m p v).V:=rfl
theorem uW (J:Hq) (l:aQ):dT J l.V (.int 0)=some (fr l.m):=cJ _ _
theorem Gi (J:Hq) (l:aQ):dT J l.V (.int 1)=some (fr l.p):=dX _ _ _
theorem j_ (J:Hq) (l:aQ):dT J l.V (.int 2)=some (.int l.v):=hW _ _ _ _
theorem HB (a b:aQ):eqQ a.V b.V=decide (a=b):=by
 unfold aQ.V
 rw [sX,eL,eL,eL,oO,zU,zU,eq_int,Bool.and_true,← Bool.decide_and,← Bool.decide_and]
 apply decide_eq_decide.mpr
 cases a;cases b
 simp [aQ.mk.injEq]
theorem FT (a b:aQ):(a.V=b.V)=(a=b):=by
 apply propext
 constructor
 ·intro e
  have:=HB a b
  rw [e,eq_self] at this
  exact of_decide_eq_true this.symm
 ·intro e;rw [e]
def jq:bX:=fun xs J Q _=>∃ (l:aQ) (t:Rat),xs=[l.V,fr t]∧Sz 900 l.m∧Sz 900 l.p∧Sz 900 t∧Bd 64 l.v∧Q (fr (l.at t)) J
abbrev fZ:Stmt:=(top 25)
theorem ff:L2.au ["leg","moment","begun","place","pace"] ["leg","moment"] (L2.ai fZ):=dt
theorem pO {f:Addr} {fd:FuncData} (F:bP K "place_on" "place_on" fZ f fd) (Z:bD mg) (C_plus:ba P w K mg base 3 "plus" ["one","two"] (s_ fun p q=>p + q)) (C_minus:ba P w K mg base 3 "minus" ["one","two"] (s_ fun p q=>p - q)) (C_times:ba P w K mg base 3 "times" ["one","many"] lU) :
  aF P w K mg base (cx P w) 4 f fd ["leg","moment"] (c9 K jq):=by
 simp_arith [ff]
 ·obtain ⟨l,t,rfl,_⟩:=h;rfl
 obtain ⟨l,t,rfl,sb,sp,sm,bv,q⟩:=h
 have s1:Sz 1801 (t - l.m):=sm.sub sb
 have s2:Sz 1900 ((t - l.m) * (l.v:Rat)):=s1.mul bv
 refine ⟨_,(aj (sj (rv 0) (tT rfl (eX (bT (i:=2) ff.nd rfl (Or.inl rfl)) (eX (bT (i:=3) ff.nd rfl (Or.inl rfl)) (eX (bT (i:=4) ff.nd rfl (Or.inl rfl)) pM)))))
   (ak (az (aR C_plus B hr (by decide) rfl (af (rv 3) (af (aR C_times B hr (by decide) rfl (af (aR C_minus B hr (by decide) rfl (af (rv 1) (af (rv 2) ah))) (af (rv 4) ah))) ah)))))),?_⟩
 simp_arith! only [bR,aQ.V,s_,lU]
 exact ⟨rfl,sm.mono (by decide),sb.mono (by decide),s1.mono (by decide),bv.mono (by decide),sp.mono (by decide),s2.mono (by decide),q⟩
theorem DZ (n:Int):PV.tup [.int n,.int 1]=fr (n:Rat):=rfl
theorem gT (p q:Rat):p.num * (q.den:Int)=q.num * (p.den:Int)↔p=q:=by
 have a:=cast_eq p
 have b:=cast_eq q
 have c:=fF p
 have d:=fF q
 constructor
 ·intro h
  have h':((p.num * (q.den:Int):Int):Rat)=((q.num * (p.den:Int):Int):Rat):=by rw [h]
  rw [Rat.intCast_mul,Rat.intCast_mul,a,b] at h'
  grind
 ·intro h;rw [h]
def gv:Option Rat→PV
 | none=>.non
 | some q=>fr q
structure BZ (cL:Addr) (J:Hq) (p r:Addr) (rows:List aQ) (g:Option Rat):Prop where
 o:J p=some (.ins cL [("rows",.ref r),("gone",gv g)])
 l:J r=some (.lst (rows.map aQ.V))
theorem BZ.ne {cL:Addr} {J:Hq} {p r:Addr} {rows:List aQ} {g:Option Rat} (h:BZ cL J p r rows g):r≠p:=by
 intro e;subst e;have:=h.o;rw [h.l] at this;cases this
structure mq (n:Nat) (l:aQ):Prop where
 m:Sz n l.m
 p:Sz n l.p
 v:Bd 64 l.v
theorem mq.mono {n k:Nat} {l:aQ} (h:mq n l) (e:n≤k):mq k l:=⟨h.m.mono e,h.p.mono e,h.v⟩
theorem EJ (a b:PV):([("rows",a),("gone",b)]:List (Str × PV)).lookup ("rows":Str)=some a:=rfl
theorem Jx (a b:PV):([("rows",a),("gone",b)]:List (Str × PV)).lookup ("gone":Str)=some b:=rfl
theorem AL {m:Str} (a b:PV) (h:(m == ("rows":Str))=false) (k:(m == ("gone":Str))=false):([("rows",a),("gone",b)]:List (Str × PV)).lookup m=none:=by rw [List.lookup_cons,h];simp only;rw [List.lookup_cons,k];rfl
theorem Gp (a b:PV):([("rows",a),("gone",b)]:List (Str × PV)).lookup ("turn":Str)=none:=AL a b (by decide +kernel) (by decide +kernel)
theorem Iv (a b:PV):([("rows",a),("gone",b)]:List (Str × PV)).lookup ("leave":Str)=none:=AL a b (by decide +kernel) (by decide +kernel)
theorem Hv (a b:PV):([("rows",a),("gone",b)]:List (Str × PV)).lookup ("there":Str)=none:=AL a b (by decide +kernel) (by decide +kernel)
theorem HF (a b:PV):([("rows",a),("gone",b)]:List (Str × PV)).lookup ("leg_at":Str)=none:=AL a b (by decide +kernel) (by decide +kernel)
theorem Cr:(("rows":Str)=("gone":Str))=False:=eq_false (by decide +kernel)
theorem jv {J:Hq} {l:Addr} {o:HQ} (h:J l=none):mC J (put J l o):=fun a=>by
 by_cases e:a=l
 ·subst e;exact .inr h
 ·rw [aq e];exact .inl rfl
theorem BR (x z:PV):j0 ("gone":Str) z (j0 ("rows":Str) x [])=([("rows",x),("gone",z)]:List (Str × PV)):=by simp only [j0,Cr,if_false]
abbrev dh:Stmt:=(L2.inClass (top 29) 0)
theorem kE:L2.au ["self","moment","place","pace"] ["self","moment","place","pace"] (L2.ai dh):=dt
def uh (cL:Addr):bX:=fun xs J Q _=>∃ (p:Addr) (l:aQ),xs=[.ref p,fr l.m,fr l.p,.int l.v]∧J p=some (.ins cL [])∧∀ r,J r=none→Q .non (put (put J r (.lst [l.V])) p (.ins cL [("rows",.ref r),("gone",.non)]))
theorem qy {cL f:Addr} {fd:FuncData} (F:bP K "__init__" "Log.__init__" dh f fd) (KD_Log:cQ K mg "Log" cL) (NA_Log_rows:ay K cL "rows") (NA_Log_gone:ay K cL "gone"):aF P w K mg base (cx P w) 1 f fd ["self","moment","place","pace"] (c9 K (uh cL)):=by
 simp_arith [kE]
 ·obtain ⟨p,l,rfl,_⟩:=h;rfl
 obtain ⟨p,l,rfl,hp,q⟩:=h
 refine ⟨_,(aj (ft KD_Log.cl NA_Log_rows (rv 0) (jY (af (cv (af (rv 1) (af (rv 2) (af (rv 3) ah)))) ah)))
   (ak (ft KD_Log.cl NA_Log_gone (rv 0) fu))),?_⟩
 simp_arith! only [bR,rE]
 intro r hr'
 have ne:p≠r:=by intro e;subst e;rw [hp] at hr';cases hr'
 refine ⟨[],by rw [aq ne];exact hp,by decide,by show (1:Nat) < 1000;decide,?_⟩
 rw [dI,BR]
 exact q r hr'
abbrev f7:Stmt:=(L2.inClass (top 29) 1)
theorem j6:L2.au ["self","moment","pace","place"] ["self","moment","pace"] (L2.ai f7):=dt
def oi (cL:Addr):bX:=fun xs J Q _=>∃ p r rows g t v,xs=[.ref p,fr t,.int v]∧BZ cL J p r rows g∧rows≠[]∧rows.length≤900∧Sz 900 t∧(∀ l∈rows,mq 900 l)∧Q .non (put J r (.lst ((turned rows t v).map aQ.V)))
theorem rL {cL f:Addr} {fd:FuncData} (F:bP K "turn" "Log.turn" f7 f fd) (Z:bD mg) (KD_Log:cQ K mg "Log" cL) (NA_Log_rows:ay K cL "rows") (C_place_on:ba P w K mg base 4 "place_on" ["leg","moment"] jq):aF P w K mg base (cx P w) 5 f fd ["self","moment","pace"] (c9 K (oi cL)):=by
 simp_arith [j6]
 ·obtain ⟨p,r,rows,g,t,v,rfl,_⟩:=h;rfl
 obtain ⟨p,r,rows,g,t,v,rfl,b,hne,hl,st,sl,q⟩:=h
 obtain ⟨ls,l,rfl⟩:∃ ls l,rows=ls ++ [l]:=⟨rows.dropLast,rows.getLast hne,(List.dropLast_concat_getLast hne).symm⟩
 have bo:=b.o
 have bl:=b.l
 have npr:=b.ne
 have sl':=sl l (by simp)
 have hla:cK ((ls ++ [l]).map aQ.V) (-1)=some l.V:=by rw [List.map_append];exact uz _ _
 refine ⟨_,(aj (aL (i:=3) j6.nd rfl (Or.inl rfl) (aR C_place_on B hr (by decide) rfl (af (ar aw (aO KD_Log.cl NA_Log_rows (rv 0)) (p_ lN ag) (fun _ _=>rfl)) (af (rv 1) ah))))
   (c_ (aU (aE (cj hr.aS) (ar aw (ar aw (aO KD_Log.cl NA_Log_rows (rv 0)) (p_ lN ag) (fun _ _=>rfl)) ag (fun _ _=>rfl)) (rv 1) (L2.ax _)) (ak (aY (DB PySem.F.plainAttrs_list PySem.F.slot_list_pop PySem.F.type_list_pop C6 (aO KD_Log.cl NA_Log_rows (rv 0))))) aI)
   (aj (aU (du (eO (D' (aO KD_Log.cl NA_Log_rows (rv 0))) (dH (aE (cj hr.aS) (ar aw (ar aw (aO KD_Log.cl NA_Log_rows (rv 0)) (p_ lN ag) (fun _ _=>rfl)) ag (fun _ _=>rfl)) (rv 2) (L2.ax _))))) (ak Bw) aI)
   (ak (aY (jc PySem.F.plainAttrs_list PySem.F.slot_list_append PySem.F.type_list_append jK (aO KD_Log.cl NA_Log_rows (rv 0)) (af (cv (af (rv 1) (af (rv 3) (af (rv 2) ah)))) ah))))))),?_⟩
 simp_arith! only [bR,bo,bl,EJ]
 refine ⟨_,hla,l,t,rfl,sl'.m,sl'.p,st,sl'.v,?_⟩
 obtain ⟨M,hM⟩:∃ M:Sr→Hq→Prop,∀ τ' J',M τ' J'↔τ'=[some (.ref p),some (fr t),some (.int v),some (fr (l.at t))]∧J'=put J r (.lst ((if l.m=t then ls else ls ++ [l]).map aQ.V)):=⟨_,fun _ _=>Iff.rfl⟩
 refine ⟨M,?_,?_⟩
 ·simp_arith! only [bR,bo,bl,EJ,hla,uW]
  split
  ·rename_i e
   refine ⟨l.V,by simp,(hM _ _).mpr ⟨rfl,?_⟩⟩
   rw [if_pos e,List.map_append,List.map_cons,List.map_nil,List.dropLast_concat]
  ·rename_i e
   exact (hM _ _).mpr ⟨rfl,by rw [if_neg e,sy bl]⟩
 ·intro τ' J' hm
  obtain ⟨rfl,rfl⟩:=(hM _ _).mp hm
  clear hm hM M
  have et:turned (ls ++ [l]) t v=if (if l.m=t then ls else ls ++ [l]).getLast?.map aQ.v=some v then (if l.m=t then ls else ls ++ [l]) else (if l.m=t then ls else ls ++ [l]) ++ [⟨t,l.at t,v⟩]:=by
   unfold turned
   simp only [List.getLast?_concat,List.dropLast_concat]
  have hrl:(if l.m=t then ls else ls ++ [l]).length≤900:=by
   split
   ·rw [List.length_append] at hl;omega
   ·exact hl
  rw [et] at q
  generalize (if l.m=t then ls else ls ++ [l])=rest at q hrl ⊢
  simp_arith! only [bR,aq (Ne.symm npr),bo,EJ,dI,rE]
  rcases List.eq_nil_or_concat rest with rfl | ⟨ks,k,rfl⟩
  ·simp only [List.getLast?_nil,Option.map_none,reduceCtorEq,if_false,List.nil_append] at q
   simpa [Ca,sizeLine] using q
  ·rw [List.concat_eq_append] at *
   rw [List.getLast?_concat,Option.map_some] at q
   have hk:cK ((ks ++ [k]).map aQ.V) (-1)=some k.V:=by rw [List.map_append];exact uz _ _
   simp_arith! only [bR,hk,j_,List.length_map]
   rw [if_pos (by simp)]
   by_cases e:k.v=v
   ·rw [if_pos e];rw [if_pos (congrArg some e)] at q;exact q
   ·rw [if_neg e];rw [if_neg (fun z=>e (Option.some.inj z))] at q
    refine ⟨aW (by omega),?_⟩
    rw [List.map_append] at q
    exact q
theorem Js {rows:List aQ} {i:Nat} {b:aQ} (h:rows[i]?=some b):cK (rows.map aQ.V) (i:Int)=some b.V:=a9 (by rw [List.getElem?_map,h];rfl)
abbrev gP:Stmt:=(top 19)
theorem iu:L2.au ["rows","moment","at"] ["rows","moment"] (L2.ai gP):=dt
def qQ:bX:=fun xs J Q _=>∃ (x:PV) (t:Rat) (ys:List PV) (ms:List Rat),xs=[x,fr t]∧mx J x=some ys∧ys.length=ms.length∧ms.length≤900∧(∀ (i:Nat) y m,ys[i]?=some y→ms[i]?=some m→dT J y (.int 0)=some (fr m))∧Sz 9000 t∧(∀ m∈ms,Sz 9000 m)∧Q (.int ((lb ms t ms.length:Int) - 1)) J
theorem qw {f:Addr} {fd:FuncData} (F:bP K "last_by" "last_by" gP f fd) (Z:bD mg) (C_less:ba P w K mg base 1 "less" ["one","two"] cA):aF P w K mg base (cx P w) 2 f fd ["rows","moment"] (c9 K qQ):=by
 simp_arith [iu]
 ·obtain ⟨x,t,ys,ms,rfl,_⟩:=h;rfl
 obtain ⟨x,t,ys,ms,rfl,hx,hlen,hl,h0,st,sm,q⟩:=h
 refine ⟨_,(aj (aL (i:=2) iu.nd rfl (Or.inl rfl) (aP eV (aK bK rfl Z.len boot_len (af (rv 0) ah)) ag))
   (aj (i6 cH (du (eO (aE yp (rv 2) ag (L2.ax _)) (dH (bG (aR C_less B hr (by decide) rfl (af (rv 1) (af (ar aw (ar aw (rv 0) (rv 2) (fun _ _=>rfl)) ag (fun _ _=>rfl)) ah))))))) (ak (yD (i:=2) iu.nd rfl (Or.inl rfl) ag xJ)))
   (ak (az (rv 2))))),?_⟩
 simp_arith! only [bR,Et hx,hlen]
 refine ⟨fun k τ J'=>∃ j:Nat,τ=[some x,some (fr t),some (.int ((j:Int) - 1))]∧J'=J∧j≤ms.length∧k=j∧lb ms t ms.length=lb ms t j,⟨_,ms.length,rfl,rfl,Nat.le_refl _,rfl,rfl⟩,?_⟩
 rintro k τ J' ⟨j,rfl,rfl,hj,rfl,hb⟩
 simp_arith! only [bR,GQ hx,cA]
 cases k with
 | zero =>
  rw [if_neg (by omega)]
  rw [hb] at q
  exact q
 | succ k =>
  rw [if_pos (by omega)]
  obtain ⟨y,hy⟩:∃ y,ys[k]?=some y:=⟨_,List.getElem?_eq_getElem (by omega)⟩
  obtain ⟨m,hm⟩:∃ m,ms[k]?=some m:=⟨_,List.getElem?_eq_getElem (by omega)⟩
  have ha:cK ys (((k + 1:Nat):Int) - 1)=some y:=by
   have:((k + 1:Nat):Int) - 1=(k:Int):=by omega
   rw [this];exact a9 hy
  have em:ms.getD k 0=m:=by simp [List.getD,hm]
  have hu:lb ms t (k + 1)=if m≤t then k + 1 else lb ms t k:=by
   show (if ms.getD k 0≤t then k + 1 else lb ms t k)=_
   rw [em]
  refine ⟨_,ha,_,h0 k y m hy hm,m,rfl,st,sm m (List.mem_of_getElem? hm),?_⟩
  by_cases c:t < m
  ·rw [if_pos c]
   have hn:¬ m≤t:=Rat.not_le.mpr c
   rw [if_neg hn] at hu
   refine ⟨fun τ J''=>τ=[some x,some (fr t),some (.int ((k:Int) - 1))]∧J''=J',fun τ' J'' ⟨e1,e2⟩=>⟨k,Nat.lt_succ_self _,k,e1,e2,by omega,rfl,by rw [hb,hu]⟩,?_⟩
   simp_arith! only [bR]
   have:((k + 1:Nat):Int) - 1 - 1=(k:Int) - 1:=by omega
   exact this
  ·rw [if_neg c]
   rw [if_pos (Rat.not_lt.mp c)] at hu
   rw [hb,hu] at q
   exact q
abbrev fb:Stmt:=(L2.inClass (top 29) 5)
theorem iM:L2.au ["self","moment","joined"] ["self","moment"] (L2.ai fb):=dt
def qh (cL:Addr):bX:=fun xs J Q _=>∃ p r rows g t,xs=[.ref p,fr t]∧BZ cL J p r rows g∧rows≠[]∧Sz 900 t∧(∀ l∈rows,mq 900 l)∧(∀ q,g=some q→Sz 900 q)∧Q (.bl (there rows g t)) J
theorem pf {cL f:Addr} {fd:FuncData} (F:bP K "there" "Log.there" fb f fd) (Z:bD mg) (KD_Log:cQ K mg "Log" cL) (NA_Log_rows:ay K cL "rows") (NA_Log_gone:ay K cL "gone") (C_less:ba P w K mg base 1 "less" ["one","two"] cA):aF P w K mg base (cx P w) 2 f fd ["self","moment"] (c9 K (qh cL)):=by
 simp_arith [iM]
 ·obtain ⟨p,r,rows,g,t,rfl,_⟩:=h;rfl
 obtain ⟨p,r,rows,g,t,rfl,b,hne,st,sl,sg,q⟩:=h
 have bo:=b.o
 have bl:=b.l
 obtain ⟨l,ls,rfl⟩:∃ l ls,rows=l :: ls:=List.exists_cons_of_ne_nil hne
 have sl':=(sl l (by simp)).m
 refine ⟨_,(aj (aL (i:=2) iM.nd rfl (Or.inl rfl) (ar aw (ar aw (aO KD_Log.cl NA_Log_rows (rv 0)) ag (fun _ _=>rfl)) ag (fun _ _=>rfl)))
   (aj (aU (bG (aR C_less B hr (by decide) rfl (af (rv 1) (af (rv 2) ah)))) (ak (az gC)) aI)
   (ak (az (E8 (cZ uG (aO KD_Log.cl NA_Log_gone (rv 0)) fu (L2.ax _)) (pq (aR C_less B hr (by decide) rfl (af (rv 1) (af (aO KD_Log.cl NA_Log_gone (rv 0)) ah))))))))),?_⟩
 simp_arith! only [bR,bo,bl,EJ,Jx,uW,cA]
 refine ⟨st.mono (by decide),sl'.mono (by decide),?_⟩
 unfold there at q
 simp only [List.head?_cons] at q
 by_cases c:t < l.m
 ·rw [if_pos c]
  rw [decide_eq_true c] at q
  exact q
 ·rw [if_neg c]
  rw [decide_eq_false c] at q
  cases g with
  | none=>simpa [gv,Fy,CS,G6] using q
  | some u =>
   simp only [gv,oR,Bool.false_eq_true,if_false]
   simp only [G6] at q
   refine ⟨u,rfl,st.mono (by decide),(sg u rfl).mono (by decide),?_⟩
   simpa using q
abbrev eg:Stmt:=(L2.inClass (top 29) 6)
theorem mF:L2.au ["self","moment"] ["self","moment"] (L2.ai eg):=dt
def qG (cL eN:Addr):bX:=fun xs J Q E=>∃ p r rows g t,xs=[.ref p,fr t]∧BZ cL J p r rows g∧rows≠[]∧rows.length≤900∧Sz 900 t∧(∀ l∈rows,mq 900 l)∧(∀ q,g=some q→Sz 900 q)∧(there rows g t=true→∀ l,qo rows t=some l→Q l.V J)∧(there rows g t=false→E eN J)
theorem mV {cL eN f:Addr} {fd:FuncData} (F:bP K "leg_at" "Log.leg_at" eg f fd) (Z:bD mg) (KD_Log:cQ K mg "Log" cL) (NA_Log_rows:ay K cL "rows") (O_NotThere:Own K mg "NotThere" eN) (m_Log_there:b9 P w K mg base cL 2 "there" ["self","moment"] (qh cL))
  (C_last_by:ba P w K mg base 2 "last_by" ["rows","moment"] qQ):aF P w K mg base (cx P w) 3 f fd ["self","moment"] (c9 K (qG cL eN)):=by
 simp_arith [mF]
 ·obtain ⟨p,r,rows,g,t,rfl,_⟩:=h;rfl
 obtain ⟨p,r,rows,g,t,rfl,b,hne,hl,st,sl,sg,q,qe⟩:=h
 have bo:=b.o
 have bl:=b.l
 refine ⟨_,(aj (aU (cO (bG (a8 (pl:=_) m_Log_there B hr (by decide) (rv 0) (af (rv 1) ah)))) (ak (dq O_NotThere rfl bU B.kn rfl (af bz ah))) aI)
   (ak (az (ar aw (aO KD_Log.cl NA_Log_rows (rv 0)) (aR C_last_by B hr (by decide) rfl (af (aO KD_Log.cl NA_Log_rows (rv 0)) (af (rv 1) ah))) (fun _ _=>rfl))))),?_⟩
 simp_arith! only [bR,bo,bl,EJ]
 refine ⟨Hv _ _,p,r,rows,g,t,rfl,b,hne,st,sl,sg,?_⟩
 simp_arith! only [bR,eR,bo,bl,EJ]
 cases hc:there rows g t with
 | false=>rw [if_pos rfl];exact qe hc
 | true =>
  rw [if_neg (by decide)]
  obtain ⟨l,h1,h2,h3,h4,h5⟩:=yC hc
  refine ⟨_,t,rows.map aQ.V,rows.map aQ.m,rfl,by simp_arith! only [bR,bl],by simp,by simpa using hl,?_,st.mono (by decide),?_,?_⟩
  ·intro i y m hy hm
   rw [List.getElem?_map] at hy hm
   cases e:rows[i]? with
   | none=>rw [e] at hy;cases hy
   | some z=>rw [e] at hy hm;cases hy;cases hm;exact uW _ _
  ·intro m hm
   obtain ⟨z,hz,rfl⟩:=List.mem_map.mp hm
   exact (sl z hz).m.mono (by decide)
  ·rw [List.length_map]
   simp_arith! only [bR,bl]
   refine ⟨l.V,?_,q hc l h1⟩
   have:((lb (rows.map aQ.m) t rows.length:Nat):Int) - 1=((lb (rows.map aQ.m) t rows.length - 1:Nat):Int):=by omega
   rw [this]
   exact Js h5
abbrev fj:Stmt:=(L2.inClass (top 29) 2)
theorem oZ:L2.au ["self","moment"] ["self","moment"] (L2.ai fj):=dt
def qF (cL:Addr):bX:=fun xs J Q _=>∃ p r rows g t,xs=[.ref p,fr t]∧BZ cL J p r rows g∧Q .non (put J p (.ins cL [("rows",.ref r),("gone",fr t)]))
theorem oW {cL f:Addr} {fd:FuncData} (F:bP K "leave" "Log.leave" fj f fd) (Z:bD mg) (KD_Log:cQ K mg "Log" cL) (NA_Log_gone:ay K cL "gone"):aF P w K mg base (cx P w) 1 f fd ["self","moment"] (c9 K (qF cL)):=by
 simp_arith [oZ]
 ·obtain ⟨p,r,rows,g,t,rfl,_⟩:=h;rfl
 obtain ⟨p,r,rows,g,t,rfl,b,q⟩:=h
 have bo:=b.o
 refine ⟨_,(ak (ft KD_Log.cl NA_Log_gone (rv 0) (rv 1))),?_⟩
 simp_arith! only [bR,bo,Cr]
 exact ⟨by decide,q⟩
theorem gu {l:aQ} {t:Rat} (h:mq 900 l) (sm:Sz 900 t):Sz 3000 (l.at t):=by
 have s1:Sz 1801 (t - l.m):=sm.sub h.m
 have s2:Sz 1900 ((t - l.m) * (l.v:Rat)):=s1.mul h.v
 exact h.p.add s2
abbrev dG:Stmt:=(top 27)
theorem eD:L2.au ["name","leg","other_name","other_leg","moment","place","other_place"] ["name","leg","other_name","other_leg","moment"] (L2.ai dG):=dt
def xy:bX:=fun xs J Q _=>∃ (n n':Str) (l l':aQ) (t:Rat),xs=[.str n,l.V,.str n',l'.V,fr t]∧mq 900 l∧mq 900 l'∧Sz 900 t∧Q (.bl ((key t (n,l)).lt (key t (n',l')))) J
theorem kA {f:Addr} {fd:FuncData} (F:bP K "lies_behind" "lies_behind" dG f fd) (Z:bD mg) (C_place_on:ba P w K mg base 4 "place_on" ["leg","moment"] jq) (C_less:ba P w K mg base 1 "less" ["one","two"] cA):aF P w K mg base (cx P w) 5 f fd ["name","leg","other_name","other_leg","moment"] (c9 K xy):=by
 simp_arith [eD]
 ·obtain ⟨n,n',l,l',t,rfl,_⟩:=h;rfl
 obtain ⟨n,n',l,l',t,rfl,sl,sl',st,q⟩:=h
 refine ⟨_,(aj (aL (i:=5) eD.nd rfl (Or.inl rfl) (aR C_place_on B hr (by decide) rfl (af (rv 1) (af (rv 4) ah))))
   (aj (aL (i:=6) eD.nd rfl (Or.inl rfl) (aR C_place_on B hr (by decide) rfl (af (rv 3) (af (rv 4) ah))))
   (aj (aU (aE (iX hr.aS) (rv 5) (rv 6) (L2.ax _)) (ak (az (aR C_less B hr (by decide) rfl (af (rv 5) (af (rv 6) ah))))) aI)
   (aj (aU (aE (iX hr.aS) (ar aw (rv 1) ag (fun _ _=>rfl)) (ar aw (rv 3) ag (fun _ _=>rfl)) (L2.ax _)) (ak (az (cZ fh (ar aw (rv 1) ag (fun _ _=>rfl)) (ar aw (rv 3) ag (fun _ _=>rfl)) (L2.ax _)))) aI)
   (ak (az (cZ tO (rv 0) (rv 2) (L2.ax _)))))))),?_⟩
 simp_all! only []
 refine ⟨l,t,rfl,sl.m,sl.p,st,sl.v,?_⟩
 simp_all! only []
 refine ⟨l',t,rfl,sl'.m,sl'.p,st,sl'.v,?_⟩
 have a1:=gu sl st
 have a2:=gu sl' st
 simp_all! only []
 unfold Ky.lt key at q
 dsimp only at q
 by_cases e:l.at t=l'.at t
 ·rw [if_pos e] at q
  rw [if_pos e]
  simp_all! only [j_]
  by_cases e2:l.v=l'.v
  ·rw [if_pos e2] at q
   rw [if_pos e2]
   simp_all! only []
   exact q
  ·rw [if_neg e2] at q
   rw [if_neg e2]
   simp_all! only [j_]
   exact q
 ·rw [if_neg e] at q
  rw [if_neg e]
  simp_all! only [cA]
  exact ⟨a1.mono (by decide),a2.mono (by decide),q⟩
abbrev fV:Stmt:=(top 41)
theorem dM:L2.au ["legs","moment","names","name","at"] ["legs","moment"] (L2.ai fV):=dt
def bH (fs:List (Str × aQ)):List (Str × PV):=fs.map fun x=>(x.1,x.2.V)
def nt:bX:=fun xs J Q _=>∃ (D:Addr) (fs:List (Str × aQ)) (ep:Nat) (t:Rat),xs=[.ref D,fr t]∧J D=some (.dct (bH fs) ep)∧(fs.map (·.1)).Nodup∧fs.length≤100∧Sz 900 t∧(∀ x∈fs,mq 900 x.2)∧∀ p,J p=none→Q (.ref p) (put J p (.lst ((bZ t fs).map .str)))
theorem oq {f:Addr} {fd:FuncData} (F:bP K "in_order" "in_order" fV f fd) (Z:bD mg) (C_lies_behind:ba P w K mg base 5 "lies_behind" ["name","leg","other_name","other_leg","moment"] xy):aF P w K mg base (cx P w) 6 f fd ["legs","moment"] (c9 K nt):=by
 simp_arith [dM]
 ·obtain ⟨D,fs,ep,t,rfl,_⟩:=h;rfl
 obtain ⟨D,fs,ep,t,rfl,hD,hnd,hlen,st,sl,q⟩:=h
 refine ⟨_,(aj (aL (i:=2) dM.nd rfl (Or.inl rfl) (jY ah))
   (aj (fS cH rfl (vn (rv 0)) (bT (i:=3) dM.nd rfl (Or.inl rfl)) (aj (aL (i:=4) dM.nd rfl (Or.inl rfl) (aK bK rfl Z.len boot_len (af (rv 2) ah)))
   (aj (i6 cH (du (eO (aE ka (rv 4) ag (L2.ax _)) (dH (bG (aR C_lies_behind B hr (by decide) rfl (af (rv 3) (af (ar dW (rv 0) (rv 3) (fun _ _=>rfl)) (af (ar aw (rv 2) (aP eV (rv 4) ag) (fun _ _=>rfl)) (af (ar dW (rv 0) (ar aw (rv 2) (aP eV (rv 4) ag) (fun _ _=>rfl)) (fun _ _=>rfl)) (af (rv 1) ah)))))))))) (ak (yD (i:=4) dM.nd rfl (Or.inl rfl) ag xJ)))
   (ak (aY (jc PySem.F.plainAttrs_list PySem.F.slot_list_insert PySem.F.type_list_insert jB (rv 2) (af (rv 4) (af (rv 3) ah))))))))
   (ak (az (rv 2))))),?_⟩
 simp_all! only []
 intro r hr'
 have nDr:D≠r:=by intro e;subst e;rw [hD] at hr';cases hr'
 simp_all! only [aq nDr,hD]
 have hkv:(bH fs).map (fun kv=>PV.str kv.1)=fs.map fun x=>PV.str x.1:=by unfold bH;rw [List.map_map];rfl
 rw [hkv]
 obtain ⟨Inv,hInv⟩:∃ Inv:Nat→Sr→Hq→Prop,∀ i τ J',Inv i τ J'↔∃ (u3 u4:Option PV),τ=[some (.ref D),some (fr t),some (.ref r),u3,u4]∧J'=put J r (.lst ((bZ t (fs.take i)).map .str)):=⟨_,fun _ _ _=>Iff.rfl⟩
 refine iw Inv ((hInv _ _ _).mpr ⟨_,_,rfl,rfl⟩) (fun i τ J' h=>?_) ?_ ?_
 ·obtain ⟨_,_,_,rfl⟩:=(hInv _ _ _).mp h
  rw [aq nDr];exact hD
 ·intro i x τ J' hx hv
  obtain ⟨u3,u4,rfl,rfl⟩:=(hInv _ _ _).mp hv
  clear hv
  have hi:i < fs.length:=by have:=(List.getElem?_eq_some_iff.mp hx).1;simpa using this
  rw [List.getElem?_map,List.getElem?_eq_getElem hi] at hx
  cases hx
  rcases hfi:fs[i] with ⟨n,l⟩
  have hmem:(n,l)∈fs:=by rw [← hfi];exact List.getElem_mem hi
  have et:fs.take (i + 1)=fs.take i ++ [(n,l)]:=by rw [List.take_add_one,List.getElem?_eq_getElem hi,hfi];rfl
  have hndt:((fs.take (i + 1)).map (·.1)).Nodup:=by rw [List.map_take];exact hnd.sublist (List.take_sublist _ _)
  rw [et,List.map_append,List.map_cons,List.map_nil] at hndt
  obtain ⟨hnd1,hnew⟩:=f9 hndt
  obtain ⟨ys,hys⟩:∃ ys,cT ((fs.take i).map (key t))=ys:=⟨_,rfl⟩
  have srt:kq Ky.lt ys:=by rw [← hys];exact dg (by rw [c5];exact hnd1)
  have hyl:ys.length=i:=by rw [← hys,i9,List.length_map,List.length_take];omega
  have hym:∀ y∈ys,∃ l',(y.n,l')∈fs∧y=key t (y.n,l')∧y.n≠n:=fun y hy=>by
   rw [← hys,bq,List.mem_map] at hy
   obtain ⟨x',hx',rfl⟩:=hy
   exact ⟨x'.2,List.mem_of_mem_take hx',rfl,fun e=>hnew (List.mem_map.mpr ⟨x',hx',e⟩)⟩
  have eo:(bZ t (fs.take i)).map PV.str=ys.map fun y=>PV.str y.n:=by unfold bZ;rw [hys,List.map_map];rfl
  have en:(bZ t (fs.take (i + 1))).map PV.str=(ku Ky.lt (key t (n,l)) ys).map fun y=>PV.str y.n:=by
   unfold bZ;rw [et,List.map_append,List.map_cons,List.map_nil,fH,hys,List.map_map];rfl
  rw [eo]
  have hvn:iG (bH fs) n=some l.V:=ij (f:=aQ.V) hnd hmem
  have sll:=sl _ hmem
  simp_all! only [av,List.length_map]
  refine ⟨fun m τ' J'=>m≤ys.length∧τ'=[some (.ref D),some (fr t),some (.ref r),some (.str n),some (.int (m:Nat))]∧J'=put J r (.lst (ys.map fun y=>PV.str y.n))∧∀ (j:Nat) y,m≤j→ys[j]?=some y→(key t (n,l)).lt y=true,⟨ys.length,Nat.le_refl _,rfl,rfl,fun j y hj e=>by rw [List.getElem?_eq_none hj] at e;cases e⟩,?_⟩
  rintro m τ' J' ⟨hm,rfl,rfl,hall⟩
  have fin:(∀ (j:Nat) y,j < m→ys[j]?=some y→y.lt (key t (n,l))=true)→Inv (i + 1) [some (.ref D),some (fr t),some (.ref r),some (.str n),some (.int (m:Nat))] (put J r (.lst ((ys.map fun y=>PV.str y.n).take m ++ .str n :: (ys.map fun y=>PV.str y.n).drop m))):=fun hlow=>by
   refine (hInv _ _ _).mpr ⟨_,_,rfl,?_⟩
   rw [en,← uV hm hlow fun j y hj e=>Ky.E6 (hall j y hj e),List.map_append,List.map_cons,List.map_take,List.map_drop]
   rfl
  simp_all! only [av,aq nDr,hD,hvn]
  by_cases c0:0 < m
  ·rw [if_pos (by omega)]
   obtain ⟨m',rfl⟩:∃ m',m=m' + 1:=⟨m - 1,by omega⟩
   obtain ⟨y,hy⟩:∃ y,ys[m']?=some y:=⟨_,List.getElem?_eq_getElem (by omega)⟩
   obtain ⟨l',hl',ey,ny⟩:=hym y (List.mem_of_getElem? hy)
   have ha:cK (ys.map fun y=>PV.str y.n) (((m' + 1:Nat):Int) - 1)=some (.str y.n):=by
    rw [show ((m' + 1:Nat):Int) - 1=((m':Nat):Int) by omega]
    exact a9 (by rw [List.getElem?_map,hy];rfl)
   have hvy:iG (bH fs) y.n=some l'.V:=ij (f:=aQ.V) hnd hl'
   simp_all! only [ha,hvy]
   refine ⟨n,y.n,l,l',t,rfl,sll,sl _ hl',st,?_⟩
   rw [← ey]
   cases hc:(key t (n,l)).lt y with
   | true =>
    simp_all! only []
    refine ⟨_,fun τ'' J'' h=>⟨m',Nat.lt_succ_self _,h⟩,⟨by omega,?_,rfl,fun j z hj e=>?_⟩⟩
    ·rw [show ((m' + 1:Nat):Int) - 1=((m':Nat):Int) by omega]
    ·rcases Nat.lt_or_eq_of_le hj with h | h
     ·exact hall j z (by omega) e
     ·subst h;rw [hy] at e;cases e;exact hc
   | false =>
    simp_all! only [av]
    refine ⟨_,m' + 1,rfl,rfl,by rw [List.length_map];omega,aW (by rw [List.length_map];omega),by omega,?_⟩
    rw [dI]
    refine fin fun j z hj e=>?_
    have hyx:y.lt (key t (n,l))=true:=by
     rcases Ky.Fq (a:=y) (b:=key t (n,l)) ny with h | h
     ·exact h
     ·rw [hc] at h;cases h
    exact qC (lt:=Ky.lt) Ky.tr srt hy e (by omega) hyx
  ·rw [if_neg (by omega)]
   simp_all! only [av]
   refine ⟨_,m,rfl,rfl,by rw [List.length_map];omega,aW (by rw [List.length_map];omega),by omega,?_⟩
   rw [dI]
   exact fin fun j z hj e=>by omega
 ·intro τ J' hv
  obtain ⟨u3,u4,rfl,rfl⟩:=(hInv _ _ _).mp hv
  rw [List.length_map,List.take_length]
  simp_all! only []
  exact q r hr'
def l9 (K:PySem.W.Frag) (mg:Str→Option Value):Prop:=∃ a:Addr,mg "NOUGHT"=some (.ref a)∧∀ H:Hp,fz K H a [.int 0,.int 1]
theorem wH {K:PySem.W.Frag} {h:Heap} {mg:Str→Option Value} (X:K.In h) (G:h.Ns mainGlobals mg) {a:Addr} {od:Option Addr} {n:Nat} {sl:Array (Option Value)} {t u:Tok}
  (e:PySem.W.nsIn K mainGlobals "NOUGHT"=some (some (.ref a))) (l:K.lookup a=some ⟨.type "tuple",od,.seq #[.int 0 t,.int 1 u] n,sl⟩):l9 K mg :=
 ⟨a,PySem.W.mg_of X G e,fun _=>.inr ⟨_,_,_,l,rfl,rfl,(by show 2≤sizeLine;decide),.cons ⟨t,rfl⟩ (.cons ⟨u,rfl⟩ .nil)⟩⟩
structure Cf where
 n:Str
 a:Addr
 r:Addr
 w:List aQ
 g:Option Rat
structure Ln where
 t:Rat
 d:Addr
 e:Nat
 o:Addr
 cs:List Cf
 row:List Str
def Cf.cur (c:Cf):aQ:=c.w.getLast?.getD ⟨0,0,0⟩
def Ln.wA (L:Ln):List Cf:=L.cs.filter fun c=>c.g.isNone
def Ln.fs (L:Ln):List (Str × aQ):=L.wA.map fun c=>(c.n,c.cur)
structure aV (cN cL:Addr) (J:Hq) (p:Addr) (L:Ln):Prop where
 ob:J p=some (.ins cN [("now",fr L.t),("logs",.ref L.d),("row",.ref L.o)])
 dc:J L.d=some (.dct (L.cs.map fun c=>(c.n,PV.ref c.a)) L.e)
 rw:J L.o=some (.lst (L.row.map .str))
 lg:∀ c∈L.cs,BZ cL J c.a c.r c.w c.g
 ap:(L.cs.map Cf.r).Nodup
 ao:∀ c∈L.cs,c.r≠L.o
structure aT (L:Ln):Prop where
 nd:(L.cs.map Cf.n).Nodup
 ne:∀ c∈L.cs,c.w≠[]
 le:∀ c∈L.cs,∀ l∈c.w,l.m≤L.t
 ck:∀ c∈L.cs,∀ l∈c.w,mG l
 len:∀ c∈L.cs,c.w.length≤200
 gz:∀ c∈L.cs,∀ q,c.g=some q→Sc fK MM q∧q≤L.t
 t0:0≤L.t
 ts:Sc fK MM L.t
 many:L.cs.length≤100
 rm:∀ n,n∈L.row↔n∈L.fs.map (·.1)
 rn:L.row.Nodup
 rl:L.row.length≤12
structure bQ (L:Ln):Prop extends aT L where
 row:L.row=bZ L.t L.fs
def Ln.own (L:Ln) (p a:Addr):Prop:=a=p∨a=L.d∨a=L.o∨∃ c∈L.cs,a=c.a∨a=c.r
structure Mv (J J':Hq) (S S':Addr→Prop):Prop where
 keep:∀ a o,J a=some o→¬ S a→J' a=some o
 own:∀ a,S' a→S a∨J a=none
 mono:∀ a,J' a=none→J a=none
theorem Mv.refl (J:Hq) (S:Addr→Prop):Mv J J S S:=⟨fun _ _ h _=>h,fun _ h=>.inl h,fun _ h=>h⟩
theorem Mv.trans {J J' J'':Hq} {S S' S'':Addr→Prop} (h:Mv J J' S S') (k:Mv J' J'' S' S''):Mv J J'' S S'':=by
 refine ⟨fun a o e n=>k.keep a o (h.keep a o e n) fun z=>?_,fun a z=>?_,fun a z=>h.mono a (k.mono a z)⟩
 ·rcases h.own a z with q | q
  ·exact n q
  ·rw [q] at e;cases e
 ·rcases k.own a z with q | q
  ·exact h.own a q
  ·exact .inr (h.mono a q)
theorem Mv.new {J:Hq} {S:Addr→Prop} {x:Addr} {o:HQ} (h:J x=none):Mv J (put J x o) S S:=by
 refine ⟨fun a u e _=>?_,fun _ z=>.inl z,fun a z=>?_⟩
 ·rw [aq (fun q=>by subst q;rw [h] at e;cases e)];exact e
 ·by_cases q:a=x
  ·subst q;rw [av] at z;cases z
  ·rw [aq q] at z;exact z
theorem Mv.wz {J:Hq} {S:Addr→Prop} {x:Addr} {o:HQ} (h:J x=none):Mv J (put J x o) S (fun a=>S a∨a=x) :=
 ⟨(Mv.new (S:=S) h).keep,fun a z=>z.elim .inl fun e=>.inr (by rw [e];exact h),(Mv.new (S:=S) h).mono⟩
theorem aV.keep {cN cL:Addr} {J J':Hq} {p:Addr} {L:Ln} (h:aV cN cL J p L) (k:∀ a o,L.own p a→J a=some o→J' a=some o):aV cN cL J' p L :=
 ⟨k _ _ (.inl rfl) h.ob,k _ _ (.inr (.inl rfl)) h.dc,k _ _ (.inr (.inr (.inl rfl))) h.rw,fun c hc=>⟨k _ _ (.inr (.inr (.inr ⟨c,hc,.inl rfl⟩))) (h.lg c hc).o,k _ _ (.inr (.inr (.inr ⟨c,hc,.inr rfl⟩))) (h.lg c hc).l⟩,h.ap,h.ao⟩
theorem aV.some {cN cL:Addr} {J:Hq} {p:Addr} {L:Ln} (h:aV cN cL J p L) {a:Addr} (o:L.own p a):J a≠none:=by
 rcases o with rfl | rfl | rfl | ⟨c,hc,rfl | rfl⟩
 ·rw [h.ob];exact fun z=>nomatch z
 ·rw [h.dc];exact fun z=>nomatch z
 ·rw [h.rw];exact fun z=>nomatch z
 ·rw [(h.lg c hc).o];exact fun z=>nomatch z
 ·rw [(h.lg c hc).l];exact fun z=>nomatch z
theorem aV.fresh {cN cL:Addr} {J:Hq} {p x:Addr} {L:Ln} {o:HQ} (h:aV cN cL J p L) (hx:J x=none):aV cN cL (put J x o) p L :=
 h.keep fun a u ow e=>by rw [aq (fun q=>by subst q;rw [hx] at e;cases e)];exact e
theorem D4 {J:Hq} {a b C C':Addr} {fs gs:List (Str × PV)} (h:J a=Option.some (.ins C fs)) (k:J b=Option.some (.ins C' gs)) (n:fs.map (·.1)≠gs.map (·.1)):a≠b:=by
 intro e;subst e;rw [h] at k
 have:=HQ.ins.inj (Option.some.inj k)
 exact n (by rw [this.2])
theorem aV.A8 {cN cL:Addr} {J:Hq} {p:Addr} {L:Ln} (h:aV cN cL J p L):L.d≠p:=by intro e;have:=h.ob;rw [← e,h.dc] at this;cases this
theorem aV.AF {cN cL:Addr} {J:Hq} {p:Addr} {L:Ln} (h:aV cN cL J p L):L.o≠p:=by intro e;have:=h.ob;rw [← e,h.rw] at this;cases this
theorem aV.Hm {cN cL:Addr} {J:Hq} {p:Addr} {L:Ln} (h:aV cN cL J p L):L.d≠L.o:=by intro e;have:=h.rw;rw [← e,h.dc] at this;cases this
theorem zx:([("rows":Str),("gone":Str)]:List Str)≠[("now":Str),("logs":Str),("row":Str)]:=by decide +kernel
theorem aV.G9 {cN cL:Addr} {J:Hq} {p:Addr} {L:Ln} (h:aV cN cL J p L) {c:Cf} (hc:c∈L.cs):c.a≠p:=D4 (h.lg c hc).o h.ob zx
theorem aV.EE {cN cL:Addr} {J:Hq} {p:Addr} {L:Ln} (h:aV cN cL J p L) {c:Cf} (hc:c∈L.cs):c.r≠p:=by intro e;have:=h.ob;rw [← e,(h.lg c hc).l] at this;cases this
theorem aV.IL {cN cL:Addr} {J:Hq} {p:Addr} {L:Ln} (h:aV cN cL J p L) {c:Cf} (hc:c∈L.cs):c.a≠L.d:=by intro e;have:=h.dc;rw [← e,(h.lg c hc).o] at this;cases this
theorem aV.IX {cN cL:Addr} {J:Hq} {p:Addr} {L:Ln} (h:aV cN cL J p L) {c:Cf} (hc:c∈L.cs):c.r≠L.d:=by intro e;have:=h.dc;rw [← e,(h.lg c hc).l] at this;cases this
theorem aV.Ih {cN cL:Addr} {J:Hq} {p:Addr} {L:Ln} (h:aV cN cL J p L) {c:Cf} (hc:c∈L.cs):c.a≠L.o:=by intro e;have:=h.rw;rw [← e,(h.lg c hc).o] at this;cases this
theorem aV.Jq {cN cL:Addr} {J:Hq} {p:Addr} {L:Ln} (h:aV cN cL J p L) {c c':Cf} (hc:c∈L.cs) (hc':c'∈L.cs):c.a≠c'.r:=by intro e;have:=(h.lg c' hc').l;rw [← e,(h.lg c hc).o] at this;cases this
theorem aV.DD {cN cL:Addr} {J:Hq} {p o':Addr} {L:Ln} {row:List Str} (h:aV cN cL J p L) (ho:J o'=Option.some (.lst (row.map .str))) (nc:∀ c∈L.cs,c.r≠o'):aV cN cL (put J p (.ins cN [("now",fr L.t),("logs",.ref L.d),("row",.ref o')])) p { L with o:=o',row:=row } :=
 ⟨av,by show put J p _ L.d=_;rw [aq h.A8];exact h.dc,by show put J p _ o'=_;rw [aq (fun e=>by rw [e,h.ob] at ho;cases ho)];exact ho,
  fun c hc=>⟨by rw [aq (h.G9 hc)];exact (h.lg c hc).o,by rw [aq (h.EE hc)];exact (h.lg c hc).l⟩,h.ap,nc⟩
theorem eS {J:Hq} {S S':Addr→Prop} {x:Addr} {o:HQ} (hx:S x) (hS:∀ a,S' a→S a∨J a=none):Mv J (put J x o) S S':=by
 refine ⟨fun a u e n=>?_,hS,fun a z=>?_⟩
 ·rw [aq (fun q=>by subst q;exact n hx)];exact e
 ·by_cases q:a=x
  ·subst q;rw [av] at z;cases z
  ·rw [aq q] at z;exact z
theorem aT.Bc {L:Ln} (h:aT L):Sz 900 L.t:=(tX h.ts).mono (by decide)
theorem mG.EK {l:aQ} (h:mG l):mq 900 l:=⟨h.Jc.mono (by decide),h.IT.mono (by decide),.small (by have:=h.v;omega) (by have:=h.v;omega)⟩
theorem Cf.fe {c:Cf} (h:c.w≠[]):c.w.getLast?=Option.some c.cur∧c.cur∈c.w:=by
 unfold Cf.cur
 rw [List.getLast?_eq_some_getLast h]
 exact ⟨rfl,List.getLast_mem h⟩
theorem aT.Jy {L:Ln} (h:aT L) {c:Cf} (hc:c∈L.cs):qo c.w L.t=Option.some c.cur:=by
 unfold qo
 rw [List.filter_eq_self.mpr fun l hl=>decide_eq_true (h.le c hc l hl)]
 exact (Cf.fe (h.ne c hc)).1
theorem aT.there {L:Ln} (h:aT L) {c:Cf} (hc:c∈L.cs) (hg:c.g=none):there c.w c.g L.t=true:=by
 obtain ⟨l,ls,e⟩:=List.exists_cons_of_ne_nil (h.ne c hc)
 have:=h.le c hc l (by rw [e];simp)
 rw [hg,e]
 unfold Ov.there
 simp only [List.head?_cons,G6,Bool.and_true]
 rw [decide_eq_false (Rat.not_lt.mpr this)];rfl
theorem Ln.cI {L:Ln} {c:Cf}:c∈L.wA↔c∈L.cs∧c.g=none:=by
 unfold Ln.wA
 rw [List.mem_filter]
 cases c.g <;> simp
theorem dO (L:Ln):L.fs.map (·.1)=L.wA.map Cf.n:=by unfold Ln.fs;rw [List.map_map];rfl
theorem aT.C8 {L:Ln} (h:aT L):(L.fs.map (·.1)).Nodup:=by
 rw [dO]
 unfold Ln.wA
 exact h.nd.sublist (List.Sublist.map _ List.filter_sublist)
theorem aT.found {L:Ln} (h:aT L) {n:Str} (hn:n∈L.row):∃ c∈L.cs,c.n=n∧c.g=none:=by
 have:=(h.rm n).mp hn
 rw [dO,List.mem_map] at this
 obtain ⟨c,hc,e⟩:=this
 exact ⟨c,(Ln.cI.mp hc).1,e,(Ln.cI.mp hc).2⟩
theorem aT.va {L:Ln} (h:aT L) {c:Cf} (hc:c∈L.cs):iG (L.cs.map fun c=>(c.n,PV.ref c.a)) c.n=Option.some (.ref c.a):=by
 have e:(L.cs.map fun c=>(c.n,PV.ref c.a))=((L.cs.map fun c=>(c.n,c.a)).map fun x=>(x.1,PV.ref x.2)):=by rw [List.map_map];rfl
 rw [e]
 exact ij (f:=PV.ref) (by rw [List.map_map];exact h.nd) (List.mem_map.mpr ⟨c,hc,rfl⟩)
theorem aT.JB {L:Ln} (h:aT L) {n:Str}:(iG (L.cs.map fun c=>(c.n,PV.ref c.a)) n).isSome=decide (n∈L.cs.map Cf.n):=by
 have e:(L.cs.map fun c=>(c.n,PV.ref c.a))=((L.cs.map fun c=>(c.n,c.a)).map fun x=>(x.1,PV.ref x.2)):=by rw [List.map_map];rfl
 rw [e,vO (f:=PV.ref) (by rw [List.map_map];exact h.nd)]
 rw [List.map_map];rfl
theorem aT.uniq {L:Ln} (h:aT L) {c c':Cf} (hc:c∈L.cs) (hc':c'∈L.cs) (e:c.n=c'.n):c=c':=by
 obtain ⟨i,hi,rfl⟩:=List.getElem_of_mem hc
 obtain ⟨j,hj,rfl⟩:=List.getElem_of_mem hc'
 have:=(List.getElem_inj (xs:=L.cs.map Cf.n) (i:=i) (j:=j) (h₀:=by simpa using hi) (h₁:=by simpa using hj) h.nd).mp (by rw [List.getElem_map,List.getElem_map];exact e)
 subst this;rfl
theorem lT (a b c:PV):([("now",a),("logs",b),("row",c)]:List (Str × PV)).lookup ("now":Str)=Option.some a:=rfl
theorem wM (a b c:PV):([("now",a),("logs",b),("row",c)]:List (Str × PV)).lookup ("logs":Str)=Option.some b:=rfl
theorem kB (a b c:PV):([("now",a),("logs",b),("row",c)]:List (Str × PV)).lookup ("row":Str)=Option.some c:=rfl
theorem dS (m:Str) (a b c:PV) (h:(m == ("now":Str))=false:=by decide +kernel) (k:(m == ("logs":Str))=false:=by decide +kernel) (l:(m == ("row":Str))=false:=by decide +kernel):([("now",a),("logs",b),("row",c)]:List (Str × PV)).lookup m=none:=by
 rw [List.lookup_cons,h];simp only;rw [List.lookup_cons,k];simp only;rw [List.lookup_cons,l];rfl
theorem Gn:(("now":Str)=("logs":Str))=False:=eq_false (by decide +kernel)
theorem Cc:(("now":Str)=("row":Str))=False:=eq_false (by decide +kernel)
theorem CF:(("logs":Str)=("row":Str))=False:=eq_false (by decide +kernel)
theorem A5 (a b c z:PV):j0 ("row":Str) z ([("now",a),("logs",b),("row",c)]:List (Str × PV))=([("now",a),("logs",b),("row",z)]:List (Str × PV)):=by simp only [j0,Cc,CF,if_false,if_true]
theorem D0 {J:Hq} {a:Addr} {xs:List PV} (h:J a=Option.some (.lst xs)):EN J (.ref a)=Option.some xs:=by unfold EN;simp only [h]
abbrev cV:Stmt:=(L2.inClass (top 42) 0)
theorem jF:L2.au ["self"] ["self"] (L2.ai cV):=dt
def vm (cN cL:Addr):bX:=fun xs J Q _=>∃ p,xs=[.ref p]∧J p=some (.ins cN [])∧∀ J' d e o,aV cN cL J' p ⟨0,d,e,o,[],[]⟩→Mv J J' (fun a=>a=p) (Ln.own ⟨0,d,e,o,[],[]⟩ p)→Q .non J'
theorem pd {cN cL f:Addr} {fd:FuncData} (F:bP K "__init__" "Lane.__init__" cV f fd) (N:l9 K mg) (KD_Lane:cQ K mg "Lane" cN) (NA_Lane_now:ay K cN "now") (NA_Lane_logs:ay K cN "logs") (NA_Lane_row:ay K cN "row"):aF P w K mg base (cx P w) 1 f fd ["self"] (c9 K (vm cN cL)):=by
 simp_arith [jF]
 ·obtain ⟨p,rfl,_⟩:=h;rfl
 obtain ⟨p,rfl,hp,q⟩:=h
 obtain ⟨aN,gN,sN⟩:=N
 have rN:∀ (J:Hq) (H:Hp),bJ K J H (fr 0) (.ref aN):=fun J H=>⟨aN,_,rfl,sN H,⟨_,_,rfl,rfl,_,_,rfl,rfl,rfl⟩⟩
 refine ⟨_,(aj (ft KD_Lane.cl NA_Lane_now (rv 0) (d7 (v:=.ref aN) (fr 0) rfl gN rfl rN))
   (aj (ft KD_Lane.cl NA_Lane_logs (rv 0) uQ)
   (ak (ft KD_Lane.cl NA_Lane_row (rv 0) (jY ah))))),?_⟩
 simp_all! only [hp]
 refine ⟨by decide,?_⟩
 simp_all! only []
 intro d hd ep
 have A8:d≠p:=by intro e;subst e;rw [av] at hd;cases hd
 simp_all! only [aq (Ne.symm A8),av]
 simp only [Gn,if_false]
 refine ⟨by decide,fun o ho=>?_⟩
 have jd:J d=none:=by rw [aq A8] at hd;exact hd
 have AF:o≠p:=by intro e;subst e;rw [av] at ho;cases ho
 have nod:o≠d:=by intro e;subst e;rw [aq AF,av] at ho;cases ho
 have jo:J o=none:=by rw [aq AF,aq nod,aq AF] at ho;exact ho
 refine ⟨_,by rw [aq (Ne.symm AF)];exact av,by show (2:Nat) < 1000;decide,?_⟩
 have pr:j0 ("row":Str) (PV.ref o) ([("now",fr 0),("logs",.ref d)]:List (Str × PV))=([("now",fr 0),("logs",.ref d),("row",.ref o)]:List (Str × PV)):=by simp only [j0,Cc,CF,if_false]
 rw [pr]
 refine q _ d ep o ⟨av,by rw [aq A8,aq (Ne.symm nod),aq A8];exact av,by rw [aq AF];exact av,(by simp),(by simp),(by simp)⟩ ⟨fun a u e na=>?_,fun a ow=>?_,fun a z=>?_⟩
 ·have na1:a≠d:=fun z=>by subst z;rw [jd] at e;cases e
  have na2:a≠o:=fun z=>by subst z;rw [jo] at e;cases e
  rw [aq na,aq na2,aq na,aq na1,aq na];exact e
 ·rcases ow with rfl | rfl | rfl | ⟨c,hc,_⟩
  ·exact .inl rfl
  ·exact .inr jd
  ·exact .inr jo
  ·cases hc
 ·by_cases z1:a=p
  ·subst z1;rw [av] at z;cases z
  by_cases z2:a=o
  ·subst z2;exact jo
  by_cases z3:a=d
  ·subst z3;exact jd
  rw [aq z1,aq z2,aq z1,aq z3,aq z1] at z;exact z
abbrev bM:Stmt:=(L2.inClass (top 42) 22)
theorem gd:L2.au ["self","name"] ["self","name"] (L2.ai bM):=dt
def jt (cN cL eC:Addr):bX:=fun xs J Q E=>∃ p L n,xs=[.ref p,.str n]∧aV cN cL J p L∧(n∈L.row→Q .non J)∧(n ∉ L.row→E eC J)
theorem gi {cN cL eC f:Addr} {fd:FuncData} (F:bP K "must_be_there" "Lane.must_be_there" bM f fd) (Z:bD mg) (KD_Lane:cQ K mg "Lane" cN) (NA_Lane_row:ay K cN "row") (O_NoCraft:Own K mg "NoCraft" eC):aF P w K mg base (cx P w) 1 f fd ["self","name"] (c9 K (jt cN cL eC)):=by
 simp_arith [gd]
 ·obtain ⟨p,L,n,rfl,_⟩:=h;rfl
 obtain ⟨p,L,n,rfl,b,q,qe⟩:=h
 have bo:=b.ob
 refine ⟨_,(ak (aU (aE u_ (rv 1) (aO KD_Lane.cl NA_Lane_row (rv 0)) (by with_unfolding_all rfl)) (ak (dq O_NoCraft rfl bU B.kn rfl (af bz ah))) aI)),?_⟩
 simp_all! only [bo,kB,GK,D0 b.rw]
 refine ⟨L.row,rfl,?_⟩
 by_cases c:n∈L.row
 ·rw [if_pos (by simp [c])]
  exact q c
 ·rw [if_neg (by simp [c])]
  simp_all! only [eR]
  exact qe c
abbrev dF:Stmt:=(L2.inClass (top 42) 23)
theorem lY:L2.au ["self","name"] ["self","name"] (L2.ai dF):=dt
def gr (cN cL eC:Addr):bX:=fun xs J Q E=>∃ p L n,xs=[.ref p,.str n]∧aV cN cL J p L∧aT L∧(∀ c∈L.cs,c.n=n→c.g=none→Q c.cur.V J)∧(n ∉ L.row→E eC J)
theorem lz {cN cL eC eN f:Addr} {fd:FuncData} (F:bP K "leg_of" "Lane.leg_of" dF f fd) (Z:bD mg) (KD_Lane:cQ K mg "Lane" cN) (NA_Lane_logs:ay K cN "logs") (NA_Lane_now:ay K cN "now") (m_Lane_must_be_there:b9 P w K mg base cN 1 "must_be_there" ["self","name"] (jt cN cL eC)) (m_Log_leg_at:b9 P w K mg base cL 3 "leg_at" ["self","moment"] (qG cL eN)) :
  aF P w K mg base (cx P w) 4 f fd ["self","name"] (c9 K (gr cN cL eC)):=by
 simp_arith [lY]
 ·obtain ⟨p,L,n,rfl,_⟩:=h;rfl
 obtain ⟨p,L,n,rfl,b,ok,q,qe⟩:=h
 have bo:=b.ob
 have bd:=b.dc
 refine ⟨_,(aj (aY (a8 (pl:=_) m_Lane_must_be_there B hr (by decide) (rv 0) (af (rv 1) ah)))
   (ak (az (a8 (pl:=_) m_Log_leg_at B hr (by decide) (ar dW (aO KD_Lane.cl NA_Lane_logs (rv 0)) (rv 1) (fun _ _=>rfl)) (af (aO KD_Lane.cl NA_Lane_now (rv 0)) ah))))),?_⟩
 simp_all! only [bo]
 refine ⟨dS _ _ _ _,p,L,n,rfl,b,fun hn=>?_,qe⟩
 obtain ⟨c,hc,rfl,hg⟩:=ok.found hn
 have lo:=(b.lg c hc).o
 simp_all! only [bo,wM,bd,ok.va hc,lo]
 refine ⟨HF _ _,?_⟩
 simp_all! only [bo,lT]
 refine ⟨c.a,c.r,c.w,c.g,L.t,rfl,b.lg c hc,ok.ne c hc,Nat.le_trans (ok.len c hc) (by decide),ok.Bc,fun l hl=>(ok.ck c hc l hl).EK,fun q' hq=>(tX (ok.gz c hc q' hq).1).mono (by decide),fun _ l hl=>?_,fun z=>?_⟩
 ·rw [ok.Jy hc] at hl;cases hl
  exact q c hc rfl hg
 ·rw [ok.there hc hg] at z;cases z
abbrev cU:Stmt:=(L2.inClass (top 42) 24)
theorem lZ:L2.au ["self"] ["self"] (L2.ai cU):=dt
theorem zL {L:Ln} (ok:aT L) {f:Str→aQ} (hf:∀ c∈L.cs,c.g=none→f c.n=c.cur):bZ L.t (L.row.map fun n=>(n,f n))=bZ L.t L.fs:=by
 refine ra (by rw [List.map_map];show (L.row.map fun n=>n).Nodup;rw [List.map_id'];exact ok.rn) ok.C8 fun x=>?_
 rw [List.mem_map,List.mem_map]
 constructor
 ·rintro ⟨y,hy,rfl⟩
  obtain ⟨n,hn,rfl⟩:=List.mem_map.mp hy
  obtain ⟨c,hc,rfl,hg⟩:=ok.found hn
  exact ⟨(c.n,c.cur),List.mem_map.mpr ⟨c,Ln.cI.mpr ⟨hc,hg⟩,rfl⟩,by rw [hf c hc hg]⟩
 ·rintro ⟨y,hy,rfl⟩
  obtain ⟨c,hc,rfl⟩:=List.mem_map.mp hy
  obtain ⟨hc,hg⟩:=Ln.cI.mp hc
  refine ⟨(c.n,f c.n),List.mem_map.mpr ⟨c.n,(ok.rm c.n).mpr ?_,rfl⟩,by rw [hf c hc hg]⟩
  rw [dO];exact List.mem_map.mpr ⟨c,Ln.cI.mpr ⟨hc,hg⟩,rfl⟩
def Ln.n9 (L:Ln) (n:Str):aQ:=((L.cs.find? fun c=>decide (c.n=n)).map Cf.cur).getD ⟨0,0,0⟩
theorem aT.n9 {L:Ln} (ok:aT L) {c:Cf} (hc:c∈L.cs):L.n9 c.n=c.cur:=by
 unfold Ln.n9
 cases h:L.cs.find? fun d=>decide (d.n=c.n) with
 | none=>have:=List.find?_eq_none.mp h c hc;simp at this
 | some d =>
  have h1:=List.mem_of_find?_eq_some h
  have h2:d.n=c.n:=by simpa using List.find?_some h
  rw [ok.uniq h1 hc h2];rfl
def fJ (cN cL:Addr):bX:=fun xs J Q E=>∃ p L,xs=[.ref p]∧aV cN cL J p L∧aT L∧∀ J' o',aV cN cL J' p { L with o:=o',row:=bZ L.t L.fs }→Mv J J' (L.own p) (Ln.own { L with o:=o',row:=bZ L.t L.fs } p)→Q .non J'
theorem mi {cN cL eC f:Addr} {fd:FuncData} (F:bP K "settle" "Lane.settle" cU f fd) (Z:bD mg) (KD_Lane:cQ K mg "Lane" cN) (NA_Lane_row:ay K cN "row") (NA_Lane_now:ay K cN "now") (m_Lane_leg_of:b9 P w K mg base cN 4 "leg_of" ["self","name"] (gr cN cL eC)) (C_in_order:ba P w K mg base 6 "in_order" ["legs","moment"] nt) :
  aF P w K mg base (cx P w) 7 f fd ["self"] (c9 K (fJ cN cL)):=by
 simp_arith [lZ]
 ·obtain ⟨p,L,rfl,_⟩:=h;rfl
 obtain ⟨p,L,rfl,b,ok,q⟩:=h
 have bo:=b.ob
 have br:=b.rw
 refine ⟨_,(ak (ft KD_Lane.cl NA_Lane_row (rv 0) (aR C_in_order B hr (by decide) rfl (af (E_ (L2.ai cU) ["self"] [("self",0)] rfl rfl rfl (fk (aO KD_Lane.cl NA_Lane_row (rv 0))) (fun _ _ _ _ _ _=>(rv 0)) (fun _ _ _ _ _ _=>(a8 (pl:=_) m_Lane_leg_of HI hr (by decide) (rv 1) (af (rv 0) ah)))) (af (aO KD_Lane.cl NA_Lane_now (rv 0)) ah))))),?_⟩
 simp_all! only [Hu,bo,kB,br]
 intro D hD ep
 have bf:∀ e2 kvs,aV cN cL (put J D (.dct kvs e2)) p L:=fun e2 kvs=>b.fresh hD
 have hrl:=ok.rl
 refine ⟨fun i J2=>∃ e2,J2=put J D (.dct (bH ((L.row.take i).map fun n=>(n,L.n9 n))) e2),⟨ep,rfl⟩,?_,?_,?_⟩
 ·rintro i J2 ⟨e2,rfl⟩;exact (bf e2 _).rw
 ·rintro i x J2 hx ⟨e2,rfl⟩
  have hi:i < L.row.length:=by have:=(List.getElem?_eq_some_iff.mp hx).1;simpa using this
  rw [List.getElem?_map,List.getElem?_eq_getElem hi] at hx
  cases hx
  have hn:L.row[i]∈L.row:=List.getElem_mem hi
  refine ⟨_,(bf e2 _).ob,dS _ _ _ _,p,L,L.row[i],rfl,bf e2 _,ok,fun c hc e hg=>?_,fun z=>absurd hn z⟩
  refine ⟨_,e2,L.row[i],rfl,av,aW (by simp only [bH,List.length_map,List.length_take];omega),fun ep'=>⟨ep',?_⟩⟩
  rw [dI]
  congr 2
  have et:L.row.take (i + 1)=L.row.take i ++ [L.row[i]]:=by rw [List.take_add_one,List.getElem?_eq_getElem hi];rfl
  rw [et,List.map_append,List.map_cons,List.map_nil,← e,ok.n9 hc]
  refine sJ (f:=aQ.V) (l:=c.cur) fun z=>?_
  rw [List.map_map] at z
  obtain ⟨m,hm,e3⟩:=List.mem_map.mp z
  have hnd:(L.row.take (i + 1)).Nodup:=ok.rn.sublist (List.take_sublist _ _)
  rw [et] at hnd
  exact (f9 hnd).2 (by rw [← e,← e3];exact hm)
 ·rintro J2 ⟨e2,rfl⟩
  rw [List.length_map,List.take_length]
  refine ⟨_,(bf e2 _).ob,_,lT _ _ _,D,_,e2,L.t,rfl,av,?_,by rw [List.length_map];omega,ok.Bc,?_,fun o' ho'=>?_⟩
  ·rw [List.map_map];show (L.row.map fun n=>n).Nodup;rw [List.map_id'];exact ok.rn
  ·intro x hx
   obtain ⟨n,hn,rfl⟩:=List.mem_map.mp hx
   obtain ⟨c,hc,rfl,hg⟩:=ok.found hn
   show mq 900 (L.n9 c.n)
   rw [ok.n9 hc]
   exact (ok.ck c hc _ (Cf.fe (ok.ne c hc)).2).EK
  ·rw [zL ok fun c hc _=>ok.n9 hc]
   have b2:aV cN cL (put (put J D (.dct (bH (L.row.map fun n=>(n,L.n9 n))) e2)) o' (.lst ((bZ L.t L.fs).map .str))) p L:=(bf e2 _).fresh ho'
   have jo:J o'=none:=by
    by_cases z:o'=D
    ·subst z;exact hD
    ·rw [aq z] at ho';exact ho'
   refine ⟨_,b2.ob,by show (3:Nat) < 1000;decide,?_⟩
   rw [A5]
   refine q _ o' (b2.DD av fun c hc e=>?_) ?_
   ·have:=(b.lg c hc).l;rw [e,jo] at this;cases this
   ·refine ((Mv.new hD).trans (Mv.wz ho')).trans (eS (.inl (.inl rfl)) fun a ow=>.inl ?_)
    rcases ow with h | h | h | h
    ·exact .inl (.inl h)
    ·exact .inl (.inr (.inl h))
    ·exact .inr h
    ·exact .inl (.inr (.inr (.inr h)))
abbrev fi:Stmt:=(top 33)
theorem oX:L2.au ["text"] ["text"] (L2.ai fi):=dt
def bO:Str:="abcdefghijklmnopqrstuvwxyz0123456789"
def good (y:Str):Bool:=decide (1≤y.cps.size) && decide (y.cps.size≤8) && y.cps.toList.all (c4 bO)
def xU (T:Addr):Sp:=fun vs H Q _=>∃ y:Str,vs=[.str y]∧y.length≤sizeLine∧H T=some (.ext (de T))∧Q (.bl (good y)) H
theorem oU {T f c:Addr} {fd:FuncData} (F:Bq K mg "good_name" fi T f fd c) (Z:xj mg) (Bm:BMain mg base) {t_LONGEST t_SIGNS:Tok} (g_LONGEST:mg "LONGEST"=some (.int 8 t_LONGEST)) (g_SIGNS:mg "SIGNS"=some (.str "abcdefghijklmnopqrstuvwxyz0123456789" t_SIGNS)) :
  aF P w K mg base lW 1 f fd ["text"] (xU T):=by
 refine JE F oX (fun vs H Q E h=>?_) (fun A outer s H vs Q E hr h=>?_)
 ·obtain ⟨y,rfl,_⟩:=h
  rfl
 obtain ⟨y,rfl,hz,hT,q⟩:=h
 refine ⟨_,(aM (i4 (Cn (vI (cE uH (cS iW rfl Z.len boot_len (aJ (pv 0) bh)) aD (ax _)) (pK (cE CW (cS iW rfl Z.len boot_len (aJ (pv 0) bh)) (k9 (v:=.int 8) rfl g_LONGEST ⟨_,rfl⟩) (ax _))))) (bc (cM rh)) er)
   (bc (cM (yz rfl Bm rfl F.tab hr rfl Z.all g_SIGNS (pv 0))))),?_⟩
 have el:y.cps.size=y.length:=rfl
 refine ⟨_,rfl,y,rfl,hz,_,_,rfl,rfl,_,rfl,zo (fun e=>?_) (fun e=>⟨_,rfl,y,rfl,hz,_,_,rfl,rfl,_,rfl,zo (fun e2=>?_) (fun e2=>?_)⟩)⟩
 ·have e:(y.length:Int) < 1:=of_decide_eq_true e
  have z:good y=false:=by
   unfold good
   rw [decide_eq_false (show ¬ 1≤y.cps.size by omega)]
   rfl
  show Q (.bl false) H
  rw [← z]
  exact q
 ·have e2:(8:Int) < (y.length:Int):=of_decide_eq_true e2
  have z:good y=false:=by
   unfold good
   rw [decide_eq_false (show ¬ y.cps.size≤8 by omega),Bool.and_false]
   rfl
  show Q (.bl false) H
  rw [← z]
  exact q
 ·have e:¬ (y.length:Int) < 1:=of_decide_eq_false (Bool.eq_false_iff.mpr e)
  have e2:¬ (8:Int) < (y.length:Int):=of_decide_eq_false (Bool.eq_false_iff.mpr e2)
  have z:good y=y.cps.toList.all (c4 bO):=by
   unfold good
   rw [decide_eq_true (show 1≤y.cps.size by omega),decide_eq_true (show y.cps.size≤8 by omega)]
   rfl
  refine ⟨_,rfl,y,rfl,hT,?_⟩
  show Q (.bl (y.cps.toList.all (c4 bO))) H
  rw [← z]
  exact q
def uv (T:Addr):bX:=fun xs J Q _=>∃ y:Str,xs=[.str y]∧y.length≤sizeLine∧J T=some .tab∧Q (.bl (good y)) J
theorem lB {T:Addr} (C:my P w K mg base 1 "good_name" ["text"] (xU T)):ba P w K mg base 1 "good_name" ["text"] (uv T):=C.lift fun xs J vs H Q2 E2 Q E rs r ⟨y,ex,hl,hT,q⟩ kn=>by
 subst ex
 obtain ⟨v,rfl,r1⟩:=Ea rs
 cases r1
 exact ⟨y,rfl,hl,r _ _ hT,kn (.bl _) J _ H rfl r .refl q⟩
theorem uX (L:Ln) {L':Ln} {c:Cf} (h:L'.cs=L.cs ++ [c]) (hg:c.g=none):L'.fs=L.fs ++ [(c.n,c.cur)]:=by
 unfold Ln.fs Ln.wA
 rw [h,List.filter_append,List.map_append]
 simp [hg]
def Ln.joined (L:Ln) (n:Str) (x v:Int) (L':Ln):Prop:=∃ a r,L'.cs=L.cs ++ [⟨n,a,r,[⟨L.t,(x:Rat),v⟩],none⟩]∧L'.t=L.t
def EC (x v:Int):Prop:=x.natAbs≤1000000∧v.natAbs≤1000
def uR (cN cL T eB eF eT eU:Addr):bX:=fun xs J Q E=>∃ p L n x v,xs=[.ref p,.str n,.int x,.int v]∧aV cN cL J p L∧bQ L∧J T=some .tab∧n.length≤sizeLine∧L.cs.length < 100∧(good n=false→E eB J)∧(good n=true→¬ EC x v→E eF J) ∧
 (good n=true→EC x v→n∈L.cs.map Cf.n→E eT J)∧(good n=true→EC x v→n ∉ L.cs.map Cf.n→12≤L.row.length→E eU J) ∧
 (good n=true→EC x v→n ∉ L.cs.map Cf.n→L.row.length < 12→∀ J' L',aV cN cL J' p L'→bQ L'→L.joined n x v L'→Mv J J' (L.own p) (L'.own p)→Q .non J')
abbrev fg:Stmt:=(L2.inClass (top 42) 1)
theorem ot:L2.au ["self","name","place","pace"] ["self","name","place","pace"] (L2.ai fg):=dt
theorem aV.add {cN cL:Addr} {J:Hq} {p:Addr} {L:Ln} {c:Cf} {ep:Nat} (h:aV cN cL J p L) (hc:BZ cL J c.a c.r c.w c.g) (h1:c.r ∉ L.cs.map Cf.r) (h2:c.r≠L.o) :
  aV cN cL (put (put J L.d (.dct ((L.cs ++ [c]).map fun c=>(c.n,PV.ref c.a)) ep)) L.o (.lst ((L.row ++ [c.n]).map .str))) p ⟨L.t,L.d,ep,L.o,L.cs ++ [c],L.row ++ [c.n]⟩:=by
 have n1:c.a≠L.d:=by intro e;have:=h.dc;rw [← e,hc.o] at this;cases this
 have n2:c.a≠L.o:=by intro e;have:=h.rw;rw [← e,hc.o] at this;cases this
 have n3:c.r≠L.d:=by intro e;have:=h.dc;rw [← e,hc.l] at this;cases this
 refine ⟨?_,?_,av,fun x hx=>?_,?_,fun x hx=>?_⟩
 ·rw [aq (Ne.symm h.AF),aq (Ne.symm h.A8)];exact h.ob
 ·show put (put J L.d _) L.o _ L.d=_
  rw [aq h.Hm];exact av
 ·rcases List.mem_append.mp hx with hx | hx
  ·exact ⟨by rw [aq (h.Ih hx),aq (h.IL hx)];exact (h.lg x hx).o,by rw [aq (h.ao x hx),aq (h.IX hx)];exact (h.lg x hx).l⟩
  ·rw [List.mem_singleton] at hx;subst hx
   exact ⟨by rw [aq n2,aq n1];exact hc.o,by rw [aq h2,aq n3];exact hc.l⟩
 ·show ((L.cs ++ [c]).map Cf.r).Nodup
  rw [List.map_append,List.map_cons,List.map_nil,List.nodup_append]
  exact ⟨h.ap,by simp,fun x hx y hy e=>by rw [List.mem_singleton] at hy;subst hy;subst e;exact h1 hx⟩
 ·show x.r≠L.o
  rcases List.mem_append.mp hx with hx | hx
  ·exact h.ao x hx
  ·rw [List.mem_singleton] at hx;subst hx;exact h2
theorem aT.add {L:Ln} (h:aT L) {c:Cf} {l:aQ} {ep:Nat} (hw:c.w=[l]) (hg:c.g=none) (hl:mG l) (hm:l.m=L.t) (hn:c.n ∉ L.cs.map Cf.n) (hr:L.row.length < 12) (hs:L.cs.length < 100):aT ⟨L.t,L.d,ep,L.o,L.cs ++ [c],L.row ++ [c.n]⟩:=by
 have hf:Ln.fs ⟨L.t,L.d,ep,L.o,L.cs ++ [c],L.row ++ [c.n]⟩=L.fs ++ [(c.n,c.cur)]:=uX L rfl hg
 have all:∀ {P:Cf→Prop},(∀ x∈L.cs,P x)→P c→∀ x∈L.cs ++ [c],P x:=fun h1 h2 x hx=>by
  rcases List.mem_append.mp hx with hx | hx
  ·exact h1 x hx
  ·rw [List.mem_singleton] at hx;subst hx;exact h2
 refine ⟨?_,all h.ne (by rw [hw];simp),all h.le (by rw [hw];simp [hm]),all h.ck (by rw [hw];simpa using hl),all h.len (by rw [hw];show (1:Nat)≤200;decide),all h.gz (by rw [hg];intro q e;cases e),h.t0,h.ts,by show (L.cs ++ [c]).length≤100;rw [List.length_append];simp;omega,fun n=>?_,?_,by show (L.row ++ [c.n]).length≤12;rw [List.length_append];simp;omega⟩
 ·show ((L.cs ++ [c]).map Cf.n).Nodup
  rw [List.map_append,List.map_cons,List.map_nil,List.nodup_append]
  exact ⟨h.nd,by simp,fun x hx y hy e=>by rw [List.mem_singleton] at hy;subst hy;subst e;exact hn hx⟩
 ·rw [hf,List.map_append,List.mem_append,List.mem_append,h.rm n];simp
 ·show (L.row ++ [c.n]).Nodup
  rw [List.nodup_append]
  refine ⟨h.rn,by simp,fun x hx y hy e=>?_⟩
  rw [List.mem_singleton] at hy
  rw [e,hy] at hx
  have:=(h.rm _).mp hx
  rw [dO,List.mem_map] at this
  obtain ⟨d,hd,e⟩:=this
  exact hn (List.mem_map.mpr ⟨d,(Ln.cI.mp hd).1,e⟩)
theorem bQ.settled {L:Ln} (h:aT L) (o':Addr):bQ { L with o:=o',row:=bZ L.t L.fs }:=by
 have hl:(bZ L.t L.fs).length≤12:=by
  have h1:(bZ L.t L.fs).Perm L.row:=(List.perm_ext_iff_of_nodup (l8 h.C8) h.rn).mpr fun n=>by rw [qE];exact (h.rm n).symm
  rw [h1.length_eq];exact h.rl
 exact ⟨⟨h.nd,h.ne,h.le,h.ck,h.len,h.gz,h.t0,h.ts,h.many,fun n=>qE,l8 h.C8,hl⟩,rfl⟩
theorem pF {cN cL T eB eF eT eU f:Addr} {fd:FuncData} (F:bP K "join" "Lane.join" fg f fd) (Z:bD mg) (KD_Lane:cQ K mg "Lane" cN) (NA_Lane_row:ay K cN "row") (NA_Lane_now:ay K cN "now") (NA_Lane_logs:ay K cN "logs") {t_FARTHEST t_FASTEST t_MOST:Tok} (g_FARTHEST:mg "FARTHEST"=some (.int 1000000 t_FARTHEST)) (g_FASTEST:mg "FASTEST"=some (.int 1000 t_FASTEST)) (g_MOST:mg "MOST"=some (.int 12 t_MOST))
  (O_BadName:Own K mg "BadName" eB) (O_TooFar:Own K mg "TooFar" eF) (O_Taken:Own K mg "Taken" eT) (O_Full:Own K mg "Full" eU) (C_good_name:ba P w K mg base 1 "good_name" ["text"] (uv T)) (M_Log:wd P w K mg base cL 1 "Log" ["self","moment","place","pace"] (uh cL)) (m_Lane_settle:b9 P w K mg base cN 7 "settle" ["self"] (fJ cN cL)) :
  aF P w K mg base (cx P w) 8 f fd ["self","name","place","pace"] (c9 K (uR cN cL T eB eF eT eU)):=by
 simp_arith [ot]
 ·obtain ⟨p,L,n,x,v,rfl,_⟩:=h;rfl
 obtain ⟨p,L,n,x,v,rfl,b,ok,hT,hnl,hcs,qb,qf,qt,qu,q⟩:=h
 have bo:=b.ob
 have bd:=b.dc
 have br:=b.rw
 refine ⟨_,(aj (aU (cO (bG (aR C_good_name B hr (by decide) rfl (af (rv 1) ah)))) (ak (dq O_BadName rfl bU B.kn rfl (af bz ah))) aI)
   (aj (aU (du (iH (aE ka (aK tP rfl Z.abs boot_abs (af (rv 2) ah)) (d7 (v:=.int 1000000) (.int 1000000) rfl g_FARTHEST ⟨_,rfl⟩ (fun _ _=>rfl)) (L2.ax _)) (gJ (aE ka (aK tP rfl Z.abs boot_abs (af (rv 3) ah)) (d7 (v:=.int 1000) (.int 1000) rfl g_FASTEST ⟨_,rfl⟩ (fun _ _=>rfl)) (L2.ax _))))) (ak (dq O_TooFar rfl bU B.kn rfl (af bz ah))) aI)
   (aj (aU (aE DN (rv 1) (aO KD_Lane.cl NA_Lane_logs (rv 0)) (by with_unfolding_all rfl)) (ak (dq O_Taken rfl bU B.kn rfl (af bz ah))) aI)
   (aj (aU (aE yp (aK bK rfl Z.len boot_len (af (aO KD_Lane.cl NA_Lane_row (rv 0)) ah)) (d7 (v:=.int 12) (.int 12) rfl g_MOST ⟨_,rfl⟩ (fun _ _=>rfl)) (L2.ax _)) (ak (dq O_Full rfl bU B.kn rfl (af bz ah))) aI)
   (aj (og kW (aO KD_Lane.cl NA_Lane_logs (rv 0)) (rv 1) (Aj M_Log B hr (by decide) rfl (af (aO KD_Lane.cl NA_Lane_now (rv 0)) (af (cv (af (rv 2) (af ag ah))) (af (rv 3) ah)))))
   (aj (aY (jc PySem.F.plainAttrs_list PySem.F.slot_list_append PySem.F.type_list_append jK (aO KD_Lane.cl NA_Lane_row (rv 0)) (af (rv 1) ah)))
   (ak (aY (dQ (pl:=_) m_Lane_settle B hr (by decide) (rv 0)))))))))),?_⟩
 simp_all! only []
 refine ⟨n,rfl,hnl,hT,?_⟩
 cases hg:good n with
 | false =>
  simp_all! only [eR]
  exact qb hg
 | true =>
 simp_all! only []
 by_cases hB:EC x v
 ·obtain ⟨hx,hv⟩:=id hB
  rw [if_neg (by split <;> omega),if_neg (by split <;> omega)]
  simp_all! only [bo,wM,bd,ok.JB]
  by_cases hm:n∈L.cs.map Cf.n
  ·rw [if_pos hm]
   simp_all! only [eR]
   exact qt hg hB hm
  rw [if_neg hm]
  simp_all! only [bo,kB,br,List.length_map]
  by_cases hr12:12≤L.row.length
  ·rw [if_pos (by omega)]
   simp_all! only [eR]
   exact qu hg hB hm hr12
  rw [if_neg (by omega)]
  simp_all! only [bo,lT]
  intro a ha
  refine ⟨a,⟨L.t,(x:Rat),v⟩,rfl,av,fun r hr'=>?_⟩
  have nra:r≠a:=by intro e;subst e;rw [av] at hr';cases hr'
  have jr:J r=none:=by rw [aq nra] at hr';exact hr'
  have b1:aV cN cL (put (put (put J a (.ins cL [])) r (.lst [(aQ.mk L.t (x:Rat) v).V])) a (.ins cL [("rows",.ref r),("gone",.non)])) p L:=b.keep fun c u ow e=>by
   have n1:c≠a:=fun z=>by subst z;rw [ha] at e;cases e
   have n2:c≠r:=fun z=>by subst z;rw [jr] at e;cases e
   rw [aq n1,aq n2,aq n1];exact e
  have l1:BZ cL (put (put (put J a (.ins cL [])) r (.lst [(aQ.mk L.t (x:Rat) v).V])) a (.ins cL [("rows",.ref r),("gone",.non)])) a r [⟨L.t,(x:Rat),v⟩] none:=⟨av,by rw [aq nra];exact av⟩
  have mv1:Mv J (put (put (put J a (.ins cL [])) r (.lst [(aQ.mk L.t (x:Rat) v).V])) a (.ins cL [("rows",.ref r),("gone",.non)])) (L.own p) (fun c=>(L.own p c∨c=a)∨c=r) :=
   ((Mv.wz ha).trans (Mv.wz hr')).trans (eS (.inl (.inr rfl)) fun c h=>.inl h)
  generalize (put (put (put J a (.ins cL [])) r (.lst [(aQ.mk L.t (x:Rat) v).V])) a (.ins cL [("rows",.ref r),("gone",.non)]))=J1 at b1 l1 mv1 ⊢
  have bo1:=b1.ob
  have bd1:=b1.dc
  simp_all! only [bo1,wM,bd1]
  refine ⟨aW (by rw [List.length_map];omega),fun ep'=>?_⟩
  have epu:oV (L.cs.map fun c=>(c.n,PV.ref c.a)) n (PV.ref a)=(L.cs ++ [Cf.mk n a r [⟨L.t,(x:Rat),v⟩] none]).map fun c=>(c.n,PV.ref c.a):=by
   have e:(L.cs.map fun c=>(c.n,PV.ref c.a))=((L.cs.map fun c=>(c.n,c.a)).map fun x=>(x.1,PV.ref x.2)):=by rw [List.map_map];rfl
   rw [e,sJ (f:=PV.ref) (l:=a) (by rw [List.map_map];exact hm),List.map_append,List.map_append,List.map_map];rfl
  rw [epu]
  have hrs:r ∉ L.cs.map Cf.r:=fun h=>by
   obtain ⟨c,hc,e⟩:=List.mem_map.mp h
   have:=(b.lg c hc).l;rw [e,jr] at this;cases this
  have hro:r≠L.o:=fun e=>by have:=b.rw;rw [← e,jr] at this;cases this
  have b2:=b1.add (c:=Cf.mk n a r [⟨L.t,(x:Rat),v⟩] none) (ep:=ep') l1 hrs hro
  have ok2:aT ⟨L.t,L.d,ep',L.o,L.cs ++ [Cf.mk n a r [⟨L.t,(x:Rat),v⟩] none],L.row ++ [n]⟩:=ok.toaT.add (c:=Cf.mk n a r [⟨L.t,(x:Rat),v⟩] none) rfl rfl (mG.new ok.t0 ok.ts hx hv) rfl hm (by omega) hcs
  have bo2:(put J1 L.d (HQ.dct ((L.cs ++ [Cf.mk n a r [⟨L.t,(x:Rat),v⟩] none]).map fun c=>(c.n,PV.ref c.a)) ep')) p=some (.ins cN [("now",fr L.t),("logs",.ref L.d),("row",.ref L.o)]):=by rw [aq (Ne.symm b1.A8)];exact b1.ob
  have br2:(put J1 L.d (HQ.dct ((L.cs ++ [Cf.mk n a r [⟨L.t,(x:Rat),v⟩] none]).map fun c=>(c.n,PV.ref c.a)) ep')) L.o=some (.lst (L.row.map .str)):=by rw [aq (Ne.symm b1.Hm)];exact b1.rw
  have mv2:Mv J1 (put (put J1 L.d (HQ.dct ((L.cs ++ [Cf.mk n a r [⟨L.t,(x:Rat),v⟩] none]).map fun c=>(c.n,PV.ref c.a)) ep')) L.o (.lst ((L.row ++ [n]).map .str))) (fun c=>(L.own p c∨c=a)∨c=r) (Ln.own ⟨L.t,L.d,ep',L.o,L.cs ++ [Cf.mk n a r [⟨L.t,(x:Rat),v⟩] none],L.row ++ [n]⟩ p):=by
   refine (eS (S':=fun c=>(L.own p c∨c=a)∨c=r) (.inl (.inl (.inr (.inl rfl)))) fun c h=>.inl h).trans (eS (.inl (.inl (.inr (.inr (.inl rfl))))) fun c h=>.inl ?_)
   rcases h with h | h | h | ⟨d,hd,h⟩
   ·exact .inl (.inl (.inl h))
   ·exact .inl (.inl (.inr (.inl h)))
   ·exact .inl (.inl (.inr (.inr (.inl h))))
   ·rcases List.mem_append.mp hd with hd | hd
    ·exact .inl (.inl (.inr (.inr (.inr ⟨d,hd,h⟩))))
    ·rw [List.mem_singleton] at hd;subst hd
     rcases h with h | h
     ·exact .inl (.inr h)
     ·exact .inr h
  have mv3:=mv1.trans mv2
  simp_all! only [bo2,kB,br2]
  refine ⟨aW (by rw [List.length_map];omega),?_⟩
  rw [show L.row.map PV.str ++ [PV.str n]=(L.row ++ [n]).map .str by rw [List.map_append];rfl]
  have bo3:=b2.ob
  generalize (put (put J1 L.d (HQ.dct ((L.cs ++ [Cf.mk n a r [⟨L.t,(x:Rat),v⟩] none]).map fun c=>(c.n,PV.ref c.a)) ep')) L.o (.lst ((L.row ++ [n]).map .str)))=J2 at b2 mv3 bo3 ⊢
  simp_all! only [bo3]
  refine ⟨dS _ _ _ _,p,_,rfl,b2,ok2,fun J' o' b' mv'=>?_⟩
  exact q hg hB hm (by omega) J' _ b' (bQ.settled ok2 o') ⟨a,r,rfl,rfl⟩ (mv3.trans mv')
 ·have hf:=qf hg hB
  by_cases h1:x.natAbs≤1000000
  ·have h2:¬ v.natAbs≤1000:=fun h=>hB ⟨h1,h⟩
   rw [if_neg (by split <;> omega),if_pos (by split <;> omega)]
   simp_all! only [eR]
   exact hf
  ·rw [if_pos (by split <;> omega)]
   simp_all! only [eR]
   exact hf
abbrev d9:Stmt:=(L2.inClass (top 42) 7)
theorem m4:L2.au ["self"] ["self"] (L2.ai d9):=dt
def qO (cN cL:Addr):bX:=fun xs J Q _=>∃ p L,xs=[.ref p]∧aV cN cL J p L∧Q (fr L.t) J
theorem mB {cN cL f:Addr} {fd:FuncData} (F:bP K "clock" "Lane.clock" d9 f fd) (Z:bD mg) (KD_Lane:cQ K mg "Lane" cN) (NA_Lane_now:ay K cN "now"):aF P w K mg base (cx P w) 1 f fd ["self"] (c9 K (qO cN cL)):=by
 simp_arith [m4]
 ·obtain ⟨p,L,rfl,_⟩:=h;rfl
 obtain ⟨p,L,rfl,b,q⟩:=h
 have bo:=b.ob
 refine ⟨_,(ak (az (aO KD_Lane.cl NA_Lane_now (rv 0)))),?_⟩
 simp_all! only [bo,lT]
 exact q
abbrev d6:Stmt:=(L2.inClass (top 42) 8)
theorem mI:L2.au ["self"] ["self"] (L2.ai d6):=dt
def qP (cN cL:Addr):bX:=fun xs J Q _=>∃ p L,xs=[.ref p]∧aV cN cL J p L∧(Q (.fl (L.row.map .str)) J∨∀ l,J l=none→Q (.ref l) (put J l (.lst (L.row.map .str))))
theorem mK {cN cL f:Addr} {fd:FuncData} (F:bP K "order" "Lane.order" d6 f fd) (Z:bD mg) (KD_Lane:cQ K mg "Lane" cN) (NA_Lane_row:ay K cN "row"):aF P w K mg base (cx P w) 1 f fd ["self"] (c9 K (qP cN cL)):=by
 refine GW F mI (fun xs J Q E h=>?_) (fun cdv A outer s H E G xs J Q E2 hr h B=>?_)
 ·obtain ⟨p,L,rfl,_⟩:=h;rfl
 obtain ⟨p,L,rfl,b,q⟩:=h
 have bo:=b.ob
 have br:=b.rw
 refine ⟨_,(ak (az (g6 rd rfl Z.list boot_list (af (aO KD_Lane.cl NA_Lane_row (rv 0)) ah)))),?_⟩
 simp_all! only [bo,br,kB]
 intro l hl
 rcases q with q | q
 ·exact Fg.mr (jv hl) av hl q
 ·exact Fg.same (q l hl)
abbrev e8:Stmt:=(L2.inClass (top 42) 10)
theorem pI:L2.au ["self","name"] ["self","name"] (L2.ai e8):=dt
def vc (cN cL eC:Addr):bX:=fun xs J Q E=>∃ p L n,xs=[.ref p,.str n]∧aV cN cL J p L∧(∀ j:Nat,L.row[j]?=some n→(∀ m:Nat,m < j→L.row[m]?≠some n)→Q (.int j) J)∧(n ∉ L.row→E eC J)
theorem qD {α:Type} [DecidableEq α]:∀ {l:List α} {x:α},x∈l→∃ j:Nat,l[j]?=some x∧∀ m:Nat,m < j→l[m]?≠some x
 | y :: l,x,h=>by
  by_cases e:y=x
  ·exact ⟨0,by rw [e];rfl,fun m hm=>by omega⟩
  ·rcases List.mem_cons.mp h with h | h
   ·exact absurd h.symm e
   ·obtain ⟨j,h1,h2⟩:=qD h
    refine ⟨j + 1,h1,fun m hm=>?_⟩
    cases m with
    | zero=>intro z;exact e (Option.some.inj z)
    | succ m=>exact h2 m (by omega)
theorem ph {cN cL eC f:Addr} {fd:FuncData} (F:bP K "rank" "Lane.rank" e8 f fd) (Z:bD mg) (KD_Lane:cQ K mg "Lane" cN) (NA_Lane_row:ay K cN "row") (m_Lane_must_be_there:b9 P w K mg base cN 1 "must_be_there" ["self","name"] (jt cN cL eC)):aF P w K mg base (cx P w) 2 f fd ["self","name"] (c9 K (vc cN cL eC)):=by
 simp_arith [pI]
 ·obtain ⟨p,L,n,rfl,_⟩:=h;rfl
 obtain ⟨p,L,n,rfl,b,q,qe⟩:=h
 have bo:=b.ob
 have br:=b.rw
 refine ⟨_,(aj (aY (a8 (pl:=_) m_Lane_must_be_there B hr (by decide) (rv 0) (af (rv 1) ah)))
   (ak (az (jc PySem.F.plainAttrs_list PySem.F.slot_list_index PySem.F.type_list_index zR (aO KD_Lane.cl NA_Lane_row (rv 0)) (af (rv 1) ah))))),?_⟩
 simp_all! only [bo]
 refine ⟨dS _ _ _ _,p,L,n,rfl,b,fun hn=>?_,qe⟩
 obtain ⟨j,h1,h2⟩:=qD hn
 simp_all! only [bo,br,kB]
 exact ⟨L.row,rfl,j,h1,h2,q j h1 h2⟩
abbrev df:Stmt:=(L2.inClass (top 42) 11)
theorem km:L2.au ["self","rank"] ["self","rank"] (L2.ai df):=dt
def nu (cN cL:Addr):bX:=fun xs J Q E=>∃ (p:Addr) (L:Ln) (i:Int),xs=[.ref p,.int i]∧aV cN cL J p L∧L.row.length≤1000∧Q (if 0≤i then ((L.row[i.toNat]?).map PV.str).getD .non else .non) J
theorem kD {cN cL f:Addr} {fd:FuncData} (F:bP K "name_at" "Lane.name_at" df f fd) (Z:bD mg) (KD_Lane:cQ K mg "Lane" cN) (NA_Lane_row:ay K cN "row"):aF P w K mg base (cx P w) 1 f fd ["self","rank"] (c9 K (nu cN cL)):=by
 simp_arith [km]
 ·obtain ⟨p,L,i,rfl,_⟩:=h;rfl
 obtain ⟨p,L,i,rfl,b,hl,q⟩:=h
 have bo:=b.ob
 have br:=b.rw
 refine ⟨_,(ak (az (Cu (xt xT fh ag (rv 1) (aK bK rfl Z.len boot_len (af (aO KD_Lane.cl NA_Lane_row (rv 0)) ah))) (ar aw (aO KD_Lane.cl NA_Lane_row (rv 0)) (rv 1) (fun _ _=>rfl)) fu))),?_⟩
 simp_all! only [bo,br,kB,List.length_map]
 by_cases c:0≤i
 ·rw [if_pos c] at q ⊢
  by_cases d:i < (L.row.length:Int)
  ·obtain ⟨j,rfl⟩:=Int.eq_ofNat_of_zero_le c
   have hj:j < L.row.length:=by omega
   have ha:cK (L.row.map PV.str) (j:Int)=some (.str L.row[j]):=a9 (by rw [List.getElem?_map,List.getElem?_eq_getElem hj];rfl)
   rw [Int.toNat_natCast,List.getElem?_eq_getElem hj] at q
   rw [if_pos d]
   simp_all! only [bo,br,kB,ha]
   exact q
  ·rw [List.getElem?_eq_none (by omega)] at q
   rw [if_neg d]
   exact q
 ·rw [if_neg c] at q ⊢
  exact q
abbrev ed:Stmt:=(L2.inClass (top 42) 12)
theorem mT:L2.au ["self","name"] ["self","name"] (L2.ai ed):=dt
def pW (cN cL eC:Addr):bX:=fun xs J Q E=>∃ p L n,xs=[.ref p,.str n]∧aV cN cL J p L∧aT L∧(∀ c∈L.cs,c.n=n→c.g=none→Q (fr (c.cur.at L.t)) J)∧(n ∉ L.row→E eC J)
theorem mS {cN cL eC f:Addr} {fd:FuncData} (F:bP K "place" "Lane.place" ed f fd) (Z:bD mg) (KD_Lane:cQ K mg "Lane" cN) (NA_Lane_now:ay K cN "now") (m_Lane_leg_of:b9 P w K mg base cN 4 "leg_of" ["self","name"] (gr cN cL eC)) (C_place_on:ba P w K mg base 4 "place_on" ["leg","moment"] jq):aF P w K mg base (cx P w) 5 f fd ["self","name"] (c9 K (pW cN cL eC)):=by
 simp_arith [mT]
 ·obtain ⟨p,L,n,rfl,_⟩:=h;rfl
 obtain ⟨p,L,n,rfl,b,ok,q,qe⟩:=h
 have bo:=b.ob
 refine ⟨_,(ak (az (aR C_place_on B hr (by decide) rfl (af (a8 (pl:=_) m_Lane_leg_of B hr (by decide) (rv 0) (af (rv 1) ah)) (af (aO KD_Lane.cl NA_Lane_now (rv 0)) ah))))),?_⟩
 simp_all! only [bo]
 refine ⟨dS _ _ _ _,p,L,n,rfl,b,ok,fun c hc e hg=>?_,qe⟩
 have sl:=(ok.ck c hc _ (Cf.fe (ok.ne c hc)).2).EK
 simp_all! only [bo,lT]
 exact ⟨c.cur,L.t,rfl,sl.m,sl.p,ok.Bc,sl.v,q c hc e hg⟩
def aG.v (b:aG):PV:=.tup [fr b.m,.str b.h,.str b.f]
theorem B9 (J:Hq) (b:aG):dT J b.v (.int 0)=some (fr b.m):=cJ _ _
theorem Cw (J:Hq) (b:aG):dT J b.v (.int 1)=some (.str b.h):=dX _ _ _
theorem Cg (J:Hq) (b:aG):dT J b.v (.int 2)=some (.str b.f):=hW _ _ _ _
theorem Fu (a:Rat) (h f:Str):PV.tup [fr a,.str h,.str f]=(aG.mk a h f).v:=rfl
theorem za (J:Hq) (b:aG):∃ xs,b.v=.tup xs∧¬ (HT.c6 xs.length 0 (some 1)=0∧HT.c6 xs.length xs.length none=xs.length)∧ko xs (some 1) none=[b.h,b.f].map .str:=⟨_,rfl,fun h=>absurd h.1 (show HT.c6 3 0 (some 1)≠0 by decide),rfl⟩
abbrev dC:Stmt:=(top 21)
theorem lL:L2.au ["one","other"] ["one","other"] (L2.ai dC):=dt
def pQ:bX:=fun xs J Q _=>∃ a b:aG,xs=[a.v,b.v]∧Sz 9000 a.m∧Sz 9000 b.m∧Q (.bl (a.lt b)) J
theorem ID (a b c d:Str):iz [a,b] [c,d]=if a=c then decide (slt b d) else decide (slt a c):=by
 rw [jO]
 by_cases h:a=c
 ·rw [if_pos h,if_pos h,jO]
  by_cases k:b=d
  ·rw [if_pos k,i8];subst k;exact (decide_eq_false (by unfold slt;exact List.lt_irrefl _)).symm
  ·rw [if_neg k];rfl
 ·rw [if_neg h,if_neg h];rfl
theorem ki {f:Addr} {fd:FuncData} (F:bP K "rings_ahead" "rings_ahead" dC f fd) (Z:bD mg) (C_less:ba P w K mg base 1 "less" ["one","two"] cA):aF P w K mg base (cx P w) 2 f fd ["one","other"] (c9 K pQ):=by
 simp_arith [lL]
 ·obtain ⟨a,b,rfl,_⟩:=h;rfl
 obtain ⟨a,b,rfl,sa,sb,q⟩:=h
 refine ⟨_,(aj (aU (aE (iX hr.aS) (ar aw (rv 0) ag (fun _ _=>rfl)) (ar aw (rv 1) ag (fun _ _=>rfl)) (L2.ax _)) (ak (az (aR C_less B hr (by decide) rfl (af (ar aw (rv 0) ag (fun _ _=>rfl)) (af (ar aw (rv 1) ag (fun _ _=>rfl)) ah))))) aI)
   (ak (az (cZ (A_ hr.DM) (iS sV (rv 0) (kG ag) kO) (iS sV (rv 1) (kG ag) kO) (L2.ax _))))),?_⟩
 simp_arith! only [bR,B9,Cw,Cg,cA,C0]
 unfold aG.lt at q
 by_cases e:a.m=b.m
 ·rw [if_pos e] at q ⊢
  obtain ⟨xs,h1,h2,h3⟩:=za J a
  obtain ⟨ys,h4,h5,h6⟩:=za J b
  exact ⟨xs,h1,h2,ys,h4,h5,[a.h,a.f],h3,[b.h,b.f],h6,by rw [ID];exact q⟩
 ·rw [if_neg e] at q ⊢
  exact ⟨sa,sb,q⟩
theorem Ga (v:PV):([("rows",v)]:List (Str × PV)).lookup ("rows":Str)=some v:=rfl
theorem C3 {m:Str} (v:PV) (h:(m == ("rows":Str))=false):([("rows",v)]:List (Str × PV)).lookup m=none:=by rw [List.lookup_cons,h];rfl
theorem HV (v:PV):([("rows",v)]:List (Str × PV)).lookup ("drop":Str)=none:=C3 v (by decide +kernel)
theorem Iz (v:PV):([("rows",v)]:List (Str × PV)).lookup ("put":Str)=none:=C3 v (by decide +kernel)
theorem Ho (v:PV):([("rows",v)]:List (Str × PV)).lookup ("told":Str)=none:=C3 v (by decide +kernel)
theorem BQ {J:Hq} {r p:Addr} {a b c:HQ} (h:r≠p):put (put (put J r a) p b) r c=put (put J r c) p b:=by
 rw [yn (Ne.symm h),dI]
structure A2 (cB:Addr) (J:Hq) (p r:Addr) (rows:List aG):Prop where
 o:J p=some (.ins cB [("rows",.ref r)])
 l:J r=some (.lst (rows.map aG.v))
theorem A2.ne {cB:Addr} {J:Hq} {p r:Addr} {rows:List aG} (h:A2 cB J p r rows):r≠p:=by
 intro e;subst e;have:=h.o;rw [h.l] at this;cases this
abbrev cF:Stmt:=(L2.inClass (top 22) 0)
theorem ji:L2.au ["self"] ["self"] (L2.ai cF):=dt
def vq (cB:Addr):bX:=fun xs J Q _=>∃ p,xs=[.ref p]∧J p=some (.ins cB [])∧∀ r,J r=none→Q .non (put (put J r (.lst [])) p (.ins cB [("rows",.ref r)]))
theorem mJ {cB f:Addr} {fd:FuncData} (F:bP K "__init__" "Bells.__init__" cF f fd) (KD_Bells:cQ K mg "Bells" cB) (NA_Bells_rows:ay K cB "rows"):aF P w K mg base (cx P w) 1 f fd ["self"] (c9 K (vq cB)):=by
 simp_arith [ji]
 ·obtain ⟨p,rfl,_⟩:=h;rfl
 obtain ⟨p,rfl,hp,q⟩:=h
 refine ⟨_,(ak (ft KD_Bells.cl NA_Bells_rows (rv 0) (jY ah))),?_⟩
 simp_arith! only [bR]
 intro r hr'
 have ne:p≠r:=by intro e;subst e;rw [hp] at hr';cases hr'
 exact ⟨[],by rw [aq ne];exact hp,by decide,q r hr'⟩
abbrev dn:Stmt:=(L2.inClass (top 22) 2)
theorem fq:L2.au ["self","hind","fore","kept","found"] ["self","hind","fore"] (L2.ai dn):=dt
def vf (cB:Addr):bX:=fun xs J Q _=>∃ p r rows h f,xs=[.ref p,.str h,.str f]∧A2 cB J p r rows∧rows.length≤900∧∀ r',J r'=none→Q (.bl (decide ((c7 h f rows).length < rows.length))) (put (put J r' (.lst ((c7 h f rows).map aG.v))) p (.ins cB [("rows",.ref r')]))
def tail3:PV→PV
 | .tup xs=>.tup (ko xs (some 1) none)
 | _=>.non
def tZ (h f:Str) (x:PV):Bool:=!eqQ (tail3 x) (.tup [.str h,.str f])
theorem D_ (h f:Str) (b:aG):tZ h f b.v=!pY h f b:=by
 show (!eqQ (.tup [.str b.h,.str b.f]) (.tup [.str h,.str f]))=_
 rw [sX,eL,eL,oO,eq_str,eq_str,Bool.and_true,← Bool.decide_and]
 rfl
theorem zN (h f:Str):∀ rows:List aG,((rows.map aG.v).filter (tZ h f)).map (fun x=>x)=(c7 h f rows).map aG.v
 | []=>rfl
 | b :: rows=>by
  have ih:=zN h f rows
  unfold c7 at ih ⊢
  rw [List.map_cons,List.filter_cons,List.filter_cons,D_]
  cases pY h f b <;> simp at ih ⊢ <;> exact ih
theorem mL {cB f:Addr} {fd:FuncData} (F:bP K "drop" "Bells.drop" dn f fd) (Z:bD mg) (KD_Bells:cQ K mg "Bells" cB) (NA_Bells_rows:ay K cB "rows"):aF P w K mg base (cx P w) 1 f fd ["self","hind","fore"] (c9 K (vf cB)):=by
 simp_arith [fq]
 ·obtain ⟨p,r,rows,h,f,rfl,_⟩:=h;rfl
 obtain ⟨p,r,rows,h,f,rfl,b,hl,q⟩:=h
 have bo:=b.o
 have bl:=b.l
 refine ⟨_,(aj (A9 (i:=3) (L2.ai dn) ["self","hind","fore","kept","found"] [("hind",1),("fore",2)] rfl rfl rfl fq.nd rfl (Or.inl rfl) (fk (aO KD_Bells.cl NA_Bells_rows (rv 0))) (fun _ _ _ _ _ _=>(rv 0)) (fun _ _ _ _ _ _=>(aE (iX hr.aS) (iS sV (rv 0) (kG ag) kO) (cv (af (rv 1) (af (rv 2) ah))) (L2.ax _))))
   (aj (aL (i:=4) fq.nd rfl (Or.inl rfl) (cZ fh (aK bK rfl Z.len boot_len (af (rv 3) ah)) (aK bK rfl Z.len boot_len (af (aO KD_Bells.cl NA_Bells_rows (rv 0)) ah)) (L2.ax _)))
   (aj (ft KD_Bells.cl NA_Bells_rows (rv 0) (rv 3))
   (ak (az (rv 4)))))),?_⟩
 simp_arith! only [bR,C4,bo,bl,Ga]
 refine ⟨tZ h f,fun x=>x,⟨by rw [List.length_map];exact aW (by omega),fun J' sub=>⟨sub _ _ bl,fun x hx=>?_⟩⟩,fun r' hr'=>?_⟩
 ·obtain ⟨b,_,rfl⟩:=List.mem_map.mp hx
  obtain ⟨xs,h1,h2,h3⟩:=za J' b
  have hk:tZ h f b.v=!eqQ (.tup (ko xs (some 1) none)) (.tup [.str h,.str f]):=by rw [h1];rfl
  simp_arith! only [bR]
  refine ⟨⟨xs,h1,h2,?_⟩,fun _=>trivial⟩
  rw [hk,h3]
  refine ⟨⟨by simp [kj,jL],by simp [fw,fE,dep,c8]⟩,by simp [kj,jL],rfl⟩
 ·have ne:p≠r':=by intro e;subst e;rw [bo] at hr';cases hr'
  have nr:r≠r':=by intro e;subst e;rw [bl] at hr';cases hr'
  simp_arith! only [bR,aq ne,aq nr,bo,bl,Ga,zN,List.length_map,Int.ofNat_lt]
  exact ⟨by decide,q r' hr'⟩
abbrev e9:Stmt:=(L2.inClass (top 22) 1)
theorem cG:L2.au ["self","moment","hind","fore","bell","low","high","middle"] ["self","moment","hind","fore"] (L2.ai e9):=dt
def zF (cB:Addr):bX:=fun xs J Q _=>∃ p r rows m h f,xs=[.ref p,fr m,.str h,.str f]∧A2 cB J p r rows∧gg rows∧rows.length≤800∧Sz 9000 m∧(∀ x∈rows,Sz 9000 x.m) ∧
 ∀ r',J r'=none→Q .non (put (put J r' (.lst ((ip ⟨m,h,f⟩ (c7 h f rows)).map aG.v))) p (.ins cB [("rows",.ref r')]))
theorem EU (a b:Nat):((a:Int) + (b:Int)).fdiv 2=(((a + b) / 2:Nat):Int):=by rw [Int.fdiv_eq_ediv_of_nonneg _ (by decide)];omega
theorem JC (a:Int):CQ a 2=True:=eq_true ⟨by decide,Bd.mono (Bd.small (by decide) (by decide)) (by decide)⟩
theorem Dw {rows:List aG} {i:Nat} {b:aG} (h:rows[i]?=some b):cK (rows.map aG.v) (i:Int)=some b.v:=a9 (by rw [List.getElem?_map,h];rfl)
theorem pA {cB f:Addr} {fd:FuncData} (F:bP K "put" "Bells.put" e9 f fd) (Z:bD mg) (KD_Bells:cQ K mg "Bells" cB) (NA_Bells_rows:ay K cB "rows") (m_Bells_drop:b9 P w K mg base cB 1 "drop" ["self","hind","fore"] (vf cB))
  (C_rings_ahead:ba P w K mg base 2 "rings_ahead" ["one","other"] pQ):aF P w K mg base (cx P w) 3 f fd ["self","moment","hind","fore"] (c9 K (zF cB)):=by
 simp_arith [cG]
 ·obtain ⟨p,r,rows,m,h,f,rfl,_⟩:=h;rfl
 obtain ⟨p,r,rows,m,h,f,rfl,b,srt,hl,sm,sr,q⟩:=h
 have bo:=b.o
 refine ⟨_,(aj (aY (a8 (pl:=_) m_Bells_drop B hr (by decide) (rv 0) (af (rv 2) (af (rv 3) ah))))
   (aj (aL (i:=4) cG.nd rfl (Or.inl rfl) (cv (af (rv 1) (af (rv 2) (af (rv 3) ah)))))
   (aj (DE (i:=5) (j:=6) rfl cG.nd rfl rfl (by decide) rfl rfl (af ag (af (aK bK rfl Z.len boot_len (af (aO KD_Bells.cl NA_Bells_rows (rv 0)) ah)) ah)) rfl)
   (aj (i6 cH (aE fh (rv 5) (rv 6) (L2.ax _)) (aj (aL (i:=7) cG.nd rfl (Or.inl rfl) (aP jg (aP dz (rv 5) (rv 6)) ag))
   (ak (aU (bG (aR C_rings_ahead B hr (by decide) rfl (af (ar aw (aO KD_Bells.cl NA_Bells_rows (rv 0)) (rv 7) (fun _ _=>rfl)) (af (rv 4) ah)))) (ak (aL (i:=5) cG.nd rfl (Or.inl rfl) (aP dz (rv 7) ag))) (ak (aL (i:=6) cG.nd rfl (Or.inl rfl) (rv 7)))))))
   (ak (aY (jc PySem.F.plainAttrs_list PySem.F.slot_list_insert PySem.F.type_list_insert jB (aO KD_Bells.cl NA_Bells_rows (rv 0)) (af (rv 5) (af (rv 4) ah))))))))),?_⟩
 simp_arith! only [bR,bo,HV]
 refine ⟨p,r,rows,h,f,rfl,b,by omega,fun r' hr'=>?_⟩
 have EE:r'≠p:=by intro e;subst e;rw [bo] at hr';cases hr'
 have b1:A2 cB (put (put J r' (.lst ((c7 h f rows).map aG.v))) p (.ins cB [("rows",.ref r')])) p r' (c7 h f rows):=⟨av,by rw [aq EE];exact av⟩
 have kl:(c7 h f rows).length≤800:=Nat.le_trans (n8 _ _ _) hl
 have ks:gg (c7 h f rows):=nW srt
 have kz:∀ x∈c7 h f rows,Sz 9000 x.m:=fun x hx=>sr x (List.mem_filter.mp hx).1
 have q:=q r' hr'
 generalize hJ:put (put J r' (.lst ((c7 h f rows).map aG.v))) p (.ins cB [("rows",.ref r')])=J1 at b1 ⊢
 have hq:put J1 r' (.lst ((ip ⟨m,h,f⟩ (c7 h f rows)).map aG.v))=put (put J r' (.lst ((ip ⟨m,h,f⟩ (c7 h f rows)).map aG.v))) p (.ins cB [("rows",.ref r')]):=by rw [← hJ,BQ EE]
 rw [← hq] at q
 clear hq hJ hr'
 have bo:=b1.o
 have bl:=b1.l
 generalize c7 h f rows=ks' at *
 simp_arith! only [bR,bo,bl,Ga,Fu,List.length_map]
 refine ⟨fun k τ J'=>∃ (lo hi:Nat) (u:Option PV),τ=[some (.ref p),some (fr m),some (.str h),some (.str f),some (aG.mk m h f).v,some (.int lo),some (.int hi),u]∧J'=J1∧k=hi - lo∧lo≤hi∧hi≤ks'.length ∧
  (∀ (j:Nat) x,j < lo→ks'[j]?=some x→x.lt ⟨m,h,f⟩=true)∧(∀ (j:Nat) x,hi≤j→ks'[j]?=some x→x.lt ⟨m,h,f⟩=false),⟨_,0,ks'.length,none,rfl,rfl,rfl,Nat.zero_le _,Nat.le_refl _,fun j x hj=>absurd hj (Nat.not_lt_zero _),fun j x hj e=>by rw [List.getElem?_eq_none hj] at e;cases e⟩,?_⟩
 rintro k τ J' ⟨lo,hi,u,rfl,rfl,rfl,h1,h2,hlo,hhi⟩
 simp_arith! only [bR,bo,bl,Ga,JC,EU,Int.ofNat_lt,pQ]
 by_cases hlt:lo < hi
 ·rw [if_pos hlt]
  have hm:(lo + hi) / 2 < ks'.length:=by omega
  obtain ⟨x,hx⟩:∃ x,ks'[(lo + hi) / 2]?=some x:=⟨_,List.getElem?_eq_getElem hm⟩
  refine ⟨fun τ' J''=>∃ (lo' hi':Nat) (u:Option PV),τ'=[some (.ref p),some (fr m),some (.str h),some (.str f),some (aG.mk m h f).v,some (.int lo'),some (.int hi'),u]∧J''=J'∧lo'≤hi'∧hi'≤ks'.length∧hi' - lo' < hi - lo ∧
   (∀ (j:Nat) x,j < lo'→ks'[j]?=some x→x.lt ⟨m,h,f⟩=true)∧(∀ (j:Nat) x,hi'≤j→ks'[j]?=some x→x.lt ⟨m,h,f⟩=false),fun τ' J'' ⟨lo',hi',u,e1,e2,e3,e4,e5,e6,e7⟩=>⟨_,e5,lo',hi',u,e1,e2,rfl,e3,e4,e6,e7⟩,x.v,Dw hx,x,rfl,⟨m,h,f⟩,rfl,kz x (List.mem_of_getElem? hx),sm,?_⟩
  cases hc:x.lt ⟨m,h,f⟩ with
  | true =>
   rw [if_pos rfl]
   exact ⟨(lo + hi) / 2 + 1,hi,_,rfl,rfl,by omega,h2,by omega,fun j y hj e=>uo ks hx e (by omega) hc,hhi⟩
  | false =>
   rw [if_neg Bool.false_ne_true]
   exact ⟨lo,(lo + hi) / 2,_,rfl,rfl,by omega,by omega,by omega,hlo,fun j y hj e=>xP ks hx e hj hc⟩
 ·rw [if_neg hlt]
  have e:lo=hi:=by omega
  subst e
  refine ⟨_,lo,rfl,rfl,by rw [List.length_map];exact h2,by rw [List.length_map];exact aW (by omega),Nat.lt_of_le_of_lt h2 (Nat.lt_of_le_of_lt kl (by decide)),?_⟩
  rw [← AG h2 hlo hhi,List.map_append,List.map_cons,List.map_take,List.map_drop] at q
  exact q
abbrev d5:Stmt:=(L2.inClass (top 22) 5)
theorem mz:L2.au ["self"] ["self"] (L2.ai d5):=dt
def t9 (cB:Addr):bX:=fun xs J Q _=>∃ p r rows,xs=[.ref p]∧A2 cB J p r rows∧(Q (.fl (rows.map aG.v)) J∨∀ l,J l=none→Q (.ref l) (put J l (.lst (rows.map aG.v))))
theorem mQ {cB f:Addr} {fd:FuncData} (F:bP K "told" "Bells.told" d5 f fd) (Z:bD mg) (KD_Bells:cQ K mg "Bells" cB) (NA_Bells_rows:ay K cB "rows"):aF P w K mg base (cx P w) 1 f fd ["self"] (c9 K (t9 cB)):=by
 refine GW F mz (fun xs J Q E h=>?_) (fun cdv A outer s H E G xs J Q E2 hr h B=>?_)
 ·obtain ⟨p,r,rows,rfl,_⟩:=h;rfl
 obtain ⟨p,r,rows,rfl,b,q⟩:=h
 have bo:=b.o
 have bl:=b.l
 refine ⟨_,(ak (az (g6 rd rfl Z.list boot_list (af (aO KD_Bells.cl NA_Bells_rows (rv 0)) ah)))),?_⟩
 simp_arith! only [bR,bo,bl,Ga]
 intro l hl
 rcases q with q | q
 ·exact Fg.mr (jv hl) av hl q
 ·exact Fg.same (q l hl)
def ud:bX:=fun xs J Q _=>∃ t b:Int,xs=[.int t,.int b]∧b≠0∧Bd 9000 b∧Q (fr (Rat.divInt t b)) J
theorem mY (C:my P w K mg base 2 "fraction" ["top","bottom"] eK):ba P w K mg base 2 "fraction" ["top","bottom"] ud:=C.lift fun xs J vs H Q2 E2 Q E rs r ⟨t,b,ex,h0,h1,q⟩ kn=>by
 subst ex
 obtain ⟨v,u,rfl,r1,r2⟩:=fQ rs
 cases r1;cases r2
 exact ⟨t,b,rfl,h0,h1,oJ r kn q⟩
theorem ql (l l':aQ) (h:l.v≠l'.v):Rat.divInt ((l'.at 0 - l.at 0).num) (((l'.at 0 - l.at 0).den:Int) * (l.v - l'.v))=jw l l':=by
 rw [EB _ _ (by omega)];rfl
abbrev gM:Stmt:=(top 26)
theorem iy:L2.au ["one","other","gain","gap"] ["one","other"] (L2.ai gM):=dt
def t_:bX:=fun xs J Q _=>∃ l l':aQ,xs=[l.V,l'.V]∧mq 900 l∧mq 900 l'∧(l.v=l'.v→Q .non J)∧(l.v≠l'.v→Q (fr (jw l l')) J)
theorem qx {f:Addr} {fd:FuncData} (F:bP K "meeting" "meeting" gM f fd) (Z:bD mg) (N:l9 K mg) (C_place_on:ba P w K mg base 4 "place_on" ["leg","moment"] jq) (C_minus:ba P w K mg base 3 "minus" ["one","two"] (s_ fun p q=>p - q)) (C_fraction:ba P w K mg base 2 "fraction" ["top","bottom"] ud) :
  aF P w K mg base (cx P w) 5 f fd ["one","other"] (c9 K t_):=by
 simp_arith [iy]
 ·obtain ⟨l,l',rfl,_⟩:=h;rfl
 obtain ⟨l,l',rfl,sl,sl',q0,q1⟩:=h
 obtain ⟨aN,gN,sN⟩:=N
 have rN:∀ (J:Hq) (H:Hp),bJ K J H (fr 0) (.ref aN):=fun J H=>⟨aN,_,rfl,sN H,⟨_,_,rfl,rfl,_,_,rfl,rfl,rfl⟩⟩
 refine ⟨_,(aj (aL (i:=2) iy.nd rfl (Or.inl rfl) (aP eV (ar aw (rv 0) ag (fun _ _=>rfl)) (ar aw (rv 1) ag (fun _ _=>rfl))))
   (aj (aU (aE (cj hr.aS) (rv 2) ag (L2.ax _)) (ak (az fu)) aI)
   (aj (aL (i:=3) iy.nd rfl (Or.inl rfl) (aR C_minus B hr (by decide) rfl (af (aR C_place_on B hr (by decide) rfl (af (rv 1) (af (d7 (v:=.ref aN) (fr 0) rfl gN rfl rN) ah))) (af (aR C_place_on B hr (by decide) rfl (af (rv 0) (af (d7 (v:=.ref aN) (fr 0) rfl gN rfl rN) ah))) ah))))
   (ak (az (aR C_fraction B hr (by decide) rfl (af (ar aw (rv 3) ag (fun _ _=>rfl)) (af (aP cP (ar aw (rv 3) ag (fun _ _=>rfl)) (rv 2)) ah)))))))),?_⟩
 have z1:Sz 900 (0:Rat):=⟨⟨by decide⟩,⟨by decide⟩⟩
 have s3:=gu sl z1
 have s3':=gu sl' z1
 have s4:Sz 6001 (l'.at 0 - l.at 0):=s3'.sub s3
 have bg:Bd 65 (l.v - l'.v):=sl.v.sub sl'.v
 simp_all! only [j_]
 split
 ·rename_i e;simp_all! only [];exact q0 (by omega)
 rename_i e
 have hv:l.v≠l'.v:=by omega
 simp_all! only []
 refine ⟨l',0,rfl,sl'.m,sl'.p,z1,sl'.v,l,0,rfl,sl.m,sl.p,z1,sl.v,l'.at 0,l.at 0,rfl,s3'.mono (by decide),s3.mono (by decide),?_⟩
 simp_all! only []
 refine ⟨.of s4.den bg,_,_,rfl,Int.mul_ne_zero (dB _) e,(Bd.mul s4.den bg (k:=6100)).mono (by decide),?_⟩
 rw [ql l l' hv]
 exact q1 hv
theorem p5 {l l':aQ} (sl:mq 900 l) (sl':mq 900 l') (h:l.v≠l'.v):Sz 8000 (jw l l'):=by
 rw [← ql l l' h]
 have z1:Sz 900 (0:Rat):=⟨⟨by decide⟩,⟨by decide⟩⟩
 have s4:Sz 6001 (l'.at 0 - l.at 0):=(gu sl' z1).sub (gu sl z1)
 have bg:Bd 65 (l.v - l'.v):=sl.v.sub sl'.v
 exact Sz.div (s4.num.mono (by decide)) ((Bd.mul s4.den bg (k:=6100)).mono (by decide)) (Int.mul_ne_zero (dB _) (by omega))
theorem aT.Ha {L:Ln} (h:aT L) {c:Cf} (hc:c∈L.cs):mq 900 c.cur:=(h.ck c hc _ (Cf.fe (h.ne c hc)).2).EK
abbrev d3:Stmt:=(L2.inClass (top 42) 13)
theorem hZ:L2.au ["self","name","other","met"] ["self","name","other"] (L2.ai d3):=dt
def p7 (cN cL eC:Addr):bX:=fun xs J Q E=>∃ p L n n',xs=[.ref p,.str n,.str n']∧aV cN cL J p L∧aT L∧(∀ c∈L.cs,∀ c'∈L.cs,c.n=n→c'.n=n'→c.g=none→c'.g=none→Q (gv (B0 L.t c.cur c'.cur)) J)∧(n ∉ L.row∨n' ∉ L.row→E eC J)
theorem mR {cN cL eC f:Addr} {fd:FuncData} (F:bP K "meets" "Lane.meets" d3 f fd) (Z:bD mg) (KD_Lane:cQ K mg "Lane" cN) (NA_Lane_now:ay K cN "now") (m_Lane_leg_of:b9 P w K mg base cN 4 "leg_of" ["self","name"] (gr cN cL eC)) (C_meeting:ba P w K mg base 5 "meeting" ["one","other"] t_) (C_less:ba P w K mg base 1 "less" ["one","two"] cA):aF P w K mg base (cx P w) 6 f fd ["self","name","other"] (c9 K (p7 cN cL eC)):=by
 simp_arith [hZ]
 ·obtain ⟨p,L,n,n',rfl,_⟩:=h;rfl
 obtain ⟨p,L,n,n',rfl,b,ok,q,qe⟩:=h
 have bo:=b.ob
 refine ⟨_,(aj (aL (i:=3) hZ.nd rfl (Or.inl rfl) (aR C_meeting B hr (by decide) rfl (af (a8 (pl:=_) m_Lane_leg_of B hr (by decide) (rv 0) (af (rv 1) ah)) (af (a8 (pl:=_) m_Lane_leg_of B hr (by decide) (rv 0) (af (rv 2) ah)) ah))))
   (ak (az (Cu (du (eO (aE qB (rv 3) fu (L2.ax _)) (dH (bG (aR C_less B hr (by decide) rfl (af (aO KD_Lane.cl NA_Lane_now (rv 0)) (af (rv 3) ah))))))) (rv 3) fu)))),?_⟩
 simp_all! only [bo]
 refine ⟨dS _ _ _ _,p,L,n,rfl,b,ok,fun c hc e hg=>?_,fun z=>qe (.inl z)⟩
 simp_all! only [bo]
 refine ⟨dS _ _ _ _,p,L,n',rfl,b,ok,fun c' hc' e' hg'=>?_,fun z=>qe (.inr z)⟩
 have q:=q c hc c' hc' e e' hg hg'
 have sl:=ok.Ha hc
 have sl':=ok.Ha hc'
 unfold B0 at q
 refine ⟨c.cur,c'.cur,rfl,sl,sl',fun hv=>?_,fun hv=>?_⟩
 ·rw [if_neg (fun z=>z.1 hv)] at q
  simp_all! only []
  exact q
 ·simp_all! only [oR,bo,lT,cA]
  refine ⟨ok.Bc.mono (by decide),(p5 sl sl' hv).mono (by decide),?_⟩
  split
  ·rename_i c1
   rw [if_pos ⟨hv,c1⟩] at q
   simp_all! only []
   exact q
  ·rename_i c1
   rw [if_neg (fun z=>c1 z.2)] at q
   exact q
theorem JF (A:Nat):Sc fK A 0:=⟨0,by rw [Rat.zero_mul];rfl,Nat.zero_le _⟩
theorem aV.Hh {cN cL:Addr} {J:Hq} {p T:Addr} {L:Ln} (h:aV cN cL J p L) (hT:J T=Option.some .tab):¬ L.own p T:=by
 rintro (rfl | rfl | rfl | ⟨c,hc,rfl | rfl⟩)
 ·rw [h.ob] at hT;cases hT
 ·rw [h.dc] at hT;cases hT
 ·rw [h.rw] at hT;cases hT
 ·rw [(h.lg c hc).o] at hT;cases hT
 ·rw [(h.lg c hc).l] at hT;cases hT
theorem aT.Dm {L:Ln} (h:aT L):L.fs.length≤100:=by
 unfold Ln.fs Ln.wA
 rw [List.length_map]
 exact Nat.le_trans (List.length_filter_le _ _) h.many
theorem FV {L:Ln} {n:Str} {l:aQ} (h:(n,l)∈L.fs):∃ c∈L.cs,c.n=n∧c.g=none∧c.cur=l:=by
 obtain ⟨c,hc,e⟩:=List.mem_map.mp h
 have:=Ln.cI.mp hc
 cases e
 exact ⟨c,this.1,rfl,this.2,rfl⟩
def jU:bX:=fun xs J Q _=>∃ a b:Int,xs=[.int a,.int b]∧Q (.int (Int.gcd a b:Nat)) J
theorem rR (C:my P w K mg base 1 "shared" ["one","two"] ma):ba P w K mg base 1 "shared" ["one","two"] jU:=C.lift fun xs J vs H Q2 E2 Q E rs r ⟨a,b,ex,q⟩ kn=>by
 subst ex
 obtain ⟨v,u,rfl,r1,r2⟩:=fQ rs
 cases r1;cases r2
 exact ⟨a,b,rfl,kn (.int _) J _ H rfl r .refl q⟩
abbrev cg:Stmt:=(top 18)
theorem ia:L2.au ["pair"] ["pair"] (L2.ai cg):=dt
def rQ:bX:=fun xs J Q _=>∃ a b:Int,xs=[.tup [.int a,.int b]]∧Q (.bl (decide (1≤b∧Int.gcd a b=1))) J
theorem g9 {f:Addr} {fd:FuncData} (F:bP K "in_lowest_terms" "in_lowest_terms" cg f fd) (Z:bD mg) (C_shared:ba P w K mg base 1 "shared" ["one","two"] jU):aF P w K mg base (cx P w) 2 f fd ["pair"] (c9 K rQ):=by
 simp_arith [ia]
 ·obtain ⟨a,b,rfl,_⟩:=h;rfl
 obtain ⟨a,b,rfl,q⟩:=h
 refine ⟨_,(ak (az (tu (cZ yp (ar aw (rv 0) ag (fun _ _=>rfl)) ag (L2.ax _)) (pq (cZ (cj hr.aS) (aR C_shared B hr (by decide) rfl (af (ar aw (rv 0) ag (fun _ _=>rfl)) (af (ar aw (rv 0) ag (fun _ _=>rfl)) ah))) ag (L2.ax _)))))),?_⟩
 simp_all! only []
 by_cases c:1≤b
 ·simp only [c,decide_true,true_and,if_true] at q ⊢
  simp_all! only [jU]
  have:decide (((Int.gcd a b:Nat):Int)=1)=decide (Int.gcd a b=1):=decide_eq_decide.mpr (by omega)
  rw [this];exact q
 ·simp only [c,decide_false,false_and] at q ⊢
  rw [if_neg (fun z=>z)]
  exact q
abbrev dD:Stmt:=(top 40)
theorem eG:L2.au ["moment","top","bottom"] ["moment"] (L2.ai dD):=dt
def fI (a b:Int):Bool:=decide (b≤60∧1≤b∧Int.gcd a b=1∧0≤a∧a≤1000000 * b)
def vb:bX:=fun xs J Q _=>∃ a b:Int,xs=[.tup [.int a,.int b]]∧Q (.bl (fI a b)) J
theorem kr {f:Addr} {fd:FuncData} (F:bP K "good_moment" "good_moment" dD f fd) (Z:bD mg) {t_FINEST t_LATEST:Tok} (g_FINEST:mg "FINEST"=some (.int 60 t_FINEST)) (g_LATEST:mg "LATEST"=some (.int 1000000 t_LATEST)) (C_in_lowest_terms:ba P w K mg base 2 "in_lowest_terms" ["pair"] rQ):aF P w K mg base (cx P w) 3 f fd ["moment"] (c9 K vb):=by
 simp_arith [eG]
 ·obtain ⟨a,b,rfl,_⟩:=h;rfl
 obtain ⟨a,b,rfl,q⟩:=h
 refine ⟨_,(aj (sj (rv 0) (tT rfl (eX (bT (i:=1) eG.nd rfl (Or.inl rfl)) (eX (bT (i:=2) eG.nd rfl (Or.inl rfl)) pM))))
   (aj (aU (du (iH (aE ka (rv 2) (d7 (v:=.int 60) (.int 60) rfl g_FINEST ⟨_,rfl⟩ (fun _ _=>rfl)) (L2.ax _)) (gJ (cO (bG (aR C_in_lowest_terms B hr (by decide) rfl (af (rv 0) ah))))))) (ak (az gC)) aI)
   (ak (az (yF xT xT ag (rv 1) (aP cP (d7 (v:=.int 1000000) (.int 1000000) rfl g_LATEST ⟨_,rfl⟩ (fun _ _=>rfl)) (rv 2))))))),?_⟩
 unfold fI at q
 simp_all! only []
 refine ⟨rfl,?_⟩
 simp_all! only []
 by_cases c1:60 < b
 ·rw [if_pos c1]
  rw [decide_eq_false (fun z=>by omega)] at q
  exact q
 rw [if_neg c1]
 simp_all! only []
 refine ⟨a,b,rfl,?_⟩
 by_cases c2:1≤b∧Int.gcd a b=1
 ·rw [decide_eq_true c2]
  simp_all! only [mf]
  by_cases c3:0≤a
  ·simp only [c3,decide_true,if_true]
   refine ⟨.of (.small (x:=1000000) (by decide) (by decide)) (.small (x:=b) (by omega) (by omega)),?_⟩
   have:decide (a≤1000000 * b)=decide (b≤60∧1≤b∧Int.gcd a b=1∧0≤a∧a≤1000000 * b):=decide_eq_decide.mpr ⟨fun z=>⟨by omega,c2.1,c2.2,c3,z⟩,fun z=>z.2.2.2.2⟩
   rw [this];exact q
  ·rw [decide_eq_false (fun z=>c3 z.2.2.2.1)] at q
   simp only [c3,decide_false]
   rw [if_neg (fun z=>z)]
   exact q
 ·rw [decide_eq_false c2]
  rw [decide_eq_false (fun z=>c2 ⟨z.2.1,z.2.2.1⟩)] at q
  simp_all! only []
  exact q
theorem aV.less {cN cL:Addr} {J J':Hq} {p:Addr} {L:Ln} (h:aV cN cL J p L) (l:mC J J'):aV cN cL J' p L:=h.keep fun a o _ e=>by
 rcases l a with z | z
 ·rw [← z];exact e
 ·rw [z] at e;cases e
theorem nF {J J':Hq} {p r:Addr} {x y:HQ} (l:mC J J') (hp:J p=none) (hr:J' r=none):mC J (put (put J' r x) p y):=fun a=>by
 by_cases e:a=p
 ·exact .inr (by rw [e];exact hp)
 by_cases e2:a=r
 ·rcases l a with z | z
  ·right;rw [z,e2];exact hr
  ·exact .inr z
 ·rw [aq e,aq e2];exact l a
theorem we {J:Hq} {p r:Addr} {x y z:HQ} (hp:J p=none) (hr:put J p x r=none):mC J (put (put (put J p x) r y) p z):=nF (jv hp) hp hr
theorem yr (xs:List PV) (k:Nat) (h:k≤xs.length):ko xs (some (k:Int)) none=xs.drop k:=by
 unfold ko HT.c6
 simp only [Int.toNat_natCast]
 rw [if_neg (by omega),Nat.min_eq_left h]
 rw [List.take_of_length_le (by rw [List.length_drop];exact Nat.le_refl _)]
theorem bQ.keys {L:Ln} (ok:bQ L):L.row.map PV.str=(cT (L.fs.map (key L.t))).map fun k=>PV.str k.n:=by rw [ok.row];unfold bZ;rw [List.map_map];rfl
theorem oK {L:Ln} (ok:aT L) {a:Ky} (ha:a∈cT (L.fs.map (key L.t))) {c:Cf} (hc:c∈L.cs) (hg:c.g=none) (e:c.n=a.n):a=key L.t (c.n,c.cur):=by
 obtain ⟨x,hx,rfl⟩:=List.mem_map.mp ((bq _ _).mp ha)
 obtain ⟨c0,hc0,h1,h2,h3⟩:=FV (n:=x.1) (l:=x.2) hx
 have:c0=c:=ok.uniq hc0 hc (h1.trans e.symm)
 subst this
 show key L.t (x.1,x.2)=_
 rw [← h3,← h1]
theorem kJ {L:Ln} (ok:bQ L) {a:Ky} (ha:a∈cT (L.fs.map (key L.t))):a.n∈L.row:=by
 rw [ok.row];unfold bZ;exact List.mem_map.mpr ⟨a,ha,rfl⟩
theorem qm {L:Ln} (ok:bQ L) {a b:Ky} (ha:a∈cT (L.fs.map (key L.t))) (hb:b∈cT (L.fs.map (key L.t))) (h:b.v < a.v):Sz 9000 (fB L.t a b):=by
 obtain ⟨c,hc,hcn,hcg⟩:=ok.found (kJ ok ha)
 obtain ⟨c',hc',hcn',hcg'⟩:=ok.found (kJ ok hb)
 have ea:=oK ok.toaT ha hc hcg hcn
 have eb:=oK ok.toaT hb hc' hcg' hcn'
 have hv:c.cur.v≠c'.cur.v:=by rw [ea,eb] at h;exact fun z=>by have:c'.cur.v < c.cur.v:=h;omega
 rw [ea,eb,← k_ hv]
 exact (p5 (ok.Ha hc) (ok.Ha hc') hv).mono (by decide)
theorem bQ.knd {L:Ln} (ok:bQ L):((L.fs.map (key L.t)).map Ky.n).Nodup:=by rw [c5];exact ok.C8
theorem bQ.HG {L:Ln} (ok:bQ L):(cT (L.fs.map (key L.t))).length≤12:=by
 have h1:=ok.rl
 have h2:=congrArg List.length ok.keys
 rw [List.length_map,List.length_map] at h2
 omega
theorem ze {L:Ln} (ok:bQ L) {i j:Nat} {a b:Ky} (ha:(cT (L.fs.map (key L.t)))[i]?=some a) (hb:(cT (L.fs.map (key L.t)))[j]?=some b) (hij:i < j) {c c':Cf} (hc:c∈L.cs) (hc':c'∈L.cs) (hg:c.g=none) (hg':c'.g=none) (e:c.n=a.n) (e':c'.n=b.n) :
  B0 L.t c.cur c'.cur=if b.v < a.v∧a.p < b.p then some (fB L.t a b) else none:=by
 have ea:=oK ok.toaT (List.mem_of_getElem? ha) hc hg e
 have eb:=oK ok.toaT (List.mem_of_getElem? hb) hc' hg' e'
 have hlt:a.lt b=true:=by
  obtain ⟨hil,ei⟩:=List.getElem?_eq_some_iff.mp ha
  obtain ⟨hjl,ej⟩:=List.getElem?_eq_some_iff.mp hb
  have:=List.pairwise_iff_getElem.mp (dg ok.knd) i j hil hjl hij
  rw [ei,ej] at this;exact this
 rw [ea,eb] at hlt ⊢
 have key:=Bu hlt
 unfold B0
 by_cases z:c.cur.v≠c'.cur.v∧L.t < jw c.cur c'.cur
 ·rw [if_pos z,if_pos (show (Ov.key L.t (c'.n,c'.cur)).v < (Ov.key L.t (c.n,c.cur)).v∧(Ov.key L.t (c.n,c.cur)).p < (Ov.key L.t (c'.n,c'.cur)).p from key.mp z),k_ z.1]
 ·rw [if_neg z,if_neg (show ¬ ((Ov.key L.t (c'.n,c'.cur)).v < (Ov.key L.t (c.n,c.cur)).v∧(Ov.key L.t (c.n,c.cur)).p < (Ov.key L.t (c'.n,c'.cur)).p) from fun y=>z (key.mpr y))]
abbrev cW:Stmt:=(L2.inClass (top 42) 6)
theorem bE:L2.au ["self","moment","passings","at","hind","fore","met"] ["self","moment"] (L2.ai cW):=dt
def vJ (cN cL eM eP:Addr):bX:=fun xs J Q E=>∃ p L a b,xs=[.ref p,.tup [.int a,.int b]]∧aV cN cL J p L∧bQ L∧(fI a b=false→E eM J)∧(∀ m:Rat,m.num=a→(m.den:Int)=b→fI a b=true→(m < L.t→E eP J)∧(L.t≤m→Q (.fl ((l4 L.t (L.fs.map (key L.t)) m).map aG.v)) J))
theorem jM {cN cL cB eM eP eC f:Addr} {fd:FuncData} (F:bP K "foretold" "Lane.foretold" cW f fd) (Z:bD mg) (KD_Lane:cQ K mg "Lane" cN) (NA_Lane_now:ay K cN "now") (NA_Lane_row:ay K cN "row") (O_BadMoment:Own K mg "BadMoment" eM) (O_Past:Own K mg "Past" eP) (C_good_moment:ba P w K mg base 3 "good_moment" ["moment"] vb) (C_less:ba P w K mg base 1 "less" ["one","two"] cA) (M_Bells:wd P w K mg base cB 1 "Bells" ["self"] (vq cB)) (m_Lane_meets:b9 P w K mg base cN 6 "meets" ["self","name","other"] (p7 cN cL eC)) (m_Bells_put:b9 P w K mg base cB 3 "put" ["self","moment","hind","fore"] (zF cB)) (m_Bells_told:b9 P w K mg base cB 1 "told" ["self"] (t9 cB)):aF P w K mg base (cx P w) 7 f fd ["self","moment"] (c9 K (vJ cN cL eM eP)):=by
 refine GW F bE (fun xs J Q E h=>?_) (fun cdv A outer s H E G xs J Q E2 hr h B=>?_)
 ·obtain ⟨p,L,a,b,rfl,_⟩:=h;rfl
 obtain ⟨p,L,a,bb,rfl,b,ok,qe,q⟩:=h
 have bo:=b.ob
 refine ⟨_,(aj (aU (cO (bG (aR C_good_moment B hr (by decide) rfl (af (rv 1) ah)))) (ak (dq O_BadMoment rfl bU B.kn rfl (af bz ah))) aI)
   (aj (aU (bG (aR C_less B hr (by decide) rfl (af (rv 1) (af (aO KD_Lane.cl NA_Lane_now (rv 0)) ah)))) (ak (dq O_Past rfl bU B.kn rfl (af bz ah))) aI)
   (aj (aL (i:=2) bE.nd rfl (Or.inl rfl) (rO M_Bells B hr (by decide) rfl))
   (aj (fS cH rfl (B3 rfl Z.enumerate (af (aO KD_Lane.cl NA_Lane_row (rv 0)) ah)) (tT (n:=2) rfl (eX (bT (i:=3) bE.nd rfl (Or.inl rfl)) (eX (bT (i:=4) bE.nd rfl (Or.inl rfl)) pM))) (ak (fS cH rfl (fk (iS FL (aO KD_Lane.cl NA_Lane_row (rv 0)) (kG (aP dz (rv 3) ag)) kO)) (bT (i:=5) bE.nd rfl (Or.inl rfl)) (aj (aL (i:=6) bE.nd rfl (Or.inl rfl) (a8 (pl:=_) m_Lane_meets B hr (by decide) (rv 0) (af (rv 4) (af (rv 5) ah))))
   (ak (aU (du (eO (aE qB (rv 6) fu (L2.ax _)) (dH (cO (bG (aR C_less B hr (by decide) rfl (af (rv 1) (af (rv 6) ah)))))))) (ak (aY (a8 (pl:=_) m_Bells_put B hr (by decide) (rv 2) (af (rv 6) (af (rv 4) (af (rv 5) ah)))))) aI))))))
   (ak (az (dQ (pl:=_) m_Bells_told B hr (by decide) (rv 2)))))))),?_⟩
 simp_all! only []
 refine ⟨a,bb,rfl,?_⟩
 cases hg:fI a bb with
 | false =>
  simp_all! only [eR]
  exact qe hg
 | true =>
  have hgm:=of_decide_eq_true hg
  obtain ⟨m,hm1,hm2⟩:∃ m:Rat,m.num=a∧(m.den:Int)=bb:=⟨⟨a,bb.toNat,by omega,by
   have:=hgm.2.2.1
   unfold Int.gcd at this
   show Nat.gcd a.natAbs bb.toNat=1
   rw [show bb.toNat=bb.natAbs by omega];exact this⟩,rfl,by show ((bb.toNat:Nat):Int)=bb;omega⟩
  obtain ⟨q1,q2⟩:=q m hm1 hm2 hg
  have ef:PV.tup [.int a,.int bb]=fr m:=by rw [← hm1,← hm2];rfl
  have sm:Sz 900 m:=⟨(Bd.small (x:=m.num) (by omega) (by omega)).mono (by decide),(Bd.small (x:=(m.den:Int)) (by omega) (by omega)).mono (by decide)⟩
  simp_all! only [bo,lT,ef]
  refine ⟨_,_,rfl,sm.mono (by decide),ok.Bc.mono (by decide),?_⟩
  by_cases c1:m < L.t
  ·rw [decide_eq_true c1]
   simp_all! only [eR]
   exact q1 c1
  rw [decide_eq_false c1]
  have q:=q2 (by grind)
  simp_all! only []
  intro pb hpb
  refine ⟨pb,rfl,av,fun r0 hr0=>⟨rfl,?_⟩⟩
  have l0:=we (y:=.lst []) (z:=.ins cB [("rows",.ref r0)]) hpb hr0
  have nr0:r0≠pb:=by intro e;subst e;rw [av] at hr0;cases hr0
  have b0:A2 cB (put (put (put J pb (.ins cB [])) r0 (.lst [])) pb (.ins cB [("rows",.ref r0)])) pb r0 []:=⟨av,by rw [aq nr0];exact av⟩
  generalize put (put (put J pb (.ins cB [])) r0 (.lst [])) pb (.ins cB [("rows",.ref r0)])=J0 at l0 b0 ⊢
  simp_all! only [(b.less l0).ob,(b.less l0).rw,kB]
  obtain ⟨ks,hks⟩:∃ ks,cT (L.fs.map (key L.t))=ks:=⟨_,rfl⟩
  have hrow:L.row.map PV.str=ks.map fun k=>PV.str k.n:=by rw [← hks];exact ok.keys
  have hkl:ks.length≤12:=by rw [← hks];exact ok.HG
  have hup:∀ {ps:List (Ky × Ky)},(∀ p∈ps,p.1∈ks∧p.2∈ks)→∀ x∈di L.t (eJ L.t m) ps,Sz 9000 x.m:=fun hp x hx=>by
   obtain ⟨p,hp',hc,rfl⟩:=nN _ hx
   have:=of_decide_eq_true hc
   exact qm ok (by rw [hks];exact (hp p hp').1) (by rw [hks];exact (hp p hp').2) this.1
  rw [hrow]
  obtain ⟨Inv,hInv⟩:∃ Inv:Nat→Sr→Hq→Prop,∀ i τ J',Inv i τ J'↔∃ (r:Addr) (u3 u4 u5 u6:Option PV),τ=[some (.ref p),some (fr m),some (.ref pb),u3,u4,u5,u6]∧mC J J'∧A2 cB J' pb r (di L.t (eJ L.t m) (rV ks i))∧(di L.t (eJ L.t m) (rV ks i)).length≤12 * i:=⟨_,fun _ _ _=>Iff.rfl⟩
  refine iw Inv ((hInv _ _ _).mpr ⟨r0,_,_,_,_,rfl,l0,b0,Nat.le_refl _⟩) (fun i τ J' h=>?_) ?_ ?_
  ·obtain ⟨r,_,_,_,_,_,l',_⟩:=(hInv _ _ _).mp h
   rw [(b.less l').rw,hrow]
  ·intro i x τ J' hx hv
   obtain ⟨r,u3,u4,u5,u6,rfl,l',bb,hle⟩:=(hInv _ _ _).mp hv
   clear hv
   have hi:i < ks.length:=by have:=(List.getElem?_eq_some_iff.mp hx).1;rw [gR,List.length_map] at this;exact this
   have ha:ks[i]?=some ks[i]:=List.getElem?_eq_getElem hi
   rw [nZ _ i (.str (ks[i]).n) (by rw [List.getElem?_map,ha];rfl)] at hx
   cases hx
   generalize ks[i]=a at ha ⊢
   simp_all! only [(b.less l').ob,(b.less l').rw,kB]
   rw [hrow,show (i:Int) + 1=((i + 1:Nat):Int) by omega,yr _ _ (by rw [List.length_map];omega),← List.map_drop]
   have eup:rV ks (i + 1)=rV ks i ++ (ks.drop (i + 1)).map fun b=>(a,b):=by show rV ks i ++ _=_;rw [ha]
   have mup:∀ j,∀ p∈rV ks i ++ ((ks.drop (i + 1)).take j).map (fun b=>(a,b)),p.1∈ks∧p.2∈ks:=fun j p hp=>by
    rcases List.mem_append.mp hp with hp | hp
    ·obtain ⟨_,_,_,_,h3,h4⟩:=iK.mp hp
     exact ⟨List.mem_of_getElem? h3,List.mem_of_getElem? h4⟩
    ·obtain ⟨y,hy,rfl⟩:=List.mem_map.mp hp
     exact ⟨List.mem_of_getElem? ha,List.mem_of_mem_drop (List.mem_of_mem_take hy)⟩
   obtain ⟨In2,hIn2⟩:∃ In2:Nat→Sr→Hq→Prop,∀ j τ J',In2 j τ J'↔∃ (r:Addr) (u5 u6:Option PV),τ=[some (.ref p),some (fr m),some (.ref pb),some (.int (i:Int)),some (.str a.n),u5,u6]∧mC J J'∧A2 cB J' pb r (di L.t (eJ L.t m) (rV ks i ++ ((ks.drop (i + 1)).take j).map fun b=>(a,b)))∧(di L.t (eJ L.t m) (rV ks i ++ ((ks.drop (i + 1)).take j).map fun b=>(a,b))).length≤12 * i + j:=⟨_,fun _ _ _=>Iff.rfl⟩
   refine iw In2 ((hIn2 _ _ _).mpr ⟨r,_,_,rfl,l',by simpa using bb,by simpa using hle⟩) (fun _ _ _ _=>trivial) ?_ ?_
   ·intro j x τ J2 hx hv
    obtain ⟨r2,u5,u6,rfl,l2,bb2,hle2⟩:=(hIn2 _ _ _).mp hv
    clear hv
    have hj:j < (ks.drop (i + 1)).length:=by have:=(List.getElem?_eq_some_iff.mp hx).1;rw [List.length_map] at this;exact this
    have hb:(ks.drop (i + 1))[j]?=some (ks.drop (i + 1))[j]:=List.getElem?_eq_getElem hj
    rw [List.getElem?_map,hb] at hx
    cases hx
    generalize (ks.drop (i + 1))[j]=y at hb ⊢
    have hb':ks[i + 1 + j]?=some y:=by rw [List.getElem?_drop] at hb;exact hb
    have hjl:j < 12:=by rw [List.length_drop] at hj;omega
    have ej:(ks.drop (i + 1)).take (j + 1)=(ks.drop (i + 1)).take j ++ [y]:=by rw [List.take_add_one,hb];rfl
    have ef2:di L.t (eJ L.t m) (rV ks i ++ ((ks.drop (i + 1)).take (j + 1)).map fun b=>(a,b))=mP L.t (eJ L.t m) (di L.t (eJ L.t m) (rV ks i ++ ((ks.drop (i + 1)).take j).map fun b=>(a,b))) (a,y):=by
     rw [ej,List.map_append,← List.append_assoc];exact fN _ _ _ _
    have srt:=m_ L.t (eJ L.t m) (rV ks i ++ ((ks.drop (i + 1)).take j).map fun b=>(a,b))
    have szs:=hup (mup j)
    generalize di L.t (eJ L.t m) (rV ks i ++ ((ks.drop (i + 1)).take j).map fun b=>(a,b))=rows at bb2 hle2 ef2 srt szs
    have me:eJ L.t m (a,y)=false→∀ {v5 v6},In2 (j + 1) [some (.ref p),some (fr m),some (.ref pb),some (.int (i:Int)),some (.str a.n),v5,v6] J2:=fun hc v5 v6=>by
     have e:mP L.t (eJ L.t m) rows (a,y)=rows:=by unfold mP;rw [if_neg (by rw [hc];decide)]
     exact (hIn2 _ _ _).mpr ⟨r2,_,_,rfl,l2,by rw [ef2,e];exact bb2,by rw [ef2,e];omega⟩
    have b2:=b.less l2
    simp_all! only [b2.ob]
    refine ⟨dS _ _ _ _,p,L,a.n,y.n,rfl,b2,ok.toaT,fun c hc c' hc' e e' hg hg'=>?_,fun z=>?_⟩
    ·have hmet:=ze ok (by rw [hks];exact ha) (by rw [hks];exact hb') (by omega) hc hc' hg hg' e e'
     rw [hmet]
     by_cases c2:y.v < a.v∧a.p < y.p
     ·rw [if_pos c2]
      have smk:=qm ok (by rw [hks];exact List.mem_of_getElem? ha) (by rw [hks];exact List.mem_of_getElem? hb') c2.1
      simp_all! only [gv,oR,cA]
      refine ⟨sm.mono (by decide),smk,?_⟩
      by_cases c3:m < fB L.t a y
      ·rw [if_pos c3]
       exact me (decide_eq_false (fun z=>by have:=z.2.2;grind))
      ·rw [if_neg c3]
       have hcp:eJ L.t m (a,y)=true:=decide_eq_true ⟨c2.1,c2.2,by grind⟩
       have e:mP L.t (eJ L.t m) rows (a,y)=ip ⟨fB L.t a y,a.n,y.n⟩ (c7 a.n y.n rows):=by unfold mP;rw [if_pos hcp];rfl
       simp_all! only [bb2.o]
       refine ⟨Iz _,pb,r2,rows,fB L.t a y,a.n,y.n,rfl,bb2,srt,by omega,smk,szs,fun r' hr'=>?_⟩
       have nr:r'≠pb:=by intro z;subst z;rw [bb2.o] at hr';cases hr'
       refine (hIn2 _ _ _).mpr ⟨r',_,_,rfl,nF l2 hpb hr',⟨av,by rw [aq nr,av,ef2,e]⟩,?_⟩
       rw [ef2,e,xH]
       have:=n8 a.n y.n rows
       omega
     ·rw [if_neg c2]
      simp_all! only [gv]
      exact me (decide_eq_false (fun z=>c2 ⟨z.1,z.2.1⟩))
    ·rcases z with z | z
     ·exact absurd (kJ ok (by rw [hks];exact List.mem_of_getElem? ha)) z
     ·exact absurd (kJ ok (by rw [hks];exact List.mem_of_getElem? hb')) z
   ·intro τ J2 hv
    obtain ⟨r2,u5,u6,rfl,l2,bb2,hle2⟩:=(hIn2 _ _ _).mp hv
    rw [List.length_map,List.take_length,← eup] at bb2 hle2
    rw [List.length_drop] at hle2
    exact (hInv _ _ _).mpr ⟨r2,_,_,_,_,rfl,l2,bb2,by omega⟩
  ·intro τ J' hv
   obtain ⟨r,u3,u4,u5,u6,rfl,l',bb,hle⟩:=(hInv _ _ _).mp hv
   rw [gR,List.length_map,← hks,Ay ok.knd] at bb
   simp_all! only [bb.o]
   exact ⟨Ho _,pb,r,_,rfl,bb,.inl (Fg.less l' q)⟩
theorem qa {m:Rat} (h:fI m.num m.den=true):Sc fK MM m∧0≤m:=by
 have h:=of_decide_eq_true h
 have hd:m.den≤60:=by omega
 constructor
 ·have h1:Sc m.den m.num.natAbs m:=⟨m.num,by have:=cast_eq m;rw [this];rfl,Nat.le_refl _⟩
  obtain ⟨k,hk⟩:=Jm m.den m.den_pos hd
  have h2:=h1.scale (E:=k)
  rw [show k * m.den=fK by rw [hk,Nat.mul_comm]] at h2
  refine h2.mono ?_
  have h3:m.num.natAbs≤1000000 * m.den:=by omega
  have h4:k * m.num.natAbs≤k * (1000000 * m.den):=Nat.mul_le_mul_left _ h3
  have h5:k * (1000000 * m.den)=1000000 * fK:=by rw [hk];rw [Nat.mul_left_comm,Nat.mul_comm k]
  unfold MM
  omega
 ·exact Rat.num_nonneg.mp h.2.2.2.1
theorem aT.Fj {L:Ln} (h:aT L) {m:Rat} (hm:L.t≤m) (hg:fI m.num m.den=true):aT { L with t:=m } :=
 ⟨h.nd,h.ne,fun c hc l hl=>Rat.le_trans (h.le c hc l hl) hm,h.ck,h.len,fun c hc q e=>⟨(h.gz c hc q e).1,Rat.le_trans (h.gz c hc q e).2 hm⟩,(qa hg).2,(qa hg).1,h.many,h.rm,h.rn,h.rl⟩
abbrev dZ:Stmt:=(L2.inClass (top 42) 5)
theorem hX:L2.au ["self","moment","passings"] ["self","moment"] (L2.ai dZ):=dt
def Cy (cN cL eM eP:Addr):bX:=fun xs J Q E=>∃ p L a b,xs=[.ref p,.tup [.int a,.int b]]∧aV cN cL J p L∧bQ L∧(fI a b=false→E eM J)∧(∀ m:Rat,m.num=a→(m.den:Int)=b→fI a b=true→(m < L.t→E eP J)∧(L.t≤m→∀ J' o',aV cN cL J' p { L with t:=m,o:=o',row:=bZ m L.fs }→bQ { L with t:=m,o:=o',row:=bZ m L.fs }→Mv J J' (L.own p) (Ln.own { L with t:=m,o:=o',row:=bZ m L.fs } p)→Q (.fl ((l4 L.t (L.fs.map (key L.t)) m).map aG.v)) J'))
theorem mO {cN cL eM eP f:Addr} {fd:FuncData} (F:bP K "go_to" "Lane.go_to" dZ f fd) (Z:bD mg) (KD_Lane:cQ K mg "Lane" cN) (NA_Lane_now:ay K cN "now") (m_Lane_foretold:b9 P w K mg base cN 7 "foretold" ["self","moment"] (vJ cN cL eM eP)) (m_Lane_settle:b9 P w K mg base cN 7 "settle" ["self"] (fJ cN cL)):aF P w K mg base (cx P w) 8 f fd ["self","moment"] (c9 K (Cy cN cL eM eP)):=by
 simp_arith [hX]
 ·obtain ⟨p,L,a,b,rfl,_⟩:=h;rfl
 obtain ⟨p,L,a,bb,rfl,b,ok,qe,q⟩:=h
 have bo:=b.ob
 refine ⟨_,(aj (aL (i:=2) hX.nd rfl (Or.inl rfl) (a8 (pl:=_) m_Lane_foretold B hr (by decide) (rv 0) (af (rv 1) ah)))
   (aj (ft KD_Lane.cl NA_Lane_now (rv 0) (rv 1))
   (aj (aY (dQ (pl:=_) m_Lane_settle B hr (by decide) (rv 0)))
   (ak (az (rv 2)))))),?_⟩
 simp_all! only [bo]
 refine ⟨dS _ _ _ _,p,L,a,bb,rfl,b,ok,qe,fun m h1 h2 hg=>⟨(q m h1 h2 hg).1,fun hm=>?_⟩⟩
 have q:=(q m h1 h2 hg).2 hm
 have ef:PV.tup [.int a,.int bb]=fr m:=by rw [← h1,← h2];rfl
 have hgm:fI m.num m.den=true:=by rw [h1,h2];exact hg
 have ok1:=ok.toaT.Fj hm hgm
 simp_all! only [bo,ef]
 refine ⟨by show (3:Nat) < 1000;decide,?_⟩
 have b1:aV cN cL (put J p (.ins cN [("now",fr m),("logs",.ref L.d),("row",.ref L.o)])) p { L with t:=m } :=
  ⟨av,by show put J p _ L.d=_;rw [aq b.A8];exact b.dc,by show put J p _ L.o=_;rw [aq b.AF];exact b.rw,fun c hc=>⟨by rw [aq (b.G9 hc)];exact (b.lg c hc).o,by rw [aq (b.EE hc)];exact (b.lg c hc).l⟩,b.ap,b.ao⟩
 have mv1:Mv J (put J p (.ins cN [("now",fr m),("logs",.ref L.d),("row",.ref L.o)])) (L.own p) (L.own p):=eS (.inl rfl) fun a h=>.inl h
 generalize put J p (.ins cN [("now",fr m),("logs",.ref L.d),("row",.ref L.o)])=J1 at b1 mv1 ⊢
 simp_all! only [b1.ob]
 refine ⟨dS _ _ _ _,p,{ L with t:=m },rfl,b1,ok1,fun J2 o' b2 mv2=>?_⟩
 simp_all! only []
 exact q J2 o' b2 (bQ.settled ok1 o') (mv1.trans mv2)
def Cf.turn (c:Cf) (t:Rat) (v:Int):Cf:={ c with w:=turned c.w t v }
def b_ (n:Str) (t:Rat) (v:Int) (c:Cf):Cf:=if c.n=n then c.turn t v else c
theorem i_ (n:Str) (t:Rat) (v:Int) (c:Cf):(b_ n t v c).n=c.n∧(b_ n t v c).a=c.a∧(b_ n t v c).r=c.r∧(b_ n t v c).g=c.g:=by unfold b_;split <;> exact ⟨rfl,rfl,rfl,rfl⟩
theorem dj {α β:Type} {f:α→β} {g:α→α} (h:∀ x,f (g x)=f x) (l:List α):(l.map g).map f=l.map f:=by rw [List.map_map];exact List.map_congr_left fun x _=>h x
theorem aT.map {L:Ln} (h:aT L) {f:Cf→Cf} (hn:∀ c,(f c).n=c.n∧(f c).a=c.a∧(f c).r=c.r∧(f c).g=c.g) (hw:∀ c∈L.cs,(f c).w≠[]∧(∀ l∈(f c).w,l.m≤L.t∧mG l)∧(f c).w.length≤200):aT { L with cs:=L.cs.map f }:=by
 have mem:∀ c∈L.cs.map f,∃ c0∈L.cs,f c0=c:=fun c hc=>by obtain ⟨c0,h0,e⟩:=List.mem_map.mp hc;exact ⟨c0,h0,e⟩
 have hfs:(Ln.fs { L with cs:=L.cs.map f }).map (·.1)=L.fs.map (·.1):=by
  rw [dO,dO]
  unfold Ln.wA
  show ((L.cs.map f).filter _).map Cf.n=_
  rw [List.filter_map,List.map_map]
  have e1:(fun c:Cf=>c.g.isNone) ∘ f=fun c=>c.g.isNone:=by funext c;show (f c).g.isNone=_;rw [(hn c).2.2.2]
  rw [e1]
  exact List.map_congr_left fun c _=>(hn c).1
 refine ⟨?_,?_,?_,?_,?_,?_,h.t0,h.ts,by show (L.cs.map f).length≤100;rw [List.length_map];exact h.many,fun n=>by rw [hfs];exact h.rm n,h.rn,h.rl⟩
 ·show ((L.cs.map f).map Cf.n).Nodup
  rw [dj (fun c=>(hn c).1)];exact h.nd
 ·intro c hc;obtain ⟨c0,h0,rfl⟩:=mem c hc;exact (hw c0 h0).1
 ·intro c hc l hl;obtain ⟨c0,h0,rfl⟩:=mem c hc;exact ((hw c0 h0).2.1 l hl).1
 ·intro c hc l hl;obtain ⟨c0,h0,rfl⟩:=mem c hc;exact ((hw c0 h0).2.1 l hl).2
 ·intro c hc;obtain ⟨c0,h0,rfl⟩:=mem c hc;exact (hw c0 h0).2.2
 ·intro c hc q e;obtain ⟨c0,h0,rfl⟩:=mem c hc;exact h.gz c0 h0 q (by rw [← (hn c0).2.2.2];exact e)
theorem aT.CH {L:Ln} (h:aT L) {c:Cf} (hc:c∈L.cs):c.w≠[]∧(∀ l∈c.w,l.m≤L.t∧mG l)∧c.w.length≤200:=⟨h.ne c hc,fun l hl=>⟨h.le c hc l hl,h.ck c hc l hl⟩,h.len c hc⟩
theorem aT.CA {L:Ln} (h:aT L) {c:Cf} (hc:c∈L.cs) (hl:c.w.length < 200) {v:Int} (hv:v.natAbs≤1000):(c.turn L.t v).w≠[]∧(∀ l∈(c.turn L.t v).w,l.m≤L.t∧mG l)∧(c.turn L.t v).w.length≤200:=by
 refine ⟨jH (h.ne c hc),fun l hl'=>?_,?_⟩
 ·rcases lR hl' with k | ⟨l0,k,rfl⟩
  ·exact ⟨h.le c hc l k,h.ck c hc l k⟩
  ·exact ⟨Rat.le_refl,(h.ck c hc l0 k).at (h.le c hc l0 k) h.ts hv⟩
 ·have:=f6 c.w L.t v
  show (turned c.w L.t v).length≤200
  omega
theorem aV.turn {cN cL:Addr} {J:Hq} {p:Addr} {L:Ln} (h:aV cN cL J p L) (ok:aT L) {c:Cf} (hc:c∈L.cs) {t:Rat} {v:Int}:aV cN cL (put J c.r (.lst ((turned c.w t v).map aQ.V))) p { L with cs:=L.cs.map (b_ c.n t v) }:=by
 have hcs:=i_ c.n t v
 refine ⟨by rw [aq (Ne.symm (h.EE hc))];exact h.ob,?_,?_,fun x hx=>?_,?_,fun x hx=>?_⟩
 ·show put J c.r _ L.d=_
  rw [aq (Ne.symm (h.IX hc)),h.dc]
  show _=Option.some (HQ.dct ((L.cs.map (b_ c.n t v)).map fun c=>(c.n,PV.ref c.a)) L.e)
  rw [dj (f:=fun c:Cf=>(c.n,PV.ref c.a)) (fun x=>by rw [(hcs x).1,(hcs x).2.1])]
 ·show put J c.r _ L.o=_
  rw [aq (Ne.symm (h.ao c hc))];exact h.rw
 ·obtain ⟨x0,h0,rfl⟩:=List.mem_map.mp hx
  have hl:=h.lg x0 h0
  refine ⟨?_,?_⟩
  ·rw [(hcs x0).2.1,(hcs x0).2.2.1,(hcs x0).2.2.2,aq (h.Jq h0 hc)];exact hl.o
  ·rw [(hcs x0).2.2.1]
   by_cases e:x0.n=c.n
   ·have:x0=c:=ok.uniq h0 hc e
    subst this
    rw [av]
    unfold b_;rw [if_pos rfl];rfl
   ·have hr:x0.r≠c.r:=fun z=>e (by
     obtain ⟨i,hi,rfl⟩:=List.getElem_of_mem h0
     obtain ⟨j,hj,rfl⟩:=List.getElem_of_mem hc
     have:=(List.getElem_inj (xs:=L.cs.map Cf.r) (i:=i) (j:=j) (h₀:=by simpa using hi) (h₁:=by simpa using hj) h.ap).mp (by rw [List.getElem_map,List.getElem_map];exact z)
     subst this;rfl)
    rw [aq hr]
    unfold b_;rw [if_neg e];exact hl.l
 ·show ((L.cs.map (b_ c.n t v)).map Cf.r).Nodup
  rw [dj (fun x=>(hcs x).2.2.1)];exact h.ap
 ·obtain ⟨x0,h0,rfl⟩:=List.mem_map.mp hx
  rw [(hcs x0).2.2.1];exact h.ao x0 h0
theorem pz {L:Ln} {p:Addr} {f:Cf→Cf} (hn:∀ c,(f c).n=c.n∧(f c).a=c.a∧(f c).r=c.r∧(f c).g=c.g) (a:Addr):Ln.own { L with cs:=L.cs.map f } p a↔L.own p a:=by
 unfold Ln.own
 constructor
 ·rintro (h | h | h | ⟨c,hc,h⟩)
  ·exact .inl h
  ·exact .inr (.inl h)
  ·exact .inr (.inr (.inl h))
  ·obtain ⟨c0,h0,rfl⟩:=List.mem_map.mp hc
   rw [(hn c0).2.1,(hn c0).2.2.1] at h
   exact .inr (.inr (.inr ⟨c0,h0,h⟩))
 ·rintro (h | h | h | ⟨c,hc,h⟩)
  ·exact .inl h
  ·exact .inr (.inl h)
  ·exact .inr (.inr (.inl h))
  ·exact .inr (.inr (.inr ⟨f c,List.mem_map.mpr ⟨c,hc,rfl⟩,by rw [(hn c).2.1,(hn c).2.2.1];exact h⟩))
abbrev e_:Stmt:=(L2.inClass (top 42) 3)
theorem oE:L2.au ["self","name","pace"] ["self","name","pace"] (L2.ai e_):=dt
def ug (cN cL eC eF:Addr):bX:=fun xs J Q E=>∃ p L n v,xs=[.ref p,.str n,.int v]∧aV cN cL J p L∧bQ L∧(∀ c∈L.cs,c.w.length < 200)∧(n ∉ L.row→E eC J)∧(n∈L.row→¬ v.natAbs≤1000→E eF J)∧(n∈L.row→v.natAbs≤1000→∀ J' L',aV cN cL J' p L'→bQ L'→L'.cs=L.cs.map (b_ n L.t v)→L'.t=L.t→Mv J J' (L.own p) (L'.own p)→Q .non J')
theorem oy {cN cL eC eF f:Addr} {fd:FuncData} (F:bP K "turn" "Lane.turn" e_ f fd) (Z:bD mg) (KD_Lane:cQ K mg "Lane" cN) (NA_Lane_logs:ay K cN "logs") (NA_Lane_now:ay K cN "now") {t_FASTEST:Tok} (g_FASTEST:mg "FASTEST"=some (.int 1000 t_FASTEST)) (O_TooFar:Own K mg "TooFar" eF) (m_Lane_must_be_there:b9 P w K mg base cN 1 "must_be_there" ["self","name"] (jt cN cL eC)) (m_Log_turn:b9 P w K mg base cL 5 "turn" ["self","moment","pace"] (oi cL)) (m_Lane_settle:b9 P w K mg base cN 7 "settle" ["self"] (fJ cN cL)):aF P w K mg base (cx P w) 8 f fd ["self","name","pace"] (c9 K (ug cN cL eC eF)):=by
 simp_arith [oE]
 ·obtain ⟨p,L,n,v,rfl,_⟩:=h;rfl
 obtain ⟨p,L,n,v,rfl,b,ok,hlen,qc,qf,q⟩:=h
 have bo:=b.ob
 have bd:=b.dc
 refine ⟨_,(aj (aY (a8 (pl:=_) m_Lane_must_be_there B hr (by decide) (rv 0) (af (rv 1) ah)))
   (aj (aU (aE ka (aK tP rfl Z.abs boot_abs (af (rv 2) ah)) (d7 (v:=.int 1000) (.int 1000) rfl g_FASTEST ⟨_,rfl⟩ (fun _ _=>rfl)) (L2.ax _)) (ak (dq O_TooFar rfl bU B.kn rfl (af bz ah))) aI)
   (aj (aY (a8 (pl:=_) m_Log_turn B hr (by decide) (ar dW (aO KD_Lane.cl NA_Lane_logs (rv 0)) (rv 1) (fun _ _=>rfl)) (af (aO KD_Lane.cl NA_Lane_now (rv 0)) (af (rv 2) ah))))
   (ak (aY (dQ (pl:=_) m_Lane_settle B hr (by decide) (rv 0))))))),?_⟩
 simp_all! only [bo]
 refine ⟨dS _ _ _ _,p,L,n,rfl,b,fun hn=>?_,qc⟩
 simp_all! only []
 have habs:(1000 < if v < 0 then -v else v)↔¬ v.natAbs≤1000:=by split <;> omega
 by_cases hv:v.natAbs≤1000
 ·rw [if_neg (fun z=>habs.mp z hv)]
  obtain ⟨c,hc,rfl,hg⟩:=ok.found hn
  have lo:=(b.lg c hc).o
  have ok1:aT { L with cs:=L.cs.map (b_ c.n L.t v) }:=ok.toaT.map (i_ c.n L.t v) fun x hx=>by
   unfold b_
   split
   ·exact ok.toaT.CA hx (hlen x hx) hv
   ·exact ok.toaT.CH hx
  have b1:=b.turn ok.toaT hc (t:=L.t) (v:=v)
  have mv1:Mv J (put J c.r (.lst ((turned c.w L.t v).map aQ.V))) (L.own p) (Ln.own { L with cs:=L.cs.map (b_ c.n L.t v) } p):=eS (.inr (.inr (.inr ⟨c,hc,.inr rfl⟩))) fun a h=>.inl ((pz (i_ c.n L.t v) a).mp h)
  simp_all! only [bo,lT,wM,bd,ok.va hc,lo]
  refine ⟨Gp _ _,c.a,c.r,c.w,c.g,L.t,v,rfl,b.lg c hc,ok.ne c hc,Nat.le_trans (ok.len c hc) (by decide),ok.Bc,fun l hl=>(ok.ck c hc l hl).EK,?_⟩
  generalize put J c.r (.lst ((turned c.w L.t v).map aQ.V))=J1 at b1 mv1 ⊢
  simp_all! only [b1.ob]
  refine ⟨dS _ _ _ _,p,_,rfl,b1,ok1,fun J2 o' b2 mv2=>?_⟩
  exact q hn hv J2 _ b2 (bQ.settled ok1 o') rfl rfl (mv1.trans mv2)
 ·rw [if_pos (habs.mpr hv)]
  simp_all! only [eR]
  exact qf hn hv
def cY (t:Rat) (c:Cf):Cf:=if c.g.isNone=true then c.turn t (-c.cur.v) else c
def bB (t:Rat) (row:List Str) (c:Cf):Cf:=if c.n∈row then c.turn t (-c.cur.v) else c
theorem jh (t:Rat) (row:List Str) (c:Cf):(bB t row c).n=c.n∧(bB t row c).a=c.a∧(bB t row c).r=c.r∧(bB t row c).g=c.g:=by unfold bB;split <;> exact ⟨rfl,rfl,rfl,rfl⟩
theorem gQ {L:Ln} (ok:aT L):L.cs.map (bB L.t L.row)=L.cs.map (cY L.t):=by
 refine List.map_congr_left fun c hc=>?_
 have h:c.n∈L.row↔c.g.isNone=true:=by
  rw [ok.rm,dO,List.mem_map]
  constructor
  ·rintro ⟨c',hc',e⟩
   have h':=Ln.cI.mp hc'
   rw [ok.uniq h'.1 hc e] at h'
   rw [h'.2];rfl
  ·intro e
   exact ⟨c,Ln.cI.mpr ⟨hc,by cases hg:c.g with | none=>rfl | some q=>rw [hg] at e;cases e⟩,rfl⟩
 unfold bB cY
 by_cases e:c.n∈L.row
 ·rw [if_pos e,if_pos (h.mp e)]
 ·rw [if_neg e,if_neg (fun z=>e (h.mpr z))]
theorem aT.bB {L:Ln} (ok:aT L) (hlen:∀ c∈L.cs,c.w.length < 200) (row:List Str):aT { L with cs:=L.cs.map (bB L.t row) }:=ok.map (jh L.t row) fun x hx=>by
 unfold Ov.bB
 split
 ·exact ok.CA hx (hlen x hx) (by have:=(ok.ck x hx _ (Cf.fe (ok.ne x hx)).2).v;omega)
 ·exact ok.CH hx
abbrev d4:Stmt:=(L2.inClass (top 42) 4)
theorem fo:L2.au ["self","name","pace"] ["self"] (L2.ai d4):=dt
def rF (cN cL:Addr):bX:=fun xs J Q E=>∃ p L,xs=[.ref p]∧aV cN cL J p L∧bQ L∧(∀ c∈L.cs,c.w.length < 200)∧(∀ J' L',aV cN cL J' p L'→bQ L'→L'.cs=L.cs.map (cY L.t)→L'.t=L.t→Mv J J' (L.own p) (L'.own p)→Q .non J')
theorem m6 {cN cL eC f:Addr} {fd:FuncData} (F:bP K "about" "Lane.about" d4 f fd) (Z:bD mg) (KD_Lane:cQ K mg "Lane" cN) (NA_Lane_row:ay K cN "row") (NA_Lane_logs:ay K cN "logs") (NA_Lane_now:ay K cN "now") (m_Lane_leg_of:b9 P w K mg base cN 4 "leg_of" ["self","name"] (gr cN cL eC)) (m_Log_turn:b9 P w K mg base cL 5 "turn" ["self","moment","pace"] (oi cL)) (m_Lane_settle:b9 P w K mg base cN 7 "settle" ["self"] (fJ cN cL)):aF P w K mg base (cx P w) 8 f fd ["self"] (c9 K (rF cN cL)):=by
 simp_arith [fo]
 ·obtain ⟨p,L,rfl,_⟩:=h;rfl
 obtain ⟨p,L,rfl,b,ok,hlen,q⟩:=h
 refine ⟨_,(aj (fS cH rfl (fk (aO KD_Lane.cl NA_Lane_row (rv 0))) (bT (i:=1) fo.nd rfl (Or.inl rfl)) (aj (aL (i:=2) fo.nd rfl (Or.inl rfl) (ar aw (a8 (pl:=_) m_Lane_leg_of B hr (by decide) (rv 0) (af (rv 1) ah)) ag (fun _ _=>rfl)))
   (ak (aY (a8 (pl:=_) m_Log_turn B hr (by decide) (ar dW (aO KD_Lane.cl NA_Lane_logs (rv 0)) (rv 1) (fun _ _=>rfl)) (af (aO KD_Lane.cl NA_Lane_now (rv 0)) (af (p_ lN (rv 2)) ah)))))))
   (ak (aY (dQ (pl:=_) m_Lane_settle B hr (by decide) (rv 0))))),?_⟩
 simp_all! only [b.ob,b.rw,kB]
 have hid:L.cs.map (bB L.t (L.row.take 0))=L.cs:=by
  have:∀ c∈L.cs,bB L.t (L.row.take 0) c=c:=fun c _=>by unfold bB;rw [if_neg (by simp)]
  rw [List.map_congr_left this,List.map_id']
 obtain ⟨Inv,hInv⟩:∃ Inv:Nat→Sr→Hq→Prop,∀ i τ J',Inv i τ J'↔∃ (u1 u2:Option PV),τ=[some (.ref p),u1,u2]∧aV cN cL J' p { L with cs:=L.cs.map (bB L.t (L.row.take i)) }∧Mv J J' (L.own p) (L.own p):=⟨_,fun _ _ _=>Iff.rfl⟩
 refine iw Inv ((hInv _ _ _).mpr ⟨_,_,rfl,by rw [hid];exact b,Mv.refl _ _⟩) (fun i τ J' h=>?_) ?_ ?_
 ·obtain ⟨_,_,_,b',_⟩:=(hInv _ _ _).mp h
  have:=b'.rw
  simp only at this
  rw [this]
 ·intro i x τ J' hx hv
  obtain ⟨u1,u2,rfl,b',mv'⟩:=(hInv _ _ _).mp hv
  clear hv
  have hi:i < L.row.length:=by have:=(List.getElem?_eq_some_iff.mp hx).1;simpa using this
  have hget:L.row[i]?=some L.row[i]:=List.getElem?_eq_getElem hi
  rw [List.getElem?_map,hget] at hx
  cases hx
  have hn:L.row[i]∈L.row:=List.getElem_mem hi
  have et:L.row.take (i + 1)=L.row.take i ++ [L.row[i]]:=by rw [List.take_add_one,hget];rfl
  have hnd:(L.row.take (i + 1)).Nodup:=ok.rn.sublist (List.take_sublist _ _)
  rw [et] at hnd
  have hnew:=(f9 hnd).2
  generalize L.row[i]=n at hn et hnew ⊢
  obtain ⟨c,hc,rfl,hg⟩:=ok.found hn
  have oki:=ok.toaT.bB hlen (L.row.take i)
  have ecc:bB L.t (L.row.take i) c=c:=by unfold bB;rw [if_neg hnew]
  have hci:c∈L.cs.map (bB L.t (L.row.take i)):=List.mem_map.mpr ⟨c,hc,ecc⟩
  simp_all! only [b'.ob]
  refine ⟨dS _ _ _ _,p,_,c.n,rfl,b',oki,fun c' hc' e' hg'=>?_,fun z=>absurd hn z⟩
  have ec':c'=c:=oki.uniq hc' hci e'
  subst ec'
  have hcv:=(ok.ck c' hc _ (Cf.fe (ok.ne c' hc)).2).v
  have lo:=(b'.lg c' hci).o
  have bo':=b'.ob
  have bd':=b'.dc
  simp only at bo' bd'
  simp_all! only [j_,bo',lT,wM,bd',lo]
  have hva:=oki.va hci
  simp only at hva
  simp_all! only [hva,lo,bo',lT]
  refine ⟨Gp _ _,c'.a,c'.r,c'.w,c'.g,L.t,-c'.cur.v,rfl,b'.lg c' hci,ok.ne c' hc,Nat.le_trans (ok.len c' hc) (by decide),ok.Bc,fun l hl=>(ok.ck c' hc l hl).EK,?_⟩
  have b1:=b'.turn oki hci (t:=L.t) (v:=-c'.cur.v)
  have em:(L.cs.map (bB L.t (L.row.take i))).map (b_ c'.n L.t (-c'.cur.v))=L.cs.map (bB L.t (L.row.take (i + 1))):=by
   rw [List.map_map]
   refine List.map_congr_left fun x hx=>?_
   show b_ c'.n L.t (-c'.cur.v) (bB L.t (L.row.take i) x)=_
   by_cases e:x.n=c'.n
   ·have:x=c':=ok.uniq hx hc e
    subst this
    rw [ecc]
    unfold b_ Ov.bB
    rw [if_pos rfl,if_pos (by rw [et];simp)]
   ·unfold b_
    rw [if_neg (by rw [(jh L.t (L.row.take i) x).1];exact e)]
    unfold Ov.bB
    rw [et]
    by_cases e2:x.n∈L.row.take i
    ·rw [if_pos e2,if_pos (List.mem_append.mpr (.inl e2))]
    ·rw [if_neg e2,if_neg (fun z=>by
      rcases List.mem_append.mp z with z | z
      ·exact e2 z
      ·exact e (by simpa using z))]
  simp only [em] at b1
  refine (hInv _ _ _).mpr ⟨_,_,rfl,b1,mv'.trans (eS (.inr (.inr (.inr ⟨c',hc,.inr rfl⟩))) fun a h=>.inl h)⟩
 ·intro τ J' hv
  obtain ⟨u1,u2,rfl,b',mv'⟩:=(hInv _ _ _).mp hv
  rw [List.length_map,List.take_length,gQ ok.toaT] at b'
  have oki:aT { L with cs:=L.cs.map (cY L.t) }:=by rw [← gQ ok.toaT];exact ok.toaT.bB hlen L.row
  simp_all! only [b'.ob]
  refine ⟨dS _ _ _ _,p,_,rfl,b',oki,fun J2 o' b2 mv2=>?_⟩
  refine q J2 _ b2 (bQ.settled oki o') rfl rfl (mv'.trans ⟨fun a o e n=>mv2.keep a o e fun z=>n ?_,fun a h=>?_,mv2.mono⟩)
  ·rw [← gQ ok.toaT] at z;exact (pz (jh L.t L.row) a).mp z
  ·rcases mv2.own a h with h' | h'
   ·rw [← gQ ok.toaT] at h';exact .inl ((pz (jh L.t L.row) a).mp h')
   ·exact .inr h'
def bp (n:Str) (t:Rat) (c:Cf):Cf:=if c.n=n then { c with g:=some t } else c
theorem dR (n:Str) (t:Rat) (c:Cf):(bp n t c).n=c.n∧(bp n t c).a=c.a∧(bp n t c).r=c.r∧(bp n t c).w=c.w:=by unfold bp;split <;> exact ⟨rfl,rfl,rfl,rfl⟩
theorem qR {L L':Ln} {n:Str} {t:Rat} (e:L'.cs=L.cs.map (bp n t)):L'.fs=L.fs.filter fun x=>decide (x.1≠n):=by
 unfold Ln.fs Ln.wA
 rw [e,List.filter_map,List.map_map,List.filter_map,List.filter_filter]
 have e1:(fun c:Cf=>c.g.isNone) ∘ bp n t=fun c=>((fun x:Str × aQ=>decide (x.1≠n)) ∘ fun c:Cf=>(c.n,c.cur)) c && c.g.isNone:=by
  funext c
  show (bp n t c).g.isNone=(decide (c.n≠n) && c.g.isNone)
  unfold bp
  by_cases z:c.n=n
  ·rw [if_pos z];simp [z]
  ·rw [if_neg z];simp [z]
 rw [e1]
 refine List.map_congr_left fun c hc=>?_
 show ((bp n t c).n,(bp n t c).cur)=_
 unfold Cf.cur
 rw [(dR n t c).1,(dR n t c).2.2.2]
theorem rb {ks:List Ky} (h:(ks.map Ky.n).Nodup) (f:Ky→Bool):cT (ks.filter f)=(cT ks).filter f:=by
 have hs:((ks.filter f).map Ky.n).Nodup:=h.sublist (List.Sublist.map _ List.filter_sublist)
 refine jj (lt:=Ky.lt) Ky.Ad Ky.tr (dg hs) ((dg h).filter _) fun x=>?_
 rw [bq,List.mem_filter,List.mem_filter,bq]
theorem rA {t:Rat} {fs:List (Str × aQ)} (h:(fs.map (·.1)).Nodup) (n:Str):bZ t (fs.filter fun x=>decide (x.1≠n))=(bZ t fs).filter fun x=>decide (x≠n):=by
 unfold bZ
 have e:(fs.filter fun x=>decide (x.1≠n)).map (key t)=(fs.map (key t)).filter fun k=>decide (k.n≠n):=by rw [List.filter_map];rfl
 rw [e,rb (by rw [c5];exact h),List.filter_map]
 rfl
theorem erase_filter {l:List Str} (h:l.Nodup) {j:Nat} {n:Str} (hj:l[j]?=some n):l.eraseIdx j=l.filter fun x=>decide (x≠n):=by
 obtain ⟨hl,e⟩:=List.getElem?_eq_some_iff.mp hj
 rw [List.eraseIdx_eq_take_drop_succ]
 have hd:l=l.take j ++ n :: l.drop (j + 1):=by rw [← e,← List.drop_eq_getElem_cons hl,List.take_append_drop]
 have hn:=h
 rw [hd,List.nodup_append] at hn
 have k1:∀ x∈l.take j,x≠n:=fun x hx=>hn.2.2 x hx n (by simp)
 have k2:∀ x∈l.drop (j + 1),x≠n:=fun x hx z=>(List.nodup_cons.mp hn.2.1).1 (by rw [← z];exact hx)
 conv=>rhs;rw [hd]
 rw [List.filter_append,List.filter_cons,if_neg (by simp),List.filter_eq_self.mpr fun x hx=>decide_eq_true (k1 x hx),List.filter_eq_self.mpr fun x hx=>decide_eq_true (k2 x hx)]
theorem bQ.leave {L:Ln} (ok:bQ L) (n:Str):bQ { L with cs:=L.cs.map (bp n L.t),row:=L.row.filter fun x=>decide (x≠n) }:=by
 have hfs:Ln.fs { L with cs:=L.cs.map (bp n L.t),row:=L.row.filter fun x=>decide (x≠n) }=L.fs.filter fun x=>decide (x.1≠n):=qR (L:=L) (t:=L.t) rfl
 have mem:∀ c∈L.cs.map (bp n L.t),∃ c0∈L.cs,bp n L.t c0=c:=fun c hc=>by obtain ⟨c0,h0,e⟩:=List.mem_map.mp hc;exact ⟨c0,h0,e⟩
 have hw:∀ c,(bp n L.t c).w=c.w:=fun c=>(dR n L.t c).2.2.2
 refine ⟨⟨?_,?_,?_,?_,?_,?_,ok.t0,ok.ts,?_,?_,?_,?_⟩,?_⟩
 ·show ((L.cs.map (bp n L.t)).map Cf.n).Nodup
  rw [dj (fun c=>(dR n L.t c).1)];exact ok.nd
 ·intro c hc;obtain ⟨c0,h0,rfl⟩:=mem c hc;rw [hw];exact ok.ne c0 h0
 ·intro c hc l hl;obtain ⟨c0,h0,rfl⟩:=mem c hc;rw [hw] at hl;exact ok.le c0 h0 l hl
 ·intro c hc l hl;obtain ⟨c0,h0,rfl⟩:=mem c hc;rw [hw] at hl;exact ok.ck c0 h0 l hl
 ·intro c hc;obtain ⟨c0,h0,rfl⟩:=mem c hc;rw [hw];exact ok.len c0 h0
 ·intro c hc q e
  obtain ⟨c0,h0,rfl⟩:=mem c hc
  unfold bp at e
  split at e
  ·cases e;exact ⟨ok.ts,Rat.le_refl⟩
  ·exact ok.gz c0 h0 q e
 ·show (L.cs.map (bp n L.t)).length≤100
  rw [List.length_map];exact ok.many
 ·intro m
  rw [hfs]
  show m∈L.row.filter _↔_
  rw [List.mem_filter,ok.rm,List.mem_map,List.mem_map]
  constructor
  ·rintro ⟨⟨x,hx,rfl⟩,k⟩;exact ⟨x,List.mem_filter.mpr ⟨hx,k⟩,rfl⟩
  ·rintro ⟨x,hx,rfl⟩;exact ⟨⟨x,(List.mem_filter.mp hx).1,rfl⟩,(List.mem_filter.mp hx).2⟩
 ·exact ok.rn.sublist List.filter_sublist
 ·exact Nat.le_trans (List.length_filter_le _ _) ok.rl
 ·rw [hfs]
  show L.row.filter _=_
  rw [rA ok.C8,← ok.row]
theorem uw {α:Type} [DecidableEq α]:∀ {l:List α} {x:α},x∈l→∃ j:Nat,l[j]?=some x∧∀ m:Nat,m < j→l[m]?≠some x
 | y :: l,x,h=>by
  by_cases e:y=x
  ·exact ⟨0,by rw [e];rfl,fun m hm=>by omega⟩
  ·rcases List.mem_cons.mp h with h | h
   ·exact absurd h.symm e
   ·obtain ⟨j,h1,h2⟩:=uw h
    refine ⟨j + 1,h1,fun m hm=>?_⟩
    cases m with
    | zero=>intro z;exact e (Option.some.inj z)
    | succ m=>exact h2 m (by omega)
abbrev eh:Stmt:=(L2.inClass (top 42) 2)
theorem m3:L2.au ["self","name"] ["self","name"] (L2.ai eh):=dt
def qZ (cN cL eC:Addr):bX:=fun xs J Q E=>∃ p L n,xs=[.ref p,.str n]∧aV cN cL J p L∧bQ L∧(n ∉ L.row→E eC J)∧(n∈L.row→∀ J' L',aV cN cL J' p L'→bQ L'→L'.cs=L.cs.map (bp n L.t)→L'.t=L.t→Mv J J' (L.own p) (L'.own p)→Q .non J')
theorem mU {cN cL eC f:Addr} {fd:FuncData} (F:bP K "leave" "Lane.leave" eh f fd) (Z:bD mg) (KD_Lane:cQ K mg "Lane" cN) (NA_Lane_logs:ay K cN "logs") (NA_Lane_now:ay K cN "now") (NA_Lane_row:ay K cN "row") (m_Lane_must_be_there:b9 P w K mg base cN 1 "must_be_there" ["self","name"] (jt cN cL eC)) (m_Log_leave:b9 P w K mg base cL 1 "leave" ["self","moment"] (qF cL)):aF P w K mg base (cx P w) 2 f fd ["self","name"] (c9 K (qZ cN cL eC)):=by
 simp_arith [m3]
 ·obtain ⟨p,L,n,rfl,_⟩:=h;rfl
 obtain ⟨p,L,n,rfl,b,ok,qc,q⟩:=h
 have bo:=b.ob
 have bd:=b.dc
 refine ⟨_,(aj (aY (a8 (pl:=_) m_Lane_must_be_there B hr (by decide) (rv 0) (af (rv 1) ah)))
   (aj (aY (a8 (pl:=_) m_Log_leave B hr (by decide) (ar dW (aO KD_Lane.cl NA_Lane_logs (rv 0)) (rv 1) (fun _ _=>rfl)) (af (aO KD_Lane.cl NA_Lane_now (rv 0)) ah)))
   (ak (aY (jc PySem.F.plainAttrs_list PySem.F.slot_list_remove PySem.F.type_list_remove xb (aO KD_Lane.cl NA_Lane_row (rv 0)) (af (rv 1) ah)))))),?_⟩
 simp_all! only [bo]
 refine ⟨dS _ _ _ _,p,L,n,rfl,b,fun hn=>?_,qc⟩
 obtain ⟨c,hc,rfl,hg⟩:=ok.found hn
 have lo:=(b.lg c hc).o
 simp_all! only [bo,lT,wM,bd,ok.va hc,lo]
 refine ⟨Iv _ _,c.a,c.r,c.w,c.g,L.t,rfl,b.lg c hc,?_⟩
 simp_all! only [aq (Ne.symm (b.G9 hc)),bo,kB,aq (Ne.symm (b.Ih hc)),b.rw]
 obtain ⟨j,h1,h2⟩:=uw hn
 refine ⟨L.row,rfl,j,h1,h2,?_⟩
 rw [erase_filter ok.rn h1]
 have hn':=dR c.n L.t
 have ok1:=ok.leave c.n
 refine q hn _ { L with cs:=L.cs.map (bp c.n L.t),row:=L.row.filter fun x=>decide (x≠c.n) } ⟨?_,?_,av,fun x hx=>?_,?_,fun x hx=>?_⟩ ok1 rfl rfl ?_
 ·rw [aq (Ne.symm b.AF),aq (Ne.symm (b.G9 hc))];exact bo
 ·show put (put J c.a _) L.o _ L.d=_
  rw [aq b.Hm,aq (Ne.symm (b.IL hc)),bd]
  show _=some (HQ.dct ((L.cs.map (bp c.n L.t)).map fun c=>(c.n,PV.ref c.a)) L.e)
  rw [dj (f:=fun c:Cf=>(c.n,PV.ref c.a)) (fun x=>by rw [(hn' x).1,(hn' x).2.1])]
 ·obtain ⟨x0,h0,rfl⟩:=List.mem_map.mp hx
  have hl:=b.lg x0 h0
  refine ⟨?_,?_⟩
  ·rw [(hn' x0).2.1,(hn' x0).2.2.1,aq (b.Ih h0)]
   by_cases e:x0.n=c.n
   ·have:x0=c:=ok.uniq h0 hc e
    subst this
    rw [av]
    unfold bp;rw [if_pos rfl];rfl
   ·have ha:x0.a≠c.a:=fun z=>by
     have hh:=hl.o
     have hh2:=(b.lg c hc).o
     rw [z,hh2] at hh
     have hrr:c.r=x0.r:=by
      have h3:=(HQ.ins.inj (Option.some.inj hh)).2
      have h4:=(List.cons.inj h3).1
      have h5:=(Prod.mk.inj h4).2
      exact PV.ref.inj h5
     obtain ⟨i,hi,rfl⟩:=List.getElem_of_mem h0
     obtain ⟨j',hj',rfl⟩:=List.getElem_of_mem hc
     have:=(List.getElem_inj (xs:=L.cs.map Cf.r) (i:=i) (j:=j') (h₀:=by simpa using hi) (h₁:=by simpa using hj') b.ap).mp (by rw [List.getElem_map,List.getElem_map];exact hrr.symm)
     subst this;exact e rfl
    rw [aq ha]
    unfold bp;rw [if_neg e];exact hl.o
  ·rw [(hn' x0).2.2.1,(hn' x0).2.2.2,aq (b.ao x0 h0),aq (fun z=>by have h3:=hl.l;rw [z,lo] at h3;cases h3)];exact hl.l
 ·show ((L.cs.map (bp c.n L.t)).map Cf.r).Nodup
  rw [dj (fun x=>(hn' x).2.2.1)];exact b.ap
 ·obtain ⟨x0,h0,rfl⟩:=List.mem_map.mp hx
  rw [(hn' x0).2.2.1];exact b.ao x0 h0
 ·have own':∀ a,Ln.own { L with cs:=L.cs.map (bp c.n L.t),row:=L.row.filter fun x=>decide (x≠c.n) } p a→L.own p a:=fun a h=>by
   rcases h with h | h | h | ⟨x,hx,h⟩
   ·exact .inl h
   ·exact .inr (.inl h)
   ·exact .inr (.inr (.inl h))
   ·obtain ⟨c0,h0,rfl⟩:=List.mem_map.mp hx
    rw [(hn' c0).2.1,(hn' c0).2.2.1] at h
    exact .inr (.inr (.inr ⟨c0,h0,h⟩))
  refine (eS (S':=L.own p) (.inr (.inr (.inr ⟨c,hc,.inl rfl⟩))) fun a h=>.inl h).trans (eS (.inr (.inr (.inl rfl))) fun a h=>.inl (own' a h))
abbrev gX:Stmt:=(top 51)
theorem dk:L2.au ["_law_cell_here","_law_many","_law_signs","_law_row","_law_some","_law_body","_law_at_here","_law_out","_law_k"] ["_law_cell_here","_law_many"] (L2.ai gX):=dt
def uB:Sp:=fun vs H Q _=>∃ c m:Int,vs=[.int c,.int m]∧0≤m∧m≤36∧∀ (r:Addr) (H':Hp) (xs:List Str),H r=none→a7 H H'→H' r=some (.lst (xs.map V.str))→(xs.length:Int)=m→xs.Nodup→(∀ x∈xs,good x=true)→Q (.ref r) H'
def menu:List Str:=["m","ab","a","zebra9","b0","0","abc","9zz","q7q7q7q7","aa","z","a1b2c3d4"]
def cu:Str:="abcdefghijklmnopqrstuvwxyz0123456789"
theorem As:menu.Nodup:=by decide +kernel
theorem yi:cu.cps.toList.Nodup:=by decide +kernel
theorem gW:cu.cps.toList.length=36:=by decide +kernel
theorem tI {α:Type} {xs:List α} {j:Int} (h0:0≤j) (h1:j < xs.length):cK xs j=some (xs[j.toNat]'(by omega)):=by
 have h:=a9 (xs:=xs) (j:=j.toNat) (List.getElem?_eq_getElem (by omega))
 rw [show ((j.toNat:Nat):Int)=j by omega] at h
 exact h
def pick (d:Int) (k:Nat):Str:=menu.getD ((d + 5 * (k:Int)) % 12).toNat ""
theorem AS (d:Int) (k:Nat):cK (menu.map V.str) ((d + 5 * (k:Int)) % 12)=some (.str (pick d k)):=by
 have h0:=Int.emod_nonneg (d + 5 * (k:Int)) (show (12:Int)≠0 by decide)
 have h1:=Int.emod_lt_of_pos (d + 5 * (k:Int)) (show (0:Int) < 12 by decide)
 have hl:(menu.map V.str).length=12:=by decide +kernel
 have hm:menu.length=12:=by decide +kernel
 rw [tI h0 (by rw [hl];exact h1),List.getElem_map]
 unfold pick
 rw [List.getD_eq_getElem?_getD,List.getElem?_eq_getElem (by omega)]
 rfl
theorem nV {α:Type} {xs:List α} (h:xs.Nodup) {i j:Nat} (hi:i < xs.length) (hj:j < xs.length) (e:xs[i]=xs[j]):i=j:=(List.getElem_inj h).mp e
theorem yN (d:Int) {m:Nat} (hm:m≤12):((List.range m).map (pick d)).Nodup:=by
 have hl:menu.length=12:=by decide +kernel
 refine List.Pairwise.map (R:=fun i j=>i < 12∧j < 12∧i≠j) _ (fun i j ⟨a,b,c⟩ e=>?_) ?_
 ·unfold pick at e
  have h0:=Int.emod_nonneg (d + 5 * (i:Int)) (show (12:Int)≠0 by decide)
  have h1:=Int.emod_lt_of_pos (d + 5 * (i:Int)) (show (0:Int) < 12 by decide)
  have h2:=Int.emod_nonneg (d + 5 * (j:Int)) (show (12:Int)≠0 by decide)
  have h3:=Int.emod_lt_of_pos (d + 5 * (j:Int)) (show (0:Int) < 12 by decide)
  rw [List.getD_eq_getElem?_getD,List.getElem?_eq_getElem (by omega),List.getD_eq_getElem?_getD,List.getElem?_eq_getElem (by omega)] at e
  have:=nV As (by omega) (by omega) e
  omega
 ·refine List.Pairwise.imp_of_mem (R:=fun i j=>i≠j) (fun {i j} hi hj ne=>?_) (List.nodup_range)
  rw [List.mem_range] at hi hj
  exact ⟨by omega,by omega,ne⟩
theorem wq:∀ x∈menu,good x=true:=by decide +kernel
theorem lS:∀ c∈cu.cps.toList,c4 bO c=true:=by decide +kernel
theorem wo (d:Int) (k:Nat):good (pick d k)=true:=by
 have h0:=Int.emod_nonneg (d + 5 * (k:Int)) (show (12:Int)≠0 by decide)
 have h1:=Int.emod_lt_of_pos (d + 5 * (k:Int)) (show (0:Int) < 12 by decide)
 have hm:menu.length=12:=by decide +kernel
 unfold pick
 rw [List.getD_eq_getElem?_getD,List.getElem?_eq_getElem (by omega)]
 exact wq _ (List.getElem_mem _)
theorem AN {cs:List Nat} (h0:0 < cs.length) (h1:cs.length≤8) (h:∀ c∈cs,c4 bO c=true):good ⟨cs.toArray⟩=true:=by
 unfold good
 rw [Bool.and_eq_true,Bool.and_eq_true]
 refine ⟨⟨decide_eq_true ?_,decide_eq_true ?_⟩,List.all_eq_true.mpr fun c hc=>h c (by simpa using hc)⟩
 ·show 1≤cs.toArray.size;rw [List.size_toArray];omega
 ·show cs.toArray.size≤8;rw [List.size_toArray];omega
def sign (d:Int) (k:Nat):Nat:=cu.cps.toList.getD ((d + 5 * (k:Int)) % 36).toNat 0
theorem Bl (d:Int) (k:Nat):cK cu.cps.toList ((d + 5 * (k:Int)) % 36)=some (sign d k):=by
 have h0:=Int.emod_nonneg (d + 5 * (k:Int)) (show (36:Int)≠0 by decide)
 have h1:=Int.emod_lt_of_pos (d + 5 * (k:Int)) (show (0:Int) < 36 by decide)
 have hl:=gW
 rw [tI h0 (by rw [hl];exact h1)]
 unfold sign
 rw [List.getD_eq_getElem?_getD,List.getElem?_eq_getElem (by omega)]
 rfl
theorem wY (d:Int) (k:Nat):c4 bO (sign d k)=true:=by
 have h0:=Int.emod_nonneg (d + 5 * (k:Int)) (show (36:Int)≠0 by decide)
 have h1:=Int.emod_lt_of_pos (d + 5 * (k:Int)) (show (0:Int) < 36 by decide)
 have hl:=gW
 unfold sign
 rw [List.getD_eq_getElem?_getD,List.getElem?_eq_getElem (by omega)]
 exact lS _ (List.getElem_mem _)
theorem yT (d:Int) {i j:Nat} (hi:i < 36) (hj:j < 36) (e:sign d i=sign d j):i=j:=by
 have h0:=Int.emod_nonneg (d + 5 * (i:Int)) (show (36:Int)≠0 by decide)
 have h1:=Int.emod_lt_of_pos (d + 5 * (i:Int)) (show (0:Int) < 36 by decide)
 have h2:=Int.emod_nonneg (d + 5 * (j:Int)) (show (36:Int)≠0 by decide)
 have h3:=Int.emod_lt_of_pos (d + 5 * (j:Int)) (show (0:Int) < 36 by decide)
 have hl:=gW
 unfold sign at e
 rw [List.getD_eq_getElem?_getD,List.getElem?_eq_getElem (by omega),List.getD_eq_getElem?_getD,List.getElem?_eq_getElem (by omega)] at e
 have:=nV yi (by omega) (by omega) e
 omega
theorem y8 {d:Int} {n:Nat} {xs:List Str} (hl:xs.length≤36) (h:∀ k x,xs[k]?=some x→x.cps.toList[n]?=some (sign d k)):xs.Nodup:=by
 refine List.pairwise_iff_getElem.mpr fun i j hi hj hij e=>?_
 have a:=h i _ (List.getElem?_eq_getElem hi)
 have b:=h j _ (List.getElem?_eq_getElem hj)
 rw [e] at a
 rw [a] at b
 have:=yT d (by omega) (by omega) (Option.some.inj b)
 omega
theorem yY {xs:List V} {k:Int} (h:0≤k):lq xs none (some k)=xs.take k.toNat:=by
 obtain ⟨j,rfl⟩:∃ j:Nat,k=(j:Int):=⟨k.toNat,by omega⟩
 unfold lq
 rw [HT.y9,HT.Bt,List.drop_zero,Int.toNat_natCast]
 rcases Nat.le_total j xs.length with e | e
 ·rw [Nat.min_eq_left e]
  rfl
 ·rw [Nat.min_eq_right e,Nat.sub_zero,List.take_of_length_le (Nat.le_refl _),List.take_of_length_le e]
theorem yW (cs:List Nat):((cs.map one).map (·.length)).sum=cs.length:=by
 induction cs with
 | nil=>rfl
 | cons c cs ih =>
  rw [List.map_cons,List.map_cons,List.sum_cons,ih,List.length_cons]
  show 1 + cs.length=cs.length + 1
  omega
theorem Bj {p q a b:Prop} [Decidable p] [Decidable q]:(if p then if q then a else b else b)=if p∧q then a else b:=by by_cases hp:p <;> by_cases hq:q <;> simp [hp,hq]
theorem zM {f:Addr} {fd:FuncData} (F:bP K "_law_names" "_law_names" gX f fd) (Z:xj mg) (C_digits:my P w K mg base 1 "_law_digits" ["_law_cell_here","_law_sizes"] (lj K)):aF P w K mg base lW 2 f fd ["_law_cell_here","_law_many"] uB:=by
 refine F.ok dk (fun vs H Q E h=>?_) (fun cdv A outer s H vs Q E hr h=>?_)
 ·obtain ⟨c,m,rfl,_⟩:=h
  rfl
 obtain ⟨c,m,rfl,m0,m1,q⟩:=h
 refine ⟨_,(QB.run (aM (bV (i:=2) dk.nd rfl (Or.inr rfl) jT)
   (aM (bV (i:=3) dk.nd rfl (Or.inr rfl) (rp C_digits hr (by decide) rfl (aJ (pv 0) (aJ (gA (yf [.int 3,.int 36,.int 8,.int 36,.int 36,.int 36,.int 36,.int 36,.int 36,.int 36,.int 36,.int 840] rfl)) bh))))
   (aM (i4 (Cn (oz (cE x8 (bI eI (pv 3) aD (fun _ _=>rfl)) aD (ax _)) (kI (cE Ck (pv 1) aD (ax _))))) (aM (bV (i:=4) dk.nd rfl (Or.inr rfl) (gA (yf [.str "m",.str "ab",.str "a",.str "zebra9",.str "b0",.str "0",.str "abc",.str "9zz",.str "q7q7q7q7",.str "aa",.str "z",.str "a1b2c3d4"] rfl)))
   (bc (cM (Bb (ai gX) ["_law_cell_here","_law_many","_law_signs","_law_row","_law_some","_law_body","_law_at_here","_law_out","_law_k"] [("_law_row",3),("_law_some",4)] rfl rfl rfl (eu rfl Z.range (aJ (pv 1) bh)) (fun _ _ _ _ _ _=>(bI eI (pv 2) (aX eW (aX fT (bI eI (pv 1) aD (fun _ _=>rfl)) (aX bS aD (pv 0))) aD) (fun _ _=>rfl))))))) er)
   (aM (AR (i:=5) (ai gX) ["_law_cell_here","_law_many","_law_signs","_law_row","_law_some","_law_body","_law_at_here","_law_out","_law_k"] [("_law_signs",2)] rfl rfl rfl dk.nd rfl (Or.inl rfl) (iZ (gF pP (pv 3) (g7 aD) (g7 aD))) (fun _ _ _ _ _ _=>(bI y2 (pv 1) (pv 0) (fun _ _=>rfl))))
   (rH (i4 (cE x8 (bI eI (pv 3) aD (fun _ _=>rfl)) aD (ax _)) (bc (bV (i:=5) dk.nd rfl (Or.inl rfl) (gF pP (pv 5) kU (g7 (aX fT (bI eI (pv 3) aD (fun _ _=>rfl)) aD))))) er)
   (aM (bV (i:=6) dk.nd rfl (Or.inl rfl) (aX eW (bI eI (pv 3) aD (fun _ _=>rfl)) (cS fW rfl Z.len boot_len (aJ (pv 5) bh))))
   (aM (bV (i:=7) dk.nd rfl (Or.inl rfl) (gA bh))
   (aM (jR PassesOwn.never rfl (eu rfl Z.range (aJ (pv 1) bh)) (gY (i:=8) dk.nd rfl (Or.inl rfl)) (aM (oP (bI y2 (pv 2) (aX eW (aX fT (bI eI (pv 3) aD (fun _ _=>rfl)) (aX bS aD (pv 8))) aD) (fun _ _=>rfl)) (pe (pv 5) (pv 6) set_list))
   (bc (gL (lO PySem.F.plainAttrs_list PySem.F.slot_list_append PySem.F.type_list_append eA (pv 7) (aJ (lO PySem.F.plainAttrs_str PySem.F.slot_str_join PySem.F.type_str_join BX jT (aJ (pv 5) bh)) bh))))))
   (bc (cM (pv 7)))))))))))),?_⟩
 refine ⟨_,rfl,(by show 12≤sizeLine;decide),fun p hp=>?_⟩
 have ss:∀ s∈([3,36,8,36,36,36,36,36,36,36,36,840]:List Int),0 < s∧Bd 9000 s:=fun s hs=>by
  simp only [List.mem_cons,List.not_mem_nil,or_false] at hs
  have:0 < s∧s < 1000:=by omega
  exact ⟨this.1,(Bd.small (by omega) (by omega)).mono (by decide)⟩
 refine ⟨c,p,[3,36,8,36,36,36,36,36,36,36,36,840],rfl,cR.of aA,ss,by decide,fun r H1 ds _ g1 hr1 hD=>?_⟩
 obtain ⟨d0,ds,rfl,d00,d01,hD⟩:=hD.cons
 obtain ⟨d1,ds,rfl,d10,d11,hD⟩:=hD.cons
 obtain ⟨d2,ds,rfl,d20,d21,hD⟩:=hD.cons
 obtain ⟨e0,ds,rfl,e00,e01,hD⟩:=hD.cons
 obtain ⟨e1,ds,rfl,e10,e11,hD⟩:=hD.cons
 obtain ⟨e2,ds,rfl,e20,e21,hD⟩:=hD.cons
 obtain ⟨e3,ds,rfl,e30,e31,hD⟩:=hD.cons
 obtain ⟨e4,ds,rfl,e40,e41,hD⟩:=hD.cons
 obtain ⟨e5,ds,rfl,e50,e51,hD⟩:=hD.cons
 obtain ⟨e6,ds,rfl,e60,e61,hD⟩:=hD.cons
 obtain ⟨e7,ds,rfl,e70,e71,hD⟩:=hD.cons
 obtain ⟨d11,ds,rfl,d110,d111,hD⟩:=hD.cons
 cases hD.nil
 have g1:=(a7.new hp _).trans g1
 dsimp! only [rJoin,hr1]
 rw [Bj]
 split
 ·refine ⟨(by show 12≤sizeLine;decide),fun p2 hp2=>?_⟩
  have g2:=a7.new hp2 (.lst (menu.map V.str))
  have h2:(upd H1 p2 (.lst (menu.map V.str))) p2=some (.lst (menu.map V.str)):=aA
  have hr2:=g2 _ _ hr1
  refine ⟨_,rfl,m,rfl,by omega,by omega,fun D hD=>?_⟩
  refine zu (lo:=0) (n:=m.toNat) (fun i H'=>a7 (upd H1 p2 (.lst (menu.map V.str))) H'∧H' D=some (.lst (((List.range i).map (pick d1)).map V.str))) ⟨a7.new hD _,aA⟩ ?_ ?_
  ·rintro i H' R hi ⟨g,hd⟩ k
   have hr3:=g _ _ hr2
   have h3:=g _ _ h2
   dsimp! only [rJoin,hr3,h3,Int.zero_add]
   refine ⟨.of (Bd.small (by decide) (by decide)) (Bd.small (x:=(i:Int)) (by omega) (by omega)),_,AS d1 i,?_⟩
   refine k _ _ _ hd (by rw [List.length_map,List.length_map,List.length_range];exact aW (by omega)) ⟨g.EL hD _,?_⟩
   rw [aA]
   simp [List.range_succ]
  ·rintro H' ⟨g,hd⟩
   exact q D H' _ (g1.free (g2.free hD)) (g1.trans (g2.trans g)) hd (by rw [List.length_map,List.length_range];omega) (yN d1 (by omega)) (fun x hx=>by obtain ⟨k,_,rfl⟩:=List.mem_map.mp hx;exact wo d1 k)
 refine ⟨_,rfl,3,rfl,11,rfl,r,_,rfl,cR.of hr1,fun p2 hp2=>⟨p2,rfl,⟨_,cR.of aA⟩,fun D hD=>?_⟩⟩
 have g2:=a7.new hp2 (.lst [.int e0,.int e1,.int e2,.int e3,.int e4,.int e5,.int e6,.int e7])
 have hr2:=g2 _ _ hr1
 have h2:(upd H1 p2 (.lst [.int e0,.int e1,.int e2,.int e3,.int e4,.int e5,.int e6,.int e7])) p2=some (.lst ([e0,e1,e2,e3,e4,e5,e6,e7].map V.int)):=aA
 have be:∀ e∈[e0,e1,e2,e3,e4,e5,e6,e7],0≤e∧e < 36:=fun e he=>by
  simp only [List.mem_cons,List.not_mem_nil,or_false] at he
  omega
 have al:=gW
 have al2:cu.length≤sizeLine:=by decide +kernel
 refine BD (K:=K) (a:=p2) (xs:=[e0,e1,e2,e3,e4,e5,e6,e7].map V.int) (fun i H'=>a7 (upd H1 p2 (.lst [.int e0,.int e1,.int e2,.int e3,.int e4,.int e5,.int e6,.int e7])) H'∧∃ cs:List Nat,cs.length=i∧(∀ c∈cs,c4 bO c=true)∧H' D=some (.lst ((cs.map one).map V.str)))
  ⟨a7.new hD _,[],rfl,(fun c hc=>by cases hc),aA⟩ (fun i H' _ ⟨g,_⟩=>cR.of (g _ _ h2)) ?_ ?_
 ·rintro i y H' R hi ⟨g,cs,hcs,hca,hd⟩ k
  have hil:=(List.getElem?_eq_some_iff.mp hi).1
  obtain ⟨z,rfl,hz⟩:=md hi
  obtain ⟨z0,z1⟩:=be z (List.mem_of_getElem? hz)
  have at1:=tI (xs:=cu.cps.toList) z0 (by rw [al];exact z1)
  dsimp! only [rJoin]
  refine ⟨al2,_,at1,?_⟩
  refine k _ _ _ hd (by rw [List.length_map,List.length_map,hcs];simp only [List.length_map,List.length_cons,List.length_nil] at hil;exact aW (by omega)) ⟨g.EL hD _,cs ++ [cu.cps.toList[z.toNat]'(by rw [al];omega)],by rw [List.length_append,hcs];rfl,?_,?_⟩
  ·intro c hc
   rcases List.mem_append.mp hc with hc | hc
   ·exact hca c hc
   ·rw [List.mem_singleton] at hc;subst hc;exact lS _ (List.getElem_mem _)
  rw [aA,List.map_append,List.map_append]
  rfl
 rintro H2 ⟨g,cs,hcs,hca,hd⟩
 have hr3:=g _ _ hr2
 have g:=g1.trans (g2.trans g)
 have hcs:cs.length=8:=hcs
 obtain ⟨M,hM⟩:∃ M:L2.St→Hp→Prop,∀ σ' H',M σ' H'↔∃ (D:Addr) (cs:List Nat),σ'=[some (.int c),some (.int m),some (.str cu),some (.ref r),none,some (.ref D),none,none,none]∧a7 H H'∧H D=none∧H' r=some (.lst ([d0,d1,d2,e0,e1,e2,e3,e4,e5,e6,e7,d11].map V.int))∧D≠r∧0 < cs.length∧cs.length≤8∧(∀ c∈cs,c4 bO c=true)∧H' D=some (.lst ((cs.map one).map V.str)):=⟨_,fun _ _=>Iff.rfl⟩
 have fD:H D=none:=g1.free (g2.free hD)
 have nDr:D≠r:=(bF hr2 hD).symm
 refine ⟨M,?_,?_⟩
 ·dsimp! only [rJoin,hr3]
  split
  ·refine ⟨_,cR.of hd,fun p4 hp4=>(hM _ _).mpr ⟨p4,cs.take (d2 + 1).toNat,rfl,g.trans (a7.new hp4 _),g.free hp4,?_,?_,?_,?_,(fun c hc=>hca c (List.mem_of_mem_take hc)),?_⟩⟩
   ·exact (a7.new hp4 _) _ _ hr3
   ·exact (bF hr3 hp4).symm
   ·rw [List.length_take];omega
   ·rw [List.length_take];omega
   ·rw [aA,yY (by omega),List.map_take,List.map_take]
  ·exact (hM _ _).mpr ⟨D,cs,rfl,g,fD,hr3,nDr,by omega,by omega,hca,hd⟩
 clear hca hd hr3 g fD nDr hcs
 intro σ5 H5 hm
 obtain ⟨D,cs,rfl,g,fD,hr3,nDr,l0,l1,hca,hd⟩:=(hM _ _).mp hm
 clear hm hM M
 have e0s:(Str.ofString "").length=0:=by decide +kernel
 have hl:((cs.map one).map V.str).length=cs.length:=by rw [List.length_map,List.length_map]
 have hlp:(0:Int) < (((cs.map one).map V.str).length:Nat):=by rw [hl];omega
 have a0:=Int.emod_nonneg d11 (show (((cs.map one).map V.str).length:Int)≠0 by omega)
 have a1:=Int.emod_lt_of_pos d11 hlp
 have at11:cK ([d0,d1,d2,e0,e1,e2,e3,e4,e5,e6,e7,d11].map V.int) 11=some (.int d11):=a9 (j:=11) rfl
 refine ⟨_,rfl,r,_,11,_,rfl,rfl,hr3,at11,_,rfl,D,rfl,_,.inl (cR.of hd),_,_,rfl,rfl,hlp,?_⟩
 generalize hat:d11 % (((cs.map one).map V.str).length:Int)=at' at a0 a1
 rw [hl] at a1
 refine ⟨Nat.zero_le _,fun O hO=>?_⟩
 have gO:=a7.new hO (.lst [])
 have nOD:O≠D:=(bF hd hO).symm
 have nOr:O≠r:=(bF hr3 hO).symm
 have fO:H O=none:=g.free hO
 refine ⟨_,rfl,m,rfl,by omega,by omega,nI (lo:=0) (n:=m.toNat) (fun i σ H'=>∃ (v:Option V) (cs':List Nat) (xs:List Str),σ=[some (.int c),some (.int m),some (.str cu),some (.ref r),none,some (.ref D),some (.int at'),some (.ref O),v] ∧
  a7 H H'∧H' r=some (.lst ([d0,d1,d2,e0,e1,e2,e3,e4,e5,e6,e7,d11].map V.int))∧cs'.length=cs.length∧(∀ c∈cs',c4 bO c=true)∧H' D=some (.lst ((cs'.map one).map V.str))∧H' O=some (.lst (xs.map V.str))∧xs.length=i∧(∀ x∈xs,good x=true)∧∀ k x,xs[k]?=some x→x.cps.toList[at'.toNat]?=some (sign d1 k)) ?_ ?_ ?_⟩
 ·exact ⟨none,cs,[],by rw [← hat];rfl,g.trans gO,gO _ _ hr3,rfl,hca,gO _ _ hd,aA,rfl,(fun x hx=>by cases hx),fun k x e=>by cases e⟩
 ·rintro i σ H' hi ⟨v,cs',xs,rfl,g',hr',hl',hca',hd',ho',hx,hxl,hs⟩
  have at1:cK ([d0,d1,d2,e0,e1,e2,e3,e4,e5,e6,e7,d11].map V.int) 1=some (.int d1):=a9 (j:=1) rfl
  have al2:cu.length≤sizeLine:=by decide +kernel
  have sg:=Bl d1 i
  refine ⟨_,rfl,_,rfl,r,_,1,_,rfl,rfl,hr',at1,_,rfl,_,_,rfl,rfl,.of (Bd.small (by decide) (by decide)) (Bd.small (x:=0 + (i:Int)) (by omega) (by omega)),_,_,rfl,rfl,_,_,rfl,rfl,(show (0:Int) < 36 by decide),_,_,_,rfl,rfl,al2,(by rw [Int.zero_add];exact sg),?_⟩
  have ix:xo ((cs'.map one).map V.str).length at'=some at'.toNat:=by
   unfold xo
   rw [if_pos a0,if_pos (by rw [List.length_map,List.length_map,hl'];exact a1)]
  refine ⟨_,rfl,_,rfl,D,_,at',_,rfl,rfl,hd',ix,?_⟩
  have es:((cs'.map one).map V.str).set at'.toNat (.str ⟨#[sign d1 i]⟩)=((cs'.set at'.toNat (sign d1 i)).map one).map V.str:=by
   rw [List.map_set,List.map_set]
   rfl
  have gD:=a7.EL fD g' (.lst (((cs'.map one).map V.str).set at'.toNat (.str ⟨#[sign d1 i]⟩)))
  have hD2:(upd H' D (.lst (((cs'.map one).map V.str).set at'.toNat (.str ⟨#[sign d1 i]⟩)))) D=some (.lst (((cs'.set at'.toNat (sign d1 i)).map one).map V.str)):=by rw [aA,es]
  have hr2:(upd H' D (.lst (((cs'.map one).map V.str).set at'.toNat (.str ⟨#[sign d1 i]⟩)))) r=_:=(aH nDr.symm).trans hr'
  have ho2:(upd H' D (.lst (((cs'.map one).map V.str).set at'.toNat (.str ⟨#[sign d1 i]⟩)))) O=_:=(aH nOD).trans ho'
  have lc:(cs'.set at'.toNat (sign d1 i)).length=cs.length:=by rw [List.length_set,hl']
  have hcn:∀ c∈cs'.set at'.toNat (sign d1 i),c4 bO c=true:=fun c hc=>by
   rcases List.mem_or_eq_of_mem_set hc with h | h
   ·exact hca' c h
   ·rw [h];exact wY d1 i
  refine ⟨_,rfl,.inl ⟨rfl,_,cR.of ho2⟩,rfl,_,rfl,_,D,(cs'.set at'.toNat (sign d1 i)).map one,rfl,rfl,cR.of hD2,?_,O,_,_,rfl,rfl,ho2,?_,?_⟩
  ·rw [yW,List.length_map,lc,e0s]
   omega
  ·rw [List.length_map,hx]
   exact aW (by omega)
  ·rw [join_ones]
   refine ⟨_,cs'.set at'.toNat (sign d1 i),xs ++ [⟨(cs'.set at'.toNat (sign d1 i)).toArray⟩],rfl,gD.EL fO _,(aH nOr.symm).trans hr2,lc,hcn,(aH nOD.symm).trans hD2,?_,by rw [List.length_append,hx];rfl,?_,?_⟩
   ·rw [aA,List.map_append]
    rfl
   ·intro x hx2
    rcases List.mem_append.mp hx2 with h | h
    ·exact hxl x h
    ·simp only [List.mem_cons,List.not_mem_nil,or_false] at h
     subst h
     exact AN (by rw [lc];exact l0) (by rw [lc];exact l1) hcn
   ·intro k x e
    rcases Nat.lt_or_ge k xs.length with hk | hk
    ·rw [List.getElem?_append_left hk] at e
     exact hs k x e
    ·rw [List.getElem?_append_right hk] at e
     have ek:k=i:=by
      cases hz:k - xs.length with
      | zero=>omega
      | succ z=>rw [hz] at e;cases e
     rw [show k - xs.length=0 by omega] at e
     have ex:=Option.some.inj e
     subst ex
     rw [ek]
     show (cs'.set at'.toNat (sign d1 i))[at'.toNat]?=some (sign d1 i)
     rw [List.getElem?_set_self (by omega)]
 ·rintro σ H' ⟨v,cs',xs,rfl,g',hr',hl',hca',hd',ho',hx,hxl,hs⟩
  exact ⟨_,rfl,q O H' xs fO g' ho' (by omega) (y8 (by omega) hs) hxl⟩
def qK:bX:=fun xs J Q _=>∃ c m:Int,xs=[.int c,.int m]∧0≤m∧m≤36∧∀ ns:List Str,(ns.length:Int)=m→ns.Nodup→(∀ x∈ns,good x=true)→Q (.fl (ns.map .str)) J
theorem nQ {K:PySem.W.Frag} {J:Hq} {H:Hp}:∀ ns:List Str,aB K J H (ns.map PV.str) (ns.map V.str)
 | []=>rfl
 | n :: ns=>⟨_,_,rfl,rfl,nQ ns⟩
theorem sC (C:my P w K mg base 2 "_law_names" ["_law_cell_here","_law_many"] uB):ba P w K mg base 2 "_law_names" ["_law_cell_here","_law_many"] qK:=C.lift fun xs J vs H Q2 E2 Q E rs r ⟨c,m,ex,h0,h1,q⟩ kn=>by
 subst ex
 obtain ⟨v,u,rfl,r1,r2⟩:=fQ rs
 cases r1;cases r2
 exact ⟨c,m,rfl,h0,h1,fun p H' ns hp s e hl nd lx=>kn (.fl (ns.map .str)) J (.ref p) H' ⟨p,_,rfl,.inl ⟨r.free hp,.inl e⟩,nQ ns⟩ (r.same s) (.same s) (q ns hl nd lx)⟩
abbrev k7:Stmt:=(top 46)
theorem yP:L2.au ["_law_found"] ["_law_found"] (L2.ai k7):=dt
def jz:bX:=fun xs J Q _=>∃ i:Int,xs=[.int i]∧Q (.bl true) J
theorem vL {f:Addr} {fd:FuncData} (F:bP K "_law_whole" "_law_whole" k7 f fd) (Z:bD mg):aF P w K mg base (cx P w) 1 f fd ["_law_found"] (c9 K jz):=by
 simp_arith [yP]
 ·obtain ⟨i,rfl,_⟩:=h;rfl
 obtain ⟨i,rfl,q⟩:=h
 refine ⟨_,(ak (az (tu (aK jQ rfl Z.isinstance boot_isinstance (af (rv 0) (af (nX rfl Z.int boot_int) ah))) (pq (Dy (aK jQ rfl Z.isinstance boot_isinstance (af (rv 0) (af (nX rfl Z.bool boot_bool) ah)))))))),?_⟩
 simp_arith! only [bR]
 exact q
abbrev o5:Stmt:=(top 48)
theorem Bp:L2.au ["_law_found","_law_due"] ["_law_found","_law_due"] (L2.ai o5):=dt
def tV:bX:=fun xs J Q _=>∃ a:Rat,xs=[fr a,fr a]∧Q (.bl true) J
theorem yb {f:Addr} {fd:FuncData} (F:bP K "_law_part" "_law_part" o5 f fd) (Z:bD mg) (C_whole:ba P w K mg base 1 "_law_whole" ["_law_found"] jz):aF P w K mg base (cx P w) 2 f fd ["_law_found","_law_due"] (c9 K tV):=by
 simp_arith [Bp]
 ·obtain ⟨a,rfl,_⟩:=h;rfl
 obtain ⟨a,rfl,q⟩:=h
 refine ⟨_,(aj (aU (du (iH (cO (bG (aK jQ rfl Z.isinstance boot_isinstance (af (rv 0) (af (nX rfl Z.tuple boot_tuple) ah))))) (gJ (aE (iX hr.aS) (aK bK rfl Z.len boot_len (af (rv 0) ah)) ag (L2.ax _))))) (ak (az gC)) aI)
   (aj (aU (du (iH (cO (bG (aR C_whole B hr (by decide) rfl (af (ar aw (rv 0) ag (fun _ _=>rfl)) ah)))) (gJ (cO (bG (aR C_whole B hr (by decide) rfl (af (ar aw (rv 0) ag (fun _ _=>rfl)) ah))))))) (ak (az gC)) aI)
   (ak (az (cZ (cj hr.aS) (rv 0) (rv 1) (L2.ax _)))))),?_⟩
 simp_arith! only [bR,jz]
 exact q
abbrev jy:Stmt:=(top 52)
theorem wU:L2.au ["_law_number","_law_mode"] ["_law_number","_law_mode"] (L2.ai jy):=dt
def nM:bX:=fun xs J Q _=>∃ n m:Int,xs=[.int n,.int m]∧0≤n∧∀ v:Int,v.natAbs≤1000000→Q (.int v) J
theorem sP {f:Addr} {fd:FuncData} (F:bP K "_law_placed" "_law_placed" jy f fd) (Z:bD mg):aF P w K mg base (cx P w) 1 f fd ["_law_number","_law_mode"] (c9 K nM):=by
 simp_arith [wU]
 ·obtain ⟨n,m,rfl,_⟩:=h;rfl
 obtain ⟨n,m,rfl,n0,q⟩:=h
 refine ⟨_,(aj (aU (aE fh (rv 1) ag (L2.ax _)) (ak (az (aP eV (aP dw (rv 0) ag) ag))) aI)
   (aj (aU (aE (cj hr.aS) (rv 1) ag (L2.ax _)) (ak (az (aP eV (aP dw (rv 0) ag) ag))) aI)
   (ak (az (aP eV (aP dw (rv 0) ag) ag))))),?_⟩
 simp_all! only []
 split
 ·simp_all! only [];exact ⟨by decide,q _ (by omega)⟩
 simp_all! only []
 split
 ·simp_all! only [];exact ⟨by decide,q _ (by omega)⟩
 ·simp_all! only [];exact ⟨by decide,q _ (by omega)⟩
abbrev kH:Stmt:=(top 53)
theorem zV:L2.au ["_law_number","_law_mode"] ["_law_number","_law_mode"] (L2.ai kH):=dt
def qV:bX:=fun xs J Q _=>∃ n m:Int,xs=[.int n,.int m]∧0≤n∧n < 2001∧∀ v:Int,v.natAbs≤1000→Q (.int v) J
theorem wQ {f:Addr} {fd:FuncData} (F:bP K "_law_paced" "_law_paced" kH f fd) (Z:bD mg):aF P w K mg base (cx P w) 1 f fd ["_law_number","_law_mode"] (c9 K qV):=by
 simp_arith [zV]
 ·obtain ⟨n,m,rfl,_⟩:=h;rfl
 obtain ⟨n,m,rfl,n0,n1,q⟩:=h
 refine ⟨_,(aj (aU (aE fh (rv 1) ag (L2.ax _)) (ak (az (aP eV (aP dw (rv 0) ag) ag))) aI)
   (aj (aU (aE (cj hr.aS) (rv 1) ag (L2.ax _)) (ak (az (aP eV (aP dw (rv 0) ag) ag))) aI)
   (ak (az (aP eV (aP dw (rv 0) ag) ag))))),?_⟩
 simp_all! only []
 split
 ·simp_all! only [];exact ⟨by decide,q _ (by omega)⟩
 simp_all! only []
 split
 ·simp_all! only [];exact ⟨by decide,q _ (by omega)⟩
 ·simp_all! only [];exact ⟨by decide,q _ (by omega)⟩
abbrev AI:Stmt:=(top 56)
theorem rG:L2.au ["_law_leg","_law_moment","_law_begun","_law_place","_law_way","_law_under"] ["_law_leg","_law_moment"] (L2.ai AI):=dt
theorem Ec {f:Addr} {fd:FuncData} (F:bP K "_law_at" "_law_at" AI f fd) (Z:bD mg) (C_low:ba P w K mg base 1 "_law_low" ["_law_top","_law_bottom"] lF):aF P w K mg base (cx P w) 2 f fd ["_law_leg","_law_moment"] (c9 K jq):=by
 simp_arith [rG]
 ·obtain ⟨l,t,rfl,_⟩:=h;rfl
 obtain ⟨l,m,rfl,sb,sp,sm,bv,q⟩:=h
 refine ⟨_,(aj (aL (i:=2) rG.nd rfl (Or.inl rfl) (ar aw (rv 0) ag (fun _ _=>rfl)))
   (aj (aL (i:=3) rG.nd rfl (Or.inl rfl) (ar aw (rv 0) ag (fun _ _=>rfl)))
   (aj (aL (i:=4) rG.nd rfl (Or.inl rfl) (aP cP (ar aw (rv 0) ag (fun _ _=>rfl)) (aP eV (aP cP (ar aw (rv 1) ag (fun _ _=>rfl)) (ar aw (rv 2) ag (fun _ _=>rfl))) (aP cP (ar aw (rv 2) ag (fun _ _=>rfl)) (ar aw (rv 1) ag (fun _ _=>rfl))))))
   (aj (aL (i:=5) rG.nd rfl (Or.inl rfl) (aP cP (ar aw (rv 1) ag (fun _ _=>rfl)) (ar aw (rv 2) ag (fun _ _=>rfl))))
   (ak (az (aR C_low B hr (by decide) rfl (af (aP dz (aP cP (ar aw (rv 3) ag (fun _ _=>rfl)) (rv 5)) (aP cP (rv 4) (ar aw (rv 3) ag (fun _ _=>rfl)))) (af (aP cP (ar aw (rv 3) ag (fun _ _=>rfl)) (rv 5)) ah))))))))),?_⟩
 simp_arith! only [bR,uW,Gi,j_,lF]
 have bn:Bd 1801 (m.num * l.m.den - l.m.num * m.den):=.sub (.mul sm.num sb.den (Nat.le_refl _)) (.mul sb.num sm.den (Nat.le_refl _))
 have bu:Bd 1800 ((m.den:Int) * l.m.den):=.mul sm.den sb.den
 have bw:Bd 1900 (l.v * (m.num * l.m.den - l.m.num * m.den)):=.mul bv bn
 refine ⟨.of sm.num sb.den,.of sb.num sm.den,.of bv bn,.of sm.den sb.den,.of sp.num bu,.of bw sp.den,.of sp.den bu,Int.mul_pos (lM _) (Int.mul_pos (lM _) (lM _)),.mul sp.den bu,?_⟩
 rw [GL]
 exact q
abbrev k8:Stmt:=(top 54)
theorem iY:L2.au ["_law_clock","_law_number","_law_bottom","_law_mode","_law_under","_law_steps"] ["_law_clock","_law_number","_law_bottom","_law_mode"] (L2.ai k8):=dt
def uP:bX:=fun xs J Q _=>∃ (c:Rat) (n b m:Int),xs=[fr c,.int n,.int b,.int m]∧0≤n∧0≤b∧0≤m∧m < 4∧n < 2 ^ 60∧Sz 900 c∧∀ q,Later c q→Q (fr q) J
theorem v3 {f:Addr} {fd:FuncData} (F:bP K "_law_later" "_law_later" k8 f fd) (Z:bD mg) (C_low:ba P w K mg base 1 "_law_low" ["_law_top","_law_bottom"] lF):aF P w K mg base (cx P w) 2 f fd ["_law_clock","_law_number","_law_bottom","_law_mode"] (c9 K uP):=by
 simp_arith [iY]
 ·obtain ⟨c,n,b,m,rfl,_⟩:=h;rfl
 obtain ⟨c,n,b,m,rfl,n0,b0,m0,m1,n2,sc,q⟩:=h
 refine ⟨_,(aj (aU (aE (cj hr.aS) (aP dw (rv 1) ag) ag (L2.ax _)) (ak (az (rv 0))) aI)
   (aj (aL (i:=4) iY.nd rfl (Or.inl rfl) (aP dz ag (aP dw (rv 2) (ar aw (qT (r_ [.int 4,.int 6,.int 60,.int 60] rfl [.int 4,.int 6,.int 60,.int 60] rfl)) (rv 3) (fun _ _=>rfl)))))
   (aj (aL (i:=5) iY.nd rfl (Or.inl rfl) (aP dz ag (aP dw (aP jg (rv 1) ag) (aP cP ag (rv 4)))))
   (c_ (aU (aE (cj hr.aS) (rv 3) ag (L2.ax _)) (ak (aL (i:=5) iY.nd rfl (Or.inl rfl) (aP dz ag (aP dw (aP jg (rv 1) ag) (aP cP ag (rv 4)))))) aI)
   (ak (az (aR C_low B hr (by decide) rfl (af (aP dz (aP jg (aP cP (ar aw (rv 0) ag (fun _ _=>rfl)) (rv 4)) (ar aw (rv 0) ag (fun _ _=>rfl))) (rv 5)) (af (rv 4) ah))))))))),?_⟩
 simp_arith! only [bR]
 refine ⟨by decide,?_⟩
 split
 ·exact q c (.inl rfl)
 obtain ⟨x,hx,x0,x1⟩:∃ x:Int,cK [PV.int 4,PV.int 6,PV.int 60,PV.int 60] m=some (.int x)∧1≤x∧x≤60:=by
  rcases (by omega:m=0∨m=1∨m=2∨m=3) with e | e | e | e <;> subst e
  ·exact ⟨4,cJ _ _,by decide,by decide⟩
  ·exact ⟨6,dX _ _ _,by decide,by decide⟩
  ·exact ⟨60,hW _ _ _ _,by decide,by decide⟩
  ·exact ⟨60,zX _ _ _ _ _,by decide,by decide⟩
 have u0:0≤b % x:=Int.emod_nonneg _ (by omega)
 have u1:b % x < x:=Int.emod_lt_of_pos _ (by omega)
 have bu:Bd 64 (1 + b % x):=.small (by omega) (by omega)
 have b8:Bd 9000 8:=(Bd.small (x:=8) (by decide) (by decide)).mono (by decide)
 refine ⟨_,hx,x,rfl,by omega,⟨by decide,b8⟩,.of (.small (x:=2) (by decide) (by decide)) bu,by omega,?_⟩
 generalize hu:1 + b % x=u at *
 have k0:0≤n.fdiv 8:=by rw [Int.fdiv_eq_ediv_of_nonneg _ (by decide)];exact Int.ediv_nonneg n0 (by decide)
 obtain ⟨M,hM⟩:∃ M:Sr→Hq→Prop,∀ τ' J',M τ' J'↔∃ s:Int,τ'=[some (fr c),some (.int n),some (.int b),some (.int m),some (.int u),some (.int s)]∧J'=J∧1≤s∧s≤500 * u:=⟨_,fun _ _=>Iff.rfl⟩
 refine ⟨M,?_,?_⟩
 ·simp_arith! only [bR]
  have h2:0≤n.fdiv 8 % (2 * u):=Int.emod_nonneg _ (by omega)
  have h3:n.fdiv 8 % (2 * u) < 2 * u:=Int.emod_lt_of_pos _ (by omega)
  have h4:0≤n.fdiv 8 % (500 * u):=Int.emod_nonneg _ (by omega)
  have h5:n.fdiv 8 % (500 * u) < 500 * u:=Int.emod_lt_of_pos _ (by omega)
  split
  ·refine ⟨⟨by decide,b8⟩,.of (.small (x:=500) (by decide) (by decide)) bu,by omega,(hM _ _).mpr ⟨_,rfl,rfl,by omega,by omega⟩⟩
  ·exact (hM _ _).mpr ⟨_,rfl,rfl,by omega,by omega⟩
 ·intro τ' J' hm
  obtain ⟨s,rfl,rfl,s0,s1⟩:=(hM _ _).mp hm
  clear hm hM M
  simp_arith! only [bR,lF]
  refine ⟨.of sc.num bu,⟨dB c,sc.den.mono (by decide)⟩,by omega,bu.mono (by decide),?_⟩
  obtain ⟨u',rfl⟩:=Int.eq_ofNat_of_zero_le (show 0≤u by omega)
  obtain ⟨s',rfl⟩:=Int.eq_ofNat_of_zero_le (show 0≤s by omega)
  exact q _ (.inr ⟨u',s',by omega,by omega,by omega,by omega,rfl⟩)
section
variable {X:Cx}
theorem iE.or {f:Value→Value→Sem Value} {q q':iF} (h:iE X f q) (h':iE X f q'):iE X f (fun x y J Q=>q x y J Q∨q' x y J Q):=by
 obtain ⟨r,a,lr⟩:=h
 obtain ⟨r',a',lr'⟩:=h'
 refine ⟨fun x y H Q=>r x y H Q∨r' x y H Q,fun pins s σ H x y v u Q I rx ry h=>?_,fun J H x y v w Q2 Q rx ry rr h k=>?_⟩
 ·rcases h with h | h
  ·exact a pins s σ H x y v u Q I rx ry h
  ·exact a' pins s σ H x y v u Q I rx ry h
 ·rcases h with h | h
  ·exact .inl (lr J H x y v w Q2 Q rx ry rr h k)
  ·exact .inr (lr' J H x y v w Q2 Q rx ry rr h k)
end
def Ky.V (k:Ky):PV:=.tup [fr k.p,.int k.v,.str k.n]
theorem Gz (J:Hq) (k:Ky):dT J k.V (.int 0)=some (fr k.p):=cJ _ _
theorem FW (J:Hq) (k:Ky):dT J k.V (.int 1)=some (.int k.v):=dX _ _ _
theorem B' (J:Hq) (k:Ky):dT J k.V (.int 2)=some (.str k.n):=hW _ _ _ _
theorem F3 (p:Rat) (v:Int) (n:Str):PV.tup [fr p,.int v,.str n]=(Ky.mk p v n).V:=rfl
theorem nK (p q:Rat):(p.num * (q.den:Int) < q.num * (p.den:Int))=(p < q):=propext (Rat.lt_iff p q).symm
abbrev iR:Stmt:=(top 59)
theorem jZ:L2.au ["_law_one","_law_two","_law_here","_law_there"] ["_law_one","_law_two"] (L2.ai iR):=dt
def pX:bX:=fun xs J Q _=>(∃ a b:Ky,xs=[a.V,b.V]∧Sz 9000 a.p∧Sz 9000 b.p∧Q (.bl (a.lt b)) J)∨(∃ a b:aG,xs=[a.v,b.v]∧Sz 9000 a.m∧Sz 9000 b.m∧Q (.bl (a.lt b)) J)
theorem sT {f:Addr} {fd:FuncData} (F:bP K "_law_before" "_law_before" iR f fd) (Z:bD mg):aF P w K mg base (cx P w) 1 f fd ["_law_one","_law_two"] (c9 K pX):=by
 simp_arith [jZ]
 ·rcases h with ⟨a,b,rfl,_⟩ | ⟨a,b,rfl,_⟩ <;> rfl
 refine ⟨_,(aj (aL (i:=2) jZ.nd rfl (Or.inl rfl) (aP cP (ar aw (ar aw (rv 0) ag (fun _ _=>rfl)) ag (fun _ _=>rfl)) (ar aw (ar aw (rv 1) ag (fun _ _=>rfl)) ag (fun _ _=>rfl))))
   (aj (aL (i:=3) jZ.nd rfl (Or.inl rfl) (aP cP (ar aw (ar aw (rv 1) ag (fun _ _=>rfl)) ag (fun _ _=>rfl)) (ar aw (ar aw (rv 0) ag (fun _ _=>rfl)) ag (fun _ _=>rfl))))
   (aj (aU (aE (iX hr.aS) (rv 2) (rv 3) (L2.ax _)) (ak (az (cZ fh (rv 2) (rv 3) (L2.ax _)))) aI)
   (aj (aU (aE (iX hr.aS) (ar aw (rv 0) ag (fun _ _=>rfl)) (ar aw (rv 1) ag (fun _ _=>rfl)) (L2.ax _)) (ak (az (cZ (iE.or fh tO) (ar aw (rv 0) ag (fun _ _=>rfl)) (ar aw (rv 1) ag (fun _ _=>rfl)) (L2.ax _)))) aI)
   (ak (az (cZ tO (ar aw (rv 0) ag (fun _ _=>rfl)) (ar aw (rv 1) ag (fun _ _=>rfl)) (L2.ax _)))))))),?_⟩
 rcases h with ⟨a,b,rfl,sa,sb,q⟩ | ⟨a,b,rfl,sa,sb,q⟩
 ·simp_arith! only [bR,Gz,FW,B']
  refine ⟨.of sa.num sb.den,.of sb.num sa.den,?_⟩
  unfold Ky.lt at q
  by_cases e:a.p=b.p
  ·rw [if_pos e] at q
   rw [if_pos ((gT _ _).mpr e)]
   by_cases k:a.v=b.v
   ·rw [if_pos k] at q ⊢;exact q
   ·rw [if_neg k] at q ⊢;exact q
  ·rw [if_neg e] at q
   rw [if_neg (fun z=>e ((gT _ _).mp z))]
   simp only [nK]
   exact q
 ·simp_arith! only [bR,B9,Cw,Cg]
  refine ⟨.of sa.num sb.den,.of sb.num sa.den,?_⟩
  unfold aG.lt at q
  by_cases e:a.m=b.m
  ·rw [if_pos e] at q
   rw [if_pos ((gT _ _).mpr e)]
   by_cases k:a.h=b.h
   ·rw [if_pos k] at q ⊢;exact q
   ·rw [if_neg k] at q ⊢;exact q
  ·rw [if_neg e] at q
   rw [if_neg (fun z=>e ((gT _ _).mp z))]
   simp only [nK]
   exact q
abbrev i5:Stmt:=(top 60)
theorem fC:L2.au ["_law_legs","_law_moment","_law_out","_law_name","_law_row","_law_at_here"] ["_law_legs","_law_moment"] (L2.ai i5):=dt
def rD:bX:=fun xs J Q _=>∃ (D:Addr) (fs:List (Str × aQ)) (ep:Nat) (t:Rat),xs=[.ref D,fr t]∧J D=some (.dct (bH fs) ep)∧(fs.map (·.1)).Nodup∧fs.length≤100∧Sz 900 t∧(∀ x∈fs,mq 900 x.2)∧Q (.fl ((bZ t fs).map .str)) J
theorem vZ {f:Addr} {fd:FuncData} (F:bP K "_law_order" "_law_order" i5 f fd) (Z:bD mg) (C_at:ba P w K mg base 2 "_law_at" ["_law_leg","_law_moment"] jq) (C_before:ba P w K mg base 1 "_law_before" ["_law_one","_law_two"] pX):aF P w K mg base (cx P w) 3 f fd ["_law_legs","_law_moment"] (c9 K rD):=by
 refine GW F fC (fun xs J Q E h=>?_) (fun cdv A outer s H E G xs J Q E2 hr h B=>?_)
 ·obtain ⟨D,fs,ep,t,rfl,_⟩:=h;rfl
 obtain ⟨D,fs,ep,t,rfl,hD,hnd,hlen,st,sl,q⟩:=h
 refine ⟨_,(aj (aL (i:=2) fC.nd rfl (Or.inl rfl) (jY ah))
   (aj (fS cH rfl (vn (rv 0)) (bT (i:=3) fC.nd rfl (Or.inl rfl)) (aj (aL (i:=4) fC.nd rfl (Or.inl rfl) (cv (af (aR C_at B hr (by decide) rfl (af (ar dW (rv 0) (rv 3) (fun _ _=>rfl)) (af (rv 1) ah))) (af (ar aw (ar dW (rv 0) (rv 3) (fun _ _=>rfl)) ag (fun _ _=>rfl)) (af (rv 3) ah)))))
   (aj (aL (i:=5) fC.nd rfl (Or.inl rfl) ag)
   (aj (i6 cH (du (eO (aE fh (rv 5) (aK bK rfl Z.len boot_len (af (rv 2) ah)) (L2.ax _)) (dH (bG (aR C_before B hr (by decide) rfl (af (ar aw (rv 2) (rv 5) (fun _ _=>rfl)) (af (rv 4) ah))))))) (ak (aL (i:=5) fC.nd rfl (Or.inl rfl) (aP dz (rv 5) ag))))
   (ak (aY (jc PySem.F.plainAttrs_list PySem.F.slot_list_insert PySem.F.type_list_insert jB (rv 2) (af (rv 5) (af (rv 4) ah)))))))))
   (ak (az (ES (L2.ai i5) ["_law_legs","_law_moment","_law_out","_law_name","_law_row","_law_at_here"] [] rfl rfl rfl (fk (rv 2)) (fun _ _ _ _ _ _=>(ar aw (rv 0) ag (fun _ _=>rfl)))))))),?_⟩
 simp_all! only []
 intro r hr'
 have nDr:D≠r:=by intro e;subst e;rw [hD] at hr';cases hr'
 simp_all! only [aq nDr,hD]
 have hkv:(bH fs).map (fun kv=>PV.str kv.1)=fs.map fun x=>PV.str x.1:=by unfold bH;rw [List.map_map];rfl
 rw [hkv]
 obtain ⟨Inv,hInv⟩:∃ Inv:Nat→Sr→Hq→Prop,∀ i τ J',Inv i τ J'↔∃ (u3 u4 u5:Option PV),τ=[some (.ref D),some (fr t),some (.ref r),u3,u4,u5]∧J'=put J r (.lst ((cT ((fs.take i).map (key t))).map Ky.V)):=⟨_,fun _ _ _=>Iff.rfl⟩
 refine iw Inv ((hInv _ _ _).mpr ⟨_,_,_,rfl,rfl⟩) (fun i τ J' h=>?_) ?_ ?_
 ·obtain ⟨_,_,_,_,rfl⟩:=(hInv _ _ _).mp h
  rw [aq nDr];exact hD
 ·intro i x τ J' hx hv
  obtain ⟨u3,u4,u5,rfl,rfl⟩:=(hInv _ _ _).mp hv
  clear hv
  have hi:i < fs.length:=by have:=(List.getElem?_eq_some_iff.mp hx).1;simpa using this
  rw [List.getElem?_map,List.getElem?_eq_getElem hi] at hx
  cases hx
  rcases hfi:fs[i] with ⟨n,l⟩
  have hmem:(n,l)∈fs:=by rw [← hfi];exact List.getElem_mem hi
  have et:fs.take (i + 1)=fs.take i ++ [(n,l)]:=by rw [List.take_add_one,List.getElem?_eq_getElem hi,hfi];rfl
  have hndt:((fs.take i).map (·.1)).Nodup:=by rw [List.map_take];exact hnd.sublist (List.take_sublist _ _)
  obtain ⟨ys,hys⟩:∃ ys,cT ((fs.take i).map (key t))=ys:=⟨_,rfl⟩
  have srt:kq Ky.lt ys:=by rw [← hys];exact dg (by rw [c5];exact hndt)
  have hyl:ys.length=i:=by rw [← hys,i9,List.length_map,List.length_take];omega
  have hym:∀ y∈ys,Sz 9000 y.p:=fun y hy=>by
   rw [← hys,bq,List.mem_map] at hy
   obtain ⟨x',hx',rfl⟩:=hy
   exact (gu (sl x' (List.mem_of_mem_take hx')) st).mono (by decide)
  have en:cT ((fs.take (i + 1)).map (key t))=ku Ky.lt (key t (n,l)) ys:=by rw [et,List.map_append,List.map_cons,List.map_nil,fH,hys]
  rw [hys]
  have hvn:iG (bH fs) n=some l.V:=ij (f:=aQ.V) hnd hmem
  have sll:=sl _ hmem
  simp_all! only [aq nDr,hD,hvn]
  refine ⟨l,t,rfl,sll.m,sll.p,st,sll.v,?_⟩
  simp_all! only [aq nDr,hD,hvn,j_,F3]
  have ek:(Ky.mk (l.at t) l.v n)=key t (n,l):=rfl
  rw [ek]
  have skn:Sz 9000 (key t (n,l)).p:=(gu sll st).mono (by decide)
  generalize key t (n,l)=kn at en skn ⊢
  refine ⟨fun m τ' J'=>∃ j:Nat,j≤ys.length∧m=ys.length - j∧τ'=[some (.ref D),some (fr t),some (.ref r),some (.str n),some kn.V,some (.int (j:Nat))]∧J'=put J r (.lst (ys.map Ky.V))∧∀ (k:Nat) y,k < j→ys[k]?=some y→y.lt kn=true,⟨ys.length,0,Nat.zero_le _,rfl,rfl,rfl,fun k y hk=>by omega⟩,?_⟩
  rintro m τ' J' ⟨j,hj,rfl,rfl,rfl,hlow⟩
  have fin:(∀ (k:Nat) y,j≤k→ys[k]?=some y→y.lt kn=false)→Inv (i + 1) [some (.ref D),some (fr t),some (.ref r),some (.str n),some kn.V,some (.int (j:Nat))] (put J r (.lst ((ys.map Ky.V).take j ++ kn.V :: (ys.map Ky.V).drop j))):=fun hhigh=>by
   refine (hInv _ _ _).mpr ⟨_,_,_,rfl,?_⟩
   rw [en,← uV hj hlow hhigh,List.map_append,List.map_cons,List.map_take,List.map_drop]
  simp_all! only [av,List.length_map]
  by_cases c0:j < ys.length
  ·rw [if_pos (by omega)]
   obtain ⟨y,hy⟩:∃ y,ys[j]?=some y:=⟨_,List.getElem?_eq_getElem c0⟩
   have ha:cK (ys.map Ky.V) (j:Int)=some y.V:=a9 (by rw [List.getElem?_map,hy];rfl)
   simp_all! only [ha]
   refine .inl ⟨y,kn,rfl,hym y (List.mem_of_getElem? hy),skn,?_⟩
   cases hc:y.lt kn with
   | true =>
    simp_all! only []
    refine ⟨_,fun τ'' J'' h=>⟨ys.length - (j + 1),by omega,h⟩,⟨j + 1,by omega,rfl,rfl,rfl,fun k z hk e=>?_⟩⟩
    rcases Nat.lt_or_eq_of_le (Nat.lt_succ_iff.mp hk) with h | h
    ·exact hlow k z h e
    ·subst h;rw [hy] at e;cases e;exact hc
   | false =>
    simp_all! only [av]
    refine ⟨_,j,rfl,rfl,by rw [List.length_map];omega,aW (by rw [List.length_map];omega),by omega,?_⟩
    rw [dI]
    exact fin fun k z hk e=>w6 (lt:=Ky.lt) Ky.tr srt hy e hk hc
  ·rw [if_neg (by omega)]
   simp_all! only [av]
   refine ⟨_,j,rfl,rfl,by rw [List.length_map];omega,aW (by rw [List.length_map];omega),by omega,?_⟩
   rw [dI]
   exact fin fun k z hk e=>by rw [List.getElem?_eq_none (by omega)] at e;cases e
 ·intro τ J' hv
  obtain ⟨u3,u4,u5,rfl,rfl⟩:=(hInv _ _ _).mp hv
  rw [List.length_map,List.take_length]
  simp_all! only [wb,av]
  refine ⟨fun _=>true,(fun x=>match x with | .tup [_,_,n]=>n | _=>.non),⟨aW (by rw [List.length_map,i9,List.length_map];omega),fun J2 hs=>⟨hs _ _ av,fun x hx=>⟨⟨rfl,rfl⟩,fun _=>?_⟩⟩⟩,?_⟩
  ·obtain ⟨y,hy,rfl⟩:=List.mem_map.mp hx
   simp_arith! only [bR,B']
   rfl
  ·rw [List.filter_eq_self.mpr fun _ _=>rfl,List.map_map]
   have e:(bZ t fs).map PV.str=(cT (fs.map (key t))).map ((fun x=>match x with | .tup [_,_,n]=>n | _=>.non) ∘ Ky.V):=by unfold bZ;rw [List.map_map];rfl
   rw [e] at q
   exact Fg.less (jv hr') q
abbrev kY:Stmt:=(top 50)
theorem pU:L2.au ["_law_found","_law_due","_law_one"] ["_law_found","_law_due"] (L2.ai kY):=dt
def uN:bX:=fun xs J Q _=>∃ ss:List Str,xs=[.fl (ss.map .str),.fl (ss.map .str)]∧ss.length≤900∧Q (.bl true) J
theorem xM (ss:List Str):jL (ss.map PV.str)=true:=by
 induction ss with
 | nil=>rfl
 | cons x ss ih=>rw [List.map_cons,vX,u7,ih];rfl
theorem xI (ss:List Str):c8 (fE (ss.map PV.str))≤1:=by
 induction ss with
 | nil=>simp [fE,c8]
 | cons x ss ih=>simp only [List.map_cons,fE,fw,c8,dep];omega
theorem uu (ss:List Str):Dv (.fl (ss.map .str)):=⟨by unfold kj;exact xM ss,by
 have:=xI ss
 simp only [fw,dep];omega⟩
theorem w9 {f:Addr} {fd:FuncData} (F:bP K "_law_words" "_law_words" kY f fd) (Z:bD mg):aF P w K mg base (cx P w) 1 f fd ["_law_found","_law_due"] (c9 K uN):=by
 simp_arith [pU]
 ·obtain ⟨ss,rfl,_⟩:=h;rfl
 obtain ⟨ss,rfl,hl,q⟩:=h
 refine ⟨_,(aj (aU (du (iH (cO (bG (aK jQ rfl Z.isinstance boot_isinstance (af (rv 0) (af (nX rfl Z.list boot_list) ah))))) (gJ (aE (iX hr.aS) (aK bK rfl Z.len boot_len (af (rv 0) ah)) (aK bK rfl Z.len boot_len (af (rv 1) ah)) (L2.ax _))))) (ak (az gC)) aI)
   (aj (fS cH rfl (fk (rv 0)) (bT (i:=2) pU.nd rfl (Or.inl rfl)) (ak (aU (cO (bG (aK jQ rfl Z.isinstance boot_isinstance (af (rv 2) (af (nX rfl Z.str boot_str) ah))))) (ak (az gC)) aI)))
   (ak (az (cZ (cj hr.aS) (rv 0) (rv 1) (L2.ax _)))))),?_⟩
 simp_all! only [List.length_map]
 obtain ⟨Inv,hInv⟩:∃ Inv:Nat→Sr→Hq→Prop,∀ i τ J',Inv i τ J'↔∃ u:Option PV,τ=[some (.fl (ss.map .str)),some (.fl (ss.map .str)),u]∧J'=J:=⟨_,fun _ _ _=>Iff.rfl⟩
 refine iw Inv ((hInv _ _ _).mpr ⟨_,rfl,rfl⟩) (fun _ _ _ _=>trivial) ?_ ?_
 ·intro i x τ J' hx hv
  obtain ⟨u,rfl,rfl⟩:=(hInv _ _ _).mp hv
  obtain ⟨y,_,rfl⟩:=List.mem_map.mp (List.mem_of_getElem? hx)
  simp_all! only []
  exact (hInv _ _ _).mpr ⟨_,rfl,rfl⟩
 ·intro τ J' hv
  obtain ⟨u,rfl,rfl⟩:=(hInv _ _ _).mp hv
  simp_all! only []
  refine ⟨uu ss,(uu ss).1,?_⟩
  rw [eq_self];exact q
theorem bQ.Dm {L:Ln} (ok:bQ L):L.fs.length≤12:=by
 have:=ok.rl
 rw [ok.row,qz] at this;exact this
def FR (t:Rat) (fs gs:List (Str × aQ)):Prop:=∀ x,x∈fs.map (key t)↔x∈gs.map (key t)
def rJ:List aQ→Prop
 | a :: b :: r=>b.p=a.at b.m∧rJ (b :: r)
 | _=>True
theorem gZ:∀ (ls:List aQ) (l:aQ),rJ (ls ++ [l])↔rJ ls∧∀ k,ls.getLast?=some k→l.p=k.at l.m
 | [],l=>⟨fun _=>⟨trivial,fun k h=>nomatch h⟩,fun _=>trivial⟩
 | [a],l=>⟨fun h=>⟨trivial,fun k e=>by cases e;exact h.1⟩,fun h=>⟨h.2 a rfl,trivial⟩⟩
 | a :: b :: r,l=>by
  have ih:=gZ (b :: r) l
  show (b.p=a.at b.m∧rJ ((b :: r) ++ [l]))↔_
  rw [ih,List.getLast?_cons_cons]
  constructor
  ·rintro ⟨h1,h2,h3⟩;exact ⟨⟨h1,h2⟩,h3⟩
  ·rintro ⟨⟨h1,h2⟩,h3⟩;exact ⟨h1,h2,h3⟩
def fG (l l':aQ):Prop:=l.v=l'.v∧∀ t,l.at t=l'.at t
theorem fG.key {l l':aQ} (h:fG l l') (n:Str) (t:Rat):key t (n,l)=key t (n,l'):=by unfold Ov.key;simp only;rw [h.1,h.2 t]
theorem BF (l:aQ):l.at l.m=l.p:=by unfold aQ.at;grind
theorem uD {l l':aQ} {t:Rat} (hv:l.v=l'.v) (h:l.at t=l'.at t):fG l l':=⟨hv,fun s=>by
 unfold aQ.at at h ⊢
 rw [hv] at h ⊢
 generalize (l'.v:Rat)=x at h ⊢
 grind⟩
theorem gI {rows:List aQ} {t:Rat} {v:Int} (h:rJ rows) (ne:rows≠[]):rJ (turned rows t v)∧∀ l,rows.getLast?=some l→∀ l',(turned rows t v).getLast?=some l'→fG ⟨t,l.at t,v⟩ l':=by
 obtain ⟨ls,l,rfl⟩:∃ ls l,rows=ls ++ [l]:=⟨rows.dropLast,rows.getLast ne,(List.dropLast_concat_getLast ne).symm⟩
 obtain ⟨h1,h2⟩:=(gZ ls l).mp h
 have new:∀ {q:List aQ},(q ++ [aQ.mk t (l.at t) v]).getLast?=some (aQ.mk t (l.at t) v):=fun {q}=>List.getLast?_concat ..
 rw [fc]
 simp only [List.getLast?_concat,Option.some.injEq]
 split
 ·rename_i e
  have el:l.at t=l.p:=by rw [← e];exact BF l
  split
  ·rename_i ev
   refine ⟨h1,fun l0 h0 l' h'=>?_⟩
   subst h0
   rw [h'] at ev
   have hv:l'.v=v:=Option.some.inj ev
   have hp:=h2 l' h'
   rw [e] at hp
   refine uD (t:=t) hv.symm ?_
   show l.at t + (t - t) * (v:Rat)=_
   rw [← hp,el];grind
  ·refine ⟨(gZ _ _).mpr ⟨h1,fun k hk=>?_⟩,fun l0 h0 l' h'=>?_⟩
   ·show l.at t=k.at t
    rw [el,h2 k hk,e]
   ·subst h0
    rw [new] at h';cases h';exact ⟨rfl,fun _=>rfl⟩
 ·split
  ·rename_i ev
   refine ⟨h,fun l0 h0 l' h'=>?_⟩
   subst h0
   rw [List.getLast?_concat] at h';cases h'
   refine uD (t:=t) ev.symm ?_
   show l.at t + (t - t) * (v:Rat)=_
   grind
  ·refine ⟨(gZ _ _).mpr ⟨h,fun k hk=>?_⟩,fun l0 h0 l' h'=>?_⟩
   ·rw [List.getLast?_concat] at hk;cases hk;rfl
   ·subst h0
    rw [new] at h';cases h';exact ⟨rfl,fun _=>rfl⟩
structure Rl (L:Ln) (gs:List (Str × aQ)):Prop where
 nm:gs.map (·.1)=L.fs.map (·.1)
 ln:∀ n l l',(n,l)∈gs→(n,l')∈L.fs→fG l l'
 ck:∀ x∈gs,mG x.2
 le:∀ x∈gs,x.2.m≤L.t
 ct:∀ c∈L.cs,rJ c.w
theorem Rl.same {L:Ln} {gs:List (Str × aQ)} (h:Rl L gs) (t:Rat):FR t L.fs gs:=fun x=>by
 have other:∀ {as bs:List (Str × aQ)},as.map (·.1)=bs.map (·.1)→∀ {n l},(n,l)∈as→∃ l',(n,l')∈bs:=fun {as bs} e {n l} hm=>by
  have:n∈bs.map (·.1):=by rw [← e];exact List.mem_map.mpr ⟨_,hm,rfl⟩
  obtain ⟨y,hy,e'⟩:=List.mem_map.mp this
  exact ⟨y.2,by rw [← e'];exact hy⟩
 rw [List.mem_map,List.mem_map]
 constructor
 ·rintro ⟨⟨n,l⟩,hm,rfl⟩
  obtain ⟨l',hl'⟩:=other h.nm.symm hm
  exact ⟨(n,l'),hl',(h.ln n l' l hl' hm).key n t⟩
 ·rintro ⟨⟨n,l⟩,hm,rfl⟩
  obtain ⟨l',hl'⟩:=other h.nm hm
  exact ⟨(n,l'),hl',((h.ln n l l' hm hl').key n t).symm⟩
theorem Rl.sz {L:Ln} {gs:List (Str × aQ)} (h:Rl L gs):∀ x∈gs,mq 240 x.2:=fun x hx=>by
 have hk:=h.ck x hx
 exact ⟨hk.Jc.mono (by decide),hk.IT.mono (by decide),.small (by have:=hk.v;omega) (by have:=hk.v;omega)⟩
theorem Rl.nd {L:Ln} {gs:List (Str × aQ)} (h:Rl L gs) (ok:aT L):(gs.map (·.1)).Nodup:=by rw [h.nm];exact ok.C8
theorem Rl.len {L:Ln} {gs:List (Str × aQ)} (h:Rl L gs):gs.length=L.fs.length:=by have:=congrArg List.length h.nm;rw [List.length_map,List.length_map] at this;exact this
theorem zq {fs:List (Str × aQ)} {n:Str} {l:aQ} (hm:n∈fs.map (·.1)):oV (bH fs) n l.V=bH (fs.map fun x=>if x.1=n then (x.1,l) else x):=by
 unfold oV bH
 rw [if_pos,List.map_map,List.map_map]
 ·refine List.map_congr_left fun x _=>?_
  show (if x.1=n then (x.1,l.V) else (x.1,x.2.V))=_
  show _=((if x.1=n then (x.1,l) else x).1,(if x.1=n then (x.1,l) else x).2.V)
  split <;> rfl
 ·obtain ⟨x,hx,e⟩:=List.mem_map.mp hm
  rw [List.any_eq_true]
  exact ⟨(x.1,x.2.V),List.mem_map.mpr ⟨x,hx,rfl⟩,decide_eq_true e⟩
def nv (n:Str) (t:Rat) (v:Int) (gs:List (Str × aQ)):List (Str × aQ):=gs.map fun x=>if x.1=n then (x.1,⟨t,x.2.at t,v⟩) else x
def gm (t:Rat) (gs:List (Str × aQ)):List (Str × aQ):=gs.map fun x=>(x.1,⟨t,x.2.at t,-x.2.v⟩)
theorem y4 {L:Ln} {f:Cf→Cf} (hn:∀ c,(f c).n=c.n∧(f c).a=c.a∧(f c).r=c.r∧(f c).g=c.g) {L':Ln} (e:L'.cs=L.cs.map f):L'.fs=L.wA.map fun c=>(c.n,(f c).cur):=by
 unfold Ln.fs Ln.wA
 rw [e,List.filter_map,List.map_map]
 have e1:(fun c:Cf=>c.g.isNone) ∘ f=fun c=>c.g.isNone:=by funext c;show (f c).g.isNone=_;rw [(hn c).2.2.2]
 rw [e1]
 exact List.map_congr_left fun c _=>by show ((f c).n,(f c).cur)=_;rw [(hn c).1]
theorem qH {c:Cf} {t:Rat} {v:Int} (h:rJ c.w) (ne:c.w≠[]):fG ⟨t,c.cur.at t,v⟩ (c.turn t v).cur:=by
 have h1:=(Cf.fe ne).1
 have h2:=(Cf.fe (c:=c.turn t v) (jH ne)).1
 exact (gI h ne).2 _ h1 _ h2
theorem fG.turn {l l':aQ} (h:fG l l') (t:Rat) (v:Int):fG ⟨t,l.at t,v⟩ ⟨t,l'.at t,v⟩:=by rw [h.2 t];exact ⟨rfl,fun _=>rfl⟩
theorem fG.trans {l l' l'':aQ} (h:fG l l') (k:fG l' l''):fG l l'':=⟨h.1.trans k.1,fun t=>(h.2 t).trans (k.2 t)⟩
theorem Rl.turn {L L':Ln} {gs:List (Str × aQ)} (h:Rl L gs) (ok:aT L) {n:Str} {v:Int} (hv:v.natAbs≤1000) (e:L'.cs=L.cs.map (b_ n L.t v)) (et:L'.t=L.t):Rl L' (nv n L.t v gs):=by
 have hn:=i_ n L.t v
 have hfs:=y4 hn e
 have nm:(nv n L.t v gs).map (·.1)=gs.map (·.1):=by
  unfold nv;rw [List.map_map];exact List.map_congr_left fun x _=>by show (if x.1=n then (x.1,_) else x).1=x.1;split <;> rfl
 refine ⟨?_,?_,?_,?_,?_⟩
 ·rw [nm,h.nm,hfs];unfold Ln.fs;rw [List.map_map,List.map_map];rfl
 ·intro m l l' hl hl'
  obtain ⟨x,hx,ex⟩:=List.mem_map.mp hl
  rw [hfs] at hl'
  obtain ⟨c,hc,ec⟩:=List.mem_map.mp hl'
  have hcs:=(Ln.cI.mp hc).1
  have hold:(c.n,c.cur)∈L.fs:=List.mem_map.mpr ⟨c,hc,rfl⟩
  cases ec
  by_cases z:x.1=n
  ·rw [if_pos z] at ex
   have ex1:x.1=c.n:=(Prod.mk.inj ex).1
   have ex2:aQ.mk L.t (x.2.at L.t) v=l:=(Prod.mk.inj ex).2
   subst ex2
   have hs:=h.ln x.1 x.2 c.cur hx (by rw [ex1];exact hold)
   have zc:c.n=n:=by rw [← z];exact ex1.symm
   unfold b_
   rw [if_pos zc]
   exact (hs.turn L.t v).trans (qH (h.ct c hcs) (ok.ne c hcs))
  ·rw [if_neg z] at ex
   subst ex
   have zc:¬ c.n=n:=z
   unfold b_
   rw [if_neg zc]
   exact h.ln c.n l c.cur hx hold
 ·intro x hx
  obtain ⟨y,hy,rfl⟩:=List.mem_map.mp hx
  split
  ·exact (h.ck y hy).at (h.le y hy) ok.ts hv
  ·exact h.ck y hy
 ·intro x hx
  rw [et]
  obtain ⟨y,hy,rfl⟩:=List.mem_map.mp hx
  split
  ·exact Rat.le_refl
  ·exact h.le y hy
 ·intro c hc
  rw [e] at hc
  obtain ⟨c0,h0,rfl⟩:=List.mem_map.mp hc
  unfold b_
  split
  ·exact (gI (h.ct c0 h0) (ok.ne c0 h0)).1
  ·exact h.ct c0 h0
theorem qr (t:Rat) (c:Cf):(cY t c).n=c.n∧(cY t c).a=c.a∧(cY t c).r=c.r∧(cY t c).g=c.g:=by unfold cY;split <;> exact ⟨rfl,rfl,rfl,rfl⟩
theorem Rl.about {L L':Ln} {gs:List (Str × aQ)} (h:Rl L gs) (ok:aT L) (e:L'.cs=L.cs.map (cY L.t)) (et:L'.t=L.t):Rl L' (gm L.t gs):=by
 have hn:=qr L.t
 have hfs:=y4 hn e
 have nm:(gm L.t gs).map (·.1)=gs.map (·.1):=by
  unfold gm;rw [List.map_map];rfl
 refine ⟨?_,?_,?_,?_,?_⟩
 ·rw [nm,h.nm,hfs];unfold Ln.fs;rw [List.map_map,List.map_map];rfl
 ·intro m l l' hl hl'
  obtain ⟨x,hx,ex⟩:=List.mem_map.mp hl
  rw [hfs] at hl'
  obtain ⟨c,hc,ec⟩:=List.mem_map.mp hl'
  have hcs:=Ln.cI.mp hc
  have hold:(c.n,c.cur)∈L.fs:=List.mem_map.mpr ⟨c,hc,rfl⟩
  cases ec
  obtain ⟨xn,xl⟩:=x
  cases ex
  have hs:=h.ln c.n xl c.cur hx hold
  have ea:cY L.t c=c.turn L.t (-c.cur.v):=by unfold cY;rw [if_pos (by rw [hcs.2];rfl)]
  rw [ea,hs.1]
  exact (hs.turn L.t _).trans (qH (h.ct c hcs.1) (ok.ne c hcs.1))
 ·intro x hx
  obtain ⟨y,hy,rfl⟩:=List.mem_map.mp hx
  exact (h.ck y hy).at (h.le y hy) ok.ts (by have:=(h.ck y hy).v;omega)
 ·intro x hx
  rw [et]
  obtain ⟨y,hy,rfl⟩:=List.mem_map.mp hx
  exact Rat.le_refl
 ·intro c hc
  rw [e] at hc
  obtain ⟨c0,h0,rfl⟩:=List.mem_map.mp hc
  unfold cY
  split
  ·exact (gI (h.ct c0 h0) (ok.ne c0 h0)).1
  ·exact h.ct c0 h0
theorem Rl.join {L L':Ln} {gs:List (Str × aQ)} (h:Rl L gs) (ok':aT L') {n:Str} {x v:Int} (hv:v.natAbs≤1000) (hx:x.natAbs≤1000000) (j:L.joined n x v L') (t0:0≤L.t) (ts:Sc fK MM L.t) (hnew:n ∉ L.fs.map (·.1)):Rl L' (gs ++ [(n,⟨L.t,(x:Rat),v⟩)]):=by
 obtain ⟨a,r,ecs,et⟩:=j
 have efs:L'.fs=L.fs ++ [(n,⟨L.t,(x:Rat),v⟩)]:=uX L ecs rfl
 refine ⟨?_,?_,?_,?_,?_⟩
 ·rw [efs,List.map_append,List.map_append,h.nm]
 ·intro m l l' hl hl'
  rw [efs] at hl'
  have h1:∀ {k},(n,k)∈gs→False:=fun hk=>hnew (by rw [← h.nm];exact List.mem_map.mpr ⟨_,hk,rfl⟩)
  have h2:∀ {k},(n,k)∈L.fs→False:=fun hk=>hnew (List.mem_map.mpr ⟨_,hk,rfl⟩)
  rcases List.mem_append.mp hl with hl | hl <;> rcases List.mem_append.mp hl' with hl' | hl'
  ·exact h.ln m l l' hl hl'
  ·rw [List.mem_singleton] at hl';cases hl';exact (h1 hl).elim
  ·rw [List.mem_singleton] at hl;cases hl;exact (h2 hl').elim
  ·rw [List.mem_singleton] at hl hl';cases hl;cases hl';exact ⟨rfl,fun _=>rfl⟩
 ·intro y hy
  rcases List.mem_append.mp hy with hy | hy
  ·exact h.ck y hy
  ·rw [List.mem_singleton] at hy;subst hy;exact mG.new t0 ts hx hv
 ·intro y hy
  rw [et]
  rcases List.mem_append.mp hy with hy | hy
  ·exact h.le y hy
  ·rw [List.mem_singleton] at hy;subst hy;exact Rat.le_refl
 ·intro c hc
  rw [ecs] at hc
  rcases List.mem_append.mp hc with hc | hc
  ·exact h.ct c hc
  ·rw [List.mem_singleton] at hc;subst hc;exact trivial
def jI (n:Str) (gs:List (Str × aQ)):List (Str × aQ):=gs.filter fun x=>decide (x.1≠n)
theorem Rl.leave {L L':Ln} {gs:List (Str × aQ)} (h:Rl L gs) {n:Str} (e:L'.cs=L.cs.map (bp n L.t)) (et:L'.t=L.t):Rl L' (jI n gs):=by
 have hfs:L'.fs=L.fs.filter fun x=>decide (x.1≠n):=qR e
 have hf:∀ l:List (Str × aQ),(l.filter fun x=>decide (x.1≠n)).map (·.1)=(l.map (·.1)).filter fun y=>decide (y≠n):=fun l=>by rw [List.filter_map];rfl
 refine ⟨?_,?_,?_,?_,?_⟩
 ·unfold jI;rw [hf,hfs,hf,h.nm]
 ·intro m l l' hl hl'
  rw [hfs] at hl'
  exact h.ln m l l' (List.mem_filter.mp hl).1 (List.mem_filter.mp hl').1
 ·intro x hx;exact h.ck x (List.mem_filter.mp hx).1
 ·intro x hx;rw [et];exact h.le x (List.mem_filter.mp hx).1
 ·intro c hc
  rw [e] at hc
  obtain ⟨c0,h0,rfl⟩:=List.mem_map.mp hc
  rw [(dR n L.t c0).2.2.2];exact h.ct c0 h0
abbrev kZ:Stmt:=(top 57)
theorem rS:L2.au ["_law_legs","_law_clock","_law_deed_here","_law_name"] ["_law_legs","_law_clock","_law_deed_here"] (L2.ai kZ):=dt
def eY (n:Str) (x v:Int):PV:=.tup [.str "join",.str n,.int x,.int v]
def f' (n:Str) (v:Int):PV:=.tup [.str "turn",.str n,.int v]
def fL:PV:=.tup [.str "about"]
def fA (n:Str):PV:=.tup [.str "leave",.str n]
def Cb (m:Rat):PV:=.tup [.str "go",fr m]
def oC:bX:=fun xs J Q _=>∃ (D:Addr) (gs:List (Str × aQ)) (ep:Nat) (t:Rat) (dv:PV),xs=[.ref D,fr t,dv]∧J D=some (.dct (bH gs) ep)∧(gs.map (·.1)).Nodup∧gs.length≤100∧Sz 900 t∧(∀ x∈gs,mq 900 x.2) ∧
 ((∃ n x v,dv=eY n x v∧n ∉ gs.map (·.1)∧∀ ep',Q (fr t) (put J D (.dct (bH (gs ++ [(n,⟨t,(x:Rat),v⟩)])) ep'))) ∨
  (∃ n v,dv=f' n v∧n∈gs.map (·.1)∧∀ ep',Q (fr t) (put J D (.dct (bH (nv n t v gs)) ep'))) ∨
  (dv=fL∧∀ ep',Q (fr t) (put J D (.dct (bH (gm t gs)) ep'))) ∨
  (∃ n,dv=fA n∧n∈gs.map (·.1)∧∀ ep',Q (fr t) (put J D (.dct (bH (jI n gs)) ep'))) ∨
  (∃ m,dv=Cb m∧Q (fr m) J))
theorem CO:(("join":Str)="go")=False:=eq_false (by decide +kernel)
theorem CY:(("turn":Str)="go")=False:=eq_false (by decide +kernel)
theorem Co:(("about":Str)="go")=False:=eq_false (by decide +kernel)
theorem D5 {c:ik} {a u:fR} {D:En} {τ:Sr} {J:Hq} (hc:∀ R:Bool→Hq→Prop,R false J→c τ J R) (hu:u D τ J):sx (tG c a l5) u D τ J :=
 ⟨fun τ' J'=>τ'=τ∧J'=J,hc _ (by rw [if_neg (by decide)];exact ⟨rfl,rfl⟩),fun τ' J' h=>by obtain ⟨rfl,rfl⟩:=h;exact hu⟩
theorem d8 {c:ik} {a u:fR} {D:En} {τ:Sr} {J:Hq} (M:Sr→Hq→Prop) (hc:∀ R:Bool→Hq→Prop,R true J→c τ J R) (ha:a { D with nx:=M } τ J) (hu:∀ τ' J',M τ' J'→u D τ' J'):sx (tG c a l5) u D τ J :=
 ⟨M,hc _ (by rw [if_pos rfl];exact ha),hu⟩
theorem vo {x y:Str} {i:Nat} {dv:PV} {τ:Sr} {J:Hq} (h:τ[i]?=some (some dv)) (h0:dT J dv (.int 0)=some (.str x)) (R:Bool→Hq→Prop) (hr:R (decide (x=y)) J):rB (tm (B6 id) (tm Dz (jG i) (rC (.int 0))) (rC (.str y))) τ J R :=
 ⟨dv,h,.str x,h0,⟨rfl,by simp [fw,dep]⟩,rfl,_,rfl,by rw [eq_str];exact hr⟩
theorem cm {x y:Str} {i:Nat} {dv:PV} {τ:Sr} {J:Hq} {a u:fR} {D:En} (h:τ[i]?=some (some dv)) (h0:dT J dv (.int 0)=some (.str x)) (n:decide (x=y)=false) (hu:u D τ J):sx (tG (rB (tm (B6 id) (tm Dz (jG i) (rC (.int 0))) (rC (.str y)))) a l5) u D τ J:=D5 (fun R hr'=>vo h h0 R (by rw [n];exact hr')) hu
theorem pN {x:Str} {i:Nat} {dv:PV} {τ:Sr} {J:Hq} (h:τ[i]?=some (some dv)) (h0:dT J dv (.int 0)=some (.str x)) (R:Bool→Hq→Prop) (hr:R true J):rB (tm (B6 id) (tm Dz (jG i) (rC (.int 0))) (rC (.str x))) τ J R:=vo h h0 R (by rw [decide_eq_true rfl];exact hr)
def dA (t:Rat) (gs:List (Str × aQ)) (i:Nat):List (Str × aQ):=gm t (gs.take i) ++ gs.drop i
theorem nY (t:Rat) (gs:List (Str × aQ)) (i:Nat):(dA t gs i).map (·.1)=gs.map (·.1):=by
 unfold dA gm
 rw [List.map_append,List.map_map]
 have:((gs.take i).map ((fun x:Str × aQ=>x.1) ∘ fun x=>(x.1,(⟨t,x.2.at t,-x.2.v⟩:aQ))))=(gs.take i).map (·.1):=List.map_congr_left fun _ _=>rfl
 rw [this,← List.map_append,List.take_append_drop]
theorem pT (t:Rat) (gs:List (Str × aQ)) (hnd:(gs.map (·.1)).Nodup) (i:Nat) (h:i < gs.length):(dA t gs i).map (fun x=>if x.1=gs[i].1 then (x.1,(⟨t,gs[i].2.at t,-gs[i].2.v⟩:aQ)) else x)=dA t gs (i + 1):=by
 have hd:gs.drop i=gs[i] :: gs.drop (i + 1):=List.drop_eq_getElem_cons h
 have ht:gs.take (i + 1)=gs.take i ++ [gs[i]]:=by rw [List.take_add_one,List.getElem?_eq_getElem h];rfl
 have hn2:(gs.map (·.1))=(gs.take i).map (·.1) ++ (gs[i].1 :: (gs.drop (i + 1)).map (·.1)):=by
  rw [← List.map_cons (f:=fun x:Str × aQ=>x.1),← hd,← List.map_append,List.take_append_drop]
 rw [hn2,List.nodup_append] at hnd
 unfold dA gm
 rw [hd,ht,List.map_append,List.map_append,List.map_cons,if_pos rfl,List.append_assoc]
 congr 1
 ·rw [List.map_map]
  refine List.map_congr_left fun x hx=>?_
  show (if x.1=gs[i].1 then _ else _)=_
  rw [if_neg (hnd.2.2 x.1 (List.mem_map.mpr ⟨x,hx,rfl⟩) gs[i].1 (by simp))]
 ·show _ :: _=_ :: _
  congr 1
  have hno:=(List.nodup_cons.mp hnd.2.1).1
  have:∀ x∈gs.drop (i + 1),(if x.1=gs[i].1 then (x.1,(⟨t,gs[i].2.at t,-gs[i].2.v⟩:aQ)) else x)=x:=fun x hx=>if_neg fun z=>hno (by rw [← z];exact List.mem_map.mpr ⟨x,hx,rfl⟩)
  rw [List.map_congr_left this,List.map_id']
  rfl
theorem B7:(("leave":Str)="go")=False:=eq_false (by decide +kernel)
theorem xh {f:Addr} {fd:FuncData} (F:bP K "_law_acted" "_law_acted" kZ f fd) (Z:bD mg) (C_at:ba P w K mg base 2 "_law_at" ["_law_leg","_law_moment"] jq):aF P w K mg base (cx P w) 3 f fd ["_law_legs","_law_clock","_law_deed_here"] (c9 K oC):=by
 simp_arith [rS]
 ·obtain ⟨D,gs,ep,t,dv,rfl,_⟩:=h;rfl
 obtain ⟨D,gs,ep,t,dv,rfl,hD,hnd,hlen,st,sl,h⟩:=h
 refine ⟨_,(c_ (aU (aE (cj hr.aS) (ar aw (rv 2) ag (fun _ _=>rfl)) bz (L2.ax _)) (ak (og kW (rv 0) (ar aw (rv 2) ag (fun _ _=>rfl)) (cv (af (rv 1) (af (cv (af (ar aw (rv 2) ag (fun _ _=>rfl)) (af ag ah))) (af (ar aw (rv 2) ag (fun _ _=>rfl)) ah)))))) aI)
   (c_ (aU (aE (cj hr.aS) (ar aw (rv 2) ag (fun _ _=>rfl)) bz (L2.ax _)) (ak (aY (jc PySem.F.plainAttrs_dict PySem.F.slot_dict_pop PySem.F.type_dict_pop Bf (rv 0) (af (ar aw (rv 2) ag (fun _ _=>rfl)) ah)))) aI)
   (c_ (aU (aE (cj hr.aS) (ar aw (rv 2) ag (fun _ _=>rfl)) bz (L2.ax _)) (ak (og kW (rv 0) (ar aw (rv 2) ag (fun _ _=>rfl)) (cv (af (rv 1) (af (aR C_at B hr (by decide) rfl (af (ar dW (rv 0) (ar aw (rv 2) ag (fun _ _=>rfl)) (fun _ _=>rfl)) (af (rv 1) ah))) (af (ar aw (rv 2) ag (fun _ _=>rfl)) ah)))))) aI)
   (c_ (aU (aE (cj hr.aS) (ar aw (rv 2) ag (fun _ _=>rfl)) bz (L2.ax _)) (ak (fS cH rfl (fk (g6 (rM rfl) rfl Z.list boot_list (af (rv 0) ah))) (bT (i:=3) rS.nd rfl (Or.inl rfl)) (ak (og kW (rv 0) (rv 3) (cv (af (rv 1) (af (aR C_at B hr (by decide) rfl (af (ar dW (rv 0) (rv 3) (fun _ _=>rfl)) (af (rv 1) ah))) (af (p_ lN (ar aw (ar dW (rv 0) (rv 3) (fun _ _=>rfl)) ag (fun _ _=>rfl))) ah)))))))) aI)
   (aj (aU (aE (cj hr.aS) (ar aw (rv 2) ag (fun _ _=>rfl)) bz (L2.ax _)) (ak (az (ar aw (rv 2) ag (fun _ _=>rfl)))) aI)
   (ak (az (rv 1)))))))),?_⟩
 rcases h with ⟨n,x,v,rfl,hn,q⟩ | ⟨n,v,rfl,hn,q⟩ | ⟨rfl,q⟩ | ⟨n,rfl,hn,q⟩ | ⟨m,rfl,q⟩
 ·have i0:∀ J,dT J (eY n x v) (.int 0)=some (.str "join"):=fun J=>cJ _ _
  have i1:∀ J,dT J (eY n x v) (.int 1)=some (.str n):=fun J=>dX _ _ _
  have i2:∀ J,dT J (eY n x v) (.int 2)=some (.int x):=fun J=>hW _ _ _ _
  have i3:∀ J,dT J (eY n x v) (.int 3)=some (.int v):=fun J=>rfl
  refine d8 (fun τ' J'=>∃ ep',τ'=[some (.ref D),some (fr t),some (eY n x v),none]∧J'=put J D (.dct (bH (gs ++ [(n,⟨t,(x:Rat),v⟩)])) ep')) (pN rfl (i0 _)) ?_ ?_
  ·simp_all! only [i1,i2,i3,hD,DZ,rE]
   refine ⟨aW (by unfold bH;rw [List.length_map];omega),fun ep'=>⟨ep',?_⟩⟩
   have epu:oV (bH gs) n (aQ.mk t (x:Rat) v).V=bH (gs ++ [(n,⟨t,(x:Rat),v⟩)]):=sJ (f:=aQ.V) (l:=⟨t,(x:Rat),v⟩) hn
   rw [epu]
  rintro τ' J' ⟨ep',rfl,rfl⟩
  refine cm rfl (i0 _) (by decide +kernel) ?_
  refine cm rfl (i0 _) (by decide +kernel) ?_
  refine cm rfl (i0 _) (by decide +kernel) ?_
  simp_all! only [i0,CO,if_false]
  exact q ep'
 ·have i0:∀ J,dT J (f' n v) (.int 0)=some (.str "turn"):=fun J=>cJ _ _
  have i1:∀ J,dT J (f' n v) (.int 1)=some (.str n):=fun J=>dX _ _ _
  have i2:∀ J,dT J (f' n v) (.int 2)=some (.int v):=fun J=>hW _ _ _ _
  refine cm rfl (i0 _) (by decide +kernel) ?_
  refine cm rfl (i0 _) (by decide +kernel) ?_
  refine d8 (fun τ' J'=>∃ ep',τ'=[some (.ref D),some (fr t),some (f' n v),none]∧J'=put J D (.dct (bH (nv n t v gs)) ep')) (pN rfl (i0 _)) ?_ ?_
  ·obtain ⟨l,hl,hvl⟩:=k4 (f:=aQ.V) hnd hn
   have hvl:iG (bH gs) n=some l.V:=hvl
   have sll:=sl _ hl
   simp_all! only [i1,i2,hD,hvl]
   refine ⟨l,t,rfl,sll.m,sll.p,st,sll.v,?_⟩
   simp_all! only [i1,i2,hD,rE]
   refine ⟨aW (by unfold bH;rw [List.length_map];omega),fun ep'=>⟨ep',?_⟩⟩
   rw [zq hn]
   have:(gs.map fun x=>if x.1=n then (x.1,(⟨t,l.at t,v⟩:aQ)) else x)=nv n t v gs:=List.map_congr_left fun x hx=>by
    by_cases z:x.1=n
    ·have hx':iG (bH gs) n=some x.2.V:=ij (f:=aQ.V) hnd (by rw [← z];exact hx)
     rw [hvl] at hx'
     have ex:l=x.2:=by have:=Option.some.inj hx';rw [FT] at this;exact this
     rw [if_pos z,if_pos z,ex]
    ·rw [if_neg z,if_neg z]
   rw [this]
  rintro τ' J' ⟨ep',rfl,rfl⟩
  refine cm rfl (i0 _) (by decide +kernel) ?_
  simp_all! only [i0,CY,if_false]
  exact q ep'
 ·have i0:∀ J,dT J fL (.int 0)=some (.str "about"):=fun J=>cJ _ _
  refine cm rfl (i0 _) (by decide +kernel) ?_
  refine cm rfl (i0 _) (by decide +kernel) ?_
  refine cm rfl (i0 _) (by decide +kernel) ?_
  refine d8 (fun τ' J'=>∃ u ep',τ'=[some (.ref D),some (fr t),some fL,u]∧J'=put J D (.dct (bH (gm t gs)) ep')) (pN rfl (i0 _)) ?_ ?_
  ·simp_all! only [hD]
   have hkv:(bH gs).map (fun kv=>PV.str kv.1)=gs.map fun x=>PV.str x.1:=by unfold bH;rw [List.map_map];rfl
   rw [hkv]
   obtain ⟨Inv,hInv⟩:∃ Inv:Nat→Sr→Hq→Prop,∀ i τ J',Inv i τ J'↔∃ (u:Option PV) (ep':Nat),τ=[some (.ref D),some (fr t),some fL,u]∧J'=put J D (.dct (bH (dA t gs i)) ep'):=⟨_,fun _ _ _=>Iff.rfl⟩
   refine iw Inv ((hInv _ _ _).mpr ⟨_,ep,rfl,by show J=put J D (.dct (bH gs) ep);rw [sy hD]⟩) (fun _ _ _ _=>trivial) ?_ ?_
   ·intro i x τ J' hx hv
    obtain ⟨u,ep',rfl,rfl⟩:=(hInv _ _ _).mp hv
    clear hv
    have hi:i < gs.length:=by have:=(List.getElem?_eq_some_iff.mp hx).1;simpa using this
    rw [List.getElem?_map,List.getElem?_eq_getElem hi] at hx
    cases hx
    have hnd':((dA t gs i).map (·.1)).Nodup:=by rw [nY];exact hnd
    have hmem:gs[i]∈dA t gs i:=by unfold dA;rw [List.drop_eq_getElem_cons hi];exact List.mem_append.mpr (.inr List.mem_cons_self)
    have hva:iG (bH (dA t gs i)) gs[i].1=some gs[i].2.V:=ij (f:=aQ.V) hnd' hmem
    have hstep:=pT t gs hnd i hi
    have hin:gs[i].1∈(dA t gs i).map (·.1):=List.mem_map.mpr ⟨_,hmem,rfl⟩
    have hlen':(dA t gs i).length=gs.length:=by have:=congrArg List.length (nY t gs i);rw [List.length_map,List.length_map] at this;exact this
    have sll:=sl _ (List.getElem_mem hi)
    generalize gs[i]=y at hva hstep hin sll ⊢
    simp_all! only [av,hva]
    refine ⟨y.2,t,rfl,sll.m,sll.p,st,sll.v,?_⟩
    simp_all! only [av,hva,j_,rE]
    refine ⟨aW (by unfold bH;rw [List.length_map];omega),fun ep2=>(hInv _ _ _).mpr ⟨_,ep2,rfl,?_⟩⟩
    rw [dI,zq hin,hstep]
   ·intro τ J' hv
    obtain ⟨u,ep',rfl,rfl⟩:=(hInv _ _ _).mp hv
    refine ⟨u,rfl,ep',?_⟩
    rw [List.length_map]
    unfold dA
    rw [List.take_length,List.drop_length,List.append_nil]
  rintro τ' J' ⟨u,ep',rfl,rfl⟩
  simp_all! only [i0,Co,if_false]
  exact q ep'
 ·have i0:∀ J,dT J (fA n) (.int 0)=some (.str "leave"):=fun J=>cJ _ _
  have i1:∀ J,dT J (fA n) (.int 1)=some (.str n):=fun J=>dX _ _ _
  refine cm rfl (i0 _) (by decide +kernel) ?_
  refine d8 (fun τ' J'=>∃ ep',τ'=[some (.ref D),some (fr t),some (fA n),none]∧J'=put J D (.dct (bH (jI n gs)) ep')) (pN rfl (i0 _)) ?_ ?_
  ·obtain ⟨l,hl,hvl⟩:=k4 (f:=aQ.V) hnd hn
   have hvl:iG (bH gs) n=some l.V:=hvl
   simp_all! only [i1,hD,hvl]
   have edr:y0 (bH gs) n=bH (jI n gs):=by unfold y0 bH jI;rw [List.filter_map];rfl
   intro ep'
   exact ⟨ep',by rw [edr]⟩
  rintro τ' J' ⟨ep',rfl,rfl⟩
  refine cm rfl (i0 _) (by decide +kernel) ?_
  refine cm rfl (i0 _) (by decide +kernel) ?_
  simp_all! only [i0,B7,if_false]
  exact q ep'
 ·have i0:∀ J,dT J (Cb m) (.int 0)=some (.str "go"):=fun J=>cJ _ _
  have i1:∀ J,dT J (Cb m) (.int 1)=some (fr m):=fun J=>dX _ _ _
  refine cm rfl (i0 _) (by decide +kernel) ?_
  refine cm rfl (i0 _) (by decide +kernel) ?_
  refine cm rfl (i0 _) (by decide +kernel) ?_
  refine cm rfl (i0 _) (by decide +kernel) ?_
  simp_all! only [i0,i1,if_true]
  exact q
abbrev oj:Stmt:=(top 58)
theorem A4:L2.au ["_law_lane","_law_deed_here"] ["_law_lane","_law_deed_here"] (L2.ai oj):=dt
def rY (cN cL T:Addr):bX:=fun xs J Q _=>∃ p L dv,xs=[.ref p,dv]∧aV cN cL J p L∧bQ L ∧
 ((∃ n x v,dv=eY n x v∧J T=some .tab∧good n=true∧EC x v∧n ∉ L.cs.map Cf.n∧L.row.length < 12∧L.cs.length < 100∧n.length≤sizeLine∧∀ J' L',aV cN cL J' p L'→bQ L'→L.joined n x v L'→Mv J J' (L.own p) (L'.own p)→Q (.fl []) J') ∨
  (∃ n v,dv=f' n v∧n∈L.row∧v.natAbs≤1000∧(∀ c∈L.cs,c.w.length < 200)∧∀ J' L',aV cN cL J' p L'→bQ L'→L'.cs=L.cs.map (b_ n L.t v)→L'.t=L.t→Mv J J' (L.own p) (L'.own p)→Q (.fl []) J') ∨
  (dv=fL∧(∀ c∈L.cs,c.w.length < 200)∧∀ J' L',aV cN cL J' p L'→bQ L'→L'.cs=L.cs.map (cY L.t)→L'.t=L.t→Mv J J' (L.own p) (L'.own p)→Q (.fl []) J') ∨
  (∃ n,dv=fA n∧n∈L.row∧∀ J' L',aV cN cL J' p L'→bQ L'→L'.cs=L.cs.map (bp n L.t)→L'.t=L.t→Mv J J' (L.own p) (L'.own p)→Q (.fl []) J') ∨
  (∃ m:Rat,dv=Cb m∧fI m.num m.den=true∧L.t≤m∧∀ J' o',aV cN cL J' p { L with t:=m,o:=o',row:=bZ m L.fs }→bQ { L with t:=m,o:=o',row:=bZ m L.fs }→Mv J J' (L.own p) (Ln.own { L with t:=m,o:=o',row:=bZ m L.fs } p)→Q (.fl ((l4 L.t (L.fs.map (key L.t)) m).map aG.v)) J'))
theorem zW {cN cL T eB eF eT eU eC eM eP f:Addr} {fd:FuncData} (F:bP K "_law_done" "_law_done" oj f fd) (Z:bD mg) (m_Lane_join:b9 P w K mg base cN 8 "join" ["self","name","place","pace"] (uR cN cL T eB eF eT eU)) (m_Lane_leave:b9 P w K mg base cN 2 "leave" ["self","name"] (qZ cN cL eC)) (m_Lane_turn:b9 P w K mg base cN 8 "turn" ["self","name","pace"] (ug cN cL eC eF)) (m_Lane_about:b9 P w K mg base cN 8 "about" ["self"] (rF cN cL)) (m_Lane_go_to:b9 P w K mg base cN 8 "go_to" ["self","moment"] (Cy cN cL eM eP)):aF P w K mg base (cx P w) 9 f fd ["_law_lane","_law_deed_here"] (c9 K (rY cN cL T)):=by
 simp_arith [A4]
 ·obtain ⟨p,L,dv,rfl,_⟩:=h;rfl
 obtain ⟨p,L,dv,rfl,b,ok,h⟩:=h
 have bo:=b.ob
 refine ⟨_,(c_ (aU (aE (cj hr.aS) (ar aw (rv 1) ag (fun _ _=>rfl)) bz (L2.ax _)) (ak (aY (a8 (pl:=_) m_Lane_join B hr (by decide) (rv 0) (af (ar aw (rv 1) ag (fun _ _=>rfl)) (af (ar aw (rv 1) ag (fun _ _=>rfl)) (af (ar aw (rv 1) ag (fun _ _=>rfl)) ah)))))) aI)
   (c_ (aU (aE (cj hr.aS) (ar aw (rv 1) ag (fun _ _=>rfl)) bz (L2.ax _)) (ak (aY (a8 (pl:=_) m_Lane_leave B hr (by decide) (rv 0) (af (ar aw (rv 1) ag (fun _ _=>rfl)) ah)))) aI)
   (c_ (aU (aE (cj hr.aS) (ar aw (rv 1) ag (fun _ _=>rfl)) bz (L2.ax _)) (ak (aY (a8 (pl:=_) m_Lane_turn B hr (by decide) (rv 0) (af (ar aw (rv 1) ag (fun _ _=>rfl)) (af (ar aw (rv 1) ag (fun _ _=>rfl)) ah))))) aI)
   (c_ (aU (aE (cj hr.aS) (ar aw (rv 1) ag (fun _ _=>rfl)) bz (L2.ax _)) (ak (aY (dQ (pl:=_) m_Lane_about B hr (by decide) (rv 0)))) aI)
   (aj (aU (aE (cj hr.aS) (ar aw (rv 1) ag (fun _ _=>rfl)) bz (L2.ax _)) (ak (az (a8 (pl:=_) m_Lane_go_to B hr (by decide) (rv 0) (af (ar aw (rv 1) ag (fun _ _=>rfl)) ah)))) aI)
   (ak (az (qT ah)))))))),?_⟩
 rcases h with ⟨n,x,v,rfl,hT,hg,hb,hn,hr12,hc,hl,q⟩ | ⟨n,v,rfl,hn,hv,hw,q⟩ | ⟨rfl,hw,q⟩ | ⟨n,rfl,hn,q⟩ | ⟨m,rfl,hg,hm,q⟩
 ·have i0:∀ J,dT J (eY n x v) (.int 0)=some (.str "join"):=fun J=>cJ _ _
  have i1:∀ J,dT J (eY n x v) (.int 1)=some (.str n):=fun J=>dX _ _ _
  have i2:∀ J,dT J (eY n x v) (.int 2)=some (.int x):=fun J=>hW _ _ _ _
  have i3:∀ J,dT J (eY n x v) (.int 3)=some (.int v):=fun J=>rfl
  refine d8 (fun τ' J'=>τ'=[some (.ref p),some (eY n x v)]∧Q (.fl []) J') (pN rfl (i0 _)) ?_ ?_
  ·simp_all! only [bo,i1,i2,i3]
   exact ⟨dS _ _ _ _,p,L,n,x,v,rfl,b,ok,hT,hl,hc,(fun z=>by rw [hg] at z;cases z),(fun _ z=>absurd hb z),(fun _ _ z=>absurd z hn),(fun _ _ _ z=>by omega),fun _ _ _ _ J1 L1 b1 ok1 jn mv=>q J1 L1 b1 ok1 jn mv⟩
  rintro τ' J' ⟨rfl,hq⟩
  refine cm rfl (i0 _) (by decide +kernel) ?_
  refine cm rfl (i0 _) (by decide +kernel) ?_
  refine cm rfl (i0 _) (by decide +kernel) ?_
  simp_all! only [i0,CO,if_false]
  exact hq
 ·have i0:∀ J,dT J (f' n v) (.int 0)=some (.str "turn"):=fun J=>cJ _ _
  have i1:∀ J,dT J (f' n v) (.int 1)=some (.str n):=fun J=>dX _ _ _
  have i2:∀ J,dT J (f' n v) (.int 2)=some (.int v):=fun J=>hW _ _ _ _
  refine cm rfl (i0 _) (by decide +kernel) ?_
  refine cm rfl (i0 _) (by decide +kernel) ?_
  refine d8 (fun τ' J'=>τ'=[some (.ref p),some (f' n v)]∧Q (.fl []) J') (pN rfl (i0 _)) ?_ ?_
  ·simp_all! only [bo,i1,i2]
   exact ⟨dS _ _ _ _,p,L,n,v,rfl,b,ok,hw,fun z=>absurd hn z,fun _ z=>absurd hv z,fun _ _ J1 L1 b1 ok1 e t1 mv=>q J1 L1 b1 ok1 e t1 mv⟩
  rintro τ' J' ⟨rfl,hq⟩
  refine cm rfl (i0 _) (by decide +kernel) ?_
  simp_all! only [i0,CY,if_false]
  exact hq
 ·have i0:∀ J,dT J fL (.int 0)=some (.str "about"):=fun J=>cJ _ _
  refine cm rfl (i0 _) (by decide +kernel) ?_
  refine cm rfl (i0 _) (by decide +kernel) ?_
  refine cm rfl (i0 _) (by decide +kernel) ?_
  refine d8 (fun τ' J'=>τ'=[some (.ref p),some (fL)]∧Q (.fl []) J') (pN rfl (i0 _)) ?_ ?_
  ·simp_all! only [bo]
   exact ⟨dS _ _ _ _,p,L,rfl,b,ok,hw,fun J1 L1 b1 ok1 e t1 mv=>q J1 L1 b1 ok1 e t1 mv⟩
  rintro τ' J' ⟨rfl,hq⟩
  simp_all! only [i0,Co,if_false]
  exact hq
 ·have i0:∀ J,dT J (fA n) (.int 0)=some (.str "leave"):=fun J=>cJ _ _
  have i1:∀ J,dT J (fA n) (.int 1)=some (.str n):=fun J=>dX _ _ _
  refine cm rfl (i0 _) (by decide +kernel) ?_
  refine d8 (fun τ' J'=>τ'=[some (.ref p),some (fA n)]∧Q (.fl []) J') (pN rfl (i0 _)) ?_ ?_
  ·simp_all! only [bo,i1]
   exact ⟨dS _ _ _ _,p,L,n,rfl,b,ok,fun z=>absurd hn z,fun _ J1 L1 b1 ok1 e t1 mv=>q J1 L1 b1 ok1 e t1 mv⟩
  rintro τ' J' ⟨rfl,hq⟩
  refine cm rfl (i0 _) (by decide +kernel) ?_
  refine cm rfl (i0 _) (by decide +kernel) ?_
  simp_all! only [i0,B7,if_false]
  exact hq
 ·have i0:∀ J,dT J (Cb m) (.int 0)=some (.str "go"):=fun J=>cJ _ _
  have i1:∀ J,dT J (Cb m) (.int 1)=some (fr m):=fun J=>dX _ _ _
  refine cm rfl (i0 _) (by decide +kernel) ?_
  refine cm rfl (i0 _) (by decide +kernel) ?_
  refine cm rfl (i0 _) (by decide +kernel) ?_
  refine cm rfl (i0 _) (by decide +kernel) ?_
  simp_all! only [i0,i1,if_true,bo]
  refine ⟨dS _ _ _ _,p,L,m.num,m.den,rfl,b,ok,(fun z=>by rw [hg] at z;cases z),fun m' e1 e2 _=>?_⟩
  obtain rfl:m'=m:=Rat.ext e1 (by omega)
  exact ⟨fun z=>absurd z (Rat.not_lt.mpr hm),fun _ J1 o1 b1 ok1 mv1=>q J1 o1 b1 ok1 mv1⟩
abbrev lK:Stmt:=(top 55)
theorem kT:L2.au ["_law_row","_law_mode","_law_names_here","_law_used","_law_legs","_law_clock","_law_there","_law_fresh","_law_name"] ["_law_row","_law_mode","_law_names_here","_law_used","_law_legs","_law_clock"] (L2.ai lK):=dt
def zA (names used:List Str) (gs:List (Str × aQ)) (t:Rat) (dv:PV):Prop :=
 (∃ n x v,dv=eY n x v∧n∈names∧n ∉ used∧gs.length < 12∧x.natAbs≤1000000∧v.natAbs≤1000) ∨
 (∃ n v,dv=f' n v∧n∈gs.map (·.1)∧v.natAbs≤1000)∨dv=fL∨(∃ n,dv=fA n∧n∈gs.map (·.1))∨∃ m,dv=Cb m∧Later t m
def ym:bX:=fun xs J Q _=>∃ (r0 r1 r2 r3 r4 r5 m:Int) (names used:List Str) (U D:Addr) (gs:List (Str × aQ)) (ep:Nat) (t:Rat),xs=[.fl [.int r0,.int r1,.int r2,.int r3,.int r4,.int r5],.int m,.fl (names.map .str),.ref U,.ref D,fr t]∧J U=some (.lst (used.map .str))∧J D=some (.dct (bH gs) ep)∧names.length≤40∧gs.length≤100 ∧
 0≤r1∧0≤r2∧0≤r3∧r3 < 2001∧0≤r4∧r4 < 2 ^ 60∧0≤r5∧0≤m∧m < 4∧Sz 900 t∧∀ dv,zA names used gs t dv→Q dv J
theorem o4 {c:ik} {a u:fR} {D:En} {τ:Sr} {J:Hq} (b:Prop) [Decidable b] (hc:∀ R:Bool→Hq→Prop,R (decide b) J→c τ J R) (h1:b→∀ N,a { D with nx:=N } τ J) (h2:¬ b→u D τ J):bR (tG c a l5) u D τ J:=by
 refine hc _ ?_
 by_cases h:b
 ·rw [decide_eq_true h,if_pos rfl];exact h1 h _
 ·rw [decide_eq_false h,if_neg (by decide)];exact h2 h
theorem Br {R:Bool→Hq→Prop} {b c:Bool} {J:Hq} (h:R b J) (e:b=true↔c=true):R c J:=by rw [← Bool.eq_iff_iff.mpr e];exact h
theorem oa {xs:List Str} {r:Int} (h0:0≤r) (hl:0 < xs.length):∃ n∈xs,cK (xs.map PV.str) (r % (xs.length:Int))=some (.str n):=by
 obtain ⟨j,hj⟩:∃ j:Nat,r % (xs.length:Int)=j:=⟨(r % (xs.length:Int)).toNat,by have:=Int.emod_nonneg r (b:=(xs.length:Int)) (by omega);omega⟩
 have hjl:j < xs.length:=by have:=Int.emod_lt_of_pos r (b:=(xs.length:Int)) (by omega);omega
 exact ⟨xs[j],List.getElem_mem hjl,by rw [hj];exact a9 (by rw [List.getElem?_map,List.getElem?_eq_getElem hjl];rfl)⟩
theorem zr {f:Addr} {fd:FuncData} (F:bP K "_law_deed" "_law_deed" lK f fd) (Z:bD mg) (C_placed:ba P w K mg base 1 "_law_placed" ["_law_number","_law_mode"] nM) (C_paced:ba P w K mg base 1 "_law_paced" ["_law_number","_law_mode"] qV) (C_later:ba P w K mg base 2 "_law_later" ["_law_clock","_law_number","_law_bottom","_law_mode"] uP):aF P w K mg base (cx P w) 3 f fd ["_law_row","_law_mode","_law_names_here","_law_used","_law_legs","_law_clock"] (c9 K ym):=by
 simp_arith [kT]
 ·obtain ⟨r0,r1,r2,r3,r4,r5,m,names,used,U,D,gs,ep,t,rfl,_⟩:=h;rfl
 obtain ⟨r0,r1,r2,r3,r4,r5,m,names,used,U,D,gs,ep,t,rfl,hU,hD,hnl,hgl,r10,r20,r30,r31,r40,r41,r50,m0,m1,st,q⟩:=h
 have hkv:(bH gs).map (fun kv=>PV.str kv.1)=(gs.map (·.1)).map PV.str:=by unfold bH;rw [List.map_map,List.map_map];rfl
 refine ⟨_,(aj (aL (i:=6) kT.nd rfl (Or.inl rfl) (g6 (rM rfl) rfl Z.list boot_list (af (rv 4) ah)))
   (aj (Dk (i:=7) (L2.ai lK) ["_law_row","_law_mode","_law_names_here","_law_used","_law_legs","_law_clock","_law_there","_law_fresh","_law_name"] [("_law_used",3)] rfl rfl rfl kT.nd rfl (Or.inl rfl) (fk (rv 2)) (fun _ _ _ _ _ _=>(rv 0)) (fun _ _ _ _ _ _=>(aE u_ (rv 0) (rv 1) (by with_unfolding_all rfl))))
   (aj (aU (du (eO (aE ka (aK bK rfl Z.len boot_len (af (rv 7) ah)) ag (L2.ax _)) (eO (aE fh (aK bK rfl Z.len boot_len (af (rv 6) ah)) ag (L2.ax _)) (dH (du (iH (aE fh (ar aw (rv 0) ag (fun _ _=>rfl)) ag (L2.ax _)) (gJ (du (eO (aE fh (aK bK rfl Z.len boot_len (af (rv 6) ah)) ag (L2.ax _)) (dH (aE fh (ar aw (rv 0) ag (fun _ _=>rfl)) ag (L2.ax _)))))))))))) (aj (aL (i:=8) kT.nd rfl (Or.inl rfl) (ar aw (rv 7) (aP dw (ar aw (rv 0) ag (fun _ _=>rfl)) (aK bK rfl Z.len boot_len (af (rv 7) ah))) (fun _ _=>rfl)))
   (ak (az (cv (af bz (af (rv 8) (af (aR C_placed B hr (by decide) rfl (af (ar aw (rv 0) ag (fun _ _=>rfl)) (af (rv 1) ah))) (af (aR C_paced B hr (by decide) rfl (af (ar aw (rv 0) ag (fun _ _=>rfl)) (af (rv 1) ah))) ah)))))))) aI)
   (aj (aU (du (eO (aE DW (ar aw (rv 0) ag (fun _ _=>rfl)) (cv (af ag (af ag ah))) (by with_unfolding_all rfl)) (dH (aE ka (aK bK rfl Z.len boot_len (af (rv 6) ah)) ag (L2.ax _))))) (ak (az (cv (af bz (af (ar aw (rv 6) (aP dw (ar aw (rv 0) ag (fun _ _=>rfl)) (aK bK rfl Z.len boot_len (af (rv 6) ah))) (fun _ _=>rfl)) (af (aR C_paced B hr (by decide) rfl (af (ar aw (rv 0) ag (fun _ _=>rfl)) (af (rv 1) ah))) ah)))))) aI)
   (aj (aU (du (eO (aE (cj hr.aS) (ar aw (rv 0) ag (fun _ _=>rfl)) ag (L2.ax _)) (dH (aE ka (aK bK rfl Z.len boot_len (af (rv 6) ah)) ag (L2.ax _))))) (ak (az (cv (af bz (af (ar aw (rv 6) (aP dw (ar aw (rv 0) ag (fun _ _=>rfl)) (aK bK rfl Z.len boot_len (af (rv 6) ah))) (fun _ _=>rfl)) ah))))) aI)
   (aj (aU (aE (cj hr.aS) (ar aw (rv 0) ag (fun _ _=>rfl)) ag (L2.ax _)) (ak (az (cv (af bz ah)))) aI)
   (ak (az (cv (af bz (af (aR C_later B hr (by decide) rfl (af (rv 5) (af (ar aw (rv 0) ag (fun _ _=>rfl)) (af (ar aw (rv 0) ag (fun _ _=>rfl)) (af (rv 1) ah))))) ah))))))))))),?_⟩
 simp_all! only [hD,hkv,wb]
 obtain ⟨pn,hpn⟩:∃ pn:Str→Bool,∀ x,pn x=!decide (x∈used):=⟨_,fun _=>rfl⟩
 refine ⟨fun x=>match x with | .str s=>pn s | _=>false,id,⟨by rw [List.length_map];exact Nat.lt_of_le_of_lt hnl (by decide),fun J' sub=>⟨trivial,fun x hx=>?_⟩⟩,?_⟩
 ·obtain ⟨s,hs,rfl⟩:=List.mem_map.mp hx
  have hU':=sub _ _ hU
  simp_all! only [kg]
  refine ⟨⟨s,used,rfl,by show (match J' U with | some (.lst xs)=>some xs | _=>none)=_;rw [hU'],⟨_,rfl,(hpn s).symm,rfl⟩⟩,fun _=>trivial⟩
 have ef:((names.map PV.str).filter fun x=>match x with | .str s=>pn s | _=>false).map id=(names.filter pn).map PV.str:=by rw [List.map_id,List.filter_map];rfl
 rw [ef]
 have hfr:∀ n∈names.filter pn,n∈names∧n ∉ used:=fun n hn=>by
  obtain ⟨h1,h2⟩:=List.mem_filter.mp hn
  rw [hpn] at h2
  exact ⟨h1,by simpa using h2⟩
 generalize names.filter pn=fresh at hfr ⊢
 have gl:(gs.map (·.1)).length=gs.length:=List.length_map _
 generalize hgn:gs.map (·.1)=gn at gl q ⊢
 refine o4 (0 < fresh.length∧gs.length < 12∧(r0 < 3∨gs.length < 2∧r0 < 8)) (fun R hR=>?_) (fun hb N=>?_) (fun hb=>?_)
 ·simp_all! only [List.length_map]
  (repeat' split) <;> exact Br hR (by simp only [decide_eq_true_eq,Bool.false_eq_true,eq_self,iff_true,iff_false];omega)
 ·obtain ⟨n,hn,ha⟩:=oa r10 hb.1
  simp_all! only [List.length_map,ha]
  refine ⟨by omega,r2,m,rfl,r20,fun x hx=>⟨r3,m,rfl,r30,r31,fun v hv=>?_⟩⟩
  exact q _ (.inl ⟨n,x,v,rfl,(hfr n hn).1,(hfr n hn).2,hb.2.1,hx,hv⟩)
 refine o4 ((r0=3∨r0=4)∧0 < gs.length) (fun R hR=>?_) (fun hb N=>?_) (fun hb=>?_)
 ·simp_all! only [List.length_map]
  refine ⟨r0,[3,4],rfl,rfl,_,rfl,?_⟩
  (repeat' split) <;> exact Br hR (by simp only [decide_eq_true_eq,Bool.false_eq_true,id_eq,List.mem_cons,List.not_mem_nil,or_false,eq_self,iff_true,iff_false] at *;omega)
 ·obtain ⟨n,hn,ha⟩:=oa (xs:=gn) r10 (by omega)
  simp_all! only [List.length_map,ha]
  refine ⟨by omega,r3,m,rfl,r30,r31,fun v hv=>?_⟩
  exact q _ (.inr (.inl ⟨n,v,rfl,by rw [hgn];exact hn,hv⟩))
 refine o4 (r0=5∧2 < gs.length) (fun R hR=>?_) (fun hb N=>?_) (fun hb=>?_)
 ·simp_all! only [List.length_map]
  (repeat' split) <;> exact Br hR (by simp only [decide_eq_true_eq,Bool.false_eq_true,eq_self,iff_true,iff_false];omega)
 ·obtain ⟨n,hn,ha⟩:=oa (xs:=gn) r10 (by omega)
  simp_all! only [List.length_map,ha]
  exact ⟨by omega,q _ (.inr (.inr (.inr (.inl ⟨n,rfl,by rw [hgn];exact hn⟩))))⟩
 refine o4 (r0=6) (fun R hR=>?_) (fun hb N=>?_) (fun hb=>?_)
 ·simp_all! only []
  exact Br hR (by simp only [decide_eq_true_eq,Bool.false_eq_true])
 ·simp_all! only []
  exact q _ (.inr (.inr (.inl rfl)))
 simp_all! only []
 exact ⟨t,r4,r5,m,rfl,r40,r50,m0,m1,r41,st,fun m' hm'=>q _ (.inr (.inr (.inr (.inr ⟨m',rfl,hm'⟩))))⟩
theorem yL {m:Rat} (h0:0≤m) (hd:m.den≤60) (h1:m.num≤1000000 * (m.den:Int)):fI m.num m.den=true:=by
 refine decide_eq_true ⟨by omega,by have:=m.den_pos;omega,?_,Rat.num_nonneg.mpr h0,h1⟩
 have:=m.reduced
 unfold Int.gcd
 exact this
theorem vR {c q:Rat} (h:Later c q) (hc:c.den≤60):q.den≤60:=by
 rcases h with rfl | ⟨u,s,u0,u1,s0,s1,rfl⟩
 ·exact hc
 ·have:=oY (t:=(c.num * (u:Int)).fdiv (c.den:Int) + (s:Int)) (b:=(u:Int)) (by omega)
  omega
theorem Ep {q:Rat}:q.num≤1000000 * (q.den:Int)↔q≤1000000:=by
 rw [Rat.le_iff]
 have h3:(1000000:Rat).num=1000000:=rfl
 have h4:((1000000:Rat).den:Int)=1:=rfl
 rw [h3,h4]
 omega
structure Wk (cN cL:Addr) (J0:Hq) (S0:Addr→Prop) (J:Hq) (p:Addr) (L:Ln) (D U:Addr) (gs:List (Str × aQ)) (ep:Nat) (used:List Str) (k:Nat):Prop where
 b:aV cN cL J p L
 ok:bQ L
 rl:Rl L gs
 hD:J D=some (.dct (bH gs) ep)
 hU:J U=some (.lst (used.map .str))
 nD:¬ L.own p D
 nU:¬ L.own p U
 mv:Mv J0 J S0 (fun a=>L.own p a∨a=D∨a=U)
 td:L.t.den≤60
 tl:L.t≤((500 * k:Nat):Rat)
 wl:∀ c∈L.cs,c.w.length≤1 + k
theorem Rl.go {L:Ln} {gs:List (Str × aQ)} (h:Rl L gs) {m:Rat} (hm:L.t≤m) {o:Addr} {row:List Str}:Rl { L with t:=m,o:=o,row:=row } gs:=⟨h.nm,h.ln,h.ck,fun x hx=>Rat.le_trans (h.le x hx) hm,h.ct⟩
theorem yy {c q:Rat} (h:Later c q) (c0:0≤c):q≤c + 500:=by
 rcases h with rfl | ⟨u,s,u0,u1,s0,s1,rfl⟩
 ·grind
 rw [Rat.divInt_eq_div]
 have hu:(0:Rat) < ((u:Int):Rat):=by exact_mod_cast (show (0:Int) < u by omega)
 have h1:((s:Int):Rat)≤500 * ((u:Int):Rat):=by exact_mod_cast (show (s:Int)≤500 * u by omega)
 have hd:(0:Rat) < ((c.den:Int):Rat):=by exact_mod_cast (show (0:Int) < c.den by have:=c.den_pos;omega)
 have h2:((((c.num * (u:Int)).fdiv (c.den:Int)):Int):Rat)≤c * ((u:Int):Rat):=by
  have e1:(c.num * (u:Int)).fdiv (c.den:Int) * (c.den:Int)≤c.num * u:=by
   rw [Int.fdiv_eq_ediv_of_nonneg _ (by omega)]
   exact Int.ediv_mul_le _ (by have:=c.den_pos;omega)
  have e2:((((c.num * (u:Int)).fdiv (c.den:Int)):Int):Rat) * ((c.den:Int):Rat)≤(c.num:Rat) * ((u:Int):Rat):=by
   rw [← Rat.intCast_mul,← Rat.intCast_mul];exact Rat.intCast_le_intCast.mpr e1
  have e3:(c.num:Rat)=c * ((c.den:Int):Rat):=cast_eq c
  rw [e3] at e2
  generalize ((((c.num * (u:Int)).fdiv (c.den:Int)):Int):Rat)=x at e2 ⊢
  generalize ((c.den:Int):Rat)=y at e2 hd
  generalize ((u:Int):Rat)=z at e2 ⊢
  by_cases k:c * z < x
  ·have:0 < (x - c * z) * y:=Rat.mul_pos (by grind) hd
   grind
  ·grind
 rw [Rat.intCast_add]
 generalize ((((c.num * (u:Int)).fdiv (c.den:Int)):Int):Rat)=a at h2 ⊢
 generalize ((s:Int):Rat)=x at h1 ⊢
 generalize ((u:Int):Rat)=y at h1 h2 hu ⊢
 have e:(a + x) / y * y=a + x:=by grind
 generalize (a + x) / y=z at e ⊢
 by_cases k:c + 500 < z
 ·have:0 < (z - (c + 500)) * y:=Rat.mul_pos (by grind) hu
  grind
 ·grind
section
variable {cN cL:Addr} {J0 J:Hq} {S0:Addr→Prop} {p:Addr} {L:Ln} {D U:Addr} {gs:List (Str × aQ)} {ep:Nat} {used:List Str} {k:Nat}
theorem Wk.ne (h:Wk cN cL J0 S0 J p L D U gs ep used k):U≠D:=fun e=>by have:=h.hU;rw [e,h.hD] at this;cases this
theorem Wk.kept (h:Wk cN cL J0 S0 J p L D U gs ep used k) {T:Addr} {o:HQ} (hT:J0 T=some o) (nT:¬ S0 T):J T=some o:=h.mv.keep _ _ hT nT
theorem Wk.next (h:Wk cN cL J0 S0 J p L D U gs ep used k) {J1:Hq} {L1:Ln} {gs1:List (Str × aQ)} {k1:Nat} (b1:aV cN cL J1 p L1) (ok1:bQ L1) (mv:Mv J J1 (L.own p) (L1.own p)) (rl1:Rl L1 gs1) (td:L1.t.den≤60) (tl:L1.t≤((500 * k1:Nat):Rat)) (wl:∀ c∈L1.cs,c.w.length≤1 + k1) (ep':Nat):Wk cN cL J0 S0 (put J1 D (.dct (bH gs1) ep')) p L1 D U gs1 ep' used k1:=by
 have new:∀ {x o},J x=some o→¬ L.own p x→¬ L1.own p x:=fun hx nx z=>by
  rcases mv.own _ z with q | q
  ·exact nx q
  ·rw [hx] at q;cases q
 have nD1:=new h.hD h.nD
 have hD1:=mv.keep _ _ h.hD h.nD
 have hU1:=mv.keep _ _ h.hU h.nU
 have mv1:Mv J J1 (fun a=>L.own p a∨a=D∨a=U) (fun a=>L1.own p a∨a=D∨a=U) :=
  ⟨fun a o e n=>mv.keep a o e fun z=>n (.inl z),fun a z=>z.elim (fun z=>(mv.own a z).imp .inl id) (fun z=>.inl (.inr z)),mv.mono⟩
 refine ⟨b1.keep fun a u ow e=>?_,ok1,rl1,av,?_,nD1,new h.hU h.nU,(h.mv.trans mv1).trans (eS (.inr (.inl rfl)) fun a z=>.inl z),td,tl,wl⟩
 ·rw [aq (fun z=>by subst z;exact nD1 ow)];exact e
 ·rw [aq h.ne];exact hU1
theorem Wk.push (h:Wk cN cL J0 S0 J p L D U gs ep used k) (n:Str):Wk cN cL J0 S0 (put J U (.lst ((used ++ [n]).map .str))) p L D U gs ep (used ++ [n]) k:=by
 refine ⟨h.b.keep fun a u ow e=>?_,h.ok,h.rl,?_,av,h.nD,h.nU,h.mv.trans (eS (.inr (.inr rfl)) fun a z=>.inl z),h.td,h.tl,h.wl⟩
 ·rw [aq (fun z=>by subst z;exact h.nU ow)];exact e
 ·rw [aq (fun e=>h.ne e.symm)];exact h.hD
theorem Wk.up (h:Wk cN cL J0 S0 J p L D U gs ep used k):Sz 900 L.t∧(gs.map (·.1)).Nodup∧gs.length≤12∧∀ x∈gs,mq 900 x.2 :=
 ⟨h.ok.Bc,h.rl.nd h.ok.toaT,by rw [h.rl.len];exact h.ok.Dm,fun x hx=>(h.rl.sz x hx).mono (by decide)⟩
end
theorem tw {q:Rat} {k:Nat} (hk:k≤2000) (h:q≤((500 * k:Nat):Rat)):q≤1000000:=by
 refine Rat.le_trans h ?_
 have:((500 * k:Nat):Rat)≤((1000000:Nat):Rat):=by exact_mod_cast (show 500 * k≤1000000 by omega)
 exact this
theorem vH {a b:Rat} {k:Nat} (h:b≤a + 500) (ha:a≤((500 * k:Nat):Rat)):b≤((500 * (k + 1):Nat):Rat):=by
 have e:((500 * (k + 1):Nat):Rat)=((500 * k:Nat):Rat) + 500:=by
  rw [show 500 * (k + 1)=500 * k + 500 by omega];exact Rat.natCast_add _ _
 rw [e];grind
theorem BY {a:Rat} {k:Nat} (ha:a≤((500 * k:Nat):Rat)):a≤((500 * (k + 1):Nat):Rat):=vH (a:=a) (by grind) ha
theorem Ao {n:Str} (hg:good n=true):n.length≤sizeLine:=by
 have h8:n.cps.size≤8:=by
  unfold good at hg
  rw [Bool.and_eq_true,Bool.and_eq_true] at hg
  exact of_decide_eq_true hg.1.2
 exact Nat.le_trans h8 (by decide)
theorem wF {cN cL T p D U:Addr} {J0 J:Hq} {S0:Addr→Prop} {L:Ln} {gs:List (Str × aQ)} {ep:Nat} {used names:List Str} {i:Nat} {dv:PV} {E2:Addr→Hq→Prop} {Dn:En} {τ:Sr} {iL iU iD iC iV:Nat}
  (hL:τ[iL]?=some (some (.ref p))) (hU:τ[iU]?=some (some (.ref U))) (hDt:τ[iD]?=some (some (.ref D))) (hC:τ[iC]?=some (some (fr L.t))) (hV:τ[iV]?=some (some dv))
  (wk:Wk cN cL J0 S0 J p L D U gs ep used i) (hun:L.cs.map Cf.n=used) (hus:∀ n∈used,n∈names) (hul:used.length≤i) (hi:i < 90) (hng:∀ n∈names,good n=true) (hT:J0 T=some .tab) (nT:¬ S0 T) (hdv:zA names used gs L.t dv)
  (fin:∀ J1 L1 gs1 ep1 used1 t1,L1.t=t1→Wk cN cL J0 S0 J1 p L1 D U gs1 ep1 used1 (i + 1)→L1.cs.map Cf.n=used1→(∀ n∈used1,n∈names)→used1.length≤i + 1→Dn.nx (τ.set iC (some (fr t1))) J1) :
  sx (tG (rB (tm (B6 id) (tm Dz (jG iV) (rC (.int 0))) (rC (.str "join")))) (uU (HK "list" n_ (jG iU) (j9 (tm Dz (jG iV) (rC (.int 1))) qN))) l5)
   (bR (uU (uY (rY cN cL T) E2 (j9 (jG iL) (j9 (jG iV) qN)))) (rK (uY oC E2 (j9 (jG iD) (j9 (jG iC) (j9 (jG iV) qN)))) (Dd iC))) Dn τ J:=by
 obtain ⟨st,gnd,gl,gsz⟩:=wk.up
 have hT':∀ {J1:Hq} {L1 gs1 ep1 us k1},Wk cN cL J0 S0 J1 p L1 D U gs1 ep1 us k1→J1 T=some .tab:=fun wk'=>wk'.kept hT nT
 have hw200:∀ c∈L.cs,c.w.length < 200:=fun c hc=>by have:=wk.wl c hc;omega
 have tl1:L.t≤((500 * (i + 1):Nat):Rat):=BY wk.tl
 have hfl:L.fs.length=gs.length:=wk.rl.len.symm
 have hrow:∀ n,n∈gs.map (·.1)→n∈L.row:=fun n hn=>(wk.ok.rm n).mpr (by rw [← wk.rl.nm];exact hn)
 rcases hdv with ⟨n,x,v,rfl,hn,hnu,hgl,hx,hv⟩ | ⟨n,v,rfl,hn,hv⟩ | rfl | ⟨n,rfl,hn⟩ | ⟨m',rfl,hm'⟩
 ·have i0:∀ J,dT J (eY n x v) (.int 0)=some (.str "join"):=fun J=>cJ _ _
  have i1:∀ J,dT J (eY n x v) (.int 1)=some (.str n):=fun J=>dX _ _ _
  refine d8 (fun τ' J2=>τ'=τ∧J2=put J U (.lst ((used ++ [n]).map .str))) (pN hV (i0 _)) ?_ ?_
  ·simp_all! only [hU,hV,i1,wk.hU,List.length_map]
   exact ⟨Nat.lt_of_lt_of_le (show used.length < 100 by omega) (by decide),by rw [List.map_append];rfl⟩
  rintro τ' J2 ⟨rfl,rfl⟩
  have wk2:=wk.push n
  generalize put J U (.lst ((used ++ [n]).map .str))=J2 at wk2 ⊢
  have hnc:n ∉ L.cs.map Cf.n:=by rw [hun];exact hnu
  have hcl':L.cs.length < 100:=by have:=congrArg List.length hun;rw [List.length_map] at this;omega
  have hnf:n ∉ L.fs.map (·.1):=fun z=>hnc (by
   rw [dO,List.mem_map] at z
   obtain ⟨c',hc',e'⟩:=z
   exact List.mem_map.mpr ⟨c',(Ln.cI.mp hc').1,e'⟩)
  simp_all! only [hL,hDt,hC,hV]
  refine ⟨p,L,_,rfl,wk2.b,wk2.ok,.inl ⟨n,x,v,rfl,hT' wk2,hng n hn,⟨hx,hv⟩,hnc,by rw [wk.ok.row,qz];omega,hcl',Ao (hng n hn),fun J3 L3 b3 ok3 jn mv3=>?_⟩⟩
  have rl3:=wk2.rl.join ok3.toaT hv hx jn wk.ok.t0 wk.ok.ts hnf
  obtain ⟨a,r,ecs,et⟩:=jn
  simp_all! only [hL,hDt,hC,hV]
  refine ⟨D,gs,ep,L.t,_,rfl,mv3.keep _ _ wk2.hD wk2.nD,gnd,by omega,st,gsz,.inl ⟨n,x,v,rfl,by rw [wk.rl.nm];exact hnf,fun ep'=>?_⟩⟩
  refine fin _ L3 _ ep' (used ++ [n]) _ et (wk2.next b3 ok3 mv3 rl3 (by rw [et];exact wk.td) (by rw [et];exact tl1) (fun c hc=>?_) ep') ?_ (fun y hy=>?_) (by rw [List.length_append];show used.length + 1≤_;omega)
  ·rw [ecs] at hc
   rcases List.mem_append.mp hc with hc | hc
   ·have:=wk.wl c hc;omega
   ·rw [List.mem_singleton] at hc;subst hc;show 1≤_;omega
  ·rw [ecs,List.map_append,hun];rfl
  ·rcases List.mem_append.mp hy with hy | hy
   ·exact hus y hy
   ·rw [List.mem_singleton] at hy;subst hy;exact hn
 ·have i0:∀ J,dT J (f' n v) (.int 0)=some (.str "turn"):=fun J=>cJ _ _
  refine cm hV (i0 _) (by decide +kernel) ?_
  simp_all! only [hL,hDt,hC,hV]
  refine ⟨p,L,_,rfl,wk.b,wk.ok,.inr (.inl ⟨n,v,rfl,hrow n hn,hv,hw200,fun J3 L3 b3 ok3 e t1 mv3=>?_⟩)⟩
  simp_all! only [hL,hDt,hC,hV]
  refine ⟨D,gs,ep,L.t,_,rfl,mv3.keep _ _ wk.hD wk.nD,gnd,by omega,st,gsz,.inr (.inl ⟨n,v,rfl,hn,fun ep'=>?_⟩)⟩
  refine fin _ L3 _ ep' used _ t1 (wk.next b3 ok3 mv3 (wk.rl.turn wk.ok.toaT hv e t1) (by rw [t1];exact wk.td) (by rw [t1];exact tl1) (fun c hc=>?_) ep') (by rw [e,dj (fun c=>(i_ n L.t v c).1)];exact hun) hus (by omega)
  rw [e] at hc
  obtain ⟨c0,h0,rfl⟩:=List.mem_map.mp hc
  have h1:=wk.wl c0 h0
  unfold b_
  split
  ·have:=f6 c0.w L.t v
   show (turned c0.w L.t v).length≤_
   omega
  ·omega
 ·have i0:∀ J,dT J fL (.int 0)=some (.str "about"):=fun J=>cJ _ _
  refine cm hV (i0 _) (by decide +kernel) ?_
  simp_all! only [hL,hDt,hC,hV]
  refine ⟨p,L,_,rfl,wk.b,wk.ok,.inr (.inr (.inl ⟨rfl,hw200,fun J3 L3 b3 ok3 e t1 mv3=>?_⟩))⟩
  simp_all! only [hL,hDt,hC,hV]
  refine ⟨D,gs,ep,L.t,_,rfl,mv3.keep _ _ wk.hD wk.nD,gnd,by omega,st,gsz,.inr (.inr (.inl ⟨rfl,fun ep'=>?_⟩))⟩
  refine fin _ L3 _ ep' used _ t1 (wk.next b3 ok3 mv3 (wk.rl.about wk.ok.toaT e t1) (by rw [t1];exact wk.td) (by rw [t1];exact tl1) (fun c hc=>?_) ep') (by rw [e,dj (fun c=>(qr L.t c).1)];exact hun) hus (by omega)
  rw [e] at hc
  obtain ⟨c0,h0,rfl⟩:=List.mem_map.mp hc
  have h1:=wk.wl c0 h0
  unfold cY
  split
  ·have:=f6 c0.w L.t (-c0.cur.v)
   show (turned c0.w L.t (-c0.cur.v)).length≤_
   omega
  ·omega
 ·have i0:∀ J,dT J (fA n) (.int 0)=some (.str "leave"):=fun J=>cJ _ _
  refine cm hV (i0 _) (by decide +kernel) ?_
  simp_all! only [hL,hDt,hC,hV]
  refine ⟨p,L,_,rfl,wk.b,wk.ok,.inr (.inr (.inr (.inl ⟨n,rfl,hrow n hn,fun J3 L3 b3 ok3 e t1 mv3=>?_⟩)))⟩
  simp_all! only [hL,hDt,hC,hV]
  refine ⟨D,gs,ep,L.t,_,rfl,mv3.keep _ _ wk.hD wk.nD,gnd,by omega,st,gsz,.inr (.inr (.inr (.inl ⟨n,rfl,hn,fun ep'=>?_⟩)))⟩
  refine fin _ L3 _ ep' used _ t1 (wk.next b3 ok3 mv3 (wk.rl.leave e t1) (by rw [t1];exact wk.td) (by rw [t1];exact tl1) (fun c hc=>?_) ep') (by rw [e,dj (fun c=>(dR n L.t c).1)];exact hun) hus (by omega)
  rw [e] at hc
  obtain ⟨c0,h0,rfl⟩:=List.mem_map.mp hc
  have h1:=wk.wl c0 h0
  rw [(dR n L.t c0).2.2.2];omega
 ·have i0:∀ J,dT J (Cb m') (.int 0)=some (.str "go"):=fun J=>cJ _ _
  refine cm hV (i0 _) (by decide +kernel) ?_
  have tl3:=vH (yy hm' wk.ok.t0) wk.tl
  have td3:=vR hm' wk.td
  have hg:fI m'.num m'.den=true:=yL (Rat.le_trans wk.ok.t0 (hm'.le)) td3 (Ep.mpr (tw (by omega) tl3))
  simp_all! only [hL,hDt,hC,hV]
  refine ⟨p,L,_,rfl,wk.b,wk.ok,.inr (.inr (.inr (.inr ⟨m',rfl,hg,hm'.le,fun J3 o3 b3 ok3 mv3=>?_⟩)))⟩
  simp_all! only [hL,hDt,hC,hV]
  have hD3:=mv3.keep _ _ wk.hD wk.nD
  refine ⟨D,gs,ep,L.t,_,rfl,hD3,gnd,by omega,st,gsz,.inr (.inr (.inr (.inr ⟨m',rfl,?_⟩)))⟩
  have w3:=wk.next b3 ok3 mv3 (wk.rl.go hm'.le) td3 tl3 (fun c hc=>by have:=wk.wl c hc;omega) ep
  rw [sy hD3] at w3
  exact fin _ _ _ ep used _ rfl w3 hun hus (by omega)
def CI (ns:List Int) (k:Int):Int:=if k < (ns.length:Int) then ns.getD k.toNat 0 else 5 + 17 * k
def t6:bX:=fun xs J Q _=>∃ (ns:List Int) (k:Int),xs=[.fl (ns.map .int),.int k]∧0≤k∧k < 1000∧Q (.int (CI ns k)) J
theorem zt {f:Addr} {fd:FuncData} (F:bP K "_law_cell" "_law_cell" oh f fd) (Z:bD mg):aF P w K mg base (cx P w) 1 f fd ["_law_script","_law_k"] (c9 K t6):=by
 simp_arith [Bo]
 ·obtain ⟨ns,k,rfl,_⟩:=h;rfl
 obtain ⟨ns,k,rfl,h0,h1,q⟩:=h
 unfold CI at q
 refine ⟨_,(aj (aU (aE fh (rv 1) (aK bK rfl Z.len boot_len (af (rv 0) ah)) (L2.ax _)) (ak (az (ar aw (rv 0) (rv 1) (fun _ _=>rfl)))) aI)
   (ak (az (aP dz ag (aP cP ag (rv 1)))))),?_⟩
 simp_arith! only [bR,List.length_map]
 split
 ·rename_i c
  rw [if_pos c] at q
  obtain ⟨j,rfl⟩:=Int.eq_ofNat_of_zero_le h0
  have hj:j < ns.length:=by omega
  refine ⟨.int ns[j],a9 (by rw [List.getElem?_map,List.getElem?_eq_getElem hj];rfl),?_⟩
  simpa [List.getD,hj] using q
 ·rename_i c
  rw [if_neg c] at q
  exact ⟨.of (.small (x:=17) (by decide) (by decide)) (.small (x:=k) (by omega) (by omega)),q⟩
theorem E5 {j:Int} (h0:0≤j) (h1:j < 8):∃ x:Int,cK [PV.int 2,PV.int 3,PV.int 4,PV.int 5,PV.int 6,PV.int 7,PV.int 9,PV.int 20] j=some (.int x)∧2≤x∧x≤20:=by
 rcases (by omega:j=0∨j=1∨j=2∨j=3∨j=4∨j=5∨j=6∨j=7) with e | e | e | e | e | e | e | e <;> subst e <;> exact ⟨_,rfl,by decide,by decide⟩
theorem Wk.start {cN cL p D U:Addr} {J:Hq} {L0:Ln} {ep:Nat} (b:aV cN cL J p L0) (ok:bQ L0) (cs0:L0.cs=[]) (t0:L0.t=0) (hD:J D=none) (hU:(put J D (.dct [] ep)) U=none):Wk cN cL J (L0.own p) (put (put J D (.dct [] ep)) U (.lst [])) p L0 D U [] ep [] 0:=by
 have nDU:D≠U:=fun e=>by subst e;rw [av] at hU;cases hU
 have hU0:J U=none:=by rw [aq (fun e=>nDU e.symm)] at hU;exact hU
 refine ⟨(b.fresh hD).fresh hU,ok,⟨by unfold Ln.fs Ln.wA;rw [cs0];rfl,(by simp),(by simp),(by simp),(by rw [cs0];simp)⟩,by rw [aq nDU];exact av,av,fun z=>b.some z hD,fun z=>b.some z hU0,?_,by rw [t0];decide,by rw [t0];decide,by rw [cs0];simp⟩
 have hh:=(Mv.wz (S:=L0.own p) (o:=.dct [] ep) hD).trans (Mv.wz (o:=.lst []) hU)
 exact ⟨hh.keep,fun a z=>hh.own a (z.elim (fun z=>.inl (.inl z)) fun z=>z.elim (fun z=>.inl (.inr z)) .inr),hh.mono⟩
theorem zj {c a b u:fR} {D:En} {τ:Sr} {J:Hq} (h:sx c (bR a b) { D with nx:=fun τ' J'=>u D τ' J' } τ J):sx c (bR a (bR b u)) D τ J:=h
abbrev oI:Stmt:=(top 49)
theorem B2:L2.au ["_law_found","_law_due"] ["_law_found","_law_due"] (L2.ai oI):=dt
def vp:bX:=fun xs J Q _=>∃ x:Str,xs=[.str x,.str x]∧Q (.bl true) J
theorem xw {f:Addr} {fd:FuncData} (F:bP K "_law_word" "_law_word" oI f fd) (Z:bD mg):aF P w K mg base (cx P w) 1 f fd ["_law_found","_law_due"] (c9 K vp):=by
 simp_arith [B2]
 ·obtain ⟨x,rfl,_⟩:=h;rfl
 obtain ⟨x,rfl,q⟩:=h
 refine ⟨_,(aj (aU (aE uG (rv 1) fu (L2.ax _)) (ak (az (cZ uG (rv 0) fu (L2.ax _)))) aI)
   (ak (az (tu (aK jQ rfl Z.isinstance boot_isinstance (af (rv 0) (af (nX rfl Z.str boot_str) ah))) (pq (cZ (cj hr.aS) (rv 0) (rv 1) (L2.ax _))))))),?_⟩
 simp_arith! only [bR]
 exact q
abbrev o7:Stmt:=(top 61)
theorem kR:L2.au ["_law_lane","_law_legs","_law_clock","_law_due","_law_k","_law_found"] ["_law_lane","_law_legs","_law_clock"] (L2.ai o7):=dt
def zy (cN cL:Addr):bX:=fun xs J Q _=>∃ p L D ep gs,xs=[.ref p,.ref D,fr L.t]∧aV cN cL J p L∧bQ L∧J D=some (.dct (bH gs) ep)∧Rl L gs∧Q (.bl true) J
theorem zm {cN cL eC f:Addr} {fd:FuncData} (F:bP K "_law_told" "_law_told" o7 f fd) (Z:bD mg) (C_order:ba P w K mg base 3 "_law_order" ["_law_legs","_law_moment"] rD) (C_words:ba P w K mg base 1 "_law_words" ["_law_found","_law_due"] uN) (C_part:ba P w K mg base 2 "_law_part" ["_law_found","_law_due"] tV) (C_whole:ba P w K mg base 1 "_law_whole" ["_law_found"] jz) (C_word:ba P w K mg base 1 "_law_word" ["_law_found","_law_due"] vp) (C_at:ba P w K mg base 2 "_law_at" ["_law_leg","_law_moment"] jq)
  (m_Lane_order:b9 P w K mg base cN 1 "order" ["self"] (qP cN cL)) (m_Lane_clock:b9 P w K mg base cN 1 "clock" ["self"] (qO cN cL)) (m_Lane_rank:b9 P w K mg base cN 2 "rank" ["self","name"] (vc cN cL eC)) (m_Lane_name_at:b9 P w K mg base cN 1 "name_at" ["self","rank"] (nu cN cL)) (m_Lane_place:b9 P w K mg base cN 5 "place" ["self","name"] (pW cN cL eC)) :
  aF P w K mg base (cx P w) 6 f fd ["_law_lane","_law_legs","_law_clock"] (c9 K (zy cN cL)):=by
 simp_arith [kR]
 ·obtain ⟨p,L,D,ep,gs,rfl,_⟩:=h;rfl
 obtain ⟨p,L,D,ep,gs,rfl,b,ok,hD,rl,q⟩:=h
 have bo:=b.ob
 have st:=ok.Bc
 have gnd:=rl.nd ok.toaT
 have gsz:∀ x∈gs,mq 900 x.2:=fun x hx=>(rl.sz x hx).mono (by decide)
 have hfl:=ok.Dm
 have hgl:=rl.len
 have hrow:L.row=bZ L.t gs:=by rw [ok.row];exact ra ok.C8 gnd (rl.same L.t)
 have hrl:=ok.rl
 refine ⟨_,(aj (aL (i:=3) kR.nd rfl (Or.inl rfl) (aR C_order B hr (by decide) rfl (af (rv 1) (af (rv 2) ah))))
   (aj (aU (du (iH (cO (bG (aR C_part B hr (by decide) rfl (af (dQ (pl:=_) m_Lane_clock B hr (by decide) (rv 0)) (af (rv 2) ah))))) (gJ (cO (bG (aR C_words B hr (by decide) rfl (af (dQ (pl:=_) m_Lane_order B hr (by decide) (rv 0)) (af (rv 3) ah)))))))) (ak (az gC)) aI)
   (aj (fS cH rfl (nA rfl Z.range (af (aK bK rfl Z.len boot_len (af (rv 3) ah)) ah)) (bT (i:=4) kR.nd rfl (Or.inl rfl)) (aj (aL (i:=5) kR.nd rfl (Or.inl rfl) (a8 (pl:=_) m_Lane_rank B hr (by decide) (rv 0) (af (ar aw (rv 3) (rv 4) (fun _ _=>rfl)) ah)))
   (aj (aU (du (iH (cO (bG (aR C_whole B hr (by decide) rfl (af (rv 5) ah)))) (iH (aE (iX hr.aS) (rv 5) (rv 4) (L2.ax _)) (gJ (cO (bG (aR C_word B hr (by decide) rfl (af (a8 (pl:=_) m_Lane_name_at B hr (by decide) (rv 0) (af (rv 4) ah)) (af (ar aw (rv 3) (rv 4) (fun _ _=>rfl)) ah))))))))) (ak (az gC)) aI)
   (ak (aU (cO (bG (aR C_part B hr (by decide) rfl (af (a8 (pl:=_) m_Lane_place B hr (by decide) (rv 0) (af (ar aw (rv 3) (rv 4) (fun _ _=>rfl)) ah)) (af (aR C_at B hr (by decide) rfl (af (ar dW (rv 1) (ar aw (rv 3) (rv 4) (fun _ _=>rfl)) (fun _ _=>rfl)) (af (rv 2) ah))) ah))))) (ak (az gC)) aI)))))
   (ak (az (cZ uG (a8 (pl:=_) m_Lane_name_at B hr (by decide) (rv 0) (af (aK bK rfl Z.len boot_len (af (rv 3) ah)) ah)) fu (L2.ax _))))))),?_⟩
 simp_all! only []
 refine ⟨D,gs,ep,L.t,rfl,hD,gnd,by omega,st,gsz,?_⟩
 rw [← hrow]
 simp_all! only [bo]
 refine ⟨dS _ _ _ _,p,L,rfl,b,?_⟩
 refine ⟨L.t,rfl,?_⟩
 simp_all! only [bo]
 refine ⟨dS _ _ _ _,p,L,rfl,b,.inl ?_⟩
 refine ⟨L.row,rfl,by omega,?_⟩
 simp_all! only [List.length_map]
 refine ⟨by omega,by omega,?_⟩
 obtain ⟨Inv,hInv⟩:∃ Inv:Nat→Sr→Hq→Prop,∀ i τ J',Inv i τ J'↔∃ u v:Option PV,τ=[some (.ref p),some (.ref D),some (fr L.t),some (.fl (L.row.map .str)),u,v]∧J'=J:=⟨_,fun _ _ _=>Iff.rfl⟩
 refine vE Inv ((hInv _ _ _).mpr ⟨_,_,rfl,rfl⟩) ?_ ?_
 ·intro i τ J' hi hv
  obtain ⟨u,v,rfl,rfl⟩:=(hInv _ _ _).mp hv
  clear hv
  have hi':i < L.row.length:=by omega
  obtain ⟨n,hn⟩:∃ n,L.row[i]?=some n:=⟨_,List.getElem?_eq_getElem hi'⟩
  have ha:cK (L.row.map PV.str) (0 + (i:Int))=some (.str n):=by rw [Int.zero_add];exact a9 (by rw [List.getElem?_map,hn];rfl)
  have hm:n∈gs.map (·.1):=by rw [rl.nm];exact (ok.rm n).mp (List.mem_of_getElem? hn)
  obtain ⟨l,hl,hvl⟩:=k4 (f:=aQ.V) gnd hm
  have hvl:iG (bH gs) n=some l.V:=hvl
  have sl:=gsz _ hl
  simp_all! only [bo,ha]
  refine ⟨dS _ _ _ _,p,L,n,rfl,b,fun j h1 h2=>?_,fun z=>absurd (List.mem_of_getElem? hn) z⟩
  have hji:j=i:=by
   obtain ⟨a1,a2⟩:=List.getElem?_eq_some_iff.mp h1
   obtain ⟨b1,b2⟩:=List.getElem?_eq_some_iff.mp hn
   exact (List.getElem_inj ok.rn).mp (a2.trans b2.symm)
  subst hji
  simp_all! only [bo,ha]
  refine ⟨(j:Int),rfl,?_⟩
  simp_all! only [bo,ha,Int.zero_add]
  refine ⟨dS _ _ _ _,p,L,(j:Int),rfl,b,by omega,?_⟩
  rw [if_pos (by omega),Int.toNat_natCast,hn]
  refine ⟨n,rfl,true,rfl,?_⟩
  rw [if_neg (by decide)]
  refine ⟨_,bo,dS _ _ _ _,p,L,n,rfl,b,ok.toaT,fun c' hc' e' hg'=>?_,fun z=>absurd (List.mem_of_getElem? hn) z⟩
  have es:l.at L.t=c'.cur.at L.t:=(rl.ln n l c'.cur hl (by rw [← e'];exact List.mem_map.mpr ⟨c',Ln.cI.mpr ⟨hc',hg'⟩,rfl⟩)).2 _
  rw [← es]
  refine ⟨_,_,hD,_,hvl,l,L.t,rfl,sl.m,sl.p,st,sl.v,_,rfl,true,rfl,?_⟩
  rw [if_neg (by decide)]
  exact (hInv _ _ _).mpr ⟨_,_,rfl,rfl⟩
 ·intro τ J' hv
  obtain ⟨u,v,rfl,rfl⟩:=(hInv _ _ _).mp hv
  simp_all! only [bo,List.length_map]
  refine ⟨dS _ _ _ _,p,L,(L.row.length:Int),rfl,b,by omega,?_⟩
  rw [if_pos (by omega),Int.toNat_natCast,List.getElem?_eq_none (Nat.le_refl _)]
  exact q
abbrev vt:Stmt:=(top 62)
theorem dU:L2.au ["_law_script","_law_head","_law_names_here","_law_many","_law_lane","_law_legs","_law_used","_law_clock","_law_k","_law_row","_law_deed_here"] ["_law_script"] (L2.ai vt):=dt
theorem Bx {cN cL T f:Addr} {fd:FuncData} (F:bP K "law" "law" vt f fd) (Z:bD mg) (C_cell:ba P w K mg base 1 "_law_cell" ["_law_script","_law_k"] t6) (C_digits:ba P w K mg base 1 "_law_digits" ["_law_cell_here","_law_sizes"] yM) (C_names:ba P w K mg base 2 "_law_names" ["_law_cell_here","_law_many"] qK) (C_deed:ba P w K mg base 3 "_law_deed" ["_law_row","_law_mode","_law_names_here","_law_used","_law_legs","_law_clock"] ym) (C_done:ba P w K mg base 9 "_law_done" ["_law_lane","_law_deed_here"] (rY cN cL T)) (C_acted:ba P w K mg base 3 "_law_acted" ["_law_legs","_law_clock","_law_deed_here"] oC) (M_Lane:wd P w K mg base cN 1 "Lane" ["self"] (vm cN cL)) (C_told:ba P w K mg base 6 "_law_told" ["_law_lane","_law_legs","_law_clock"] (zy cN cL)) :
  aF P w K mg base (cx P w) 10 f fd ["_law_script"] (c9 K (tS [T])):=by
 simp_arith [dU]
 ·obtain ⟨ns,rfl,_⟩:=h;rfl
 obtain ⟨ns,rfl,hl,hT,hJ,q⟩:=h
 have hT:J T=some .tab:=hT T (by simp)
 refine ⟨_,(aj (aL (i:=1) dU.nd rfl (Or.inl rfl) (aR C_digits B hr (by decide) rfl (af (aR C_cell B hr (by decide) rfl (af (rv 0) (af ag ah))) (af (qT (af ag (af ag (af ag ah)))) ah))))
   (aj (aL (i:=2) dU.nd rfl (Or.inl rfl) (aR C_names B hr (by decide) rfl (af (aR C_cell B hr (by decide) rfl (af (rv 0) (af ag ah))) (af (ar aw (qT (r_ [.int 2,.int 3,.int 4,.int 5,.int 6,.int 7,.int 9,.int 20] rfl [.int 2,.int 3,.int 4,.int 5,.int 6,.int 7,.int 9,.int 20] rfl)) (ar aw (rv 1) ag (fun _ _=>rfl)) (fun _ _=>rfl)) ah))))
   (aj (aL (i:=3) dU.nd rfl (Or.inl rfl) (aP dz (aP dz ag (ar aw (rv 1) ag (fun _ _=>rfl))) (aP cP ag (aP jg (ar aw (rv 1) ag (fun _ _=>rfl)) ag))))
   (aj (aL (i:=4) dU.nd rfl (Or.inl rfl) (rO M_Lane B hr (by decide) rfl))
   (aj (aL (i:=5) dU.nd rfl (Or.inl rfl) uQ)
   (aj (aL (i:=6) dU.nd rfl (Or.inl rfl) (jY ah))
   (aj (aL (i:=7) dU.nd rfl (Or.inl rfl) (cv (af ag (af ag ah))))
   (aj (fS cH rfl (nA rfl Z.range (af (rv 3) ah)) (bT (i:=8) dU.nd rfl (Or.inl rfl)) (aj (aL (i:=9) dU.nd rfl (Or.inl rfl) (aR C_digits B hr (by decide) rfl (af (aR C_cell B hr (by decide) rfl (af (rv 0) (af (aP dz ag (rv 8)) ah))) (af (qT (r_ [.int 10,.int 97,.int 2000001,.int 2001,.int 400000,.int 60] rfl [.int 10,.int 97,.int 2000001,.int 2001,.int 400000,.int 60] rfl)) ah))))
   (aj (aL (i:=10) dU.nd rfl (Or.inl rfl) (aR C_deed B hr (by decide) rfl (af (rv 9) (af (ar aw (rv 1) ag (fun _ _=>rfl)) (af (rv 2) (af (rv 6) (af (rv 5) (af (rv 7) ah))))))))
   (c_ (aU (aE (cj hr.aS) (ar aw (rv 10) ag (fun _ _=>rfl)) bz (L2.ax _)) (ak (aY (jc PySem.F.plainAttrs_list PySem.F.slot_list_append PySem.F.type_list_append jK (rv 6) (af (ar aw (rv 10) ag (fun _ _=>rfl)) ah)))) aI)
   (aj (aY (aR C_done B hr (by decide) rfl (af (rv 4) (af (rv 10) ah))))
   (aj (aL (i:=7) dU.nd rfl (Or.inl rfl) (aR C_acted B hr (by decide) rfl (af (rv 5) (af (rv 7) (af (rv 10) ah)))))
   (ak (aU (cO (bG (aR C_told B hr (by decide) rfl (af (rv 4) (af (rv 5) (af (rv 7) ah)))))) (ak (az gC)) aI))))))))
   (ak (az gC)))))))))),?_⟩
 simp_all! only []
 refine ⟨ns,0,rfl,by decide,by decide,_,[16,8,4],rfl,qY (by decide),by decide,fun ds hD=>?_⟩
 obtain ⟨d0,ds,rfl,d00,d01,hD⟩:=hD.cons
 obtain ⟨d1,ds,rfl,d10,d11,hD⟩:=hD.cons
 obtain ⟨d2,ds,rfl,d20,d21,hD⟩:=hD.cons
 cases hD.nil
 obtain ⟨m0,hm0,m00,m01⟩:=E5 d10 d11
 have q6:0≤d1.fdiv 7∧d1.fdiv 7≤1:=by rw [Int.fdiv_eq_ediv_of_nonneg _ (by decide)];omega
 simp_all! only [hm0]
 refine ⟨ns,1,rfl,by decide,by decide,_,m0,rfl,by omega,by omega,fun names nl nd ng=>?_⟩
 simp_all! only []
 generalize d1.fdiv 7=k6 at q6 ⊢
 refine ⟨⟨by decide,(Bd.small (x:=7) (by decide) (by decide)).mono (by decide)⟩,.of (.small (x:=30) (by decide) (by decide)) (.small (x:=k6) (by omega) (by omega)),?_⟩
 obtain ⟨many,hmany,mn0,mn1⟩:∃ many:Nat,4 + d0 + 30 * k6=(many:Int)∧0≤many∧many≤49:=⟨(4 + d0 + 30 * k6).toNat,by omega,by omega,by omega⟩
 rw [hmany]
 simp_all! only []
 intro p hp
 refine ⟨p,rfl,av,fun J1 d e o b mv=>?_⟩
 have mvJ:Mv J J1 (fun _=>False) (Ln.own ⟨0,d,e,o,[],[]⟩ p):=by
  refine (Mv.wz (S:=fun _=>False) hp).trans ⟨fun a u h n=>mv.keep a u h fun z=>n (.inr z),fun a z=>(mv.own a z).imp .inr id,mv.mono⟩
 have ok0:bQ ⟨0,d,e,o,[],[]⟩:=⟨⟨List.nodup_nil,(by simp),(by simp),(by simp),(by simp),(by simp),Rat.le_refl,JF _,(by show 0≤100;decide),(by intro n;simp [Ln.fs,Ln.wA]),List.nodup_nil,(by show 0≤12;decide)⟩,rfl⟩
 have hT1:J1 T=some .tab:=mvJ.keep _ _ hT fun z=>z
 have nT:=b.Hh hT1
 simp_all! only []
 intro D hD ep
 simp_all! only []
 intro U hU
 have w0:=Wk.start b ok0 rfl rfl hD hU
 generalize put (put J1 D (.dct [] ep)) U (.lst [])=J2 at w0 ⊢
 generalize hL0:(⟨0,d,e,o,[],[]⟩:Ln)=L0 at b w0 nT
 have ht0:L0.t=0:=by rw [← hL0]
 have hc0:L0.cs=[]:=by rw [← hL0]
 clear mvJ mv ok0
 simp_all! only []
 refine ⟨by omega,by omega,?_⟩
 obtain ⟨Inv,hInv⟩:∃ Inv:Nat→Sr→Hq→Prop,∀ i τ J',Inv i τ J'↔∃ (L:Ln) (gs:List (Str × aQ)) (ep:Nat) (used:List Str) (u8 u9 u10:Option PV),τ=[some (.fl (ns.map .int)),some (.fl [.int d0,.int d1,.int d2]),some (.fl (names.map .str)),some (.int (many:Int)),some (.ref p),some (.ref D),some (.ref U),some (fr L.t),u8,u9,u10]∧Wk cN cL J1 (L0.own p) J' p L D U gs ep used i∧L.cs.map Cf.n=used∧(∀ n∈used,n∈names)∧used.length≤i:=⟨_,fun _ _ _=>Iff.rfl⟩
 refine vE Inv ((hInv _ _ _).mpr ⟨L0,[],ep,[],_,_,_,by rw [ht0];rfl,w0,by rw [hc0];rfl,(by simp),Nat.le_refl _⟩) ?_ ?_
 ·clear w0 ht0 hc0 hL0
  intro i τ J' hi hv
  obtain ⟨L,gs,ep,used,u8,u9,u10,rfl,wk,hun,hus,hul⟩:=(hInv _ _ _).mp hv
  clear hv
  obtain ⟨st,gnd,gl,gsz⟩:=wk.up
  simp_all! only []
  refine ⟨ns,2 + (0 + (i:Int)),rfl,by omega,by omega,_,[10,97,2000001,2001,400000,60],rfl,qY (by decide),by decide,fun ds hG=>?_⟩
  obtain ⟨r0,ds,rfl,_,_,hG⟩:=hG.cons
  obtain ⟨r1,ds,rfl,r10,_,hG⟩:=hG.cons
  obtain ⟨r2,ds,rfl,r20,_,hG⟩:=hG.cons
  obtain ⟨r3,ds,rfl,r30,r31,hG⟩:=hG.cons
  obtain ⟨r4,ds,rfl,r40,r41,hG⟩:=hG.cons
  obtain ⟨r5,ds,rfl,r50,_,hG⟩:=hG.cons
  cases hG.nil
  simp_all! only []
  refine ⟨r0,r1,r2,r3,r4,r5,d2,names,used,U,D,gs,ep,L.t,rfl,wk.hU,wk.hD,by omega,by omega,r10,r20,r30,r31,r40,by omega,r50,d20,d21,st,fun dv hdv=>?_⟩
  refine zj (wF (iL:=4) (iU:=6) (iD:=5) (iC:=7) (iV:=10) rfl rfl rfl rfl rfl wk hun hus hul (by omega) ng hT1 nT hdv fun J3 L3 gs3 ep3 used3 t3 e3 wk3 h1 h2 h3=>?_)
  subst e3
  clear wk hun hus hul hdv st gnd gl gsz
  obtain ⟨st,gnd,gl,gsz⟩:=wk3.up
  have bo:=wk3.b.ob
  have hD3:=wk3.hD
  have st2:Sz 240 L3.t:=(tX wk3.ok.ts).mono (by decide)
  simp_all! only []
  refine ⟨p,L3,D,ep3,gs3,rfl,wk3.b,wk3.ok,hD3,wk3.rl,true,rfl,?_⟩
  rw [if_neg (by decide)]
  exact (hInv _ _ _).mpr ⟨L3,gs3,ep3,used3,_,_,_,rfl,wk3,h1,h2,h3⟩
 ·intro τ J' hv
  obtain ⟨L,gs,ep,used,u8,u9,u10,rfl,wk,hun,hus,hul⟩:=(hInv _ _ _).mp hv
  simp_all! only []
  exact q J' (by simpa using wk.kept hT1 nT)
end
theorem Ey {P:Program} {w:World} {K:PySem.W.Frag} {mg:Str→Option Value} (Z:bD mg) (N:l9 K mg) {t_FARTHEST:Tok} (g_FARTHEST:mg "FARTHEST"=some (.int 1000000 t_FARTHEST)) {t_FASTEST:Tok} (g_FASTEST:mg "FASTEST"=some (.int 1000 t_FASTEST)) {t_FINEST:Tok} (g_FINEST:mg "FINEST"=some (.int 60 t_FINEST)) {t_LATEST:Tok} (g_LATEST:mg "LATEST"=some (.int 1000000 t_LATEST)) {t_LONGEST:Tok} (g_LONGEST:mg "LONGEST"=some (.int 8 t_LONGEST)) {t_MOST:Tok} (g_MOST:mg "MOST"=some (.int 12 t_MOST)) {t_SIGNS:Tok} (g_SIGNS:mg "SIGNS"=some (.str "abcdefghijklmnopqrstuvwxyz0123456789" t_SIGNS)) {e_BadMoment:Addr} (O_BadMoment:Own K mg "BadMoment" e_BadMoment) {e_BadName:Addr} (O_BadName:Own K mg "BadName" e_BadName) {e_Full:Addr} (O_Full:Own K mg "Full" e_Full) {e_NoCraft:Addr} (O_NoCraft:Own K mg "NoCraft" e_NoCraft) {e_NotThere:Addr} (O_NotThere:Own K mg "NotThere" e_NotThere) {e_Past:Addr} (O_Past:Own K mg "Past" e_Past) {e_Taken:Addr} (O_Taken:Own K mg "Taken" e_Taken) {e_TooFar:Addr} (O_TooFar:Own K mg "TooFar" e_TooFar) {c_Log:Addr} (KD_Log:cQ K mg "Log" c_Log) {c_Lane:Addr} (KD_Lane:cQ K mg "Lane" c_Lane) {c_Bells:Addr} (KD_Bells:cQ K mg "Bells" c_Bells) (NA_Log_rows:ay K c_Log "rows") (NA_Log_gone:ay K c_Log "gone") (NA_Lane_now:ay K c_Lane "now") (NA_Lane_logs:ay K c_Lane "logs") (NA_Lane_row:ay K c_Lane "row") (NA_Bells_rows:ay K c_Bells "rows") (D_cell:Def K mg "_law_cell" oh) (D_digits:Def K mg "_law_digits" jm) (D_shared:Def K mg "shared" jl) (D_fraction:Def K mg "fraction" fM) (D_low:Def K mg "_law_low" ve) (D_less:Def K mg "less" om) (D_plus:Def K mg "plus" pG) (D_minus:Def K mg "minus" la) (D_times:Def K mg "times" kK) {T_good_name:Addr} (D_good_name:sW K mg "good_name" fi T_good_name) (D_names:Def K mg "_law_names" gX) (D_place_on:Def K mg "place_on" fZ) (D_last_by:Def K mg "last_by" gP) (D_lies_behind:Def K mg "lies_behind" dG) (D_in_order:Def K mg "in_order" fV) (D_rings_ahead:Def K mg "rings_ahead" dC) (D_meeting:Def K mg "meeting" gM) (D_in_lowest_terms:Def K mg "in_lowest_terms" cg) (D_good_moment:Def K mg "good_moment" dD) (D_whole:Def K mg "_law_whole" k7) (D_part:Def K mg "_law_part" o5) (D_words:Def K mg "_law_words" kY) (D_word:Def K mg "_law_word" oI) (D_placed:Def K mg "_law_placed" jy) (D_paced:Def K mg "_law_paced" kH) (D_at:Def K mg "_law_at" AI) (D_later:Def K mg "_law_later" k8) (D_before:Def K mg "_law_before" iR) (D_order:Def K mg "_law_order" i5) (D_told:Def K mg "_law_told" o7) (D_acted:Def K mg "_law_acted" kZ) (D_done:Def K mg "_law_done" oj) (D_deed:Def K mg "_law_deed" lK) (MD_Log___init__:bt K c_Log "__init__" "Log.__init__" dh) (MD_Log_turn:bt K c_Log "turn" "Log.turn" f7) (MD_Log_leave:bt K c_Log "leave" "Log.leave" fj) (MD_Log_there:bt K c_Log "there" "Log.there" fb) (MD_Log_leg_at:bt K c_Log "leg_at" "Log.leg_at" eg) (MD_Lane___init__:bt K c_Lane "__init__" "Lane.__init__" cV) (MD_Lane_must_be_there:bt K c_Lane "must_be_there" "Lane.must_be_there" bM) (MD_Lane_leg_of:bt K c_Lane "leg_of" "Lane.leg_of" dF) (MD_Lane_settle:bt K c_Lane "settle" "Lane.settle" cU) (MD_Lane_join:bt K c_Lane "join" "Lane.join" fg) (MD_Lane_clock:bt K c_Lane "clock" "Lane.clock" d9) (MD_Lane_order:bt K c_Lane "order" "Lane.order" d6) (MD_Lane_rank:bt K c_Lane "rank" "Lane.rank" e8) (MD_Lane_name_at:bt K c_Lane "name_at" "Lane.name_at" df) (MD_Lane_place:bt K c_Lane "place" "Lane.place" ed) (MD_Bells___init__:bt K c_Bells "__init__" "Bells.__init__" cF) (MD_Bells_drop:bt K c_Bells "drop" "Bells.drop" dn) (MD_Bells_put:bt K c_Bells "put" "Bells.put" e9) (MD_Bells_told:bt K c_Bells "told" "Bells.told" d5) (MD_Lane_meets:bt K c_Lane "meets" "Lane.meets" d3) (MD_Lane_foretold:bt K c_Lane "foretold" "Lane.foretold" cW) (MD_Lane_go_to:bt K c_Lane "go_to" "Lane.go_to" dZ) (MD_Lane_turn:bt K c_Lane "turn" "Lane.turn" e_) (MD_Lane_about:bt K c_Lane "about" "Lane.about" d4) (MD_Lane_leave:bt K c_Lane "leave" "Lane.leave" eh) {f:Addr} {fd:FuncData} (F:bP K "law" "law" vt f fd) (base:Heap) (Bm:BMain mg base) :
  aF P w K mg base (cx P w) 10 f fd ["_law_script"] (c9 K (tS [T_good_name])):=by
 have L_cell:=D_cell.eE (P:=P) (w:=w) (base:=base) (fun _ _ F=>zt F Z) fun _ _ _ _ _ _=>gH fun _ _=>rfl
 have C_digits:=D_digits.xW (P:=P) (w:=w) (base:=base) (fun _ _ F=>wN F Z.toxj) fun _ _ _ _ _ _=>gH fun _ _=>rfl
 have L_digits:=p8 C_digits
 have C_shared:=D_shared.xW (P:=P) (w:=w) (base:=base) (fun _ _ F=>wu F Z.toxj) fun _ _ _ _ _ _=>gH fun _ _=>rfl
 have L_shared:=rR C_shared
 have C_fraction:=D_fraction.xW (P:=P) (w:=w) (base:=base) (fun _ _ F=>rT F Z.toxj C_shared) fun _ _ _ _ _ _=>gH fun _ _=>rfl
 have L_fraction:=mY C_fraction
 have C_low:=D_low.xW (P:=P) (w:=w) (base:=base) (fun _ _ F=>Dq F Z.toxj) fun _ _ _ _ _ _=>gH fun _ _=>rfl
 have L_low:=y_ C_low
 have C_less:=D_less.xW (P:=P) (w:=w) (base:=base) (fun _ _ F=>Ae F Z.toxj) fun _ _ _ _ _ _=>gH fun _ _=>rfl
 have L_less:=wW C_less
 have C_plus:=D_plus.xW (P:=P) (w:=w) (base:=base) (fun _ _ F=>BI F Z.toxj C_fraction) fun _ _ _ _ _ _=>gH fun _ _=>rfl
 have C_minus:=D_minus.xW (P:=P) (w:=w) (base:=base) (fun _ _ F=>xK F Z.toxj C_fraction) fun _ _ _ _ _ _=>gH fun _ _=>rfl
 have C_times:=D_times.xW (P:=P) (w:=w) (base:=base) (fun _ _ F=>x5 F Z.toxj C_fraction) fun _ _ _ _ _ _=>gH fun _ _=>rfl
 have L_plus:=vW C_plus
 have L_minus:=sL C_minus
 have L_times:=tD C_times
 have C_good_name:=D_good_name.xW (P:=P) (w:=w) (base:=base) (fun _ _ _ F=>oU F Z.toxj Bm g_LONGEST g_SIGNS) fun _ _ _ _ _ _=>yc fun _=>rfl
 have L_good_name:=lB C_good_name
 have C_names:=D_names.xW (P:=P) (w:=w) (base:=base) (fun _ _ F=>zM F Z.toxj C_digits) fun _ _ _ _ _ _=>gH fun _ _=>rfl
 have L_names:=sC C_names
 have L_place_on:=D_place_on.eE (P:=P) (w:=w) (base:=base) (fun _ _ F=>pO F Z L_plus L_minus L_times) fun _ _ _ _ _ _=>gH fun _ _=>rfl
 have L_last_by:=D_last_by.eE (P:=P) (w:=w) (base:=base) (fun _ _ F=>qw F Z L_less) fun _ _ _ _ _ _=>gH fun _ _=>rfl
 have L_lies_behind:=D_lies_behind.eE (P:=P) (w:=w) (base:=base) (fun _ _ F=>kA F Z L_place_on L_less) fun _ _ _ _ _ _=>Jt fun _ _ _ _ _=>rfl
 have L_in_order:=D_in_order.eE (P:=P) (w:=w) (base:=base) (fun _ _ F=>oq F Z L_lies_behind) fun _ _ _ _ _ _=>gH fun _ _=>rfl
 have M_Log:=MD_Log___init__.IA (P:=P) (w:=w) (base:=base) KD_Log (fun _ _ F=>qy F KD_Log NA_Log_rows NA_Log_gone) fun _ _ _ _ _ _=>GY fun _ _ _ _=>rfl
 have m_Log_turn:=MD_Log_turn.mw (P:=P) (w:=w) (base:=base) (mg:=mg) KD_Log.cl (fun _ _ F=>rL F Z KD_Log NA_Log_rows L_place_on) fun _ _ _ _ _ _=>EG fun _ _ _=>rfl
 have m_Log_leave:=MD_Log_leave.mw (P:=P) (w:=w) (base:=base) (mg:=mg) KD_Log.cl (fun _ _ F=>oW F Z KD_Log NA_Log_gone) fun _ _ _ _ _ _=>gH fun _ _=>rfl
 have m_Log_there:=MD_Log_there.mw (P:=P) (w:=w) (base:=base) (mg:=mg) KD_Log.cl (fun _ _ F=>pf F Z KD_Log NA_Log_rows NA_Log_gone L_less) fun _ _ _ _ _ _=>gH fun _ _=>rfl
 have m_Log_leg_at:=MD_Log_leg_at.mw (P:=P) (w:=w) (base:=base) (mg:=mg) KD_Log.cl (fun _ _ F=>mV F Z KD_Log NA_Log_rows O_NotThere m_Log_there L_last_by) fun _ _ _ _ _ _=>gH fun _ _=>rfl
 have M_Lane:=MD_Lane___init__.IA (P:=P) (w:=w) (base:=base) KD_Lane (fun _ _ F=>pd F (cL:=c_Log) N KD_Lane NA_Lane_now NA_Lane_logs NA_Lane_row) fun _ _ _ _ _ _=>yc fun _=>rfl
 have m_Lane_must_be_there:=MD_Lane_must_be_there.mw (P:=P) (w:=w) (base:=base) (mg:=mg) KD_Lane.cl (fun _ _ F=>gi F Z (cL:=c_Log) KD_Lane NA_Lane_row O_NoCraft) fun _ _ _ _ _ _=>gH fun _ _=>rfl
 have m_Lane_leg_of:=MD_Lane_leg_of.mw (P:=P) (w:=w) (base:=base) (mg:=mg) KD_Lane.cl (fun _ _ F=>lz F Z KD_Lane NA_Lane_logs NA_Lane_now m_Lane_must_be_there m_Log_leg_at) fun _ _ _ _ _ _=>gH fun _ _=>rfl
 have m_Lane_settle:=MD_Lane_settle.mw (P:=P) (w:=w) (base:=base) (mg:=mg) KD_Lane.cl (fun _ _ F=>mi F Z KD_Lane NA_Lane_row NA_Lane_now m_Lane_leg_of L_in_order) fun _ _ _ _ _ _=>yc fun _=>rfl
 have m_Lane_join:=MD_Lane_join.mw (P:=P) (w:=w) (base:=base) (mg:=mg) KD_Lane.cl (fun _ _ F=>pF F Z KD_Lane NA_Lane_row NA_Lane_now NA_Lane_logs g_FARTHEST g_FASTEST g_MOST O_BadName O_TooFar O_Taken O_Full L_good_name M_Log m_Lane_settle) fun _ _ _ _ _ _=>GY fun _ _ _ _=>rfl
 have m_Lane_clock:=MD_Lane_clock.mw (P:=P) (w:=w) (base:=base) (mg:=mg) KD_Lane.cl (fun _ _ F=>mB F Z (cL:=c_Log) KD_Lane NA_Lane_now) fun _ _ _ _ _ _=>yc fun _=>rfl
 have m_Lane_order:=MD_Lane_order.mw (P:=P) (w:=w) (base:=base) (mg:=mg) KD_Lane.cl (fun _ _ F=>mK F Z (cL:=c_Log) KD_Lane NA_Lane_row) fun _ _ _ _ _ _=>yc fun _=>rfl
 have m_Lane_rank:=MD_Lane_rank.mw (P:=P) (w:=w) (base:=base) (mg:=mg) KD_Lane.cl (fun _ _ F=>ph F Z KD_Lane NA_Lane_row m_Lane_must_be_there) fun _ _ _ _ _ _=>gH fun _ _=>rfl
 have m_Lane_name_at:=MD_Lane_name_at.mw (P:=P) (w:=w) (base:=base) (mg:=mg) KD_Lane.cl (fun _ _ F=>kD F Z (cL:=c_Log) KD_Lane NA_Lane_row) fun _ _ _ _ _ _=>gH fun _ _=>rfl
 have m_Lane_place:=MD_Lane_place.mw (P:=P) (w:=w) (base:=base) (mg:=mg) KD_Lane.cl (fun _ _ F=>mS F Z KD_Lane NA_Lane_now m_Lane_leg_of L_place_on) fun _ _ _ _ _ _=>gH fun _ _=>rfl
 have L_rings_ahead:=D_rings_ahead.eE (P:=P) (w:=w) (base:=base) (fun _ _ F=>ki F Z L_less) fun _ _ _ _ _ _=>gH fun _ _=>rfl
 have M_Bells:=MD_Bells___init__.IA (P:=P) (w:=w) (base:=base) KD_Bells (fun _ _ F=>mJ F KD_Bells NA_Bells_rows) fun _ _ _ _ _ _=>yc fun _=>rfl
 have m_Bells_drop:=MD_Bells_drop.mw (P:=P) (w:=w) (base:=base) (mg:=mg) KD_Bells.cl (fun _ _ F=>mL F Z KD_Bells NA_Bells_rows) fun _ _ _ _ _ _=>EG fun _ _ _=>rfl
 have m_Bells_put:=MD_Bells_put.mw (P:=P) (w:=w) (base:=base) (mg:=mg) KD_Bells.cl (fun _ _ F=>pA F Z KD_Bells NA_Bells_rows m_Bells_drop L_rings_ahead) fun _ _ _ _ _ _=>GY fun _ _ _ _=>rfl
 have m_Bells_told:=MD_Bells_told.mw (P:=P) (w:=w) (base:=base) (mg:=mg) KD_Bells.cl (fun _ _ F=>mQ F Z KD_Bells NA_Bells_rows) fun _ _ _ _ _ _=>yc fun _=>rfl
 have L_meeting:=D_meeting.eE (P:=P) (w:=w) (base:=base) (fun _ _ F=>qx F Z N L_place_on L_minus L_fraction) fun _ _ _ _ _ _=>gH fun _ _=>rfl
 have m_Lane_meets:=MD_Lane_meets.mw (P:=P) (w:=w) (base:=base) (mg:=mg) KD_Lane.cl (fun _ _ F=>mR F Z KD_Lane NA_Lane_now m_Lane_leg_of L_meeting L_less) fun _ _ _ _ _ _=>EG fun _ _ _=>rfl
 have L_in_lowest_terms:=D_in_lowest_terms.eE (P:=P) (w:=w) (base:=base) (fun _ _ F=>g9 F Z L_shared) fun _ _ _ _ _ _=>yc fun _=>rfl
 have L_good_moment:=D_good_moment.eE (P:=P) (w:=w) (base:=base) (fun _ _ F=>kr F Z g_FINEST g_LATEST L_in_lowest_terms) fun _ _ _ _ _ _=>yc fun _=>rfl
 have m_Lane_foretold:=MD_Lane_foretold.mw (P:=P) (w:=w) (base:=base) (mg:=mg) KD_Lane.cl (fun _ _ F=>jM F Z KD_Lane NA_Lane_now NA_Lane_row O_BadMoment O_Past L_good_moment L_less M_Bells m_Lane_meets m_Bells_put m_Bells_told) fun _ _ _ _ _ _=>gH fun _ _=>rfl
 have m_Lane_go_to:=MD_Lane_go_to.mw (P:=P) (w:=w) (base:=base) (mg:=mg) KD_Lane.cl (fun _ _ F=>mO F Z KD_Lane NA_Lane_now m_Lane_foretold m_Lane_settle) fun _ _ _ _ _ _=>gH fun _ _=>rfl
 have m_Lane_turn:=MD_Lane_turn.mw (P:=P) (w:=w) (base:=base) (mg:=mg) KD_Lane.cl (fun _ _ F=>oy F Z KD_Lane NA_Lane_logs NA_Lane_now g_FASTEST O_TooFar m_Lane_must_be_there m_Log_turn m_Lane_settle) fun _ _ _ _ _ _=>EG fun _ _ _=>rfl
 have m_Lane_about:=MD_Lane_about.mw (P:=P) (w:=w) (base:=base) (mg:=mg) KD_Lane.cl (fun _ _ F=>m6 F Z KD_Lane NA_Lane_row NA_Lane_logs NA_Lane_now m_Lane_leg_of m_Log_turn m_Lane_settle) fun _ _ _ _ _ _=>yc fun _=>rfl
 have m_Lane_leave:=MD_Lane_leave.mw (P:=P) (w:=w) (base:=base) (mg:=mg) KD_Lane.cl (fun _ _ F=>mU F Z KD_Lane NA_Lane_logs NA_Lane_now NA_Lane_row m_Lane_must_be_there m_Log_leave) fun _ _ _ _ _ _=>gH fun _ _=>rfl
 have L_whole:=D_whole.eE (P:=P) (w:=w) (base:=base) (fun _ _ F=>vL F Z) fun _ _ _ _ _ _=>yc fun _=>rfl
 have L_part:=D_part.eE (P:=P) (w:=w) (base:=base) (fun _ _ F=>yb F Z L_whole) fun _ _ _ _ _ _=>gH fun _ _=>rfl
 have L_words:=D_words.eE (P:=P) (w:=w) (base:=base) (fun _ _ F=>w9 F Z) fun _ _ _ _ _ _=>gH fun _ _=>rfl
 have L_word:=D_word.eE (P:=P) (w:=w) (base:=base) (fun _ _ F=>xw F Z) fun _ _ _ _ _ _=>gH fun _ _=>rfl
 have L_placed:=D_placed.eE (P:=P) (w:=w) (base:=base) (fun _ _ F=>sP F Z) fun _ _ _ _ _ _=>gH fun _ _=>rfl
 have L_paced:=D_paced.eE (P:=P) (w:=w) (base:=base) (fun _ _ F=>wQ F Z) fun _ _ _ _ _ _=>gH fun _ _=>rfl
 have L_at:=D_at.eE (P:=P) (w:=w) (base:=base) (fun _ _ F=>Ec F Z L_low) fun _ _ _ _ _ _=>gH fun _ _=>rfl
 have L_later:=D_later.eE (P:=P) (w:=w) (base:=base) (fun _ _ F=>v3 F Z L_low) fun _ _ _ _ _ _=>GY fun _ _ _ _=>rfl
 have L_before:=D_before.eE (P:=P) (w:=w) (base:=base) (fun _ _ F=>sT F Z) fun _ _ _ _ _ _=>gH fun _ _=>rfl
 have L_order:=D_order.eE (P:=P) (w:=w) (base:=base) (fun _ _ F=>vZ F Z L_at L_before) fun _ _ _ _ _ _=>gH fun _ _=>rfl
 have L_told:=D_told.eE (P:=P) (w:=w) (base:=base) (fun _ _ F=>zm F Z L_order L_words L_part L_whole L_word L_at m_Lane_order m_Lane_clock m_Lane_rank m_Lane_name_at m_Lane_place) fun _ _ _ _ _ _=>EG fun _ _ _=>rfl
 have L_acted:=D_acted.eE (P:=P) (w:=w) (base:=base) (fun _ _ F=>xh F Z L_at) fun _ _ _ _ _ _=>EG fun _ _ _=>rfl
 have L_done:=D_done.eE (P:=P) (w:=w) (base:=base) (fun _ _ F=>zW F Z m_Lane_join m_Lane_leave m_Lane_turn m_Lane_about m_Lane_go_to) fun _ _ _ _ _ _=>gH fun _ _=>rfl
 have L_deed:=D_deed.eE (P:=P) (w:=w) (base:=base) (fun _ _ F=>zr F Z L_placed L_paced L_later) fun _ _ _ _ _ _=>Jp fun _ _ _ _ _ _=>rfl
 exact Bx F Z L_cell L_digits L_names L_deed L_done L_acted M_Lane L_told
end Ov
namespace PySem.W.Fast
def tw4874602812138602844:=()
def tw4821076760293302238:=()
def tw3113920751321433858:=()
def tw6024233004672460973:=()
def tw17382177714210688815:=()
def tw216122275770415703:=()
def tw4476530009690077987:=()
def tw5272809424988761476:=()
def tw14761245099933439264:=()
def tw3258883719188295082:=()
def tw4331983867799580152:=()
def tw1913768601657225981:=()
def tw226050341476838634:=()
def tw15187455548703162588:=()
def tw5727834695419154257:=()
def tw343889012184591071:=()
def tw13150409800463276116:=()
def tw6175302228880941405:=()
def tw5315571923470241448:=()
def tw5840400904566389016:=()
def tw1689282864858449007:=()
def tw18270124924171454003:=()
def tw11664448791832545671:=()
def tw6054576504996809741:=()
def tw7810250816954867820:=()
def tw1500532879934976213:=()
def tw4855900262343848686:=()
def tw12270189663952802203:=()
def tw11644615162889079919:=()
def tw9004593424083695774:=()
def tw11031511048213009750:=()
def tw2894443958536927081:=()
def tw13493376964384564108:=()
def tw5418888806330154080:=()
def tw3462210656465175185:=()
def tw1633414112312369831:=()
def tw13533765298375559998:=()
def tw6406667726632481623:=()
def tw4771251402642347881:=()
def tw11601235550520322962:=()
def tw16850487438924360365:=()
def tw17551384999871476757:=()
def tw13359161941878501379:=()
def tw14902702100595302510:=()
def tw6286881545086006668:=()
def tw10200376442765689535:=()
def tw867442714613519569:=()
def tw573203746142526974:=()
def tw15992887856822175696:=()
def tw5362523848883129125:=()
def tw9940612682442376421:=()
def tw5883760045765265534:=()
def tw18385068673662824671:=()
def tw5308208468995426631:=()
def tw12438256396400998084:=()
def tw11308094936770989881:=()
def tw18356010999213776431:=()
def tw5456197413282150544:=()
def tw14986315304255607657:=()
def tw9668243522593485379:=()
def tw10501383515479092241:=()
def tw17699851400601701981:=()
def tw13798505011673835357:=()
def tw15007256563884681609:=()
def tw6846408770148071493:=()
def tw2556566745244659253:=()
def tw7027889523758000245:=()
def tw13592706502121501008:=()
def tw13634810622679736178:=()
def tw1826123625045424476:=()
def tw934800316739076319:=()
def tw3926496870104280611:=()
def tw11932376247890277148:=()
def tw800142504181965535:=()
def tw12998886847000967763:=()
def tw15457298431015578735:=()
def tw4037210589773311462:=()
def tw4048962084607670958:=()
def tw879460880788799786:=()
def tw15398859453737026446:=()
def tw3026234100070869623:=()
def tw11964356561942965107:=()
def tw1432881939852322838:=()
def tw11746680958367988996:=()
def tw3839552530719220241:=()
def tw2589890379598942199:=()
def tw9193373468760475939:=()
def tw4773941092727898666:=()
def tw8005385250879436101:=()
def tw9795463749250433739:=()
def tw1909763104755084513:=()
def tw5359151365139564361:=()
def tw10534689678910951717:=()
def tw8123919635083216920:=()
def tw3162348714785192842:=()
def tw14158018317966787709:=()
def tw595268619468203976:=()
def tw2202026712410930682:=()
def tw4435336592581923332:=()
def tw16294884393316461235:=()
def tw8263638683905328906:=()
def tw179649568264316129:=()
def tw5911846353909860298:=()
def tw17423927818626052905:=()
def tw18147172700859611889:=()
def tw17460631218993194875:=()
def tw2308124912763359576:=()
def tw15017409622608253840:=()
def tw16770874191845165304:=()
def tw7802203179403107236:=()
def tw15700984330670640398:=()
def tw6624691611472524815:=()
def tw8022166950634102711:=()
def tw8829874200875122115:=()
def tw9685010675827675126:=()
def tw14505578232340105843:=()
def tw2637304900851786846:=()
def tw4486534396234797437:=()
def tw1667377449581681934:=()
def tw7107301513597067619:=()
def tw15440019083399218658:=()
def tw4129637717850613888:=()
def tw254504993441523391:=()
def tw717584293362467059:=()
def tw13732764652272335194:=()
def tw14156540500761142710:=()
def tw7075448230752551772:=()
def tw1971282673842668147:=()
def tw2323513505416006486:=()
def tw17664539170281009029:=()
def tw2337780629487849974:=()
def tw6740953819255948738:=()
def tw3232234845222928130:=()
def tw776343524943155634:=()
def tw2667215884961916309:=()
def tw10993381888839475814:=()
def tw5850180837277608090:=()
def tw11336295689855213546:=()
def tw15768787549083820978:=()
def tw6056329939276727387:=()
def tw3868796747213957591:=()
def tw1495324561251121952:=()
def tw2912206040488991514:=()
def tw16876021161011519574:=()
def tw8944708338027379922:=()
def tw12072672507294178933:=()
def tw13874805531848490316:=()
def tw1775375427938011777:=()
def tw14618224878339997757:=()
def tw1037589111603538553:=()
def tw17468197792277373139:=()
def tw11704431543720696266:=()
def tw16841921736713832474:=()
def tw3207463496850557246:=()
def tw171615336987654499:=()
def tw10396704280794618680:=()
def tw1668531812637174500:=()
def tw15465348271762500710:=()
def tw7193204736540389473:=()
def tw12205512705329979810:=()
def tw15718349760996922526:=()
def tw2157665381456537136:=()
def tw5292240092076835197:=()
def tw17201973372279227414:=()
def tw13387690423326241136:=()
def tw13471721139471065897:=()
def tw5582031488336660345:=()
def tw17333252961408139423:=()
def tw2143811805133668893:=()
def tw2688705666060481377:=()
def tw15548748568575892640:=()
def tw3246640061281165914:=()
def tw12749757756293225204:=()
def tw876024745047879856:=()
def tw10032445303984473468:=()
def tw891859643846288276:=()
def tw391126148791151202:=()
def tw2642285767358670535:=()
def tw527835284988985407:=()
def tw3295370743870167554:=()
def tw16395059733569234472:=()
def tw16680739388779215249:=()
def tw11105848319826448994:=()
def tw12584569822891413778:=()
def tw5706547139509660136:=()
def tw15425688559234655354:=()
def tw13952927969038907178:=()
def tw12307936751058779576:=()
def tw11997021567237688883:=()
def tw5991321527239255384:=()
def tw16148933511929257272:=()
def tw15830948426267645176:=()
def tw5807907182889379170:=()
def tw13686037915873925129:=()
def tw7016589317908837776:=()
def tw16553381999491850217:=()
def tw10558617787781696516:=()
def tw12540921002410453395:=()
def tw7086708662505001066:=()
def tw7354980748522685004:=()
def tw13933377668903658494:=()
def tw10906204916638444222:=()
def tw7037570389722084164:=()
def tw4864408584485293087:=()
def tw2925691103056718594:=()
def tw11413072818820944579:=()
def tw15306745804374693301:=()
def tw14937191531413045027:=()
def tw10348657376065632968:=()
def tw1708673302962452335:=()
def tw2946891942647529683:=()
def tw3965525329465821331:=()
def tw5302023213636945746:=()
def tw12616267037877730998:=()
def tw12365342264096073842:=()
def tw17745529809139838868:=()
def tw11450350231223422894:=()
def tw15298606977602107491:=()
def tw3140421132223385473:=()
def tw13612779505500632299:=()
def tw11651911275456554669:=()
def tw150200344887114909:=()
def tw5573939226830755046:=()
def tw2533370624532802602:=()
def tw6204770988904630222:=()
def tw1503785404424512717:=()
def tw11761394943883878580:=()
def tw5752033313985302812:=()
def tw16612111581001404250:=()
def tw12769040668976665994:=()
def tw8471794040745520006:=()
def tw4109047435566754267:=()
def tw17689022303359816789:=()
def tw16862605090943260895:=()
def tw15275271065216869599:=()
def tw14384405752093131819:=()
def tw13158163577524925405:=()
def tw17028305528130706631:=()
def tw10962254924890291208:=()
def tw3659590175686991799:=()
def tw12911082465961107070:=()
def tw3868892324598765261:=()
def tw6554523431828463482:=()
def tw8664033975551047409:=()
def tw16243956990273599216:=()
def tw5319261736549706114:=()
def tw10628152603789997576:=()
def tw16624111916141647430:=()
def tw11941042093738888748:=()
def tw399155480078340077:=()
def tw3229387091203208240:=()
def tw12112017944914629427:=()
def tw380430210601382290:=()
def tw15032797728288592156:=()
def tw8152009946721100412:=()
def tw891927990871033026:=()
def tw17364096293251566672:=()
def tw13216575007609502762:=()
def tw1797351954907542841:=()
def tw9633028500542225578:=()
def tw6040927991447785979:=()
def tw1036510752284877749:=()
def tw8671778257110698477:=()
def tw4143003520929838986:=()
def tw782174647803656894:=()
def tw17079455696676159419:=()
def tw13881072744379996718:=()
def tw5459914883578095329:=()
def tw584606934463690953:=()
def tw31498389661783979:=()
def tw2720621321169300240:=()
def tw11355057267716740747:=()
def tw5829005176396964647:=()
def tw4165566286796390318:=()
def tw2466304007763915100:=()
def tw9734678081999659141:=()
def tw8897922485127776048:=()
def tw13891623716260110861:=()
def tw9241068140049592983:=()
def tw1943872132330985667:=()
def tw4943857543972122218:=()
def tw7767628457920062647:=()
def tw482816351410519632:=()
def tw2857624936957298800:=()
def tw18367263709257102074:=()
def tw14129596106698883991:=()
def tw7515322390418779738:=()
def tw946485944359551358:=()
def tw7920395872651548563:=()
def tw5966244727468637731:=()
def tw15793806492578197584:=()
def tw11796456469056696350:=()
def tw6667153233147828492:=()
def tw5782003978967548253:=()
def tw5216782463412589754:=()
def tw4435347813194082605:=()
def tw4262860681821376679:=()
def tw3213063877289674932:=()
def tw16182743132308042855:=()
def tw15126351740156923390:=()
def tw10254709070116789727:=()
def tw8534233732262787476:=()
def tw16604250154986538642:=()
def tw1520841654235714828:=()
def tw14832878789240040503:=()
def tw9483400569868961574:=()
def tw784605383701292004:=()
def tw7170441573897012072:=()
def tw16576793609185373645:=()
def tw12660243215795963711:=()
def tw12163276546980861587:=()
def tw10792632220413883426:=()
def tw9592781982837946574:=()
def tw17371882055356334922:=()
def tw17262392183888953978:=()
def tw15016757268479236198:=()
def tw3382133785533783563:=()
def tw3209514808632146925:=()
def tw13966735737679576531:=()
def tw9079295290146668831:=()
def tw10990231583131507186:=()
def tw8027339180929426184:=()
def tw3217464898112153334:=()
def tw2412523784582210844:=()
def tw10783481097171014652:=()
def tw14805043377282729567:=()
def tw7296321921689595148:=()
def tw14416235936548025318:=()
def tw4443153132266193708:=()
def tw15365098678209696352:=()
def tw9377582472420069297:=()
def tw4053511009312355657:=()
def tw16681486758271235109:=()
def tw8775242582699123051:=()
def tw11086607675322359070:=()
def tw10361195632624466697:=()
def tw9853251865816489843:=()
def tw1086106127891669222:=()
def tw3746103729641811884:=()
def tw17095946893459137538:=()
def tw16867716717389071091:=()
def tw12047012071839000226:=()
def tw6521640703426889578:=()
def tw4652448967113961062:=()
def tw3145805147769649001:=()
def tw17997245544549772117:=()
def tw679208007717375221:=()
def tw4275169304385107541:=()
def tw11259390897009367217:=()
def tw5743574427747915226:=()
def tw17620061787648344373:=()
def tw16457751044227329788:=()
def tw10235365210891844239:=()
def tw16228799389579613964:=()
def tw6950555932018068420:=()
def tw4674535012337739852:=()
def tw417497866835543939:=()
def tw2087670270129831581:=()
def tw1623428266124810538:=()
def tw4031502530174630105:=()
def tw13689550229034201659:=()
def tw14808080407510916897:=()
def tw8076593364227019519:=()
def tw17551866160753487644:=()
def tw6139719433018907295:=()
def tw1815770215514356804:=()
def tw6340776766302211057:=()
def tw2863815276567549372:=()
def tw18433793941663449695:=()
def tw668778153293837089:=()
def tw18298715710158795371:=()
def tw2106674715260741829:=()
def tw16519972767774742021:=()
def tw13638997920964559228:=()
def tw65634953431659675:=()
def tw8172675709688438590:=()
def tw3922301275019921368:=()
def tw17737972090198543508:=()
def tw5412292774274187884:=()
def tw10918879446188524144:=()
def tw12863689254757794160:=()
def tw7851846631012173761:=()
def tw8161116690039007041:=()
def tw13056453778887181410:=()
def tw14670348619678203470:=()
def tw5137696240539014276:=()
def tw12360508936483634186:=()
def tw1839595645529722480:=()
def tw13385211781594555684:=()
def tw7816278801647592518:=()
def tw14172549430357195949:=()
def tw11763478404998270399:=()
def tw79218926624584253:=()
def tw8760491895306311470:=()
def tw8635633326147912164:=()
def tw5852899412490157209:=()
def tw5644307227455978488:=()
def tw1500536921226233331:=()
def tw13735541696033506410:=()
def tw3827188902045545058:=()
def tw13682698106835897694:=()
def tw9789394664712380054:=()
def tw10997006663145277719:=()
def tw4294908257683148154:=()
def tw17229851652630241357:=()
def tw10811829053852433454:=()
def tw16229198810703105444:=()
def tw11068658053805231773:=()
def tw5763132608903873995:=()
def tw12128793721413956883:=()
def tw14569426948603901746:=()
def tw12445072609025512235:=()
def tw2064729482074197193:=()
def tw1968845788887334515:=()
def tw6587997102145282560:=()
def tw5805698406051786939:=()
def tw1689066491995639776:=()
def tw13151443896088881115:=()
def tw5523437151023625924:=()
def tw5516028350465778912:=()
def tw3557139001509778927:=()
def tw14924822061604500556:=()
def tw1208811116355546749:=()
def tw2878217218552454582:=()
def tw18080127581293606210:=()
def tw17024716594092826338:=()
def tw16979114794115655301:=()
def tw14799270918941369925:=()
def tw14417828466554624325:=()
def tw1395193283818948027:=()
def tw12844960918126974322:=()
def tw11502286695859920396:=()
def tw17142407751319120096:=()
def tw17344737048008651460:=()
def tw2247069037660997116:=()
def tw16489791598933899898:=()
def tw14383232913907138526:=()
def tw8597841561652060751:=()
def tw17064385893119803129:=()
def tw13207827974707737715:=()
def tw13053878734118874248:=()
def tw9095576994916068395:=()
def tw7390530130194903787:=()
def tw6415807388362737586:=()
def tw5574904777096972537:=()
def tw2288159339046549725:=()
def tw16233843971966487431:=()
def tw15671611896989909017:=()
def tw13274308786420392763:=()
def tw12584721761416877542:=()
def tw10706147366402662147:=()
def tw10594764086489243780:=()
def tw9008746488301561442:=()
def tw8401517252917040100:=()
def tw8863096011906837853:=()
def tw2395882877967692814:=()
def tw13471158800609099328:=()
def tw10247901435655175701:=()
def tw6543791472912940510:=()
def tw1121995596484748884:=()
def tw10113302946120191987:=()
def tw8550414939595324401:=()
def tw8419566545139649776:=()
def tw6649005080808489589:=()
def tw6646981102583481508:=()
def tw6376953095138468914:=()
def tw6215325663252826327:=()
def tw6006663932599526497:=()
def tw5879535158327062028:=()
def tw5465863061681873152:=()
def tw5010580409006029904:=()
def tw3823428726195228065:=()
def tw18002260200729841775:=()
def tw15944071836314542703:=()
def tw1563360428787007267:=()
def tw15221837278240348763:=()
def tw14684123556722878980:=()
def tw11885908702971457077:=()
def tw8862443347209199634:=()
def tw9922224982972256778:=()
def tw9003083566895062888:=()
def tw9831609557576318540:=()
def tw9563995462226282315:=()
def tw8821559247520490098:=()
def tw772596410520295771:=()
def tw4441655202057449906:=()
def tw3947875569641900028:=()
def tw3273777918583485601:=()
def tw2889799899181457861:=()
def tw17360030979501484942:=()
def tw16804331711976240389:=()
def tw14040015325687420819:=()
def tw12185808403328786788:=()
def tw11989403966575182174:=()
def tw8757265516143061611:=()
def tw8285130297764497422:=()
def tw7918981796454430054:=()
def tw7264258434568035263:=()
def tw6633080469542648431:=()
def tw6452226008600325705:=()
def tw6064812313826822276:=()
def tw4193194706359933715:=()
def tw17352421395516657125:=()
def tw17317088633522449753:=()
def tw14458291522432436738:=()
def tw14069548627027032078:=()
def tw18051678756091668062:=()
def tw15940098446073496467:=()
def tw6607231938309483276:=()
def tw608200203179433479:=()
def tw4450699565481499414:=()
def tw3794966733573749445:=()
def tw3061990708417810587:=()
def tw17941142014769540219:=()
def tw16070408252566582411:=()
def tw15867338722508482943:=()
def tw7921009623684499041:=()
def tw7004494315683507820:=()
def tw6043285918681511960:=()
def tw1978152997964746298:=()
def tw18090600804458759691:=()
def tw17927812117593151942:=()
def tw16690856436108814204:=()
def tw1453864940909117006:=()
def tw14116890161207561888:=()
def tw131069482363734233:=()
def tw11936501722857502421:=()
def tw10962390237648922483:=()
def tw9984202008789668340:=()
def tw9883484424536674092:=()
def tw9870296527726068635:=()
def tw9845169219472073431:=()
def tw9833000394760563630:=()
def tw9728443871550829743:=()
def tw9725071187941047394:=()
def tw970300574556897265:=()
def tw9196045264224491347:=()
def tw9154673327738407296:=()
def tw9116194927402106023:=()
def tw9076654986042868208:=()
def tw9032227546188716359:=()
def tw8977042500116277512:=()
def tw894154870005916416:=()
def tw8941276713013355653:=()
def tw8923025223763140521:=()
def tw8908437963531178381:=()
def tw8780724635836118132:=()
def tw8597613086176416407:=()
def tw8570635378273762291:=()
def tw8353151899521732804:=()
def tw8267212548478377933:=()
def tw8098989956881683539:=()
def tw8069154311451428550:=()
def tw8001805105283429162:=()
def tw7883907784274969528:=()
def tw7868287806947912633:=()
def tw7801985554662422259:=()
def tw7798618223840318183:=()
def tw7572339213998628508:=()
def tw7537698420948692739:=()
def tw7450644438766708539:=()
def tw7432866844891150160:=()
def tw7397193202379471886:=()
def tw7326755693527624210:=()
def tw7169164009645630452:=()
def tw7095451715059186667:=()
def tw6999848059418848323:=()
def tw6996461981607921600:=()
def tw6884575942232779765:=()
def tw6883344905638241011:=()
def tw6852715471791088405:=()
def tw6750052004107936897:=()
def tw6379581896616679917:=()
def tw6281322167185250090:=()
def tw612611969400982381:=()
def tw6007479475026895363:=()
def tw5884722406859285356:=()
def tw5694077648823829869:=()
def tw568327243134129388:=()
def tw5645021540758293561:=()
def tw5572485176512590699:=()
def tw5567606773292198373:=()
def tw5516635783034822086:=()
def tw5497618657144677222:=()
def tw5471732858364818285:=()
def tw5463915967292401801:=()
def tw5442384149439811608:=()
def tw541709124576524333:=()
def tw5149107650597018967:=()
def tw4960849515997661080:=()
def tw4766198781164963137:=()
def tw4635493693708017232:=()
def tw4608401849636693459:=()
def tw4592062974089430047:=()
def tw4584193767275394283:=()
def tw437743751572781021:=()
def tw4358079366248868777:=()
def tw4328520439237432585:=()
def tw4276966487294540439:=()
def tw4160769973612242021:=()
def tw4156769588279828727:=()
def tw4129784649431351300:=()
def tw4080432248161461554:=()
def tw4045525861915269493:=()
def tw3901326896760569879:=()
def tw3861343199045298524:=()
def tw3846445790965751778:=()
def tw3716923305967593760:=()
def tw3392983547513059872:=()
def tw3339826086225852356:=()
def tw3199615467262601881:=()
def tw2612562418780634091:=()
def tw2491697460870864731:=()
def tw2428411373116900555:=()
def tw2418580225876537815:=()
def tw2270906137718124434:=()
def tw2178597655123072062:=()
def tw2166662550378896119:=()
def tw2139265036051695115:=()
def tw2122591337884652469:=()
def tw2008983374483799731:=()
def tw1999827373234079386:=()
def tw1912804413818851806:=()
def tw1878794591467413564:=()
def tw18400935824166045701:=()
def tw183784204936734977:=()
def tw18301227275272671595:=()
def tw18250049157460488192:=()
def tw1814698262793585174:=()
def tw18145683929423170614:=()
def tw17790884723353934715:=()
def tw17789088991270180024:=()
def tw17772562974294487465:=()
def tw17767549675993233833:=()
def tw17424684234249101033:=()
def tw17421053270456009408:=()
def tw17265336836412931612:=()
def tw17193727248774965729:=()
def tw17113700584164104565:=()
def tw17016102857187402747:=()
def tw16882299379377789557:=()
def tw16866141924060528321:=()
def tw16566282962326193240:=()
def tw16518363361800036645:=()
def tw16332003959503316566:=()
def tw16304425025371246914:=()
def tw16248730145330067436:=()
def tw16110026997783494673:=()
def tw16101330511845691403:=()
def tw16005277528422028710:=()
def tw15953473485726641502:=()
def tw15926872770382071937:=()
def tw15892061046699040148:=()
def tw15871043796695817944:=()
def tw1579459897605319721:=()
def tw15732024611079149038:=()
def tw15725543940677221959:=()
def tw15667376283154270209:=()
def tw15658588974555896078:=()
def tw15582977623432331049:=()
def tw15492369088478169261:=()
def tw15404081784153850134:=()
def tw15360959344157577731:=()
def tw15166125393418779943:=()
def tw1510765512682531073:=()
def tw15038559095510309447:=()
def tw1495252213371123025:=()
def tw14906257268710060613:=()
def tw14786826284750546208:=()
def tw14705819739720786334:=()
def tw14666644707071644646:=()
def tw14636309783385131840:=()
def tw14489751344313411262:=()
def tw14013437259402700264:=()
def tw14001201986734364642:=()
def tw13995679443407439236:=()
def tw13856106579474454314:=()
def tw13831502392893615721:=()
def tw13768765070093855035:=()
def tw13631402769603254837:=()
def tw13532690430508709207:=()
def tw13412603504986502015:=()
def tw13405825605335587104:=()
def tw13322821993163943420:=()
def tw13238192281851260900:=()
def tw13216492633440318235:=()
def tw13093496255985392323:=()
def tw13054516439151948440:=()
def tw13038525126231482654:=()
def tw12980400759492909133:=()
def tw12908841624981583872:=()
def tw12750363715867342776:=()
def tw12572233794524820388:=()
def tw12408743203234136960:=()
def tw1238949214782262389:=()
def tw1230481339446309500:=()
def tw12271379441432281407:=()
def tw12247465974168382680:=()
def tw12238431411379841146:=()
def tw12177612324330452573:=()
def tw1216668285268752879:=()
def tw11908589574632107923:=()
def tw11893895754823116415:=()
def tw11886255581812786565:=()
def tw116433363067125087:=()
def tw11537675224322892665:=()
def tw11533250280170983879:=()
def tw11377645880938040260:=()
def tw11196800641270313659:=()
def tw10932795861757108409:=()
def tw10890100765281940852:=()
def tw10881001611528379693:=()
def tw10750862008765555475:=()
def tw10698648744366931223:=()
def tw10675417116694877720:=()
def tw10652324378570064563:=()
def tw10640320134758588727:=()
def tw10534293794643322074:=()
def tw10507167345063604234:=()
def tw10243223733611682675:=()
def tw10155937302075827717:=()
def tw10095936205438007613:=()
end PySem.W.Fast
open PySem PySem.W PyProof.Rows
set_option hygiene false
local macro_rules | `(tactic| simp_arith)=>`(tactic| (dsimp only [L2.bL];refine' Ov.C1 KX G ?a ?l ?c ?k;(case a=>k_is);(case l=>k_is);(case c=>k_is);(case k=>k_is)))
set_option maxRecDepth 100000 in
set_option maxHeartbeats 0 in
theorem PySem.Challenge.cw_overhaul_k32_whole_order_kept_holds : PySem.Challenge.rw_overhaul_k32_whole_order_kept.Holds := by
 w_on;o_law;k_head;(case hw=>w_witness2)
 k_fill
 refine Ov.zS (l:=PySem.Challenge.rw_overhaul_k32_whole_order_kept) (n:=63) (k:=10) (x:="_law_script") (sp:=Ov.zG) ["good_name"] rfl (by decide) rfl ⟨rfl,by decide,by decide⟩ (fun w h Y=>PySem.W.kIn_of Y) ?Nm ?F (fun tabs K H a ns hl hT hS hA hK=>⟨a,ns,rfl,hS,hl,hT,hA,hK,fun _ e=>⟨rfl,e⟩⟩)
 case Nm=>decide +kernel
 case F =>
  intro w mg fa h KX G hmg
  have D_cell:Ov.Def (L2.bL KX) mg "_law_cell" Ov.oh:=by simp_arith
  have D_digits:Ov.Def (L2.bL KX) mg "_law_digits" Ov.jm:=by simp_arith
  have D_shared:Ov.Def (L2.bL KX) mg "shared" Ov.jl:=by simp_arith
  have D_fraction:Ov.Def (L2.bL KX) mg "fraction" Ov.fM:=by simp_arith
  have D_low:Ov.Def (L2.bL KX) mg "_law_low" Ov.ve:=by simp_arith
  have D_less:Ov.Def (L2.bL KX) mg "less" Ov.om:=by simp_arith
  have D_plus:Ov.Def (L2.bL KX) mg "plus" Ov.pG:=by simp_arith
  have D_minus:Ov.Def (L2.bL KX) mg "minus" Ov.la:=by simp_arith
  have D_times:Ov.Def (L2.bL KX) mg "times" Ov.kK:=by simp_arith
  obtain ⟨T_good_name,D_good_name⟩:∃ T,Ov.sW (L2.bL KX) mg "good_name" Ov.fi T:=by
   dsimp only [L2.bL]
   refine' ⟨_,Ov.A6 KX G ?ga ?gl ?gc ?gk ?gt ?gp ?gb ?ge ?go⟩
   (case ga=>k_is);(case gl=>k_is);(case gc=>k_is);(case gk=>k_is);(case gt=>k_is);(case gp=>rfl);(case gb=>kernel_rfl);(case ge=>decide);(case go=>kernel_rfl)
  have D_names:Ov.Def (L2.bL KX) mg "_law_names" Ov.gX:=by simp_arith
  have D_place_on:Ov.Def (L2.bL KX) mg "place_on" Ov.fZ:=by simp_arith
  have D_last_by:Ov.Def (L2.bL KX) mg "last_by" Ov.gP:=by simp_arith
  have D_lies_behind:Ov.Def (L2.bL KX) mg "lies_behind" Ov.dG:=by simp_arith
  have D_in_order:Ov.Def (L2.bL KX) mg "in_order" Ov.fV:=by simp_arith
  have D_rings_ahead:Ov.Def (L2.bL KX) mg "rings_ahead" Ov.dC:=by simp_arith
  have D_meeting:Ov.Def (L2.bL KX) mg "meeting" Ov.gM:=by simp_arith
  have D_in_lowest_terms:Ov.Def (L2.bL KX) mg "in_lowest_terms" Ov.cg:=by simp_arith
  have D_good_moment:Ov.Def (L2.bL KX) mg "good_moment" Ov.dD:=by simp_arith
  have D_whole:Ov.Def (L2.bL KX) mg "_law_whole" Ov.k7:=by simp_arith
  have D_part:Ov.Def (L2.bL KX) mg "_law_part" Ov.o5:=by simp_arith
  have D_words:Ov.Def (L2.bL KX) mg "_law_words" Ov.kY:=by simp_arith
  have D_word:Ov.Def (L2.bL KX) mg "_law_word" Ov.oI:=by simp_arith
  have D_placed:Ov.Def (L2.bL KX) mg "_law_placed" Ov.jy:=by simp_arith
  have D_paced:Ov.Def (L2.bL KX) mg "_law_paced" Ov.kH:=by simp_arith
  have D_at:Ov.Def (L2.bL KX) mg "_law_at" Ov.AI:=by simp_arith
  have D_later:Ov.Def (L2.bL KX) mg "_law_later" Ov.k8:=by simp_arith
  have D_before:Ov.Def (L2.bL KX) mg "_law_before" Ov.iR:=by simp_arith
  have D_order:Ov.Def (L2.bL KX) mg "_law_order" Ov.i5:=by simp_arith
  have D_told:Ov.Def (L2.bL KX) mg "_law_told" Ov.o7:=by simp_arith
  have D_acted:Ov.Def (L2.bL KX) mg "_law_acted" Ov.kZ:=by simp_arith
  have D_done:Ov.Def (L2.bL KX) mg "_law_done" Ov.oj:=by simp_arith
  have D_deed:Ov.Def (L2.bL KX) mg "_law_deed" Ov.lK:=by simp_arith
  have D_law:Ov.Def (L2.bL KX) mg "law" Ov.vt:=by simp_arith
  obtain ⟨c_Log,KD_Log,NA_Log_rows,NA_Log_gone,MD_Log___init__,MD_Log_turn,MD_Log_leave,MD_Log_there,MD_Log_leg_at⟩:∃ C,Ov.cQ (L2.bL KX) mg "Log" C∧L2.ay (L2.bL KX) C "rows"∧L2.ay (L2.bL KX) C "gone"∧Ov.bt (L2.bL KX) C "__init__" "Log.__init__" Ov.dh∧Ov.bt (L2.bL KX) C "turn" "Log.turn" Ov.f7∧Ov.bt (L2.bL KX) C "leave" "Log.leave" Ov.fj∧Ov.bt (L2.bL KX) C "there" "Log.there" Ov.fb∧Ov.bt (L2.bL KX) C "leg_at" "Log.leg_at" Ov.eg:=by
   dsimp only [L2.bL]
   refine' ⟨_,Ov.pL KX G ?a ?pg ?hd ?po ?sa ?mk ?kc,?n0,?n1,Ov.a_ ?m0a ?m0i ?m0l ?m0c ?m0k,Ov.a_ ?m1a ?m1i ?m1l ?m1c ?m1k,Ov.a_ ?m2a ?m2i ?m2l ?m2c ?m2k,Ov.a_ ?m3a ?m3i ?m3l ?m3c ?m3k,Ov.a_ ?m4a ?m4i ?m4l ?m4c ?m4k⟩
   (case a=>k_is);(case pg=>k_is);(case hd=>k_is);(case po=>k_is);(case sa=>k_is);(case mk=>k_is);(case kc=>k_is)
   (case n0=>(show PySem.W.findIn _ _ _=_;k_is))
   (case n1=>(show PySem.W.findIn _ _ _=_;k_is))
   (case m0a=>k_is);(case m0i=>k_is);(case m0l=>k_is);(case m0c=>k_is);(case m0k=>k_is)
   (case m1a=>k_is);(case m1i=>k_is);(case m1l=>k_is);(case m1c=>k_is);(case m1k=>k_is)
   (case m2a=>k_is);(case m2i=>k_is);(case m2l=>k_is);(case m2c=>k_is);(case m2k=>k_is)
   (case m3a=>k_is);(case m3i=>k_is);(case m3l=>k_is);(case m3c=>k_is);(case m3k=>k_is)
   (case m4a=>k_is);(case m4i=>k_is);(case m4l=>k_is);(case m4c=>k_is);(case m4k=>k_is)
  obtain ⟨c_Lane,KD_Lane,NA_Lane_now,NA_Lane_logs,NA_Lane_row,MD_Lane___init__,MD_Lane_must_be_there,MD_Lane_leg_of,MD_Lane_settle,MD_Lane_join,MD_Lane_clock,MD_Lane_order,MD_Lane_rank,MD_Lane_name_at,MD_Lane_place,MD_Lane_meets,MD_Lane_foretold,MD_Lane_go_to,MD_Lane_turn,MD_Lane_about,MD_Lane_leave⟩:∃ C,Ov.cQ (L2.bL KX) mg "Lane" C∧L2.ay (L2.bL KX) C "now"∧L2.ay (L2.bL KX) C "logs"∧L2.ay (L2.bL KX) C "row"∧Ov.bt (L2.bL KX) C "__init__" "Lane.__init__" Ov.cV∧Ov.bt (L2.bL KX) C "must_be_there" "Lane.must_be_there" Ov.bM∧Ov.bt (L2.bL KX) C "leg_of" "Lane.leg_of" Ov.dF∧Ov.bt (L2.bL KX) C "settle" "Lane.settle" Ov.cU∧Ov.bt (L2.bL KX) C "join" "Lane.join" Ov.fg∧Ov.bt (L2.bL KX) C "clock" "Lane.clock" Ov.d9∧Ov.bt (L2.bL KX) C "order" "Lane.order" Ov.d6∧Ov.bt (L2.bL KX) C "rank" "Lane.rank" Ov.e8∧Ov.bt (L2.bL KX) C "name_at" "Lane.name_at" Ov.df∧Ov.bt (L2.bL KX) C "place" "Lane.place" Ov.ed∧Ov.bt (L2.bL KX) C "meets" "Lane.meets" Ov.d3∧Ov.bt (L2.bL KX) C "foretold" "Lane.foretold" Ov.cW∧Ov.bt (L2.bL KX) C "go_to" "Lane.go_to" Ov.dZ∧Ov.bt (L2.bL KX) C "turn" "Lane.turn" Ov.e_∧Ov.bt (L2.bL KX) C "about" "Lane.about" Ov.d4∧Ov.bt (L2.bL KX) C "leave" "Lane.leave" Ov.eh:=by
   dsimp only [L2.bL]
   refine' ⟨_,Ov.pL KX G ?a ?pg ?hd ?po ?sa ?mk ?kc,?n0,?n1,?n2,Ov.a_ ?m0a ?m0i ?m0l ?m0c ?m0k,Ov.a_ ?m1a ?m1i ?m1l ?m1c ?m1k,Ov.a_ ?m2a ?m2i ?m2l ?m2c ?m2k,Ov.a_ ?m3a ?m3i ?m3l ?m3c ?m3k,Ov.a_ ?m4a ?m4i ?m4l ?m4c ?m4k,Ov.a_ ?m5a ?m5i ?m5l ?m5c ?m5k,Ov.a_ ?m6a ?m6i ?m6l ?m6c ?m6k,Ov.a_ ?m7a ?m7i ?m7l ?m7c ?m7k,Ov.a_ ?m8a ?m8i ?m8l ?m8c ?m8k,Ov.a_ ?m9a ?m9i ?m9l ?m9c ?m9k,Ov.a_ ?m10a ?m10i ?m10l ?m10c ?m10k,Ov.a_ ?m11a ?m11i ?m11l ?m11c ?m11k,Ov.a_ ?m12a ?m12i ?m12l ?m12c ?m12k,Ov.a_ ?m13a ?m13i ?m13l ?m13c ?m13k,Ov.a_ ?m14a ?m14i ?m14l ?m14c ?m14k,Ov.a_ ?m15a ?m15i ?m15l ?m15c ?m15k⟩
   (case a=>k_is);(case pg=>k_is);(case hd=>k_is);(case po=>k_is);(case sa=>k_is);(case mk=>k_is);(case kc=>k_is)
   (case n0=>(show PySem.W.findIn _ _ _=_;k_is))
   (case n1=>(show PySem.W.findIn _ _ _=_;k_is))
   (case n2=>(show PySem.W.findIn _ _ _=_;k_is))
   (case m0a=>k_is);(case m0i=>k_is);(case m0l=>k_is);(case m0c=>k_is);(case m0k=>k_is)
   (case m1a=>k_is);(case m1i=>k_is);(case m1l=>k_is);(case m1c=>k_is);(case m1k=>k_is)
   (case m2a=>k_is);(case m2i=>k_is);(case m2l=>k_is);(case m2c=>k_is);(case m2k=>k_is)
   (case m3a=>k_is);(case m3i=>k_is);(case m3l=>k_is);(case m3c=>k_is);(case m3k=>k_is)
   (case m4a=>k_is);(case m4i=>k_is);(case m4l=>k_is);(case m4c=>k_is);(case m4k=>k_is)
   (case m5a=>k_is);(case m5i=>k_is);(case m5l=>k_is);(case m5c=>k_is);(case m5k=>k_is)
   (case m6a=>k_is);(case m6i=>k_is);(case m6l=>k_is);(case m6c=>k_is);(case m6k=>k_is)
   (case m7a=>k_is);(case m7i=>k_is);(case m7l=>k_is);(case m7c=>k_is);(case m7k=>k_is)
   (case m8a=>k_is);(case m8i=>k_is);(case m8l=>k_is);(case m8c=>k_is);(case m8k=>k_is)
   (case m9a=>k_is);(case m9i=>k_is);(case m9l=>k_is);(case m9c=>k_is);(case m9k=>k_is)
   (case m10a=>k_is);(case m10i=>k_is);(case m10l=>k_is);(case m10c=>k_is);(case m10k=>k_is)
   (case m11a=>k_is);(case m11i=>k_is);(case m11l=>k_is);(case m11c=>k_is);(case m11k=>k_is)
   (case m12a=>k_is);(case m12i=>k_is);(case m12l=>k_is);(case m12c=>k_is);(case m12k=>k_is)
   (case m13a=>k_is);(case m13i=>k_is);(case m13l=>k_is);(case m13c=>k_is);(case m13k=>k_is)
   (case m14a=>k_is);(case m14i=>k_is);(case m14l=>k_is);(case m14c=>k_is);(case m14k=>k_is)
   (case m15a=>k_is);(case m15i=>k_is);(case m15l=>k_is);(case m15c=>k_is);(case m15k=>k_is)
  obtain ⟨c_Bells,KD_Bells,NA_Bells_rows,MD_Bells___init__,MD_Bells_drop,MD_Bells_put,MD_Bells_told⟩:∃ C,Ov.cQ (L2.bL KX) mg "Bells" C∧L2.ay (L2.bL KX) C "rows"∧Ov.bt (L2.bL KX) C "__init__" "Bells.__init__" Ov.cF∧Ov.bt (L2.bL KX) C "drop" "Bells.drop" Ov.dn∧Ov.bt (L2.bL KX) C "put" "Bells.put" Ov.e9∧Ov.bt (L2.bL KX) C "told" "Bells.told" Ov.d5:=by
   dsimp only [L2.bL]
   refine' ⟨_,Ov.pL KX G ?a ?pg ?hd ?po ?sa ?mk ?kc,?n0,Ov.a_ ?m0a ?m0i ?m0l ?m0c ?m0k,Ov.a_ ?m1a ?m1i ?m1l ?m1c ?m1k,Ov.a_ ?m2a ?m2i ?m2l ?m2c ?m2k,Ov.a_ ?m3a ?m3i ?m3l ?m3c ?m3k⟩
   (case a=>k_is);(case pg=>k_is);(case hd=>k_is);(case po=>k_is);(case sa=>k_is);(case mk=>k_is);(case kc=>k_is)
   (case n0=>(show PySem.W.findIn _ _ _=_;k_is))
   (case m0a=>k_is);(case m0i=>k_is);(case m0l=>k_is);(case m0c=>k_is);(case m0k=>k_is)
   (case m1a=>k_is);(case m1i=>k_is);(case m1l=>k_is);(case m1c=>k_is);(case m1k=>k_is)
   (case m2a=>k_is);(case m2i=>k_is);(case m2l=>k_is);(case m2c=>k_is);(case m2k=>k_is)
   (case m3a=>k_is);(case m3i=>k_is);(case m3l=>k_is);(case m3c=>k_is);(case m3k=>k_is)
  have Z:Ov.bD mg:=by
   refine' ⟨Ov.xj.mk (PySem.W.mg_none_of KX G ?z0) (PySem.W.mg_none_of KX G ?z1) (PySem.W.mg_none_of KX G ?z2) (PySem.W.mg_none_of KX G ?z3) (PySem.W.mg_none_of KX G ?z4) (PySem.W.mg_none_of KX G ?z5) (PySem.W.mg_none_of KX G ?z6) (PySem.W.mg_none_of KX G ?z7) (PySem.W.mg_none_of KX G ?z8) (PySem.W.mg_none_of KX G ?z9),PySem.W.mg_none_of KX G ?w0,PySem.W.mg_none_of KX G ?w1,PySem.W.mg_none_of KX G ?w2,PySem.W.mg_none_of KX G ?w3,PySem.W.mg_none_of KX G ?w4⟩
   (case z0=>k_is);(case z1=>k_is);(case z2=>k_is);(case z3=>k_is);(case z4=>k_is);(case z5=>k_is);(case z6=>k_is);(case z7=>k_is);(case z8=>k_is);(case z9=>k_is);(case w0=>k_is);(case w1=>k_is);(case w2=>k_is);(case w3=>k_is);(case w4=>k_is)
  have N:Ov.l9 (L2.bL KX) mg:=by
   dsimp only [L2.bL]
   refine' Ov.wH KX G ?a ?l
   (case a=>k_is);(case l=>k_is)
  obtain ⟨e_BadMoment,O_BadMoment⟩:∃ C,Ov.Own (L2.bL KX) mg "BadMoment" C:=by
   dsimp only [L2.bL]
   refine' ⟨_,Ov.gq KX G ?a ?b⟩
   (case a=>k_is);(case b=>kernel_rfl)
  obtain ⟨e_BadName,O_BadName⟩:∃ C,Ov.Own (L2.bL KX) mg "BadName" C:=by
   dsimp only [L2.bL]
   refine' ⟨_,Ov.gq KX G ?a ?b⟩
   (case a=>k_is);(case b=>kernel_rfl)
  obtain ⟨e_Full,O_Full⟩:∃ C,Ov.Own (L2.bL KX) mg "Full" C:=by
   dsimp only [L2.bL]
   refine' ⟨_,Ov.gq KX G ?a ?b⟩
   (case a=>k_is);(case b=>kernel_rfl)
  obtain ⟨e_NoCraft,O_NoCraft⟩:∃ C,Ov.Own (L2.bL KX) mg "NoCraft" C:=by
   dsimp only [L2.bL]
   refine' ⟨_,Ov.gq KX G ?a ?b⟩
   (case a=>k_is);(case b=>kernel_rfl)
  obtain ⟨e_NotThere,O_NotThere⟩:∃ C,Ov.Own (L2.bL KX) mg "NotThere" C:=by
   dsimp only [L2.bL]
   refine' ⟨_,Ov.gq KX G ?a ?b⟩
   (case a=>k_is);(case b=>kernel_rfl)
  obtain ⟨e_Past,O_Past⟩:∃ C,Ov.Own (L2.bL KX) mg "Past" C:=by
   dsimp only [L2.bL]
   refine' ⟨_,Ov.gq KX G ?a ?b⟩
   (case a=>k_is);(case b=>kernel_rfl)
  obtain ⟨e_Taken,O_Taken⟩:∃ C,Ov.Own (L2.bL KX) mg "Taken" C:=by
   dsimp only [L2.bL]
   refine' ⟨_,Ov.gq KX G ?a ?b⟩
   (case a=>k_is);(case b=>kernel_rfl)
  obtain ⟨e_TooFar,O_TooFar⟩:∃ C,Ov.Own (L2.bL KX) mg "TooFar" C:=by
   dsimp only [L2.bL]
   refine' ⟨_,Ov.gq KX G ?a ?b⟩
   (case a=>k_is);(case b=>kernel_rfl)
  obtain ⟨t_FARTHEST,g_FARTHEST⟩:∃ t,mg "FARTHEST"=some (.int 1000000 t):=by
   refine' Ov.const_int KX G ?cz ?cw
   (case cz=>k_is);(case cw=>kernel_rfl)
  obtain ⟨t_FASTEST,g_FASTEST⟩:∃ t,mg "FASTEST"=some (.int 1000 t):=by
   refine' Ov.const_int KX G ?cz ?cw
   (case cz=>k_is);(case cw=>kernel_rfl)
  obtain ⟨t_FINEST,g_FINEST⟩:∃ t,mg "FINEST"=some (.int 60 t):=by
   refine' Ov.const_int KX G ?cz ?cw
   (case cz=>k_is);(case cw=>kernel_rfl)
  obtain ⟨t_LATEST,g_LATEST⟩:∃ t,mg "LATEST"=some (.int 1000000 t):=by
   refine' Ov.const_int KX G ?cz ?cw
   (case cz=>k_is);(case cw=>kernel_rfl)
  obtain ⟨t_LONGEST,g_LONGEST⟩:∃ t,mg "LONGEST"=some (.int 8 t):=by
   refine' Ov.const_int KX G ?cz ?cw
   (case cz=>k_is);(case cw=>kernel_rfl)
  obtain ⟨t_MOST,g_MOST⟩:∃ t,mg "MOST"=some (.int 12 t):=by
   refine' Ov.const_int KX G ?cz ?cw
   (case cz=>k_is);(case cw=>kernel_rfl)
  obtain ⟨t_SIGNS,g_SIGNS⟩:∃ t,mg "SIGNS"=some (.str "abcdefghijklmnopqrstuvwxyz0123456789" t):=by
   refine' Ov.wX KX G ?cz ?cw
   (case cz=>k_is);(case cw=>kernel_rfl)
  obtain ⟨fd,F,hb⟩:=Ov.Ez D_law hmg (fun _ _ _ _ _ _ _=>rfl)
  exact ⟨fd,[T_good_name],hb,(fun T hT=>by simp only [List.mem_cons,List.not_mem_nil,or_false] at hT;rcases hT with rfl <;> first | exact ⟨_,by simp,_,D_good_name⟩),fun base _ _ Bm=>Ov.wg (Ov.Ey Z N g_FARTHEST g_FASTEST g_FINEST g_LATEST g_LONGEST g_MOST g_SIGNS O_BadMoment O_BadName O_Full O_NoCraft O_NotThere O_Past O_Taken O_TooFar KD_Log KD_Lane KD_Bells NA_Log_rows NA_Log_gone NA_Lane_now NA_Lane_logs NA_Lane_row NA_Bells_rows D_cell D_digits D_shared D_fraction D_low D_less D_plus D_minus D_times D_good_name D_names D_place_on D_last_by D_lies_behind D_in_order D_rings_ahead D_meeting D_in_lowest_terms D_good_moment D_whole D_part D_words D_word D_placed D_paced D_at D_later D_before D_order D_told D_acted D_done D_deed MD_Log___init__ MD_Log_turn MD_Log_leave MD_Log_there MD_Log_leg_at MD_Lane___init__ MD_Lane_must_be_there MD_Lane_leg_of MD_Lane_settle MD_Lane_join MD_Lane_clock MD_Lane_order MD_Lane_rank MD_Lane_name_at MD_Lane_place MD_Bells___init__ MD_Bells_drop MD_Bells_put MD_Bells_told MD_Lane_meets MD_Lane_foretold MD_Lane_go_to MD_Lane_turn MD_Lane_about MD_Lane_leave F base Bm)⟩
