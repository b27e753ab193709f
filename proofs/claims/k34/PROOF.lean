import PyProof.Rows.All
import Wide.All
import OpenK.AllK
import Wide.FinOn
import Lean
import PyProof.EqAt
import PyProof.EqKinds
import PyProof.TupleCall
import PyProof.NeKinds
import PyProof.CompFree
import PyProof.ListRange
import PyProof.Rows.SortWalk
import PyProof.ExcArgsOwn
import PyProof.ExcAttrAll.ValueError
import KE.KTryMore
import PyProof.GenCompD
import PyProof.StrWalks
import PyProof.ConsumeS
import PyProof.StrOps2
import PyProof.CompMap
import KE.KRevIter
import PyProof.ZipIter
import PyProof.DictWalks
import PyProof.DictCompW
import PyProof.DictRoads
import PyProof.MeetsDictList
import KE.KDictList
import PyProof.EnumFor
import PyProof.EnumMake
import PyProof.WalksEnum
import PySem.Challenge.RW_overhaul_k34_whole_passings_told
noncomputable section
set_option Elab.async false
set_option linter.all false
set_option maxRecDepth 100000
namespace L2
open PySem PySem.Spec PyProof.Rows
abbrev Key:=Sum Int Str
def B4:Key→Value→Bool
 | .inl k,v=>Value.isInt k v
 | .inr x,v=>Value.isStrOf x v
def Ht (w:World):Key→Int
 | .inl k=>hashInt k
 | .inr x=>hashStr w x
theorem bN:∀ {k:Key} {v:Value},B4 k v=true→(∃ i t,k=Sum.inl i∧v=Value.int i t)∨(∃ x t,k=Sum.inr x∧v=Value.str x t)
 | .inl i,v,h=>by
  obtain ⟨t,e⟩:=Value.isInt_shape (k:=i) (v:=v) h
  exact .inl ⟨i,t,rfl,e⟩
 | .inr x,v,h=>by
  obtain ⟨t,e⟩:=Value.isStrOf_shape (x:=x) (v:=v) h
  exact .inr ⟨x,t,rfl,e⟩
theorem Dd (a b:Int):decide ((Sum.inl a:Key)=Sum.inl b)=(a == b):=by
 by_cases e:a=b
 ·subst e;simp
 ·have h:¬ (Sum.inl a:Key)=Sum.inl b:=fun q=>e (Sum.inl.inj q)
  rw [decide_eq_false h]
  exact (beq_eq_false_iff_ne.mpr e).symm
theorem Dg (a b:Str):decide ((Sum.inr a:Key)=Sum.inr b)=decide (a=b):=by
 by_cases e:a=b
 ·subst e;simp
 ·have h:¬ (Sum.inr a:Key)=Sum.inr b:=fun q=>e (Sum.inr.inj q)
  rw [decide_eq_false h,decide_eq_false e]
theorem De (a:Int) (b:Str):decide ((Sum.inl a:Key)=Sum.inr b)=false:=decide_eq_false (fun q=>nomatch q)
theorem Df (a:Str) (b:Int):decide ((Sum.inr a:Key)=Sum.inl b)=false:=decide_eq_false (fun q=>nomatch q)
def AF (prog:Program) (w:World):PySem.KeyKind prog w Key where
 is:=B4
 hash:=Ht w
 inj:=fun v a b ha hb=>by
  rcases bN ha with ⟨i,t,rfl,rfl⟩ | ⟨x,t,rfl,rfl⟩
  ·rcases bN hb with ⟨j,u,rfl,e⟩ | ⟨y,u,rfl,e⟩
   ·injection e with e1 _;rw [e1]
   ·exact nomatch e
  ·rcases bN hb with ⟨j,u,rfl,e⟩ | ⟨y,u,rfl,e⟩
   ·exact nomatch e
   ·injection e with e1 _;rw [e1]
 byValue:=fun k v h=>by
  rcases bN h with ⟨i,t,rfl,rfl⟩ | ⟨x,t,rfl,rfl⟩ <;> rfl
 pyHash:=fun hv h=>by
  rcases bN hv with ⟨i,t,rfl,rfl⟩ | ⟨x,t,rfl,rfl⟩
  ·exact wpAny_pyHash_int h
  ·exact wpAny_pyHash_str h
 eqBool:=fun hu hv h=>by
  rcases bN hu with ⟨i,t,rfl,rfl⟩ | ⟨x,t,rfl,rfl⟩
  ·rcases bN hv with ⟨j,u,rfl,rfl⟩ | ⟨y,u,rfl,rfl⟩
   ·rw [Dd] at h;exact wpAny_eqBool_int h
   ·rw [De] at h;exact SeqAt.EqAt.int_str i t y u _ _ _ _ h
  ·rcases bN hv with ⟨j,u,rfl,rfl⟩ | ⟨y,u,rfl,rfl⟩
   ·rw [Df] at h;exact SeqAt.EqAt.str_int x t j u _ _ _ _ h
   ·rw [Dg] at h;exact wpAny_eqBool_str h
 «strs»:=fun k x t v h=>by
  rcases bN h with ⟨i,u,rfl,e⟩ | ⟨y,u,rfl,e⟩
  ·exact nomatch e
  ·injection e with e1 _
   subst e1
   cases v <;> rfl
end L2
namespace L2
open PySem PySem.Spec PyProof.Rows
inductive V where
 | non | bl (b:Bool) | int (i:Int) | str (x:Str) | byt (b:Array UInt8) | flt (b:UInt64) | ref (a:Addr) | ty (n:String)
 deriving DecidableEq
def RelV:V→Value→Prop
 | .non,u=>u=Value.none
 | .bl b,u=>u=Value.bool b
 | .int i,u=>∃ t,u=Value.int i t
 | .str x,u=>∃ t,u=Value.str x t
 | .byt b,u=>∃ t,u=Value.bytes b t
 | .flt b,u=>∃ t,u=Value.float b t
 | .ref a,u=>u=Value.ref a
 | .ty n,u=>u=Value.type n
abbrev Vals:List V→List Value→Prop:=Paired RelV
theorem Vals.length {xs:List V} {us:List Value} (r:Vals xs us):xs.length=us.length:=Paired.length r
theorem Vals.get:∀ {xs:List V} {us:List Value} {i:Nat} {x:V},Vals xs us→xs[i]?=some x→∃ u,us[i]?=some u∧RelV x u
 | _,_,_,_,.nil,e=>by simp at e
 | _,_,0,_,.cons r _,e=>by simp at e;subst e;exact ⟨_,rfl,r⟩
 | _,_,i + 1,x,.cons _ t,e=>by
  obtain ⟨u,h1,h2⟩:=Vals.get (i:=i) (x:=x) t (by simpa using e)
  exact ⟨u,by simpa using h1,h2⟩
theorem Vals.set {x:V} {u:Value} (r:RelV x u):∀ {xs:List V} {us:List Value} (i:Nat),Vals xs us→Vals (xs.set i x) (us.set i u)
 | _,_,_,.nil=>.nil
 | _,_,0,.cons _ t=>.cons r t
 | _,_,i + 1,.cons q t=>.cons q (Vals.set r i t)
theorem Vals.append:∀ {xs ys:List V} {us ws:List Value},Vals xs us→Vals ys ws→Vals (xs ++ ys) (us ++ ws)
 | _,_,_,_,.nil,s=>s
 | _,_,_,_,.cons r t,s=>.cons r (Vals.append t s)
theorem Vals.take:∀ {xs:List V} {us:List Value} (n:Nat),Vals xs us→Vals (xs.take n) (us.take n)
 | _,_,0,_=>.nil
 | _,_,_ + 1,.nil=>.nil
 | _,_,n + 1,.cons r t=>.cons r (Vals.take n t)
theorem Vals.drop:∀ {xs:List V} {us:List Value} (n:Nat),Vals xs us→Vals (xs.drop n) (us.drop n)
 | _,_,0,r=>r
 | _,_,_ + 1,.nil=>.nil
 | _,_,n + 1,.cons _ t=>Vals.drop n t
theorem Vals.none_of:∀ {xs:List V} {us:List Value} {i:Nat},Vals xs us→xs[i]?=none→us[i]?=none:=fun {xs us i} r e=>by
 have h1:=r.length
 have h2:xs.length≤i:=List.getElem?_eq_none_iff.mp e
 exact List.getElem?_eq_none_iff.mpr (by omega)
def mK:Option V→Option Value→Prop
 | some v,some u=>RelV v u
 | none,none=>True
 | _,_=>False
def KV {κ:Type}:List (κ × V)→List (κ × Value)→Prop:=Paired fun (p:κ × V) (q:κ × Value)=>p.1=q.1∧RelV p.2 q.2
def kV:Key→V
 | .inl i=>.int i
 | .inr x=>.str x
inductive HO where
 | lst (xs:List V)
 | tup (xs:List V)
 | dK (kvs:List (Key × V)) | dE (kvs:List (Str × V)) (ep:Nat)
 | set (S:Int→Bool) (n:Nat)
 | ins (C dx:Addr) (fs:List (Str × V))
 | own (x:Addr)
 | xd (fs:List (Str × V))
 | met (f x:Addr)
 | Et (lo hi:Int)
 | mF (o:Obj) (u:HO)
 | tbl (ps:Array Value)
 | ext (φ:Heap→Prop)
abbrev Hp:=Addr→Option HO
def upd (H:Hp) (a:Addr) (o:HO):Hp:=fun b=>if b=a then some o else H b
theorem az {H:Hp} {a:Addr} {o:HO}:upd H a o a=some o:=by unfold upd;rw [if_pos rfl]
theorem aG {H:Hp} {a b:Addr} {o:HO} (h:b≠a):upd H a o b=H b:=by unfold upd;rw [if_neg h]
theorem bG {H:Hp} {a b:Addr} {o:HO} (h:H a=some o) (h':H b=none):a≠b:=by
 intro e;subst e;rw [h] at h';cases h'
section
variable (P:Program) (w:World)
def b_ (H:Hp) (h:Heap) (a:Addr):HO→Prop
 | .lst xs=>xs.length≤sizeLine∧∃ (its:List Value) (n:Nat),Vals xs its∧h.get? a=some { cls:=.type "list",data:=.seq its.toArray n }
 | .tup xs=>xs.length≤sizeLine∧∃ its:List Value,Vals xs its∧IsTup h a its.toArray
 | .dK kvs=>kvs.length≤sizeLine∧(a == sysModules)=false∧∃ vs,KV kvs vs∧h.DictOf (AF P w) a vs
 | .dE kvs ep=>kvs.length≤sizeLine∧(a == sysModules)=false∧∃ vs,KV kvs vs∧h.DictAt (strKind P w) a vs ep
 | .set S n=>h.SetOf (intKind P w) a S n
 | .ins C dx fs=>H dx=some (.own a)∧fs.length≤1000∧dx≠a∧h.get? a=some (PySem.W.instObj C dx) ∧
   ∃ mA,h.Ns1 dx mA∧(∀ f,mK (fs.lookup f) (mA f))∧PySem.Within mA (fs.map (·.1))
 | .own _=>∃ o,h.get? a=some o
 | .xd fs=>∃ mA,h.Ns1 a mA∧∀ f,mK (fs.lookup f) (mA f)
 | .Et lo hi=>∃ t u v,h.get? a=some { cls:=.type "range",data:=.fields #[.int lo t,.int hi u,.int 1 v] }
 | .mF o u=>h.get? a=some o∧b_ H h a u
 | .tbl ps=>h.get? a=some { cls:=.none,data:=.fields ps }
 | .met f x=>h.get? a=some (PySem.W.methodObj (.ref f) (.ref x))
 | .ext φ=>φ h∧(∃ o,h.get? a=some o)∧∀ h1 h2:Heap,φ h1→(∀ o,h1.get? a=some o→h2.get? a=some o)→φ h2
def iQ (H:Hp) (h:Heap):Prop:=∀ a o,H a=some o→b_ P w H h a o
end
section
variable {P:Program} {w:World} {H H':Hp} {h h':Heap} {a:Addr} {o:HO}
theorem b_.lt (x:b_ P w H h a o):a < h.objs.size:=by
 cases o with
 | lst xs=>obtain ⟨_,_,_,_,e⟩:=x;exact Heap.lt_size e
 | tup xs=>obtain ⟨_,_,_,p⟩:=x;exact p.lt
 | dK kvs=>obtain ⟨_,_,_,_,o,_,_,e,_⟩:=x;exact Heap.lt_size e
 | dE kvs ep=>obtain ⟨_,_,_,_,o,_,e,_⟩:=x;exact Heap.lt_size e
 | set S n=>obtain ⟨o,_,_,_,e,_⟩:=x;exact Heap.lt_size e
 | ins C dx fs=>obtain ⟨_,_,_,e,_⟩:=x;exact Heap.lt_size e
 | own y=>obtain ⟨_,e⟩:=x;exact Heap.lt_size e
 | xd fs=>obtain ⟨_,⟨_,_,_,e,_⟩,_⟩:=x;exact Heap.lt_size e
 | Et lo hi=>obtain ⟨_,_,_,e⟩:=x;exact Heap.lt_size e
 | mF ob u=>obtain ⟨e,_⟩:=x;exact Heap.lt_size e
 | tbl ps=>exact Heap.lt_size (show h.get? a=some _ from x)
 | met f y=>exact Heap.lt_size (show h.get? a=some _ from x)
 | ext φ=>obtain ⟨_,⟨_,e⟩,_⟩:=x;exact Heap.lt_size e
theorem b_.ig (x:b_ P w H h a o) (k:∀ b u,(b=a∨H b=some (.own a))→h.get? b=some u→h'.get? b=some u)
  (ho:∀ b,H b=some (.own a)→H' b=some (.own a)) (ht:∀ b xs,H b=some (.tup xs)→H' b=some (.tup xs)):b_ P w H' h' a o:=by
 induction o with
 | lst xs=>obtain ⟨z,its,n,r,e⟩:=x;exact ⟨z,its,n,r,k _ _ (.inl rfl) e⟩
 | tup xs=>obtain ⟨z,its,r,ob,e,c⟩:=x;exact ⟨z,its,r,ob,k _ _ (.inl rfl) e,c⟩
 | dK kvs=>obtain ⟨z,y,vs,r,ob,es,ep,e,c⟩:=x;exact ⟨z,y,vs,r,ob,es,ep,k _ _ (.inl rfl) e,c⟩
 | dE kvs ep=>obtain ⟨z,y,vs,r,ob,es,e,c⟩:=x;exact ⟨z,y,vs,r,ob,es,k _ _ (.inl rfl) e,c⟩
 | set S n=>obtain ⟨ob,es,ep,t,e,c⟩:=x;exact ⟨ob,es,ep,t,k _ _ (.inl rfl) e,c⟩
 | ins C dx fs =>
  obtain ⟨d,z,ne,e,mA,⟨od,es,ep,e2,c⟩,r⟩:=x
  exact ⟨ho _ d,z,ne,k _ _ (.inl rfl) e,mA,⟨od,es,ep,k _ _ (.inr d) e2,c⟩,r⟩
 | own y=>obtain ⟨ob,e⟩:=x;exact ⟨ob,k _ _ (.inl rfl) e⟩
 | xd fs=>obtain ⟨mA,⟨od,es,ep,e,c⟩,r⟩:=x;exact ⟨mA,⟨od,es,ep,k _ _ (.inl rfl) e,c⟩,r⟩
 | Et lo hi=>obtain ⟨t,u,v,e⟩:=x;exact ⟨t,u,v,k _ _ (.inl rfl) e⟩
 | mF ob u ih=>obtain ⟨e,q⟩:=x;exact ⟨k _ _ (.inl rfl) e,ih q⟩
 | tbl ps =>
  have e:h.get? a=some { cls:=.none,data:=.fields ps }:=x
  show h'.get? a=some { cls:=.none,data:=.fields ps }
  exact k a _ (.inl rfl) e
 | met f y =>
  have e:h.get? a=some (PySem.W.methodObj (.ref f) (.ref y)):=x
  show h'.get? a=some (PySem.W.methodObj (.ref f) (.ref y))
  exact k a _ (.inl rfl) e
 | ext φ=>obtain ⟨p,⟨o,e⟩,st⟩:=x;exact ⟨st _ _ p fun o q=>k _ _ (.inl rfl) q,⟨o,k _ _ (.inl rfl) e⟩,st⟩
theorem iQ.lt (x:iQ P w H h) (e:H a=some o):a < h.objs.size:=(x a o e).lt
theorem iQ.fresh (x:iQ P w H h) (e:h.objs.size≤a):H a=none:=by
 cases q:H a with
 | none=>rfl
 | some u=>exact absurd (Nat.lt_of_lt_of_le (x.lt q) e) (Nat.lt_irrefl _)
theorem iQ.kept (x:iQ P w H h) (k:∀ b u,h.get? b=some u→h'.get? b=some u):iQ P w H h':=fun a o e =>
 (x a o e).ig (fun b u _ q=>k b u q) (fun _ q=>q) fun _ _ q=>q
theorem iQ.laid (x:iQ P w H h) (k:∀ b u,h.get? b=some u→h'.get? b=some u) (hp:h.objs.size≤a) (new:b_ P w (upd H a o) h' a o):iQ P w (upd H a o) h':=fun b u e=>by
 have hn:=x.fresh hp
 by_cases hb:b=a
 ·subst hb;rw [az] at e;cases e;exact new
 ·rw [aG hb] at e
  exact (x b u e).ig (fun c v _ q=>k c v q) (fun c q=>by rw [aG (bG q hn)];exact q) fun c xs q=>by rw [aG (bG q hn)];exact q
end
def Rd (H:Hp) (a:Addr) (u:HO):Prop:=H a=some u∨∃ o,H a=some (.mF o u)
theorem Rd.of {H:Hp} {a:Addr} {u:HO} (h:H a=some u):Rd H a u:=.inl h
theorem Rd.ok {P:Program} {w:World} {H:Hp} {h:Heap} {a:Addr} {u:HO} (r:Rd H a u) (x:iQ P w H h):b_ P w H h a u:=by
 rcases r with r | ⟨o,r⟩
 ·exact x a u r
 ·obtain ⟨_,q⟩:=x a _ r
  exact q
def GF:Option HO→Prop
 | some (.lst _)=>True
 | some (.dK _)=>True
 | some (.dE _ _)=>True
 | some (.set _ _)=>True
 | some (.ins _ _ _)=>True
 | some (.ext _)=>True
 | _=>False
section
variable {P:Program} {w:World} {H:Hp} {h h':Heap} {x e:Addr} {o':HO}
theorem iQ.write (ok:iQ P w H h) (mu:GF (H x)) (he:e=x∨H e=some (.own x)) (k:∀ b u,b≠e→h.get? b=some u→h'.get? b=some u) (heo:∃ u,h'.get? e=some u)
  (new:b_ P w (upd H x o') h' x o'):iQ P w (upd H x o') h':=fun b u q=>by
 have nown:∀ c y,H c=some (.own y)→c≠x:=fun c y r z=>by subst z;rw [r] at mu;exact mu
 have ntup:∀ c xs,H c=some (.tup xs)→c≠x:=fun c xs r z=>by subst z;rw [r] at mu;exact mu
 by_cases hb:b=x
 ·subst hb;rw [az] at q;cases q;exact new
 ·rw [aG hb] at q
  by_cases hbe:b=e
  ·have q':H b=some (.own x):=by
    rcases he with z | z
    ·exact absurd (hbe.trans z) hb
    ·rw [hbe];exact z
   rw [q] at q';cases q'
   obtain ⟨v,hv⟩:=heo
   exact ⟨v,by rw [hbe];exact hv⟩
  ·refine (ok b u q).ig (fun c v hc r=>k c v ?_ r) (fun c r=>by rw [aG (nown c b r)];exact r) fun c xs r=>by rw [aG (ntup c xs r)];exact r
   rcases hc with rfl | hc
   ·exact hbe
   ·rintro rfl
    rcases he with z | z
    ·exact nown c b hc z
    ·rw [hc] at z;cases z;exact hb rfl
end
structure Un (fs ex:List Addr) (H H':Hp) (h h':Heap):Prop where
 keep:∀ b o,h.get? b=some o→H b=none→b ∉ fs→b ∉ ex→h'.get? b=some o
 slot:∀ b o,h.get? b=some o→H b=none→b∈fs→b ∉ ex→∃ sl,h'.get? b=some { o with slots:=sl }
 free:∀ b o,h.get? b=some o→H b=none→b ∉ ex→H' b=none
 there:∀ b o,h.get? b=some o→b ∉ ex→∃ o',h'.get? b=some o'
 tups:∀ b xs,H b=some (.tup xs)→H' b=some (.tup xs)
 frzs:∀ b o u,H b=some (.mF o u)→H' b=some (.mF o u)
 tbls:∀ b ps,H b=some (.tbl ps)→∃ more,H' b=some (.tbl (ps ++ more))
section
variable {fs fs' ex ex':List Addr} {H H1 H2:Hp} {h h1 h2 h':Heap} {a x e:Addr} {o:HO}
theorem Un.any (u:Un fs ex H H1 h h1) {b:Addr} {ob:Obj} (q:h.get? b=some ob) (n:H b=none) (hx:b ∉ ex):∃ sl,h1.get? b=some { ob with slots:=sl }:=by
 by_cases hb:b∈fs
 ·exact u.slot b ob q n hb hx
 ·exact ⟨ob.slots,u.keep b ob q n hb hx⟩
theorem Un.trans (a:Un fs ex H H1 h h1) (b:Un fs ex H1 H2 h1 h2):Un fs ex H H2 h h2 where
 keep:=fun c ob q n hc hx=>b.keep c ob (a.keep c ob q n hc hx) (a.free c ob q n hx) hc hx
 slot:=fun c ob q n hc hx=>by
  obtain ⟨sl,e1⟩:=a.slot c ob q n hc hx
  obtain ⟨sl',e2⟩:=b.slot c _ e1 (a.free c ob q n hx) hc hx
  exact ⟨sl',e2⟩
 free:=fun c ob q n hx=>by
  obtain ⟨o',e1⟩:=a.there c ob q hx
  exact b.free c o' e1 (a.free c ob q n hx) hx
 there:=fun c ob q hx=>by
  obtain ⟨o',e1⟩:=a.there c ob q hx
  exact b.there c o' e1 hx
 tups:=fun c xs q=>b.tups c xs (a.tups c xs q)
 frzs:=fun c ob xs q=>b.frzs c ob xs (a.frzs c ob xs q)
 tbls:=fun c ps q=>by
  obtain ⟨m1,e1⟩:=a.tbls c ps q
  obtain ⟨m2,e2⟩:=b.tbls c _ e1
  exact ⟨m1 ++ m2,by rw [e2,Array.append_assoc]⟩
theorem Un.kept (k:∀ b u,h.get? b=some u→h'.get? b=some u):Un fs ex H H h h' :=
 ⟨fun b ob q _ _ _=>k b ob q,fun b ob q _ _ _=>⟨ob.slots,k b ob q⟩,fun _ _ _ n _=>n,fun b ob q _=>⟨ob,k b ob q⟩,fun _ _ q=>q,fun _ _ _ q=>q,fun _ ps q=>⟨#[],by rw [q];simp⟩⟩
theorem Un.refl:Un fs ex H H h h:=Un.kept fun _ _ q=>q
theorem Un.laid (k:∀ b u,h.get? b=some u→h'.get? b=some u) (hp:h.objs.size≤a) (hn:H a=none):Un fs ex H (upd H a o) h h' where
 keep:=fun b u q _ _ _=>k b u q
 slot:=fun b u q _ _ _=>⟨u.slots,k b u q⟩
 free:=fun b u q n _=>by rw [aG (Nat.ne_of_lt (Nat.lt_of_lt_of_le (Heap.lt_size q) hp))];exact n
 there:=fun b u q _=>⟨u,k b u q⟩
 tups:=fun b xs q=>by rw [aG (bG q hn)];exact q
 frzs:=fun b u xs q=>by rw [aG (bG q hn)];exact q
 tbls:=fun b ps q=>⟨#[],by rw [aG (bG q hn),q];simp⟩
theorem Un.write (mu:GF (H x)) (he:e=x∨H e=some (.own x)) (k:∀ b u,b≠e→h.get? b=some u→h'.get? b=some u) (heo:∃ u,h'.get? e=some u):Un fs ex H (upd H x o) h h':=by
 have hx:∀ b,H b=none→b≠x:=fun b n z=>by subst z;rw [n] at mu;exact mu
 have hb:∀ b,H b=none→b≠e:=fun b n z=>by
  subst z
  rcases he with r | r
  ·exact hx b n r
  ·rw [n] at r;cases r
 have hm:∀ b u,H b=some u→¬ GF (some u)→b≠x:=fun b u q nm z=>by subst z;rw [q] at mu;exact nm mu
 refine ⟨fun b u q n _ _=>k b u (hb b n) q,fun b u q n _ _=>⟨u.slots,k b u (hb b n) q⟩,fun b u q n _=>by rw [aG (hx b n)];exact n,fun b u q _=>?_,
  fun b xs q=>by rw [aG (hm b _ q fun z=>z)];exact q,fun b u xs q=>by rw [aG (hm b _ q fun z=>z)];exact q,fun b ps q=>⟨#[],by rw [aG (hm b _ q fun z=>z),q];simp⟩⟩
 by_cases hbe:b=e
 ·subst hbe;exact heo
 ·exact ⟨u,k b u hbe q⟩
theorem Un.mono (u:Un fs ex H H1 h h1) (hs:∀ b∈fs,b∈fs') (hx:∀ b∈ex,b∈ex'):Un fs' ex' H H1 h h1 :=
 ⟨fun b ob q n hb he=>u.keep b ob q n (fun z=>hb (hs b z)) fun z=>he (hx b z),fun _ _ q n _ he=>u.any q n fun z=>he (hx _ z),fun b ob q n he=>u.free b ob q n fun z=>he (hx b z),fun b ob q he=>u.there b ob q fun z=>he (hx b z),u.tups,u.frzs,u.tbls⟩
end
def GY (h:Heap) (H:Hp):List Addr:=(List.range h.objs.size).filter fun a=>(H a).isSome
def mM (h:Heap) (H:Hp):Heap:=PySem.W.hideAll h (GY h H)
theorem vO (h:Heap) (H:Hp):(mM h H).objs.size=h.objs.size:=PySem.W.hideAll_size _ _
theorem xP {h:Heap} {H:Hp} {b:Addr} {o:Obj} (e:h.get? b=some o) (n:H b=none):(mM h H).get? b=some o :=
 PySem.W.hideAll_get _ e fun hm=>by
  have q:(H b).isSome=true:=(List.mem_filter.mp hm).2
  rw [n] at q;simp at q
theorem AN {h:Heap} {H:Hp} {b:Addr} {o:Obj} (e:(mM h H).get? b=some o):h.get? b=some o∧H b=none:=by
 have e':h.get? b=some o:=PySem.W.of_hideAll (GY h H) e
 refine ⟨e',?_⟩
 cases q:H b with
 | none=>rfl
 | some x =>
  have hm:b∈GY h H:=List.mem_filter.mpr ⟨List.mem_range.mpr (Heap.lt_size e'),by simp [q]⟩
  have z:(mM h H).get? b=none:=PySem.W.hideAll_none (GY h H) hm
  rw [z] at e;cases e
def z_ (g h:Heap) (L:Addr):List (Addr × Obj):=(List.range h.objs.size).filterMap fun a=>if a=L∨(g.get? a).isSome=true then none else (h.get? a).map fun o=>(a,o)
def rest (g h:Heap) (L d:Addr):List (Addr × Obj):=(z_ g h L).filter fun p=>decide (p.1≠d)
end L2
namespace L2
open PySem PySem.Spec PyProof.Rows
structure Mod (K:PySem.W.Frag) (mg:Str→Option Value) (base:Heap):Prop where
 kin:K.In base
 glob:base.Ns mainGlobals mg
 blt:∃ mb,base.Ns builtinsNs mb∧∀ x:Str,x≠"__name__"→mb x=bootBuiltins x
 nolimit:base.NoLimit
structure Cx where
 prog:Program
 w:World
 K:PySem.W.Frag
 mg:Str→Option Value
 base:Heap
 A:Around
 N:List Str
 s₀:Shared
 H₀:Hp
 env:Env
 outer:List Env
 stack:List Env
 ex:List Addr
 fn:Str→Bool
 calm:Bool
 pn:List (Addr × Obj)
 xe:Value→Shared→Prop
def gh (l:List Env):List Addr:=l.filterMap (·.frame)
abbrev Cx.fs (X:Cx):List Addr:=gh X.outer
def pU (sc:Scope) (x:Str):Prop:=sc.names.lookup x=some .local∨sc.names.lookup x=some .cell∨sc.names.lookup x=some .free
def Loc (sc:Scope) (x:Str):Prop:=sc.names.lookup x=some .local∨sc.names.lookup x=some .cell
def Look (env:Env) (h:Heap) (m:Str→Option Value) (x:Str) (u:Value):Prop :=
 (env.kindOf x=some .local∧m x=some u)∨((env.kindOf x=some .cell∨env.kindOf x=some .free)∧∃ c,env.cells.lookup x=some c∧h.IsCell c (some u))
structure Cx.Ok (X:Cx):Prop where
 mod:Mod X.K X.mg X.base
 kind:X.env.scope.kind=.function
 glob:X.env.globals=mainGlobals
 blt:X.env.builtins=builtinsNs
 above:X.s₀.heap.objs.size≤X.env.locals
 inj:∀ x y c,X.env.cells.lookup x=some c→X.env.cells.lookup y=some c→x=y
 has:∀ x,(X.env.kindOf x=some .cell∨X.env.kindOf x=some .free)→∃ c,X.env.cells.lookup x=some c
 cab:∀ x c,X.fn x=true→X.env.cells.lookup x=some c→X.s₀.heap.objs.size≤c
 hd:X.calm=true→X.A.handled=none
 frames:X.A.frames=some X.stack
 stk:X.stack=X.outer∨(X.stack=X.env :: X.outer∧X.env.frame=some X.env.locals)
 exf:∀ b∈X.ex,b≠X.env.locals∧∀ x c,X.env.cells.lookup x=some c→c≠b
 bs:∀ b o,X.base.get? b=some o→X.s₀.heap.get? b=some o∧X.H₀ b=none
 bsz:X.base.objs.size≤X.s₀.heap.objs.size
 noex:∀ b o,X.base.get? b=some o→b ∉ X.ex
 exfs:∀ b∈X.ex,b ∉ X.fs
 i7:X.s₀.heap.FunFrames X.base X.outer
 frf:∀ b∈X.fs,X.H₀ b=none
structure Inv (X:Cx) (pins:List (Addr × Obj)) (σ:List (Option V)) (H:Hp) (s:Shared):Prop where
 ok:X.Ok
 os:s.os=X.s₀.os
 bare:AllBare s.gens
 base:Un X.fs X.ex X.H₀ H X.s₀.heap s.heap
 loc:∃ m,s.heap.Ns X.env.locals m∧∀ (i:Nat) (x:Str) (v:V),X.N[i]?=some x→σ[i]?=some (some v)→pU X.env.scope x→∃ u,RelV v u∧Look X.env s.heap m x u
 cell:∀ x c,X.env.cells.lookup x=some c→∃ v,s.heap.IsCell c v
 free:H X.env.locals=none
 freeC:∀ x c,X.env.cells.lookup x=some c→H c=none
 pin:∀ p∈X.pn ++ pins,s.heap.get? p.1=some p.2∧H p.1=none∧p.1≠X.env.locals∧p.1 ∉ X.fs∧∀ v,p.2.data≠.cell v
 hok:iQ X.prog X.w H s.heap
 len:σ.length=X.N.length
section
variable {X:Cx} {pins:List (Addr × Obj)} {σ:List (Option V)} {H H':Hp} {s:Shared} {h':Heap}
theorem Cx.Ok.HH (ok:X.Ok) {b:Addr} {o:Obj} (e:X.base.get? b=some o):b ∉ X.fs:=fun hb=>by
 have:=(ok.i7.mem hb).1
 rw [e] at this;cases this
theorem Inv.bs (I:Inv X pins σ H s):∀ b o,X.base.get? b=some o→s.heap.get? b=some o∧H b=none:=fun b o e =>
 ⟨I.base.keep b o (I.ok.bs b o e).1 (I.ok.bs b o e).2 (I.ok.HH e) (I.ok.noex b o e),I.base.free b o (I.ok.bs b o e).1 (I.ok.bs b o e).2 (I.ok.noex b o e)⟩
theorem Inv.bk (I:Inv X pins σ H s):∀ b o,X.base.get? b=some o→s.heap.get? b=some o:=fun b o e=>(I.bs b o e).1
theorem Inv.mod (I:Inv X pins σ H s):Mod X.K X.mg X.base:=I.ok.mod
theorem Inv.i_ (I:Inv X pins σ H s):X.K.In s.heap:=I.ok.mod.kin.keeps I.bk
theorem Inv.nolimit (I:Inv X pins σ H s):s.heap.NoLimit:=I.ok.mod.nolimit.keeps I.bk
theorem Inv.lt (I:Inv X pins σ H s):X.env.locals < s.heap.objs.size:=let ⟨_,hn,_⟩:=I.loc;hn.lt
theorem Inv.sz (I:Inv X pins σ H s):X.s₀.heap.objs.size≤s.heap.objs.size:=Nat.le_trans I.ok.above (Nat.le_of_lt I.lt)
theorem Inv.HI (I:Inv X pins σ H s) {a:Addr} (h:s.heap.objs.size≤a):a ∉ X.fs:=fun hb=>by
 obtain ⟨_,o,ho,_⟩:=I.ok.i7.mem hb
 exact absurd (Nat.lt_of_lt_of_le (Heap.lt_size ho) (Nat.le_trans I.sz h)) (Nat.lt_irrefl _)
theorem Inv.CV (I:Inv X pins σ H s):∀ x c,X.env.cells.lookup x=some c→c≠X.env.locals:=fun x c e z=>by
 obtain ⟨v,o,ho,hd⟩:=I.cell x c e
 obtain ⟨m,⟨o',es,ep,ho',hd',_⟩,_⟩:=I.loc
 rw [z,ho'] at ho;cases ho;rw [hd'] at hd;cases hd
theorem Inv.i7 (I:Inv X pins σ H s):s.heap.FunFrames X.base X.outer:=by
 have all:∀ (l:List Env),(∀ b∈gh l,b∈X.fs)→X.s₀.heap.FunFrames X.base l→s.heap.FunFrames X.base l:=by
  intro l
  induction l with
  | nil=>intro _ _;trivial
  | cons env r ih =>
   intro hs hl
   obtain ⟨hk,⟨L,o,hf,hn,ho,hd⟩,hr⟩:=hl
   have hL:L∈X.fs:=hs L (by unfold gh;rw [List.filterMap_cons,hf];exact List.mem_cons_self)
   obtain ⟨sl,e⟩:=I.base.slot L o ho (I.ok.frf L hL) hL fun z=>I.ok.exfs L z hL
   exact ⟨hk,⟨L,_,hf,hn,e,hd⟩,ih (fun b hb=>hs b (by unfold gh;rw [List.filterMap_cons,hf];exact List.mem_cons_of_mem _ hb)) hr⟩
 exact all X.outer (fun _ hb=>hb) I.ok.i7
theorem Inv.stack (I:Inv X pins σ H s):s.heap.FunFrames X.base X.stack:=by
 rcases I.ok.stk with e | ⟨e,hf⟩
 ·rw [e];exact I.i7
 ·rw [e]
  obtain ⟨m,hn,_⟩:=I.loc
  refine .cons (by rw [I.ok.kind];decide) hf hn ?_ I.i7
  exact Heap.get?_none_of_le (Nat.le_trans I.ok.bsz I.ok.above)
theorem Inv.iO (I:Inv X pins σ H s):∀ b∈gh X.stack,b∈X.env.locals :: X.fs:=fun b hb=>by
 rcases I.ok.stk with e | ⟨e,hf⟩
 ·rw [e] at hb;exact List.mem_cons_of_mem _ hb
 ·rw [e] at hb
  unfold gh at hb
  rw [List.filterMap_cons,hf] at hb
  exact hb
theorem Inv.pM (I:Inv X pins σ H s):∀ b∈gh X.stack,H b=none:=fun b hb=>by
 rcases List.mem_cons.mp (I.iO b hb) with e | hb
 ·rw [e];exact I.free
 ·obtain ⟨_,o,ho,_⟩:=I.ok.i7.mem hb
  exact I.base.free b o ho (I.ok.frf b hb) fun z=>I.ok.exfs b z hb
theorem Inv.step {g':Array GenState} {t':Nat} {d':Drawn} {ch:List Addr} (I:Inv X pins σ H s)
  (hch:∀ b∈ch,(b∈X.ex∨X.s₀.heap.objs.size≤b)∧b≠X.env.locals∧(∀ x c,X.env.cells.lookup x=some c→c≠b)∧∀ p∈X.pn ++ pins,p.1≠b)
  (keep:∀ b o,b≠X.env.locals→b ∉ X.fs→b ∉ ch→s.heap.get? b=some o→H b=none→h'.get? b=some o)
  (slot:∀ b o,b≠X.env.locals→b∈X.fs→b ∉ ch→s.heap.get? b=some o→H b=none→∃ sl,h'.get? b=some { o with slots:=sl }) (free:∀ b o,b ∉ ch→s.heap.get? b=some o→H b=none→H' b=none)
  (there:∀ b o,b ∉ ch→s.heap.get? b=some o→∃ o',h'.get? b=some o')
  (tups:∀ b xs,H b=some (.tup xs)→H' b=some (.tup xs)) (frzs:∀ b o u,H b=some (.mF o u)→H' b=some (.mF o u)) (tbls:∀ b ps,H b=some (.tbl ps)→∃ more,H' b=some (.tbl (ps ++ more)))
  (ns:∀ m,s.heap.Ns X.env.locals m→h'.Ns X.env.locals m) (hok:iQ X.prog X.w H' h') (hg:AllBare g') :
  Inv X pins σ H' { s with heap:=h',gens:=g',drawn:=d',toks:=t' }:=by
 have neL:∀ b o,X.s₀.heap.get? b=some o→b≠X.env.locals:=fun b o e=>Nat.ne_of_lt (Nat.lt_of_lt_of_le (Heap.lt_size e) I.ok.above)
 have neC:∀ b o,X.s₀.heap.get? b=some o→b ∉ X.ex→b ∉ ch:=fun b o e hx hb=>by
  rcases (hch b hb).1 with z | z
  ·exact hx z
  ·exact absurd (Nat.lt_of_lt_of_le (Heap.lt_size e) z) (Nat.lt_irrefl _)
 have cellK:∀ x c,X.env.cells.lookup x=some c→∀ v,s.heap.IsCell c v→h'.IsCell c v:=fun x c e v ⟨o,ho,hd⟩=>by
  have nch:c ∉ ch:=fun z=>(hch c z).2.2.1 x c e rfl
  by_cases hc:c∈X.fs
  ·obtain ⟨sl,q⟩:=slot c o (I.CV x c e) hc nch ho (I.freeC x c e)
   exact ⟨_,q,hd⟩
  ·exact ⟨o,keep c o (I.CV x c e) hc nch ho (I.freeC x c e),hd⟩
 refine ⟨I.ok,I.os,hg,⟨fun b o e n hb hx=>?_,fun b o e n hb hx=>?_,fun b o e n hx=>?_,fun b o e hx=>?_,fun b xs e=>tups b xs (I.base.tups b xs e),fun b o xs e=>frzs b o xs (I.base.frzs b o xs e),fun b ps e=>?_⟩,?_,fun x c e=>?_,?_,fun x c e=>?_,fun p hp=>?_,hok,I.len⟩
 ·exact keep b o (neL b o e) hb (neC b o e hx) (I.base.keep b o e n hb hx) (I.base.free b o e n hx)
 ·obtain ⟨sl,e1⟩:=I.base.slot b o e n hb hx
  obtain ⟨sl',e2⟩:=slot b _ (neL b o e) hb (neC b o e hx) e1 (I.base.free b o e n hx)
  exact ⟨sl',e2⟩
 ·obtain ⟨o',e1⟩:=I.base.there b o e hx
  exact free b o' (neC b o e hx) e1 (I.base.free b o e n hx)
 ·obtain ⟨o',e1⟩:=I.base.there b o e hx
  exact there b o' (neC b o e hx) e1
 ·obtain ⟨m1,e1⟩:=I.base.tbls b ps e
  obtain ⟨m2,e2⟩:=tbls b _ e1
  exact ⟨m1 ++ m2,by rw [e2,Array.append_assoc]⟩
 ·obtain ⟨m,hn,hl⟩:=I.loc
  refine ⟨m,ns m hn,fun i x v e1 e2 e3=>?_⟩
  obtain ⟨u,r,l⟩:=hl i x v e1 e2 e3
  refine ⟨u,r,?_⟩
  rcases l with l | ⟨k,c,e,z⟩
  ·exact .inl l
  ·exact .inr ⟨k,c,e,cellK x c e _ z⟩
 ·obtain ⟨v,z⟩:=I.cell x c e
  exact ⟨v,cellK x c e v z⟩
 ·obtain ⟨m,⟨o,_,_,ho,_⟩,_⟩:=I.loc
  exact free _ o (fun z=>(hch _ z).2.1 rfl) ho I.free
 ·obtain ⟨v,o,ho,hd⟩:=I.cell x c e
  exact free c o (fun z=>(hch c z).2.2.1 x c e rfl) ho (I.freeC x c e)
 ·obtain ⟨e,n,ne,nf,d⟩:=I.pin p hp
  have nch:p.1 ∉ ch:=fun z=>(hch p.1 z).2.2.2 p hp rfl
  exact ⟨keep p.1 p.2 ne nf nch e n,free p.1 p.2 nch e n,ne,nf,d⟩
theorem Inv.un {t':Nat} (I:Inv X pins σ H s) (u:Un X.fs [] H H' s.heap h') (hok:iQ X.prog X.w H' h'):Inv X pins σ H' { s with heap:=h',toks:=t' }:=by
 obtain ⟨m,⟨o,es,ep,ho,r⟩,_⟩:=id I.loc
 obtain ⟨sl,hL⟩:=u.any ho I.free (by simp)
 exact I.step (g':=s.gens) (d':=s.drawn) (ch:=[]) (fun _ z=>nomatch z) (fun b o _ hb _ e n=>u.keep b o e n hb (by simp)) (fun b o _ hb _ e n=>u.slot b o e n hb (by simp)) (fun b o _ e n=>u.free b o e n (by simp)) (fun b o _ e=>u.there b o e (by simp)) u.tups u.frzs u.tbls (fun m' hm=>by
  obtain ⟨o',es',ep',ho',r'⟩:=hm
  rw [ho] at ho';cases ho'
  exact ⟨_,es',ep',hL,r'⟩) hok I.bare
theorem Inv.call {g':Array GenState} {t':Nat} {d':Drawn} {ch:List Addr} (I:Inv X pins σ H s) (u:Un (gh X.stack) ch H H' s.heap h') (hok:iQ X.prog X.w H' h') (hg:AllBare g')
  (hch:∀ b∈ch,(b∈X.ex∨X.s₀.heap.objs.size≤b)∧b≠X.env.locals∧(∀ x c,X.env.cells.lookup x=some c→c≠b)∧∀ p∈X.pn ++ pins,p.1≠b) :
  Inv X pins σ H' { s with heap:=h',gens:=g',drawn:=d',toks:=t' }:=by
 obtain ⟨m,⟨o,es,ep,ho,r⟩,_⟩:=id I.loc
 obtain ⟨sl,hL⟩:=u.any ho I.free fun z=>(hch _ z).2.1 rfl
 exact I.step (ch:=ch) hch (fun b o hL hb hc e n=>u.keep b o e n (fun z=>(List.mem_cons.mp (I.iO b z)).elim hL hb) hc) (fun b o _ _ hc e n=>u.any e n hc) (fun b o hc e n=>u.free b o e n hc) (fun b o hc e=>u.there b o e hc) u.tups u.frzs u.tbls (fun m' hm=>by
  obtain ⟨o',es',ep',ho',r'⟩:=hm
  rw [ho] at ho';cases ho'
  exact ⟨_,es',ep',hL,r'⟩) hok hg
theorem Inv.turned {t':Nat} {it:Addr} (I:Inv X pins σ H s) (k:∀ b o,b≠it→s.heap.get? b=some o→h'.get? b=some o) (hn:H it=none) (hL:it≠X.env.locals)
  (h1:it∈X.ex∨X.s₀.heap.objs.size≤it) (h2:∀ x c,X.env.cells.lookup x=some c→c≠it) (h3:∀ p∈X.pn ++ pins,p.1≠it):Inv X pins σ H { s with heap:=h',toks:=t' }:=by
 have nit:∀ b u,H b=some u→b≠it:=fun b u e z=>by rw [z,hn] at e;cases e
 refine I.step (g':=s.gens) (d':=s.drawn) (ch:=[it]) (fun b hb=>?_) (fun b o _ _ hc e _=>k b o (fun z=>hc (by simp [z])) e) (fun b o _ _ hc e _=>⟨o.slots,k b o (fun z=>hc (by simp [z])) e⟩) (fun _ _ _ _ n=>n)
  (fun b o hc e=>⟨o,k b o (fun z=>hc (by simp [z])) e⟩) (fun _ _ e=>e) (fun _ _ _ e=>e) (fun b ps e=>⟨#[],by rw [e];simp⟩) (fun m hm=>?_) (fun b u e=>?_) I.bare
 ·have e:b=it:=by simpa using hb
  subst e
  exact ⟨h1,hL,h2,h3⟩
 ·obtain ⟨o,es,ep,ho,r⟩:=hm
  exact ⟨o,es,ep,k _ o (Ne.symm hL) ho,r⟩
 ·refine (I.hok b u e).ig (fun c v hc q=>k c v ?_ q) (fun _ q=>q) fun _ _ q=>q
  rcases hc with z | z
  ·rw [z];exact nit b u e
  ·exact nit c _ z
theorem Inv.tok (I:Inv X pins σ H s) (t:Nat):Inv X pins σ H { s with toks:=t }:=I.un (h':=s.heap) (t':=t) Un.refl I.hok
theorem Inv.kept {t':Nat} (I:Inv X pins σ H s) (k:∀ b u,s.heap.get? b=some u→h'.get? b=some u):Inv X pins σ H { s with heap:=h',toks:=t' }:=I.un (Un.kept k) (I.hok.kept k)
theorem Inv.laid {a:Addr} {o:HO} {t':Nat} (I:Inv X pins σ H s) (k:∀ b u,s.heap.get? b=some u→h'.get? b=some u) (hp:s.heap.objs.size≤a) (new:b_ X.prog X.w (upd H a o) h' a o) :
  Inv X pins σ (upd H a o) { s with heap:=h',toks:=t' }:=I.un (Un.laid k hp (I.hok.fresh hp)) (I.hok.laid k hp new)
theorem Inv.write {x e:Addr} {o:HO} {t':Nat} (I:Inv X pins σ H s) (mu:GF (H x)) (he:e=x∨H e=some (.own x)) (k:∀ b u,b≠e→s.heap.get? b=some u→h'.get? b=some u) (heo:∃ u,h'.get? e=some u)
  (new:b_ X.prog X.w (upd H x o) h' x o):Inv X pins σ (upd H x o) { s with heap:=h',toks:=t' }:=I.un (Un.write mu he k heo) (I.hok.write mu he k heo new)
theorem Inv.uy {pins':List (Addr × Obj)} (I:Inv X pins σ H s) (h:∀ p∈pins',s.heap.get? p.1=some p.2∧H p.1=none∧p.1≠X.env.locals∧p.1 ∉ X.fs∧∀ v,p.2.data≠.cell v):Inv X pins' σ H s :=
 ⟨I.ok,I.os,I.bare,I.base,I.loc,I.cell,I.free,I.freeC,fun p hp=>(List.mem_append.mp hp).elim (fun z=>I.pin p (List.mem_append_left _ z)) (h p),I.hok,I.len⟩
theorem qz {N:List Str} (hN:N.Nodup) {i j:Nat} {x:Str} (a:N[i]?=some x) (b:N[j]?=some x):i=j:=by
 obtain ⟨h1,e1⟩:=List.getElem?_eq_some_iff.mp a
 obtain ⟨h2,e2⟩:=List.getElem?_eq_some_iff.mp b
 exact (List.getElem_inj hN).mp (e1.trans e2.symm)
theorem ki {M:Model} {A:Around} {E:Value→Shared→Prop} {i:Nat} {x:Str} {v:V} {u:Value} {Q:Unit→Shared→Prop} (I:Inv X pins σ H s) (hN:X.N.Nodup) (hi:X.N[i]?=some x) (hx:Loc X.env.scope x) (r:RelV v u)
  (h:∀ s',Inv X pins (σ.set i (some v)) H s'→(∃ a,Heap.SameBut a s.heap s'.heap∧(a=X.env.locals∨X.env.cells.lookup x=some a))→Q () s') (hf:X.fn x=true∨X.env.scope.names.lookup x=some .local:=by first | exact .inl rfl | exact .inr rfl | assumption):wpAny M A (storeName X.env x u) Q E s:=by
 obtain ⟨m,hn,hl⟩:=id I.loc
 have hcls:(X.env.scope.kind == .class || (X.env.scope.kind == .module && X.env.locals != X.env.globals))=false:=by rw [I.ok.kind];rfl
 have hiσ:i < σ.length:=by rw [I.len];exact (List.getElem?_eq_some_iff.mp hi).1
 have CV:=I.CV
 have tracked:∀ {a:Addr} {h':Heap},(∃ o,s.heap.get? a=some o∧H a=none)→Heap.SameBut a s.heap h'→iQ X.prog X.w H h':=fun {a h'} ha hs b ob e=>by
  obtain ⟨_,_,hfree⟩:=ha
  refine (I.hok b ob e).ig (fun c w' hc q=>(hs.2 c ?_).trans q) (fun _ q=>q) fun _ _ q=>q
  rintro rfl
  rcases hc with rfl | hc
  ·rw [hfree] at e;cases e
  ·rw [hfree] at hc;cases hc
 rcases hx with hk | hk
 ·refine wpAny_storeName_local hk hn (fun h' hn' hs=>?_) hcls
  obtain ⟨oL,_,_,hoL,_⟩:=id hn
  refine h _ ⟨I.ok,I.os,I.bare,⟨fun b o e n hb hx=>?_,fun b o e n hb hx=>?_,I.base.free,fun b o e hx=>?_,I.base.tups,I.base.frzs,I.base.tbls⟩,⟨_,hn',fun j y v' e1 e2 e3=>?_⟩,fun y c e=>?_,I.free,I.freeC,fun p hp=>?_,tracked ⟨oL,hoL,I.free⟩ hs,by simpa using I.len⟩ ⟨_,hs,.inl rfl⟩
  ·exact (hs.2 b (Nat.ne_of_lt (Nat.lt_of_lt_of_le (Heap.lt_size e) I.ok.above))).trans (I.base.keep b o e n hb hx)
  ·obtain ⟨sl,e1⟩:=I.base.slot b o e n hb hx
   exact ⟨sl,(hs.2 b (Nat.ne_of_lt (Nat.lt_of_lt_of_le (Heap.lt_size e) I.ok.above))).trans e1⟩
  ·obtain ⟨o',e1⟩:=I.base.there b o e hx
   exact ⟨o',(hs.2 b (Nat.ne_of_lt (Nat.lt_of_lt_of_le (Heap.lt_size e) I.ok.above))).trans e1⟩
  ·by_cases hj:j=i
   ·subst hj
    rw [hi] at e1;cases e1
    rw [List.getElem?_set_self hiσ] at e2
    cases e2
    exact ⟨u,r,.inl ⟨hk,by simp⟩⟩
   ·rw [List.getElem?_set_ne (Ne.symm hj)] at e2
    obtain ⟨u',r',q⟩:=hl j y v' e1 e2 e3
    refine ⟨u',r',?_⟩
    rcases q with ⟨k,e⟩ | ⟨k,c,e,z⟩
    ·refine .inl ⟨k,?_⟩
     have:y≠x:=fun e=>hj (qz hN e1 (e ▸ hi))
     simp [this,e]
    ·exact .inr ⟨k,c,e,z.sameBut hs (CV y c e)⟩
  ·obtain ⟨w',z⟩:=I.cell y c e
   exact ⟨w',z.sameBut hs (CV y c e)⟩
  ·obtain ⟨e,n,ne,nf,d⟩:=I.pin p hp
   exact ⟨(hs.2 p.1 ne).trans e,n,ne,nf,d⟩
 ·have hfn:X.fn x=true:=by
   rcases hf with z | z
   ·exact z
   ·rw [z] at hk;cases hk
  obtain ⟨c,hc⟩:=I.ok.has x (.inl hk)
  obtain ⟨w',z⟩:=I.cell x c hc
  refine wpAny_storeName_cell I.ok.kind hk hc z (fun h' hc' hs=>?_)
  obtain ⟨oc,hoc,hocd⟩:=id z
  refine h { s with heap:=h' } ⟨I.ok,I.os,I.bare,⟨fun b o e n hb hx=>?_,fun b o e n hb hx=>?_,I.base.free,fun b o e hx=>?_,I.base.tups,I.base.frzs,I.base.tbls⟩,⟨m,hn.sameBut hs (Ne.symm (CV x c hc)),fun j y v' e1 e2 e3=>?_⟩,fun y c' e=>?_,I.free,I.freeC,fun p hp=>?_,tracked ⟨oc,hoc,I.freeC x c hc⟩ hs,by simpa using I.len⟩ ⟨c,hs,.inr hc⟩
  ·exact (hs.2 b (Nat.ne_of_lt (Nat.lt_of_lt_of_le (Heap.lt_size e) (I.ok.cab x c hfn hc)))).trans (I.base.keep b o e n hb hx)
  ·obtain ⟨sl,e1⟩:=I.base.slot b o e n hb hx
   exact ⟨sl,(hs.2 b (Nat.ne_of_lt (Nat.lt_of_lt_of_le (Heap.lt_size e) (I.ok.cab x c hfn hc)))).trans e1⟩
  ·obtain ⟨o',e1⟩:=I.base.there b o e hx
   exact ⟨o',(hs.2 b (Nat.ne_of_lt (Nat.lt_of_lt_of_le (Heap.lt_size e) (I.ok.cab x c hfn hc)))).trans e1⟩
  ·by_cases hj:j=i
   ·subst hj
    rw [hi] at e1;cases e1
    rw [List.getElem?_set_self hiσ] at e2
    cases e2
    exact ⟨u,r,.inr ⟨.inl hk,c,hc,hc'⟩⟩
   ·rw [List.getElem?_set_ne (Ne.symm hj)] at e2
    obtain ⟨u',r',q⟩:=hl j y v' e1 e2 e3
    refine ⟨u',r',?_⟩
    rcases q with q | ⟨k,c',e,z'⟩
    ·exact .inl q
    ·refine .inr ⟨k,c',e,z'.sameBut hs ?_⟩
     rintro rfl
     exact hj (qz hN e1 (I.ok.inj _ _ _ e hc ▸ hi))
  ·by_cases hcc:c'=c
   ·subst hcc;exact ⟨_,hc'⟩
   ·obtain ⟨w2,z2⟩:=I.cell y c' e
    exact ⟨w2,z2.sameBut hs hcc⟩
  ·obtain ⟨e,n,ne,nf,d⟩:=I.pin p hp
   refine ⟨(hs.2 p.1 ?_).trans e,n,ne,nf,d⟩
   intro q
   rw [q,hoc] at e
   have q':oc=p.2:=Option.some.inj e
   exact d w' (by rw [← q'];exact hocd)
theorem dY {M:Model} {A:Around} {E:Value→Shared→Prop} {i:Nat} {x:Str} {v:V} {u:Value} {Q:Unit→Shared→Prop} (I:Inv X pins σ H s) (hN:X.N.Nodup) (hi:X.N[i]?=some x) (hx:Loc X.env.scope x) (r:RelV v u)
  (h:∀ s',Inv X pins (σ.set i (some v)) H s'→Q () s') (hf:X.fn x=true∨X.env.scope.names.lookup x=some .local:=by first | exact .inl rfl | exact .inr rfl | assumption):wpAny M A (storeName X.env x u) Q E s :=
 ki I hN hi hx r (fun s' I' _=>h s' I') hf
theorem Inv.EN {s':Shared} {ch:List Addr} (I:Inv X pins σ H s) (ho:s'.os=s.os) (u:Un (gh X.stack) ch H H' s.heap s'.heap) (hok:iQ X.prog X.w H' s'.heap) (hg:AllBare s'.gens)
  (hch:∀ b∈ch,(b∈X.ex∨X.s₀.heap.objs.size≤b)∧b≠X.env.locals∧(∀ x c,X.env.cells.lookup x=some c→c≠b)∧∀ p∈X.pn ++ pins,p.1≠b):Inv X pins σ H' s':=by
 obtain ⟨h',g',d',t',o'⟩:=s'
 have e:o'=s.os:=ho
 subst e
 exact I.call (g':=g') (t':=t') (d':=d') u hok hg hch
end
abbrev XK:=Value→Option Addr→Hp→Prop
abbrev St:=List (Option V)
abbrev VK:=V→Hp→Prop
abbrev TE:=St→Hp→VK→Prop
abbrev TT:=St→Hp→(Bool→Hp→Prop)→Prop
abbrev TA:=St→Hp→(List V→Hp→Prop)→Prop
structure Ends where
 nx:St→Hp→Prop
 rt:VK
 bk:St→Hp→Prop:=fun _ _=>False
 ct:St→Hp→Prop:=fun _ _=>False
abbrev TS:=Ends→St→Hp→Prop
def EP (X:Cx) (pins:List (Addr × Obj)) (σ:St) (Q:VK) (u:Value) (s':Shared):Prop:=∃ v H',Inv X pins σ H' s'∧RelV v u∧Q v H'
def TP (X:Cx) (pins:List (Addr × Obj)) (σ:St) (Q:Bool→Hp→Prop) (b:Bool) (s':Shared):Prop:=∃ H',Inv X pins σ H' s'∧Q b H'
def AP (X:Cx) (pins:List (Addr × Obj)) (σ:St) (Q:List V→Hp→Prop) (us:List Value) (s':Shared):Prop:=∃ vs H',Inv X pins σ H' s'∧Vals vs us∧Q vs H'
def SP (X:Cx) (pins:List (Addr × Obj)) (D:Ends) (f:Flow) (s':Shared):Prop :=
 match f with
 | .next=>∃ σ' H',Inv X pins σ' H' s'∧D.nx σ' H'
 | .brk=>∃ σ' H',Inv X pins σ' H' s'∧D.bk σ' H'
 | .cont=>∃ σ' H',Inv X pins σ' H' s'∧D.ct σ' H'
 | .ret u=>∃ v σ' H',Inv X pins σ' H' s'∧RelV v u∧D.rt v H'
def PE (X:Cx) (e:Expr) (t:TE):Prop :=
 ∀ (pins:List (Addr × Obj)) (s:Shared) (σ:St) (H:Hp) (Q:VK),Inv X pins σ H s→t σ H Q→wpAny (model X.prog X.w) X.A (eval e X.env) (EP X pins σ Q) X.xe s
def PT (X:Cx) (e:Expr) (t:TT):Prop :=
 ∀ (pins:List (Addr × Obj)) (s:Shared) (σ:St) (H:Hp) (Q:Bool→Hp→Prop),Inv X pins σ H s→t σ H Q→wpAny (model X.prog X.w) X.A (isTrue e X.env (eval e X.env)) (TP X pins σ Q) X.xe s
def PW (X:Cx) (e:Expr) (t:TT):Prop :=
 ∀ (whole:Sem Value) (pins:List (Addr × Obj)) (s:Shared) (σ:St) (H:Hp) (Q:Bool→Hp→Prop),Inv X pins σ H s→t σ H Q→wpAny (model X.prog X.w) X.A (isTrue e X.env whole) (TP X pins σ Q) X.xe s
theorem PW.pt {X:Cx} {e:Expr} {t:TT} (h:PW X e t):PT X e t:=h _
def PA (X:Cx) (es:List Expr) (t:TA):Prop :=
 ∀ (pos:Pos) (pins:List (Addr × Obj)) (s:Shared) (σ:St) (H:Hp) (Q:List V→Hp→Prop),Inv X pins σ H s→t σ H Q→wpAny (model X.prog X.w) X.A (spliced (backTo pos (starEach es X.env))) (AP X pins σ Q) X.xe s
def PS (X:Cx) (st:Stmt) (t:TS):Prop :=
 ∀ (pins:List (Addr × Obj)) (s:Shared) (σ:St) (H:Hp) (D:Ends),Inv X pins σ H s→t D σ H→wpAny (model X.prog X.w) X.A (exec st X.env) (SP X pins D) X.xe s
def m_ (X:Cx) (st:List Stmt) (t:TS):Prop :=
 ∀ (pins:List (Addr × Obj)) (s:Shared) (σ:St) (H:Hp) (D:Ends),Inv X pins σ H s→t D σ H→wpAny (model X.prog X.w) X.A (execs st X.env) (SP X pins D) X.xe s
theorem bE {α:Type} {t:Sem α} {Q Q':α→Shared→Prop} {M:Model} {A:Around} {E:Value→Shared→Prop} {s:Shared} (h:wpAny M A t Q E s) (hQ:∀ a s,Q a s→Q' a s):wpAny M A t Q' E s:=wpAny_mono h hQ fun _ _ x=>x
end L2
namespace L2
open PySem PySem.Spec PyProof.Rows
section
variable {X:Cx}
def wQ (i:Nat):TE:=fun σ H Q=>∃ v,σ[i]?=some (some v)∧Q v H
def tC (v:V):TE:=fun _ H Q=>Q v H
theorem sR {i:Nat} {x:Str} {pos:Pos} (hN:X.N[i]?=some x) (hv:pU X.env.scope x) (hd:(x == ("__debug__":Str))=false:=by decide) (hcd:(x == ("__classdict__":Str))=false:=by decide):PE X (.Name x pos) (wQ i):=by
 intro pins s σ H Q I h
 obtain ⟨v,e,h⟩:=h
 obtain ⟨m,hn,hl⟩:=I.loc
 obtain ⟨u,r,l⟩:=hl i x v hN e hv
 have fin:EP X pins σ Q u s:=⟨v,H,I,r,h⟩
 rcases l with ⟨hk,hm⟩ | ⟨hk,c,hc,hcell⟩
 ·exact wpAny_Name (wpAny_loadName_local I.ok.kind hk hn hm fin) hd
 ·rcases hk with hk | hk
  ·exact wpAny_Name (wpAny_loadName_cell I.ok.kind hk hc hcell fin) hd
  ·exact wpAny_Name (wpAny_loadName_free I.ok.kind hk hc hcell fin hcd) hd
theorem aF {i j pos}:PE X (.Constant (.int i) j pos) (tC (.int i)):=fun _ _ _ H _ I h=>wpAny_Constant_int ⟨.int i,H,I.tok _,⟨_,rfl⟩,h⟩
theorem qO {b j pos}:PE X (.Constant (.bool b) j pos) (tC (.bl b)):=fun _ _ _ H _ I h=>Constant_bool ⟨.bl b,H,I,rfl,h⟩
theorem sO {j pos}:PE X (.Constant .none j pos) (tC .non):=fun _ _ _ H _ I h=>Constant_none ⟨.non,H,I,rfl,h⟩
theorem jW {x j pos}:PE X (.Constant (.str x) j pos) (tC (.str x)):=fun _ _ _ H _ I h=>Calls.Constant_str ⟨.str x,H,I.tok _,⟨_,rfl⟩,h⟩
def Gl (X:Cx) (x:Str):Prop:=X.env.kindOf x=some .globalImplicit
theorem jb {E:Value→Shared→Prop} {pins:List (Addr × Obj)} {s:Shared} {σ:St} {H:Hp} {x:Str} {u:Value} {pos:Pos} {Q:Value→Shared→Prop} (I:Inv X pins σ H s) (hg:Gl X x) (hm:X.mg x=some u) (h:Q u s)
  (hd:(x == ("__debug__":Str))=false:=by decide):wpAny (model X.prog X.w) X.A (eval (.Name x pos) X.env) Q E s :=
 Calls.Name_function_global I.ok.kind hg (Calls.loadGlobal_global (by rw [I.ok.glob];exact I.mod.glob.keeps I.bk) hm h) hd
theorem jP {E:Value→Shared→Prop} {pins:List (Addr × Obj)} {s:Shared} {σ:St} {H:Hp} {x:Str} {u:Value} {pos:Pos} {Q:Value→Shared→Prop} (I:Inv X pins σ H s) (hg:Gl X x) (hm:X.mg x=none) (hv:bootBuiltins x=some u) (h:Q u s)
  (hn:x≠"__name__":=by decide) (hd:(x == ("__debug__":Str))=false:=by decide):wpAny (model X.prog X.w) X.A (eval (.Name x pos) X.env) Q E s:=by
 obtain ⟨mb,h1,h2⟩:=I.mod.blt
 exact Calls.Name_function_global I.ok.kind hg (Calls.loadGlobal_builtin (by rw [I.ok.glob];exact I.mod.glob.keeps I.bk) hm (by rw [I.ok.blt];exact h1.keeps I.bk) ((h2 x hn).trans hv) h) hd
theorem kY {x:Str} {v:V} {u:Value} {pos:Pos} (hg:Gl X x) (hm:X.mg x=some u) (r:RelV v u) (hd:(x == ("__debug__":Str))=false:=by decide):PE X (.Name x pos) (tC v) :=
 fun _ _ _ H _ I h=>jb I hg hm ⟨v,H,I,r,h⟩ hd
theorem oR {x:Str} {v:V} {u:Value} {pos:Pos} (hg:Gl X x) (hm:X.mg x=none) (hv:bootBuiltins x=some u) (r:RelV v u) (hn:x≠"__name__":=by decide) (hd:(x == ("__debug__":Str))=false:=by decide):PE X (.Name x pos) (tC v) :=
 fun _ _ _ H _ I h=>jP I hg hm hv ⟨v,H,I,r,h⟩ hn hd
variable {a b:Expr} {ta tb:TE} {pos:Pos}
def tB (t:TE):TT:=fun σ H Q=>t σ H fun x H1=>∃ c,x=.bl c∧Q c H1
theorem sV {e:Expr} {t:TE} (h:PE X e t) (he:∀ whole,isTrue e X.env whole=(do let v ← whole;standAt e.pos;holding [v] (truthy v)):=by intro _;rfl):PT X e (tB t):=by
 intro pins s σ H Q I hw
 refine isTrue_plain (bE (h pins s σ H _ I hw) fun v s1 ⟨x,H1,I1,r1,q1⟩=>?_) (he _)
 obtain ⟨d,rfl,q⟩:=q1
 cases r1
 exact wpAny_truthy_bool ⟨H1,I1,q⟩
variable {tA tB':TT} {rest:List Expr}
def zD (t u:TT):TT:=fun σ H Q=>t σ H fun c H1=>if c=true then u σ H1 Q else Q false H1
def Gq (t u:TT):TT:=fun σ H Q=>t σ H fun c H1=>if c=true then Q true H1 else u σ H1 Q
def BL (t:TT):TT:=fun σ H Q=>t σ H fun c H1=>Q (!c) H1
theorem k4 (ha:PT X a tA):PW X (.BoolOp .And [a] pos) tA:=by
 intro wh pins s σ H Q I h
 refine isTrue_and (bE (ha pins s σ H Q I h) fun c s1 e=>?_)
 cases c with
 | true=>exact isTrue_and_nil e
 | false=>exact e
theorem o4 (ha:PT X a tA):PW X (.BoolOp .Or [a] pos) tA:=by
 intro wh pins s σ H Q I h
 refine isTrue_or (bE (ha pins s σ H Q I h) fun c s1 e=>?_)
 cases c with
 | false=>exact isTrue_or_nil e
 | true=>exact e
theorem oZ (ha:PT X a tA) (hb:PW X (.BoolOp .And (b :: rest) pos) tB'):PW X (.BoolOp .And (a :: b :: rest) pos) (zD tA tB'):=by
 intro wh pins s σ H Q I h
 refine isTrue_and (bE (ha pins s σ H _ I h) fun c s1 ⟨H1,I1,q1⟩=>?_)
 cases c with
 | true=>exact hb wh pins s1 σ H1 Q I1 q1
 | false=>exact ⟨H1,I1,q1⟩
theorem uC (ha:PT X a tA) (hb:PW X (.BoolOp .Or (b :: rest) pos) tB'):PW X (.BoolOp .Or (a :: b :: rest) pos) (Gq tA tB'):=by
 intro wh pins s σ H Q I h
 refine isTrue_or (bE (ha pins s σ H _ I h) fun c s1 ⟨H1,I1,q1⟩=>?_)
 cases c with
 | true=>exact ⟨H1,I1,q1⟩
 | false=>exact hb wh pins s1 σ H1 Q I1 q1
theorem sU (ha:PT X a tA):PT X (.UnaryOp .Not a pos) (BL tA):=by
 intro pins s σ H Q I h
 exact isTrue_not (ha pins s σ H (fun c H1=>Q (!c) H1) I h)
def vh (ta tb:TE):TE:=fun σ H Q=>ta σ H fun x H1=>∃ c,x=.bl c∧if c=true then tb σ H1 Q else Q (.bl false) H1
def BM (ta tb:TE):TE:=fun σ H Q=>ta σ H fun x H1=>∃ c,x=.bl c∧if c=true then Q (.bl true) H1 else tb σ H1 Q
def vm (ta:TE):TE:=fun σ H Q=>ta σ H fun x H1=>∃ c,x=.bl c∧Q (.bl (!c)) H1
theorem sQ {op} {t:TE} (h:PE X a t):PE X (.BoolOp op [a] pos) t:=fun pins s σ H Q I hw=>BoolOp_one (h pins s σ H Q I hw)
theorem sM (ha:PE X a ta) (hb:PE X (.BoolOp .And (b :: rest) pos) tb):PE X (.BoolOp .And (a :: b :: rest) pos) (vh ta tb):=by
 intro pins s σ H Q I h
 refine BoolOp_and (bE (ha pins s σ H _ I h) fun v s1 ⟨x,H1,I1,r1,q1⟩=>?_)
 obtain ⟨c,rfl,q1⟩:=q1
 cases r1
 refine wpAny_truthy_bool ?_
 cases c with
 | true=>exact hb pins s1 σ H1 Q I1 q1
 | false=>exact ⟨.bl false,H1,I1,rfl,q1⟩
theorem yO (ha:PE X a ta) (hb:PE X (.BoolOp .Or (b :: rest) pos) tb):PE X (.BoolOp .Or (a :: b :: rest) pos) (BM ta tb):=by
 intro pins s σ H Q I h
 refine BoolOp_or (bE (ha pins s σ H _ I h) fun v s1 ⟨x,H1,I1,r1,q1⟩=>?_)
 obtain ⟨c,rfl,q1⟩:=q1
 cases r1
 refine wpAny_truthy_bool ?_
 cases c with
 | false=>exact hb pins s1 σ H1 Q I1 q1
 | true=>exact ⟨.bl true,H1,I1,rfl,q1⟩
theorem sP (ha:PE X a ta):PE X (.UnaryOp .Not a pos) (vm ta):=by
 intro pins s σ H Q I h
 refine UnaryOp_ (bE (ha pins s σ H _ I h) fun v s1 ⟨x,H1,I1,r1,q1⟩=>?_)
 obtain ⟨c,rfl,q1⟩:=q1
 cases r1
 exact not_of (wpAny_truthy_bool ⟨.bl (!c),H1,I1,rfl,q1⟩)
def GV (t:TT) (ta tb:TE):TE:=fun σ H Q=>t σ H fun c H1=>if c=true then ta σ H1 Q else tb σ H1 Q
theorem l6 {c:Expr} (hc:PT X c tA) (ha:PE X a ta) (hb:PE X b tb):PE X (.IfExp c a b pos) (GV tA ta tb):=by
 intro pins s σ H Q I h
 refine wpAny_IfExp (bE (hc pins s σ H _ I h) fun d s1 ⟨H1,I1,q1⟩=>?_)
 cases d with
 | true=>exact ha pins s1 σ H1 Q I1 q1
 | false=>exact hb pins s1 σ H1 Q I1 q1
end
end L2
namespace L2
open PySem PySem.Spec PyProof.Rows
def cM (K:PySem.W.Frag) (H:Hp) (a:Addr) (xs:List V):Prop :=
 Rd H a (.lst xs) ∨
  ∃ (o:Obj) (its:Array Value) (n:Nat),K.lookup a=some o∧o.cls=.type "list"∧o.dict=none∧o.data=.seq its n∧its.size≤sizeLine∧Vals xs its.toList
def fh (K:PySem.W.Frag) (H:Hp) (a:Addr) (xs:List V):Prop :=
 Rd H a (.tup xs) ∨
  ∃ (o:Obj) (its:Array Value) (n:Nat),K.lookup a=some o∧o.cls=.type "tuple"∧o.data=.seq its n∧its.size≤sizeLine∧Vals xs its.toList
def G8:Value→Option V
 | .none=>some .non
 | .bool b=>some (.bl b)
 | .int i _=>some (.int i)
 | .str x _=>some (.str x)
 | .bytes b _=>some (.byt b)
 | .float b _=>some (.flt b)
 | .ref a=>some (.ref a)
 | .type n=>some (.ty n)
 | _=>none
theorem RelV.abs {x:V} {u:Value} (r:RelV x u):G8 u=some x:=by
 cases x with
 | non=>cases r;rfl
 | bl _=>cases r;rfl
 | int _=>obtain ⟨t,rfl⟩:=r;rfl
 | str _=>obtain ⟨t,rfl⟩:=r;rfl
 | byt _=>obtain ⟨t,rfl⟩:=r;rfl
 | flt _=>obtain ⟨t,rfl⟩:=r;rfl
 | ref _=>cases r;rfl
 | ty _=>cases r;rfl
theorem RelV.inj {x y:V} {u:Value} (r:RelV x u) (q:RelV y u):x=y:=Option.some.inj (r.abs.symm.trans q.abs)
theorem Vals.inj:∀ {xs ys:List V} {us:List Value},Vals xs us→Vals ys us→xs=ys
 | _,_,_,.nil,.nil=>rfl
 | _,_,_,.cons r t,.cons r' t'=>by rw [r.inj r',Vals.inj t t']
section
variable {X:Cx} {pins:List (Addr × Obj)} {σ:St} {H:Hp} {s:Shared} {a:Addr} {xs ys:List V}
theorem cM.of {K:PySem.W.Frag} (h:H a=some (.lst xs)):cM K H a xs:=.inl (.inl h)
theorem fh.of {K:PySem.W.Frag} (h:H a=some (.tup xs)):fh K H a xs:=.inl (.inl h)
theorem Inv.list (I:Inv X pins σ H s) (h:cM X.K H a xs):∃ its:List Value,Vals xs its∧PlainL s.heap a its.toArray∧xs.length≤sizeLine:=by
 rcases h with h | ⟨o,its,n,hk,hc,hd,hs,hz,r⟩
 ·obtain ⟨z,its,n,r,e⟩:=h.ok I.hok
  exact ⟨its,r,⟨_,n,e,rfl,rfl,rfl⟩,z⟩
 ·refine ⟨its.toList,r,⟨o,n,I.i_ a o hk,hc,hd,by simpa using hs⟩,?_⟩
  have e:=r.length
  simp only [Array.length_toList] at e
  omega
theorem Inv.tuple (I:Inv X pins σ H s) (h:fh X.K H a xs):∃ its:List Value,Vals xs its∧IsTup s.heap a its.toArray∧xs.length≤sizeLine:=by
 rcases h with h | ⟨o,its,n,hk,hc,hs,hz,r⟩
 ·obtain ⟨z,its,r,p⟩:=h.ok I.hok
  exact ⟨its,r,p,z⟩
 ·refine ⟨its.toList,r,⟨o,I.i_ a o hk,hc,n,by simpa using hs⟩,?_⟩
  have e:=r.length
  simp only [Array.length_toList] at e
  omega
theorem Inv.lX (I:Inv X pins σ H s) (h:cM X.K H a xs) (h':cM X.K H a ys):xs=ys:=by
 obtain ⟨its,r,⟨o,n,e,_,_,d⟩,_⟩:=I.list h
 obtain ⟨its',r',⟨o',n',e',_,_,d'⟩,_⟩:=I.list h'
 rw [e] at e';cases e'
 rw [d] at d'
 injection d' with d1 _
 have:its=its':=by simpa using congrArg Array.toList d1
 subst this
 exact r.inj r'
theorem Inv.wR (I:Inv X pins σ H s) (h:fh X.K H a xs) (h':fh X.K H a ys):xs=ys:=by
 obtain ⟨its,r,⟨o,e,_,n,d⟩,_⟩:=I.tuple h
 obtain ⟨its',r',⟨o',e',_,n',d'⟩,_⟩:=I.tuple h'
 rw [e] at e';cases e'
 rw [d] at d'
 injection d' with d1 _
 have:its=its':=by simpa using congrArg Array.toList d1
 subst this
 exact r.inj r'
end
abbrev Cx.km (X:Cx) (E:Value→Shared→Prop):Cx:={ X with xe:=E }
abbrev Cx.yp (X:Cx):Cx:=X.km fun _ _=>False
theorem Cx.Ok.km {X:Cx} (ok:X.Ok) (E:Value→Shared→Prop):(X.km E).Ok :=
 ⟨ok.mod,ok.kind,ok.glob,ok.blt,ok.above,ok.inj,ok.has,ok.cab,ok.hd,ok.frames,ok.stk,ok.exf,ok.bs,ok.bsz,ok.noex,ok.exfs,ok.i7,ok.frf⟩
theorem Cx.Ok.fo {X:Cx} {E:Value→Shared→Prop} (ok:(X.km E).Ok):X.Ok :=
 ⟨ok.mod,ok.kind,ok.glob,ok.blt,ok.above,ok.inj,ok.has,ok.cab,ok.hd,ok.frames,ok.stk,ok.exf,ok.bs,ok.bsz,ok.noex,ok.exfs,ok.i7,ok.frf⟩
section
variable {X:Cx} {pins:List (Addr × Obj)} {σ:St} {H:Hp} {s:Shared} {E:Value→Shared→Prop}
theorem Inv.km (I:Inv X pins σ H s) (E:Value→Shared→Prop):Inv (X.km E) pins σ H s:=⟨I.ok.km E,I.os,I.bare,I.base,I.loc,I.cell,I.free,I.freeC,I.pin,I.hok,I.len⟩
theorem Inv.fo (I:Inv (X.km E) pins σ H s):Inv X pins σ H s:=⟨I.ok.fo,I.os,I.bare,I.base,I.loc,I.cell,I.free,I.freeC,I.pin,I.hok,I.len⟩
theorem SP.fo {D:Ends} {f:Flow} {s':Shared} (h:SP (X.km E) pins D f s'):SP X pins D f s':=by
 cases f with
 | next=>obtain ⟨σ',H',I,q⟩:=h;exact ⟨σ',H',I.fo,q⟩
 | brk=>obtain ⟨σ',H',I,q⟩:=h;exact ⟨σ',H',I.fo,q⟩
 | cont=>obtain ⟨σ',H',I,q⟩:=h;exact ⟨σ',H',I.fo,q⟩
 | ret u=>obtain ⟨v,σ',H',I,r,q⟩:=h;exact ⟨v,σ',H',I.fo,r,q⟩
theorem PE.yp {e:Expr} {t:TE} (h:PE X.yp e t):PE X e t:=fun pins s σ H Q I hw =>
 wpAny_mono (h pins s σ H Q (I.km _) hw) (fun _ _ ⟨v,H',I',r,q⟩=>⟨v,H',I'.fo,r,q⟩) fun _ _ z=>False.elim z
theorem PT.yp {e:Expr} {t:TT} (h:PT X.yp e t):PT X e t:=fun pins s σ H Q I hw =>
 wpAny_mono (h pins s σ H Q (I.km _) hw) (fun _ _ ⟨H',I',q⟩=>⟨H',I'.fo,q⟩) fun _ _ z=>False.elim z
theorem m_.yp {st:List Stmt} {t:TS} (h:m_ X.yp st t):m_ X st t:=fun pins s σ H D I hw =>
 wpAny_mono (h pins s σ H D (I.km _) hw) (fun _ _ q=>q.fo) fun _ _ z=>False.elim z
end
section
variable {X:Cx} {st:Stmt} {rest:List Stmt} {t u:TS} {e:Expr} {te:TE} {pos:Pos}
def vj:TS:=fun D σ H=>D.nx σ H
def BP (t u:TS):TS:=fun D σ H=>t { D with nx:=u D } σ H
theorem d6:m_ X [] vj:=fun _ _ σ H _ I h=>wpAny_execs_nil ⟨σ,H,I,h⟩
theorem aO (h1:PS X st t) (h2:m_ X rest u):m_ X (st :: rest) (BP t u):=by
 intro pins s σ H D I h
 refine wpAny_execs_cons (bE (h1 pins s σ H { D with nx:=u D } I h) fun f s1 q=>?_)
 cases f with
 | next =>
  obtain ⟨σ',H',I',q⟩:=q
  exact h2 pins s1 σ' H' D I' q
 | ret v=>exact q
 | brk=>exact q
 | cont=>exact q
theorem a_ (h1:PS X st t):m_ X [st] t:=by
 intro pins s σ H D I h
 refine wpAny_execs_cons (bE (h1 pins s σ H D I h) fun f s1 q=>?_)
 cases f with
 | next=>exact wpAny_execs_nil q
 | ret v=>exact q
 | brk=>exact q
 | cont=>exact q
def D9:TS:=fun D σ H=>D.bk σ H
def Gk:TS:=fun D σ H=>D.ct σ H
theorem Inv.quiet {pins:List (Addr × Obj)} {σ:St} {H:Hp} {s:Shared} (I:Inv X pins σ H s):interactive X.env=false:=by simp [interactive,I.ok.kind]
def vi (te:TE):TS:=fun D σ H=>te σ H fun _ H1=>D.nx σ H1
theorem g7 (he:PE X e te) (hs:swapsWith e none pos.line X.env=pure false:=by rfl):PS X (.Expr e pos) (vi te):=by
 intro pins s σ H D I h
 exact wpAny_Expr_any (bE (he pins s σ H _ I h) fun v s1 ⟨x,H1,I1,r1,q1⟩=>⟨σ,H1,I1,q1⟩) I.quiet hs
def BO (te:TE):TS:=fun D σ H=>te σ H D.rt
theorem cJ (he:PE X e te):PS X (.Return (some e) pos) (BO te):=by
 intro pins s σ H D I h
 exact wpAny_Return_some (bE (he pins s σ H _ I h) fun v s1 ⟨x,H1,I1,r1,q1⟩=>⟨x,σ,H1,I1,r1,q1⟩)
def vo:TS:=fun D _ H=>D.rt .non H
theorem oX:PS X (.Return none pos) vo:=fun _ _ σ H _ I h=>wpAny_Return_none ⟨.non,σ,H,I,rfl,h⟩
def BK (c:TT) (t u:TS):TS:=fun D σ H=>c σ H fun b H1=>if b=true then t D σ H1 else u D σ H1
theorem jl {c:Expr} {a b:List Stmt} {tc:TT} (hc:PT X c tc) (ha:m_ X a t) (hb:m_ X b u):PS X (.If c a b pos) (BK tc t u):=by
 intro pins s σ H D I h
 refine wpAny_If (bE (hc pins s σ H _ I h) fun d s1 ⟨H1,I1,q1⟩=>?_)
 cases d with
 | true=>exact ha pins s1 σ H1 D I1 q1
 | false=>exact hb pins s1 σ H1 D I1 q1
def tJ:TS:=fun _ _ _=>False
theorem jZ {sts:List Stmt}:m_ X sts tJ:=fun _ _ _ _ _ _ h=>h.elim
end
abbrev TG:=V→St→Hp→(St→Hp→Prop)→Prop
abbrev lH:=List V→St→Hp→(St→Hp→Prop)→Prop
def PG (X:Cx) (target:Expr) (t:TG):Prop :=
 ∀ (pins:List (Addr × Obj)) (s:Shared) (σ:St) (H:Hp) (v:V) (u:Value) (Q:St→Hp→Prop),Inv X pins σ H s→RelV v u→t v σ H Q →
  wpAny (model X.prog X.w) X.A (assign target X.env u) (fun _ s'=>∃ σ' H',Inv X pins σ' H' s'∧Q σ' H') X.xe s
def BZ (X:Cx) (ts:List Expr) (t:lH):Prop :=
 ∀ (pins:List (Addr × Obj)) (s:Shared) (σ:St) (H:Hp) (vs:List V) (us:List Value) (Q:St→Hp→Prop),Inv X pins σ H s→Vals vs us→t vs σ H Q →
  wpAny (model X.prog X.w) X.A (assignInOrder ((assignEach ts X.env).map (·.2)) us) (fun _ s'=>∃ σ' H',Inv X pins σ' H' s'∧Q σ' H') X.xe s
abbrev ia:=V→V→V→Hp→(Hp→Prop)→Prop
def h_ (X:Cx) (t:ia):Prop :=
 ∀ (pins:List (Addr × Obj)) (s:Shared) (σ:St) (H:Hp) (o i v:V) (ov iv u:Value) (Q:Hp→Prop),Inv X pins σ H s→RelV o ov→RelV i iv→RelV v u→t o i v H Q →
  wpAny (model X.prog X.w) X.A (setItem ov iv u) (fun _ s'=>∃ H',Inv X pins σ H' s'∧Q H') X.xe s
abbrev GI:=V→V→Hp→VK→Prop
def G4 (X:Cx) (op:Operator) (t:GI):Prop :=
 ∀ (pins:List (Addr × Obj)) (s:Shared) (σ:St) (H:Hp) (x y:V) (v u:Value) (Q:VK),Inv X pins σ H s→RelV x v→RelV y u→t x y H Q →
  wpAny (model X.prog X.w) X.A (inplaceOp op v u) (EP X pins σ Q) X.xe s
section
variable {X:Cx} {pos:Pos}
def lO (i:Nat):TG:=fun v σ H Q=>Q (σ.set i (some v)) H
theorem gZ {i:Nat} {x:Str} (hN:X.N.Nodup) (hi:X.N[i]?=some x) (hx:Loc X.env.scope x) (hf:X.fn x=true∨X.env.scope.names.lookup x=some .local:=by first | exact .inl rfl | exact .inr rfl | assumption):PG X (.Name x pos) (lO i):=by
 intro pins s σ H v u Q I r h
 exact wpAny_assign_Name (dY I hN hi hx r (fun s' I'=>⟨_,H,I',h⟩) hf)
def Aj:lH:=fun vs σ H Q=>vs=[]∧Q σ H
def t8 (t:TG) (u:lH):lH:=fun vs σ H Q=>∃ v r,vs=v :: r∧t v σ H fun σ' H'=>u r σ' H' Q
theorem oT:BZ X [] Aj:=by
 intro pins s σ H vs us Q I r h
 obtain ⟨e,h⟩:=h
 subst e
 cases r
 exact assignInOrder_nil ⟨σ,H,I,h⟩
theorem l8 {e:Expr} {es:List Expr} {t:TG} {u:lH} (h1:PG X e t) (h2:BZ X es u)
  (hs:(assignEach (e :: es) X.env).map (·.2)=assign e X.env :: (assignEach es X.env).map (·.2):=by rfl):BZ X (e :: es) (t8 t u):=by
 intro pins s σ H vs us Q I r h
 obtain ⟨v,vr,e1,h⟩:=h
 subst e1
 cases r with
 | cons r rr =>
  rw [hs]
  refine assignInOrder_cons (bE (h1 pins s σ H _ _ _ I r h) fun _ s1 ⟨σ1,H1,I1,q1⟩=>?_)
  exact h2 pins s1 σ1 H1 _ _ Q I1 rr q1
def Al (K:PySem.W.Frag) (n:Nat) (t:lH):TG:=fun v σ H Q=>∃ a xs,v=.ref a∧fh K H a xs∧xs.length=n∧t xs σ H Q
theorem sS {es:List Expr} {k:Nat} {t:lH} {n:Nat} (hc:X.calm=true) (h:BZ X es t)
  (hn:(assignEach es X.env).length=n:=by rfl) (hst:(assignEach es X.env).findIdx? (·.1)=none:=by rfl):PG X (.Tuple es k pos) (Al X.K n t):=by
 intro pins s σ H v u Q I r hw
 obtain ⟨a,xs,e1,hq,hl,hw⟩:=hw
 subst e1
 cases r
 obtain ⟨its,rv,ht,hz⟩:=I.tuple hq
 refine assign_Tuple_tuple (I.ok.hd hc) ht (by simp [hn,← hl,rv.length]) hst fun h' hx=>?_
 have I1:Inv X pins σ H { s with heap:=h' }:=I.kept (t':=s.toks) fun b o e=>hx b o (Nat.ne_of_lt (Heap.lt_size e)) e
 exact h pins _ σ H xs _ Q I1 (by simpa using rv) hw
def Ak (to ti:TE) (t:ia):TG:=fun v σ H Q=>to σ H fun o H1=>ti σ H1 fun i H2=>t o i v H2 fun H3=>Q σ H3
theorem oS {o i:Expr} {to ti:TE} {t:ia} (ho:PE X o to) (hi:PE X i ti) (hs:h_ X t)
  (ha:∀ v,assign (.Subscript o i pos) X.env v=(do
   let ov ← holding [v] (eval o X.env)
   let iv ← holding [v,ov] (eval i X.env)
   standAt pos
   holding [v,ov,iv] (setItem ov iv v)
   release [v,ov,iv] []):=by intro _;rfl):PG X (.Subscript o i pos) (Ak to ti t):=by
 intro pins s σ H v u Q I r h
 rw [ha]
 refine wpAny_bind (wpAny_holding (bE (ho pins s σ H _ I h) fun ov s1 ⟨x,H1,I1,r1,q1⟩=>?_))
 refine wpAny_bind (wpAny_holding (bE (hi pins s1 σ H1 _ I1 q1) fun iv s2 ⟨y,H2,I2,r2,q2⟩=>?_))
 refine wpAny_bind (wpAny_standAt (wpAny_bind (wpAny_holding (bE (hs pins s2 σ H2 x y v ov iv u _ I2 r1 r2 r q2) fun _ s3 ⟨H3,I3,q3⟩=>?_))))
 exact wpAny_release ⟨σ,H3,I3,q3⟩
def tI (te:TE) (g:TG):TS:=fun D σ H=>te σ H fun x H1=>g x σ H1 D.nx
theorem oW {tg e:Expr} {te:TE} {g:TG} (he:PE X e te) (hg:PG X tg g) (hs:swapsWithSole [tg] e pos.line X.env=pure false:=by rfl) (hw:swappedStores [tg] e X.env=pure none:=by rfl)
  (h1:(assignEach [tg] X.env).map (·.2)=[assign tg X.env]:=by rfl):PS X (.Assign [tg] e pos) (tI te g):=by
 intro pins s σ H D I h
 refine wpAny_Assign_stores (bE (he pins s σ H _ I h) fun v s1 ⟨x,H1,I1,r1,q1⟩=>?_) hs hw
 rw [h1]
 exact bE (hg pins s1 σ H1 x v _ I1 r1 q1) fun _ s2 q=>q
theorem bY {i:Nat} {x:Str} {e:Expr} {te:TE} {pos':Pos} (hN:X.N.Nodup) (hi:X.N[i]?=some x) (hx:Loc X.env.scope x) (he:PE X e te) (hs:swapsWith e (some (.Name x pos')) pos.line X.env=pure false:=by rfl) (hf:X.fn x=true∨X.env.scope.names.lookup x=some .local:=by first | exact .inl rfl | exact .inr rfl | assumption) :
  PS X (.Assign [.Name x pos'] e pos) (tI te (lO i)):=by
 intro pins s σ H D I h
 refine wpAny_Assign_Name (bE (he pins s σ H _ I h) fun v s1 ⟨y,H1,I1,r1,q1⟩=>?_) hs
 exact dY I1 hN hi hx r1 (fun s2 I2=>⟨_,H1,I2,q1⟩) hf
def BN (i j:Nat) (ta:TA):TS:=fun D σ H=>ta σ H fun vs H1=>∃ v w,vs=[v,w]∧D.nx ((σ.set i (some v)).set j (some w)) H1
theorem jY {i j:Nat} {x y:Str} {a b:Expr} {ta:TA} {px py pt:Pos} {kt k2 pt2} (hc:X.calm=true) (hN:X.N.Nodup) (hi:X.N[i]?=some x) (hj:X.N[j]?=some y) (hij:i≠j)
  (hx:X.env.scope.names.lookup x=some .local) (hy:X.env.scope.names.lookup y=some .local) (ha:PA X [a,b] ta)
  (hw:swappedStores [.Tuple [.Name x px,.Name y py] kt pt] (.Tuple [a,b] k2 pt2) X.env=pure (some [x,y]))
  (hs:swapsWithSole [.Tuple [.Name x px,.Name y py] kt pt] (.Tuple [a,b] k2 pt2) pos.line X.env=pure false:=by rfl) :
  PS X (.Assign [.Tuple [.Name x px,.Name y py] kt pt] (.Tuple [a,b] k2 pt2) pos) (BN i j ta):=by
 intro pins s σ H D I h
 rw [exec_Assign_arm]
 refine wpAny_bind (wpAny_standAt ?_)
 rw [hs]
 refine wpAny_bind (wpAny_pure ?_)
 rw [if_neg (by decide)]
 refine wpAny_bind (Tuple_ (bE (ha _ pins s σ H _ I h) fun us s1 ⟨vs,H1,I1,r1,q1⟩=>?_))
 obtain ⟨v,w,e1,q1⟩:=q1
 subst e1
 obtain ⟨u1,u2,rfl,rv,rw'⟩:∃ u1 u2,us=[u1,u2]∧RelV v u1∧RelV w u2:=by
  cases r1 with
  | cons p q =>
   cases q with
   | cons p' q' =>
    cases q'
    exact ⟨_,_,rfl,p,p'⟩
 refine wpAny_newObj_type ?_ (by show 2≤sizeLine;decide)
 have I2:Inv X pins σ H1 { s1 with heap:=s1.heap.push { cls:=.type "tuple",data:=.seq [u1,u2].toArray } }:=I1.kept (t':=s1.toks) fun b o e=>Heap.get?_push_of_some _ e
 rw [hw]
 refine wpAny_bind (wpAny_pure ?_)
 show wpAny (model X.prog X.w) X.A (do rule "assign.swapped-stores";let items ← unpackItems (.ref s1.heap.objs.size) 2 none;assignInOrder [fun v=>bindName X.env y v,fun v=>bindName X.env x v] items.reverse;pure Flow.next) _ _ _
 refine wpAny_bind (wpAny_rule (wpAny_bind (unpackItems_tuple (items:=#[u1,u2]) (I.ok.hd hc) (IsTup.new s1.heap _) fun h' hx'=>?_)))
 have I3:=I2.kept (h':=h') (t':=s1.toks) fun b o e=>hx' b o (Nat.ne_of_lt (Heap.lt_size e)) e
 show wpAny _ _ (assignInOrder [fun v=>bindName X.env y v,fun v=>bindName X.env x v] [u2,u1] >>= fun _=>pure Flow.next) _ _ _
 refine wpAny_bind (assignInOrder_cons (wpAny_bindName (dY I3 hN hj (.inl hy) rw' (fun s2 I4=>?_) (.inr hy))))
 refine assignInOrder_cons (wpAny_bindName (dY I4 hN hi (.inl hx) rv (fun s3 I5=>assignInOrder_nil (wpAny_pure ?_)) (.inr hx)))
 rw [List.set_comm _ _ (Ne.symm hij)] at I5
 exact ⟨_,H1,I5,q1⟩
def Ih (i:Nat) (te:TE) (ti:GI):TS:=fun D σ H=>∃ x,σ[i]?=some (some x)∧te σ H fun y H1=>ti x y H1 fun z H2=>D.nx (σ.set i (some z)) H2
theorem DI {i:Nat} {x:Str} {e:Expr} {te:TE} {op:Operator} {ti:GI} {pos':Pos} (hN:X.N.Nodup) (hi:X.N[i]?=some x) (hx:Loc X.env.scope x) (he:PE X e te) (ho:G4 X op ti) (hf:X.fn x=true∨X.env.scope.names.lookup x=some .local:=by first | exact .inl rfl | exact .inr rfl | assumption) :
  PS X (.AugAssign (.Name x pos') op e pos) (Ih i te ti):=by
 intro pins s σ H D I h
 obtain ⟨v,e1,h⟩:=h
 obtain ⟨m,hn,hl⟩:=I.loc
 have vis:pU X.env.scope x:=by rcases hx with k | k;exact .inl k;exact .inr (.inl k)
 obtain ⟨u,r,l⟩:=hl i x v hi e1 vis
 refine wpAny_AugAssign_Name ?_
 have go:wpAny (model X.prog X.w) X.A (eval e X.env) (fun w s₂=>wpAny (model X.prog X.w) X.A (inplaceOp op u w) (fun r s₃=>wpAny (model X.prog X.w) X.A (storeName X.env x r) (fun _=>SP X pins D .next) X.xe s₃) X.xe s₂) X.xe s:=by
  refine bE (he pins s σ H _ I h) fun w s1 ⟨y,H1,I1,r1,q1⟩=>?_
  refine bE (ho pins s1 σ H1 v y u w _ I1 r r1 q1) fun z s2 ⟨zv,H2,I2,r2,q2⟩=>?_
  exact dY I2 hN hi hx r2 (fun s3 I3=>⟨_,H2,I3,q2⟩) hf
 rcases l with ⟨hk,hm⟩ | ⟨hk,c,hc,hcell⟩
 ·exact wpAny_loadName_local I.ok.kind hk hn hm go
 ·rcases hk with hk | hk
  ·exact wpAny_loadName_cell I.ok.kind hk hc hcell go
  ·rcases hx with k | k
   ·have:X.env.scope.names.lookup x=some .free:=hk
    rw [k] at this;cases this
   ·have:X.env.scope.names.lookup x=some .free:=hk
    rw [k] at this;cases this
def Jm (f:Int→Int→Int):GI:=fun x y H Q=>∃ i j,x=.int i∧y=.int j∧Q (.int (f i j)) H
theorem C8:G4 X .Sub (Jm fun i j=>i - j):=by
 intro pins s σ H x y v u Q I r1 r2 h
 obtain ⟨i,j,e1,e2,q⟩:=h
 subst e1;subst e2
 obtain ⟨t,rfl⟩:=r1
 obtain ⟨t',rfl⟩:=r2
 exact isub_int ⟨.int _,H,I.tok _,⟨_,rfl⟩,q⟩
end
section
variable {X:Cx} {pos:Pos}
def pN (c:TT) (tb:TS):TS:=fun D σ H=>∃ W:Nat→St→Hp→Prop,(∃ m,W m σ H)∧∀ m σ H,W m σ H →
 c σ H fun b H1=>if b=true then ∃ N:St→Hp→Prop,(∀ σ' H',N σ' H'→∃ m',m' < m∧W m' σ' H')∧tb { D with nx:=N,ct:=N,bk:=D.nx } σ H1 else D.nx σ H1
theorem gA {c:Expr} {body:List Stmt} {tc:TT} {tb:TS} (hp:PassesOwn (model X.prog X.w) X.A X.env X.xe) (hc:PT X c tc) (hb:m_ X body tb):PS X (.While c body [] pos) (pN tc tb):=by
 intro pins s σ H D I h
 obtain ⟨W,⟨m0,w0⟩,turn⟩:=h
 refine wpAny_While (codeAny_whileLoop (fun n s'=>∃ σ' H',Inv X pins σ' H' s'∧W n σ' H') ?_ m0 ⟨σ,H,I,w0⟩)
 rintro n s1 ⟨σ1,H1,I1,w1⟩
 refine wpAny_passesOwn hp (bE (hc pins s1 σ1 H1 _ I1 (turn n σ1 H1 w1)) fun b s2 ⟨H2,I2,q2⟩=>?_)
 cases b with
 | true =>
  obtain ⟨N,hN,q2⟩:=q2
  rw [if_pos rfl]
  refine wpAny_passesOwn hp (bE (hb pins s2 σ1 H2 _ I2 q2) fun f s3 q3=>?_)
  cases f with
  | next =>
   obtain ⟨σ3,H3,I3,n3⟩:=q3
   obtain ⟨m',hm,w3⟩:=hN σ3 H3 n3
   exact ⟨m',hm,σ3,H3,I3,w3⟩
  | cont =>
   obtain ⟨σ3,H3,I3,n3⟩:=q3
   obtain ⟨m',hm,w3⟩:=hN σ3 H3 n3
   exact ⟨m',hm,σ3,H3,I3,w3⟩
  | brk=>exact q3
  | ret v=>exact q3
 | false =>
  rw [if_neg Bool.false_ne_true]
  exact wpAny_execs_nil ⟨σ1,H2,I2,q2⟩
end
structure It where
 go:Nat→Hp→Prop
 yld:Nat→Hp→V→Hp→Prop
 stop:Nat→Hp→Prop
def f9 (X:Cx) (pins:List (Addr × Obj)) (H:Hp) (b:Addr):Prop :=
 H b=none∧b≠X.env.locals∧b ∉ X.fs∧(b∈X.ex∨X.s₀.heap.objs.size≤b)∧(∀ x c,X.env.cells.lookup x=some c→c≠b)∧∀ p∈X.pn ++ pins,p.1≠b
theorem Inv.Ai {X:Cx} {pins:List (Addr × Obj)} {σ:St} {H H':Hp} {s:Shared} {b:Addr} (I:Inv X pins σ H s) (hb:s.heap.objs.size≤b) (hn:H' b=none):f9 X pins H' b:=by
 refine ⟨hn,Nat.ne_of_gt (Nat.lt_of_lt_of_le I.lt hb),I.HI hb,.inr (Nat.le_trans I.sz hb),fun x c e z=>?_,fun p hp z=>?_⟩
 ·obtain ⟨v,q⟩:=I.cell x c e
  exact absurd (Nat.lt_of_lt_of_le q.lt (by rw [z];exact hb)) (Nat.lt_irrefl _)
 ·exact absurd (Nat.lt_of_lt_of_le (Heap.lt_size (I.pin p hp).1) (by rw [z];exact hb)) (Nat.lt_irrefl _)
structure Turn (P:Program) (w:World) (K:PySem.W.Frag) (tg:Expr) (J:It) (fp:List Addr) (it:Addr) (tn:Nat→Heap→Prop):Prop where
 mem:it∈fp
 obj:∀ i h,tn i h→∀ b∈fp,∃ o,h.get? b=some o∧∀ v,o.data≠.cell v
 keep:∀ i h h',tn i h→(∀ b∈fp,∀ o,h.get? b=some o→h'.get? b=some o)→tn i h'
 item:∀ (X:Cx),X.prog=P→X.w=w→X.K=K→X.calm=true→∀ (i:Nat) (pins:List (Addr × Obj)) (s:Shared) (σ:St) (H:Hp) (E:Value→Shared→Prop),Inv X pins σ H s→(∀ b∈fp,f9 X pins H b)→tn i s.heap→J.go i H →
  wpAny (model P w) X.A (pyNext (.ref it)) (fun r s1=>∃ u,r=some u ∧
   wpAny (model P w) X.A (letOwnedTupleGo tg (.ref it) u) (fun _ s2=>∃ x H',Inv X pins σ H' s2∧RelV x u∧J.yld i H x H'∧tn (i + 1) s2.heap∧∀ b∈fp,H' b=none) E s1) E s
 done:∀ (X:Cx),X.prog=P→X.w=w→X.K=K→X.calm=true→∀ (i:Nat) (pins:List (Addr × Obj)) (s:Shared) (σ:St) (H:Hp) (E:Value→Shared→Prop),Inv X pins σ H s→(∀ b∈fp,f9 X pins H b)→tn i s.heap→J.stop i H →
  wpAny (model P w) X.A (pyNext (.ref it)) (fun r s1=>r=none∧Inv X pins σ H s1) E s
 self:∀ (A:Around) (i:Nat) (s:Shared) (Q:Value→Shared→Prop) (E:Value→Shared→Prop),tn i s.heap→Q (.ref it) s→wpAny (model P w) A (pyIter (.ref it)) Q E s
abbrev TI:=St→Hp→(It→Hp→Prop)→Prop
def ID (X:Cx) (pins:List (Addr × Obj)) (σ:St) (tg:Expr) (R:It→Hp→Prop) (itv:Value) (s2:Shared):Prop :=
 ∃ (it:Addr) (fp:List Addr) (tn:Nat→Heap→Prop) (J:It) (H':Hp),itv=.ref it∧Inv X pins σ H' s2∧Turn X.prog X.w X.K tg J fp it tn∧tn 0 s2.heap∧(∀ b∈fp,f9 X pins H' b)∧R J H'
def PI (X:Cx) (tg iter:Expr) (wi:TI):Prop :=
 ∀ (pins:List (Addr × Obj)) (s:Shared) (σ:St) (H:Hp) (R:It→Hp→Prop),Inv X pins σ H s→wi σ H R →
  wpAny (model X.prog X.w) X.A (eval iter X.env) (fun v s1=>wpAny (model X.prog X.w) X.A (pyIter v) (ID X pins σ tg R) X.xe s1) X.xe s
theorem xN {M:Model} {A:Around} {E:Value→Shared→Prop} {s:Shared} {tg:Expr} {it:Addr} {u:Value} {o:Obj} {n:String} {vs:Array Value} {Q:Unit→Shared→Prop} (ho:s.heap.get? it=some o) (hc:o.cls=.type n) (hd:o.data=.fields vs)
  (hn:["enumerate","zip","dict_itemiterator","dict_reverseitemiterator","odict_iterator","itertools.zip_longest","itertools.pairwise"].contains n=false) (hQ:Q () s):wpAny M A (letOwnedTupleGo tg (.ref it) u) Q E s:=by
 unfold letOwnedTupleGo
 cases tg <;> first
  | exact wpAny_pure hQ
  | (cases u <;> first
    | exact wpAny_pure hQ
    | (refine wpAny_bind (wpAny_load ho ?_)
       rw [hc,hd]
       show wpAny M A (if (["enumerate","zip","dict_itemiterator","dict_reverseitemiterator","odict_iterator","itertools.zip_longest","itertools.pairwise"].contains n && vs[0]? == some (rawInt _))=true then _ else _) Q E s
       rw [if_neg (by intro h;rw [hn,Bool.false_and] at h;cases h)]
       exact wpAny_pure hQ))
def zW (K:PySem.W.Frag) (a:Addr):It :=
 ⟨fun i H=>∃ xs x,cM K H a xs∧xs[i]?=some x,fun i H x H'=>H'=H∧∀ xs,cM K H a xs→xs[i]?=some x,fun i H=>∃ xs,cM K H a xs∧xs.length≤i⟩
def Jc (K:PySem.W.Frag) (a:Addr):It :=
 ⟨fun i H=>∃ xs x,fh K H a xs∧xs[i]?=some x,fun i H x H'=>H'=H∧∀ xs,fh K H a xs→xs[i]?=some x,fun i H=>∃ xs,fh K H a xs∧xs.length≤i⟩
def xg (lo:Int) (n:Nat):It:=⟨fun i _=>i < n,fun i H x H'=>H'=H∧x=.int (lo + i),fun i _=>n≤i⟩
theorem wW {P:Program} {w:World} {K:PySem.W.Frag} {tg:Expr} (a it:Addr):Turn P w K tg (zW K a) [it] it (fun i h=>h.IsListIter it a i) where
 mem:=by simp
 obj:=fun i h st b hb=>by
  have e:b=it:=by simpa using hb
  subst e
  obtain ⟨o,e,c,d⟩:=st
  exact ⟨o,e,fun v z=>by rw [d] at z;cases z⟩
 keep:=fun i h h' st k=>st.at fun o e=>k it (by simp) o e
 item:=by
  intro X hP hw hK hc i pins s σ H E I hf st hg
  subst hP hw hK
  obtain ⟨xs,x,hq,hx⟩:=hg
  obtain ⟨its,rv,p,hz⟩:=I.list hq
  obtain ⟨u,hu,ru⟩:=rv.get hx
  obtain ⟨f0,f1,f2,f3,f4,f5⟩:=hf it (by simp)
  refine wpAny_pyNext_list_item st p.isList (x:=u) (by simpa using hu) fun h' st' sb=>?_
  have I1:Inv X pins σ H { s with heap:=h' }:=I.turned (t':=s.toks) (fun b o hb e=>(sb.2 b hb).trans e) f0 f1 f3 f4 f5
  obtain ⟨o,e,c,d⟩:=id st'
  exact ⟨u,rfl,xN (s:={ s with heap:=h' }) e c d (by decide) ⟨x,H,I1,ru,⟨rfl,fun ys hy=>by rw [I.lX hy hq];exact hx⟩,st',fun b hb=>(hf b hb).1⟩⟩
 done:=by
  intro X hP hw hK hc i pins s σ H E I hf st hg
  subst hP hw hK
  obtain ⟨xs,hq,hx⟩:=hg
  obtain ⟨its,rv,p,hz⟩:=I.list hq
  obtain ⟨f0,f1,f2,f3,f4,f5⟩:=hf it (by simp)
  have hl:=rv.length
  exact wpAny_pyNext_list_end (I.ok.hd hc) st p.isList (by simp;omega) fun h' eb=>⟨rfl,I.turned (t':=s.toks) (fun b o hb e=>eb b o hb e) f0 f1 f3 f4 f5⟩
 self:=fun _ _ _ _ _ st h=>wpAny_pyIter_listiter st h
theorem tL {P:Program} {w:World} {K:PySem.W.Frag} {tg:Expr} (it:Addr) (lo:Int) (n:Nat):Turn P w K tg (xg lo n) [it] it (fun i h=>IsRangeIter h it (lo + (i:Nat) * 1) ((n:Int) - (i:Nat)) 1) where
 mem:=by simp
 obj:=fun i h st b hb=>by
  have e:b=it:=by simpa using hb
  subst e
  exact ⟨_,st,fun v z=>by
   have z':Data.fields _=Data.cell v:=z
   cases z'⟩
 keep:=fun i h h' st k=>k it (by simp) _ st
 item:=by
  intro X hP hw hK hc i pins s σ H E I hf st hg
  subst hP hw hK
  obtain ⟨f0,f1,f2,f3,f4,f5⟩:=hf it (by simp)
  have W:=Walks.range (prog:=X.prog) (w:=X.w) (I.ok.hd hc) it lo 1 n
  refine W.item i s _ _ hg st fun v h' tk hv st' kk=>?_
  obtain ⟨t,rfl⟩:=hv
  have I1:Inv X pins σ H { s with heap:=h',toks:=tk }:=I.turned (fun b o hb e=>kk b o (by simpa using hb) e) f0 f1 f3 f4 f5
  refine ⟨_,rfl,xN (s:={ s with heap:=h',toks:=tk }) (n:="range_iterator") st' rfl rfl (by decide) ⟨.int (lo + i),H,I1,⟨t,?_⟩,⟨rfl,rfl⟩,st',fun b hb=>(hf b hb).1⟩⟩
  rw [Int.mul_one]
 done:=by
  intro X hP hw hK hc i pins s σ H E I hf st hg
  subst hP hw hK
  obtain ⟨f0,f1,f2,f3,f4,f5⟩:=hf it (by simp)
  exact wpAny_pyNext_range_end (I.ok.hd hc) st (by have:n≤i:=hg;omega) fun h' eb=>⟨rfl,I.turned (t':=s.toks) (fun b o hb e=>eb b o hb e) f0 f1 f3 f4 f5⟩
 self:=fun _ _ _ _ _ st h=>wpAny_pyIter_rangeiter st h
end L2
namespace L2
open PySem PySem.Spec PyProof.Rows
section
variable {X:Cx} {tg:Expr}
def uc (K:PySem.W.Frag) (tl:TE):TI:=fun σ H R=>tl σ H fun x H1=>∃ a,x=.ref a∧(∃ xs,cM K H1 a xs)∧R (zW K a) H1
def Hf (K:PySem.W.Frag) (tl:TE):TI:=fun σ H R=>tl σ H fun x H1=>∃ a,x=.ref a∧(∃ xs,fh K H1 a xs)∧R (Jc K a) H1
theorem jk {l:Expr} {tl:TE} (hl:PE X l tl):PI X tg l (uc X.K tl):=by
 intro pins s σ H R I h
 refine bE (hl pins s σ H _ I h) fun v s1 ⟨x,H1,I1,r1,q1⟩=>?_
 obtain ⟨a,e,⟨xs,hq⟩,q⟩:=q1
 subst e
 cases r1
 obtain ⟨its,rv,p,hz⟩:=I1.list hq
 refine wpAny_pyIter_list p.isList ?_
 refine ⟨s1.heap.objs.size,[s1.heap.objs.size],_,_,H1,rfl,I1.kept (t':=s1.toks) fun b o e=>Heap.get?_push_of_some _ e,wW a _,⟨_,Heap.get?_push_size _ rfl,rfl,rfl⟩,fun b hb=>?_,q⟩
 have e:b=s1.heap.objs.size:=by simpa using hb
 subst e
 exact I1.Ai (Nat.le_refl _) (I1.hok.fresh (Nat.le_refl _))
theorem y6 {pins:List (Addr × Obj)} {σ:St} {H:Hp} {s:Shared} {R:It→Hp→Prop} {E:Value→Shared→Prop} {lo hi:Int} {t u v:Tok} {tk:Nat} (I:Inv X pins σ H s) (h1:-(2 ^ 62)≤lo) (h2:lo < 2 ^ 62) (h3:-(2 ^ 62)≤hi) (h4:hi < 2 ^ 62)
  (q:R (xg lo (hi - lo).toNat) H):wpAny (model X.prog X.w) X.A (pyIter (.ref s.heap.objs.size)) (ID X pins σ tg R) E { s with heap:=s.heap.push { cls:=.type "range",data:=.fields #[.int lo t,.int hi u,.int 1 v] },toks:=tk }:=by
 refine wpAny_pyIter_range (IsRange.new ..) (small_one h1 h2 h3 h4) ?_
 have I1:Inv X pins σ H { s with heap:=s.heap.push { cls:=.type "range",data:=.fields #[.int lo t,.int hi u,.int 1 v] },toks:=tk }:=I.kept fun b o e=>Heap.get?_push_of_some _ e
 refine ⟨(s.heap.push { cls:=.type "range",data:=.fields #[.int lo t,.int hi u,.int 1 v] }).objs.size,[(s.heap.push { cls:=.type "range",data:=.fields #[.int lo t,.int hi u,.int 1 v] }).objs.size],_,_,H,rfl,
  I1.kept (t':=tk) fun b o e=>Heap.get?_push_of_some _ e,tL _ lo (hi - lo).toNat,?_,fun b hb=>?_,q⟩
 ·have e1:lo + ((0:Nat):Int) * 1=lo:=by simp
  have e2:(((hi - lo).toNat:Nat):Int) - ((0:Nat):Int)=Builtin.Range.rangeSize lo hi 1:=by rw [rangeSize_one];split <;> omega
  show IsRangeIter _ _ (lo + ((0:Nat):Int) * 1) ((((hi - lo).toNat:Nat):Int) - ((0:Nat):Int)) 1
  rw [e1,e2]
  exact Heap.get?_push_size _ rfl
 ·have e:b=(s.heap.push { cls:=.type "range",data:=.fields #[.int lo t,.int hi u,.int 1 v] }).objs.size:=by simpa using hb
  subst e
  exact I1.Ai (Nat.le_refl _) (I1.hok.fresh (Nat.le_refl _))
def ud (ta:TA):TI:=fun σ H R=>ta σ H fun vs H1=>∃ j:Int,vs=[.int j]∧-(2 ^ 62)≤j∧j < 2 ^ 62∧R (xg 0 j.toNat) H1
def B2 (ta:TA):TI:=fun σ H R=>ta σ H fun vs H1=>∃ i j:Int,vs=[.int i,.int j]∧(-(2 ^ 62)≤i∧i < 2 ^ 62∧-(2 ^ 62)≤j∧j < 2 ^ 62)∧R (xg i (j - i).toNat) H1
theorem eu {a:Expr} {ta:TA} {p pos:Pos} (hg:Gl X "range") (hm:X.mg "range"=none) (ha:PA X [a] ta) (hs:starEach [a] X.env=[(false,eval a X.env)]:=by rfl):PI X tg (.Call (.Name "range" p) [a] [] pos) (ud ta):=by
 intro pins s σ H R I h
 refine Call_ (jP I hg hm boot_range (PyProof.Rows.callWith_type1 (bE (ha pos pins s σ H _ I h) fun us s1 ⟨vs,H1,I1,r1,q1⟩=>?_) hs rfl))
 obtain ⟨j,e,q1,q2,q⟩:=q1
 subst e
 cases r1 with
 | cons r rr =>
  cases rr
  obtain ⟨t,rfl⟩:=r
  exact call_range_1 (y6 I1 (by omega) (by omega) q1 q2 (by simpa using q))
def D_ (wi:TI) (g:TG) (tb:TS):TS:=fun D σ H=>wi σ H fun J H1=>∃ W:Nat→Nat→St→Hp→Prop,(∃ m,W 0 m σ H1)∧∀ i m σ H,W i m σ H →
 (J.stop i H∧D.nx σ H)∨(J.go i H∧∃ N:St→Hp→Prop,(∀ σ' H',N σ' H'→∃ m',m' < m∧W (i + 1) m' σ' H')∧∀ x H',J.yld i H x H'→g x σ H' fun σ2 H2=>tb { D with nx:=N,ct:=N,bk:=D.nx } σ2 H2)
def oV (fp:List Addr) (h:Heap):List (Addr × Obj):=fp.filterMap fun b=>(h.get? b).map fun o=>(b,o)
theorem bz {fp:List Addr} {h:Heap} {b:Addr} {o:Obj} (hb:b∈fp) (e:h.get? b=some o):(b,o)∈oV fp h:=List.mem_filterMap.mpr ⟨b,hb,by rw [e];rfl⟩
theorem wj {fp:List Addr} {h:Heap} {p:Addr × Obj} (hp:p∈oV fp h):p.1∈fp∧h.get? p.1=some p.2:=by
 obtain ⟨b,hb,e⟩:=List.mem_filterMap.mp hp
 cases q:h.get? b with
 | none=>rw [q] at e;cases e
 | some o =>
  rw [q] at e
  have e':(b,o)=p:=Option.some.inj e
  subst e'
  exact ⟨hb,q⟩
theorem Inv.pinned {pins:List (Addr × Obj)} {σ:St} {H:Hp} {s:Shared} {fp:List Addr} (I:Inv X pins σ H s) (hf:∀ b∈fp,f9 X pins H b) (ho:∀ b∈fp,∃ o,s.heap.get? b=some o∧∀ v,o.data≠.cell v):Inv X (pins ++ oV fp s.heap) σ H s :=
 I.uy fun p hp=>(List.mem_append.mp hp).elim (fun z=>I.pin p (List.mem_append_right _ z)) fun z=>by
  obtain ⟨hb,e⟩:=wj z
  obtain ⟨f0,f1,f2,_⟩:=hf p.1 hb
  obtain ⟨o,e',d⟩:=ho p.1 hb
  rw [e] at e';cases e'
  exact ⟨e,f0,f1,f2,d⟩
theorem Inv.dZ {pins pl:List (Addr × Obj)} {σ:St} {H:Hp} {s:Shared} (I:Inv X (pins ++ pl) σ H s):Inv X pins σ H s:=I.uy fun p hp=>I.pin p (List.mem_append_right _ (List.mem_append_left _ hp))
theorem jX {iter:Expr} {body:List Stmt} {wi:TI} {g:TG} {tb:TS} {pos:Pos} (hp:PassesOwn (model X.prog X.w) X.A X.env X.xe) (hc:X.calm=true) (hi:PI X tg iter wi) (hg:PG X tg g) (hb:m_ X body tb)
  (hs:∀ x,foldedSetIterable iter X.env x=pure x:=by intro _;rfl):PS X (.For tg iter body [] pos) (D_ wi g tb):=by
 intro pins s σ H D I h
 refine wpAny_For (bE (hi pins s σ H _ I h) fun v s1 h1=>bE h1 fun itv s2 h2=>?_) hs
 obtain ⟨it,fp,tn,J,H2,e,I2,T,st2,f2,W,⟨m0,w0⟩,turn⟩:=h2
 subst e
 have stat:∀ {H':Hp},(∀ b∈fp,H' b=none)→∀ b∈fp,f9 X pins H' b:=fun hn b hb=>⟨hn b hb,(f2 b hb).2⟩
 refine codeAny_forLoop_any (fun n s'=>∃ i σ' H',Inv X pins σ' H' s'∧tn i s'.heap∧(∀ b∈fp,H' b=none)∧W i n σ' H') ?_ m0 ⟨0,σ,H2,I2,st2,fun b hb=>(f2 b hb).1,w0⟩
 rintro n s3 ⟨i,σ3,H3,I3,st3,fr3,w3⟩
 rcases turn i n σ3 H3 w3 with ⟨stop,qn⟩ | ⟨go,N,hN,step⟩
 ·refine wpAny_passesOwn hp (bE (T.done X rfl rfl rfl hc i pins s3 σ3 H3 X.xe I3 (stat fr3) st3 stop) fun r s4 ⟨hr,I4⟩=>?_)
  subst hr
  exact wpAny_execs_nil ⟨σ3,H3,I4,qn⟩
 ·refine wpAny_passesOwn hp (bE (T.item X rfl rfl rfl hc i pins s3 σ3 H3 X.xe I3 (stat fr3) st3 go) fun r s4 ⟨u,hr,h4⟩=>?_)
  subst hr
  refine wpAny_passesOwn hp (bE h4 fun _ s5 ⟨x,H5,I5,r5,y5,st5,fr5⟩=>?_)
  have I5':=I5.pinned (stat fr5) (T.obj _ _ st5)
  refine wpAny_passesOwn hp (bE (hg _ s5 σ3 H5 x u _ I5' r5 (step x H5 y5)) fun _ s6 ⟨σ6,H6,I6,q6⟩=>?_)
  refine wpAny_passesOwn hp (bE (hb _ s6 σ6 H6 _ I6 q6) fun f s7 q7=>?_)
  have again:∀ {σ7:St} {H7:Hp},Inv X (pins ++ oV fp s5.heap) σ7 H7 s7→N σ7 H7→∃ m,m < n∧∃ i σ' H',Inv X pins σ' H' s7∧tn i s7.heap∧(∀ b∈fp,H' b=none)∧W i m σ' H':=fun {σ7 H7} I7 n7=>by
   obtain ⟨m',hm,w7⟩:=hN σ7 H7 n7
   refine ⟨m',hm,i + 1,σ7,H7,I7.dZ,T.keep _ _ _ st5 fun b hb o e=>(I7.pin (b,o) (List.mem_append_right _ (List.mem_append_right _ (bz hb e)))).1,fun b hb=>?_,w7⟩
   obtain ⟨o,e,d⟩:=T.obj _ _ st5 b hb
   exact (I7.pin (b,o) (List.mem_append_right _ (List.mem_append_right _ (bz hb e)))).2.1
  cases f with
  | next=>obtain ⟨σ7,H7,I7,n7⟩:=q7;exact again I7 n7
  | cont=>obtain ⟨σ7,H7,I7,n7⟩:=q7;exact again I7 n7
  | brk=>obtain ⟨σ7,H7,I7,q7⟩:=q7;exact ⟨σ7,H7,I7.dZ,q7⟩
  | ret v=>obtain ⟨x7,σ7,H7,I7,r7,q7⟩:=q7;exact ⟨x7,σ7,H7,I7.dZ,r7,q7⟩
end
theorem xG {K:PySem.W.Frag} {a:Addr} {xs:List V} {g:TG} {tb:TS} {D:Ends} {σ:St} {H:Hp} (Pv:Nat→St→Hp→Prop) (h0:Pv 0 σ H) (hl:∀ i σ H,i≤xs.length→Pv i σ H→cM K H a xs)
  (hs:∀ i x σ H,xs[i]?=some x→Pv i σ H→g x σ H fun σ2 H2=>tb { D with nx:=Pv (i + 1),ct:=Pv (i + 1),bk:=D.nx } σ2 H2) (hd:∀ σ H,Pv xs.length σ H→D.nx σ H) :
  ∃ W:Nat→Nat→St→Hp→Prop,(∃ m,W 0 m σ H)∧∀ i m σ H,W i m σ H →
   ((zW K a).stop i H∧D.nx σ H)∨((zW K a).go i H∧∃ N:St→Hp→Prop,(∀ σ' H',N σ' H'→∃ m',m' < m∧W (i + 1) m' σ' H')∧∀ x H',(zW K a).yld i H x H'→g x σ H' fun σ2 H2=>tb { D with nx:=N,ct:=N,bk:=D.nx } σ2 H2):=by
 refine ⟨fun i m σ H=>m=xs.length - i∧i≤xs.length∧Pv i σ H,⟨xs.length,by simp,Nat.zero_le _,h0⟩,?_⟩
 rintro i m σ H ⟨rfl,hi,p⟩
 have q:=hl i σ H hi p
 by_cases hlt:i < xs.length
 ·refine .inr ⟨⟨xs,xs[i],q,by simp [hlt]⟩,Pv (i + 1),fun σ' H' p'=>⟨xs.length - (i + 1),by omega,rfl,hlt,p'⟩,fun x H' y=>?_⟩
  obtain ⟨e,y⟩:=y
  subst e
  exact hs i x σ _ (y xs q) p
 ·have e:i=xs.length:=by omega
  subst e
  exact .inl ⟨⟨xs,q,Nat.le_refl _⟩,hd σ H p⟩
theorem nB {lo:Int} {n:Nat} {g:TG} {tb:TS} {D:Ends} {σ:St} {H:Hp} (Pv:Nat→St→Hp→Prop) (h0:Pv 0 σ H)
  (hs:∀ i σ H,i < n→Pv i σ H→g (.int (lo + i)) σ H fun σ2 H2=>tb { D with nx:=Pv (i + 1),ct:=Pv (i + 1),bk:=D.nx } σ2 H2) (hd:∀ σ H,Pv n σ H→D.nx σ H) :
  ∃ W:Nat→Nat→St→Hp→Prop,(∃ m,W 0 m σ H)∧∀ i m σ H,W i m σ H →
   ((xg lo n).stop i H∧D.nx σ H)∨((xg lo n).go i H∧∃ N:St→Hp→Prop,(∀ σ' H',N σ' H'→∃ m',m' < m∧W (i + 1) m' σ' H')∧∀ x H',(xg lo n).yld i H x H'→g x σ H' fun σ2 H2=>tb { D with nx:=N,ct:=N,bk:=D.nx } σ2 H2):=by
 refine ⟨fun i m σ H=>m=n - i∧i≤n∧Pv i σ H,⟨n,by simp,Nat.zero_le _,h0⟩,?_⟩
 rintro i m σ H ⟨rfl,hi,p⟩
 by_cases hlt:i < n
 ·refine .inr ⟨hlt,Pv (i + 1),fun σ' H' p'=>⟨n - (i + 1),by omega,rfl,hlt,p'⟩,fun x H' y=>?_⟩
  obtain ⟨e,y⟩:=y
  subst e y
  exact hs i σ _ hlt p
 ·have e:i=n:=by omega
  subst e
  exact .inl ⟨Nat.le_refl _,hd σ H p⟩
theorem rJ {c:TT} {tb:TS} {D:Ends} {σ:St} {H:Hp} (Pv:St→Hp→Prop) (μ:St→Hp→Nat) (h0:Pv σ H)
  (hs:∀ σ H,Pv σ H→c σ H fun b H1=>if b=true then tb { D with nx:=fun σ' H'=>Pv σ' H'∧μ σ' H' < μ σ H,ct:=fun σ' H'=>Pv σ' H'∧μ σ' H' < μ σ H,bk:=D.nx } σ H1 else D.nx σ H1)
  (mono:∀ σ H Q Q',(∀ b H1,Q b H1→Q' b H1)→c σ H Q→c σ H Q'):pN c tb D σ H:=by
 refine ⟨fun m σ H=>m=μ σ H∧Pv σ H,⟨_,rfl,h0⟩,?_⟩
 rintro m σ H ⟨rfl,p⟩
 refine mono σ H _ _ (fun b H1 q=>?_) (hs σ H p)
 cases b with
 | true=>exact ⟨_,fun σ' H' ⟨p',l⟩=>⟨_,l,rfl,p'⟩,q⟩
 | false=>exact q
end L2
namespace L2
open PySem PySem.Spec PyProof.Rows
abbrev R2:=V→V→Hp→VK→Prop
def eA (X:Cx) (f:Value→Value→Sem Value) (r:R2):Prop :=
 ∀ (pins:List (Addr × Obj)) (s:Shared) (σ:St) (H:Hp) (x y:V) (v u:Value) (Q:VK),Inv X pins σ H s→RelV x v→RelV y u→r x y H Q →
  wpAny (model X.prog X.w) X.A (f v u) (EP X pins σ Q) X.xe s
def rL (X:Cx) (f:Value→Sem Value) (r:V→Hp→VK→Prop):Prop :=
 ∀ (pins:List (Addr × Obj)) (s:Shared) (σ:St) (H:Hp) (x:V) (v:Value) (Q:VK),Inv X pins σ H s→RelV x v→r x H Q →
  wpAny (model X.prog X.w) X.A (f v) (EP X pins σ Q) X.xe s
def b7 (X:Cx) (f:Value) (r:List V→Hp→VK→Prop):Prop :=
 ∀ (pins:List (Addr × Obj)) (s:Shared) (σ:St) (H:Hp) (xs:List V) (us:List Value) (Q:VK),Inv X pins σ H s→Vals xs us→r xs H Q →
  wpAny (model X.prog X.w) X.A (call f us) (EP X pins σ Q) X.xe s
def G7 (X:Cx) (r:V→Hp→(Bool→Hp→Prop)→Prop):Prop :=
 ∀ (pins:List (Addr × Obj)) (s:Shared) (σ:St) (H:Hp) (x:V) (v:Value) (Q:Bool→Hp→Prop),Inv X pins σ H s→RelV x v→r x H Q →
  wpAny (model X.prog X.w) X.A (truthy v) (TP X pins σ Q) X.xe s
def zI (r:R2) (ta tb:TE):TE:=fun σ H Q=>ta σ H fun x H1=>tb σ H1 fun y H2=>r x y H2 Q
def GX (r:V→Hp→VK→Prop) (ta:TE):TE:=fun σ H Q=>ta σ H fun x H1=>r x H1 Q
def rI (C:Int→Int→Prop) (g:Int→Int→V):R2:=fun x y H Q=>∃ i j,x=.int i∧y=.int j∧C i j∧Q (g i j) H
def zS (g:Int→Int→V):R2:=fun x y H Q=>∃ i j,x=.int i∧y=.int j∧Q (g i j) H
def rU (g:Int→V):V→Hp→VK→Prop:=fun x H Q=>∃ i,x=.int i∧Q (g i) H
section
variable {X:Cx} {a b c:Expr} {ta tb tc:TE} {pos:Pos}
theorem CO (ha:PE X a ta) (hb:PE X b tb) {pins:List (Addr × Obj)} {s:Shared} {σ:St} {H:Hp} {R:V→V→Hp→Prop} (I:Inv X pins σ H s)
  (h:ta σ H fun x H1=>tb σ H1 fun y H2=>R x y H2) {Q:Value→Shared→Prop} {f:Value→Value→Sem Value}
  (hf:∀ v u s2 x y H2,Inv X pins σ H2 s2→RelV x v→RelV y u→R x y H2→wpAny (model X.prog X.w) X.A (f v u) Q X.xe s2) :
  wpAny (model X.prog X.w) X.A (eval a X.env) (fun v s₁=>wpAny (model X.prog X.w) X.A (eval b X.env) (fun u s₂=>wpAny (model X.prog X.w) X.A (f v u) Q X.xe s₂) X.xe s₁) X.xe s:=by
 refine bE (ha pins s σ H _ I h) fun v s1 ⟨x,H1,I1,r1,q1⟩=>?_
 refine bE (hb pins s1 σ H1 _ I1 q1) fun u s2 ⟨y,H2,I2,r2,q2⟩=>?_
 exact hf v u s2 x y H2 I2 r1 r2 q2
theorem aW {op:Operator} {r:R2} (ho:eA X (binaryOp op) r) (ha:PE X a ta) (hb:PE X b tb):PE X (.BinOp a op b pos) (zI r ta tb):=by
 intro pins s σ H Q I h
 exact wpAny_BinOp (CO ha hb I h fun v u s2 x y H2 I2 rx ry q=>ho pins s2 σ H2 x y v u Q I2 rx ry q)
theorem ux {op:UnaryOp} {r:V→Hp→VK→Prop} (ho:rL X (unaryOp op) r) (ha:PE X a ta):PE X (.UnaryOp op a pos) (GX r ta):=by
 intro pins s σ H Q I h
 exact UnaryOp_ (bE (ha pins s σ H _ I h) fun v s1 ⟨x,H1,I1,r1,q1⟩=>ho pins s1 σ H1 x v Q I1 r1 q1)
theorem GP {f:Value→Value→Sem Value} {C:Int→Int→Prop} {g:Int→Int→Int}
  (rule:∀ (i j:Int) (t u:Tok) (s:Shared) (Q:Value→Shared→Prop) (E:Value→Shared→Prop),C i j→Q (.int (g i j) s.toks) { s with toks:=s.toks + 1 }→wpAny (model X.prog X.w) X.A (f (.int i t) (.int j u)) Q E s) :
  eA X f (rI C fun i j=>.int (g i j)):=by
 intro pins s σ H x y v u Q I rx ry h
 obtain ⟨i,j,rfl,rfl,hc,q⟩:=h
 obtain ⟨t,rfl⟩:=rx
 obtain ⟨t',rfl⟩:=ry
 exact rule i j t t' s _ _ hc ⟨.int (g i j),H,I.tok _,⟨_,rfl⟩,q⟩
theorem Fw {f:Value→Value→Sem Value} {g:Int→Int→Int}
  (rule:∀ (i j:Int) (t u:Tok) (s:Shared) (Q:Value→Shared→Prop) (E:Value→Shared→Prop),Q (.int (g i j) s.toks) { s with toks:=s.toks + 1 }→wpAny (model X.prog X.w) X.A (f (.int i t) (.int j u)) Q E s) :
  eA X f (zS fun i j=>.int (g i j)):=by
 intro pins s σ H x y v u Q I rx ry h
 obtain ⟨i,j,rfl,rfl,q⟩:=h
 obtain ⟨t,rfl⟩:=rx
 obtain ⟨t',rfl⟩:=ry
 exact rule i j t t' s _ _ ⟨.int (g i j),H,I.tok _,⟨_,rfl⟩,q⟩
theorem AU {f:Value→Value→Sem Value} {g:Int→Int→Bool}
  (rule:∀ (i j:Int) (t u:Tok) (s:Shared) (Q:Value→Shared→Prop) (E:Value→Shared→Prop),Q (.bool (g i j)) s→wpAny (model X.prog X.w) X.A (f (.int i t) (.int j u)) Q E s) :
  eA X f (zS fun i j=>.bl (g i j)):=by
 intro pins s σ H x y v u Q I rx ry h
 obtain ⟨i,j,rfl,rfl,q⟩:=h
 obtain ⟨t,rfl⟩:=rx
 obtain ⟨t',rfl⟩:=ry
 exact rule i j t t' s _ _ ⟨.bl (g i j),H,I,rfl,q⟩
def G0 (i j:Int):Prop:=0≤j∧j≤1000000∧i.natAbs < 2 ^ 64
def Ex (i j:Int):Prop:=(-(2 ^ 64) < i∧i < 2 ^ 64)∨(-(2 ^ 64) < j∧j < 2 ^ 64)
theorem Ex.ok {i j:Int} (h:Ex i j):IntMulOk i j:=by
 rcases h with ⟨h1,h2⟩ | ⟨h1,h2⟩
 ·exact .of_left (intBits_le_64 h1 h2)
 ·exact .of_right (intBits_le_64 h1 h2)
theorem fK:eA X (binaryOp .Add) (zS fun i j=>.int (i + j)):=Fw fun _ _ _ _ _ _ _ q=>add_int q
theorem sJ:eA X (binaryOp .Sub) (zS fun i j=>.int (i - j)):=Fw fun _ _ _ _ _ _ _ q=>sub_int q
theorem eJ:eA X (binaryOp .Mod) (rI (fun _ j=>0 < j) fun i j=>.int (i % j)):=GP fun i j _ _ _ _ _ hc q=>by
 have h1:(0:Int) < j:=hc
 exact mod_int' (by omega) (by rw [Int.fmod_eq_emod_of_nonneg i (by omega)];exact q)
theorem yA:eA X (binaryOp .Pow) (rI G0 fun i j=>.int (i ^ j.toNat)):=GP fun _ _ _ _ _ _ _ hc q=>pow_int_small hc.1 hc.2.1 hc.2.2 q
theorem Jw {f:Value→Sem Value} {g:Int→Int}
  (rule:∀ (i:Int) (t:Tok) (s:Shared) (Q:Value→Shared→Prop) (E:Value→Shared→Prop),Q (.int (g i) s.toks) { s with toks:=s.toks + 1 }→wpAny (model X.prog X.w) X.A (f (.int i t)) Q E s) :
  rL X f (rU fun i=>.int (g i)):=by
 intro pins s σ H x v Q I rx h
 obtain ⟨i,rfl,q⟩:=h
 obtain ⟨t,rfl⟩:=rx
 exact rule i t s _ _ ⟨.int (g i),H,I.tok _,⟨_,rfl⟩,q⟩
theorem zM:rL X (unaryOp .USub) (rU fun i=>.int (-i)):=Jw fun _ _ _ _ _ q=>neg_int q
end
def zi:V→V→Bool
 | .non,.non=>true | .non,.int _=>true | .int _,.non=>true | .non,.bl _=>true | .bl _,.non=>true | .non,.str _=>true | .str _,.non=>true
 | .int _,.int _=>true | .bl _,.bl _=>true | .str _,.str _=>true | .byt _,.byt _=>true
 | .int _,.str _=>true | .str _,.int _=>true | .bl _,.str _=>true | .str _,.bl _=>true
 | _,_=>false
def IX:R2:=fun x y H Q=>zi x y=true∧Q (.bl (decide (x=y))) H
def I9:R2:=fun x y H Q=>zi x y=true∧Q (.bl (!decide (x=y))) H
theorem tV {i j:Int}:decide (V.int i=V.int j)=(i == j):=by
 rw [Bool.eq_iff_iff]
 simp
theorem xA {i j:Bool}:decide (V.bl i=V.bl j)=(i == j):=by
 rw [Bool.eq_iff_iff]
 simp
theorem tW {i j:Str}:decide (V.str i=V.str j)=(i == j):=by
 rw [Bool.eq_iff_iff]
 simp
theorem tU {i j:Array UInt8}:decide (V.byt i=V.byt j)=(i.toList == j.toList):=by
 rw [Bool.eq_iff_iff]
 cases i
 cases j
 simp
section
variable {X:Cx} {a b c:Expr} {ta tb tc:TE} {pos:Pos}
theorem aZ {pins:List (Addr × Obj)} {σ:St} {H:Hp} {s:Shared} {Q:VK} {k k':Bool} (I:Inv X pins σ H s) (q:Q (.bl k) H) (e:k=k'):EP X pins σ Q (.bool k') s:=by
 subst e
 exact ⟨.bl k,H,I,rfl,q⟩
theorem yz:eA X (compareOp .Eq) IX:=by
 intro pins s σ H x y v u Q I rx ry h
 obtain ⟨hs,q⟩:=h
 cases x with
 | non =>
  cases rx
  cases y with
  | non=>cases ry;exact PySem.EqNone.eq_none_none (aZ I q (by simp))
  | bl j=>cases ry;exact PySem.EqNone.eq_none_bool (aZ I q (by simp))
  | int j=>obtain ⟨t',rfl⟩:=ry;exact PySem.EqNone.eq_none_int (aZ I q (by simp))
  | str j=>obtain ⟨t',rfl⟩:=ry;exact PySem.EqNone.eq_none_str (aZ I q (by simp))
  | _=>exact absurd (show false=true from hs) Bool.false_ne_true
 | bl i =>
  cases rx
  cases y with
  | non=>cases ry;exact PySem.EqNone.eq_bool_none (aZ I q (by simp))
  | bl j=>cases ry;exact eq_bool (aZ I q xA)
  | str j=>obtain ⟨t',rfl⟩:=ry;exact PySem.EqMixed.eq_bool_str (aZ I q (by simp))
  | _=>exact absurd (show false=true from hs) Bool.false_ne_true
 | int i =>
  obtain ⟨t,rfl⟩:=rx
  cases y with
  | non=>cases ry;exact PySem.EqNone.eq_int_none (aZ I q (by simp))
  | int j=>obtain ⟨t',rfl⟩:=ry;exact eq_int (aZ I q tV)
  | str j=>obtain ⟨t',rfl⟩:=ry;exact PySem.EqMixed.eq_int_str (aZ I q (by simp))
  | _=>exact absurd (show false=true from hs) Bool.false_ne_true
 | str i =>
  obtain ⟨t,rfl⟩:=rx
  cases y with
  | non=>cases ry;exact PySem.EqNone.eq_str_none (aZ I q (by simp))
  | bl j=>cases ry;exact PySem.EqMixed.eq_str_bool (aZ I q (by simp))
  | int j=>obtain ⟨t',rfl⟩:=ry;exact PySem.EqMixed.eq_str_int (aZ I q (by simp))
  | str j=>obtain ⟨t',rfl⟩:=ry;exact eq_str (aZ I q tW)
  | _=>exact absurd (show false=true from hs) Bool.false_ne_true
 | byt i =>
  obtain ⟨t,rfl⟩:=rx
  cases y with
  | byt j=>obtain ⟨t',rfl⟩:=ry;exact PySem.W.eq_bytes (aZ I q tU)
  | _=>exact absurd (show false=true from hs) Bool.false_ne_true
 | _=>cases y <;> exact absurd (show false=true from hs) Bool.false_ne_true
theorem Ci:eA X (compareOp .NotEq) I9:=by
 intro pins s σ H x y v u Q I rx ry h
 obtain ⟨hs,q⟩:=h
 cases x with
 | non =>
  cases rx
  cases y with
  | non=>cases ry;exact PySem.EqNone.ne_none_none (aZ I q (by simp))
  | bl j=>cases ry;exact PySem.EqNone.ne_none_bool (aZ I q (by simp))
  | int j=>obtain ⟨t',rfl⟩:=ry;exact PySem.EqNone.ne_none_int (aZ I q (by simp))
  | str j=>obtain ⟨t',rfl⟩:=ry;exact PySem.EqNone.ne_none_str (aZ I q (by simp))
  | _=>exact absurd (show false=true from hs) Bool.false_ne_true
 | bl i =>
  cases rx
  cases y with
  | non=>cases ry;exact PySem.EqNone.ne_bool_none (aZ I q (by simp))
  | bl j=>cases ry;exact ne_bool (aZ I q (congrArg not xA))
  | str j=>obtain ⟨t',rfl⟩:=ry;exact PySem.EqMixed.ne_bool_str (aZ I q (by simp))
  | _=>exact absurd (show false=true from hs) Bool.false_ne_true
 | int i =>
  obtain ⟨t,rfl⟩:=rx
  cases y with
  | non=>cases ry;exact PySem.EqNone.ne_int_none (aZ I q (by simp))
  | int j=>obtain ⟨t',rfl⟩:=ry;exact ne_int (aZ I q (congrArg not tV))
  | str j=>obtain ⟨t',rfl⟩:=ry;exact PySem.EqMixed.ne_int_str (aZ I q (by simp))
  | _=>exact absurd (show false=true from hs) Bool.false_ne_true
 | str i =>
  obtain ⟨t,rfl⟩:=rx
  cases y with
  | non=>cases ry;exact PySem.EqNone.ne_str_none (aZ I q (by simp))
  | bl j=>cases ry;exact PySem.EqMixed.ne_str_bool (aZ I q (by simp))
  | int j=>obtain ⟨t',rfl⟩:=ry;exact PySem.EqMixed.ne_str_int (aZ I q (by simp))
  | str j=>obtain ⟨t',rfl⟩:=ry;exact ne_str (aZ I q (congrArg not tW))
  | _=>exact absurd (show false=true from hs) Bool.false_ne_true
 | byt i =>
  obtain ⟨t,rfl⟩:=rx
  cases y with
  | byt j=>obtain ⟨t',rfl⟩:=ry;exact PySem.W.ne_bytes (aZ I q (congrArg not tU))
  | _=>exact absurd (show false=true from hs) Bool.false_ne_true
 | _=>cases y <;> exact absurd (show false=true from hs) Bool.false_ne_true
theorem uu:eA X (compareOp .Lt) (zS fun i j=>.bl (decide (i < j))):=AU fun _ _ _ _ _ _ _ q=>lt_int q
theorem Cg:eA X (compareOp .LtE) (zS fun i j=>.bl (decide (i≤j))):=AU fun _ _ _ _ _ _ _ q=>le_int q
theorem Ce:eA X (compareOp .Gt) (zS fun i j=>.bl (decide (j < i))):=AU fun _ _ _ _ _ _ _ q=>gt_int q
theorem Cd:eA X (compareOp .GtE) (zS fun i j=>.bl (decide (j≤i))):=AU fun _ _ _ _ _ _ _ q=>ge_int q
theorem wz:eA X (compareOp .Lt) (fun x y H Q=>∃ i j,x=.str i∧y=.str j∧Q (.bl (decide (i.cps.toList < j.cps.toList))) H):=by
 intro pins s σ H x y v u Q I rx ry h
 obtain ⟨i,j,rfl,rfl,q⟩:=h
 obtain ⟨t,rfl⟩:=rx
 obtain ⟨t',rfl⟩:=ry
 exact lt_str (aZ I q rfl)
theorem DB:eA X (compareOp .Is) (fun x y H Q=>y=.non∧Q (.bl (decide (x=.non))) H):=by
 intro pins s σ H x y v u Q I rx ry h
 obtain ⟨rfl,q⟩:=h
 cases ry
 refine is_none_gen (aZ I q ?_)
 cases x <;> first
  | (cases rx;rfl)
  | (obtain ⟨t,rfl⟩:=rx;rfl)
theorem AW:eA X (compareOp .IsNot) (fun x y H Q=>y=.non∧Q (.bl (!decide (x=.non))) H):=by
 intro pins s σ H x y v u Q I rx ry h
 obtain ⟨rfl,q⟩:=h
 cases ry
 refine isnot_none_gen (aZ I q ?_)
 cases x <;> first
  | (cases rx;rfl)
  | (obtain ⟨t,rfl⟩:=rx;rfl)
theorem ax (b:Expr) {op:CmpOp} (h:op≠.In:=by decide) (h2:op≠.NotIn:=by decide):behindInMarks op b=false:=by
 have e1:(op == CmpOp.In)=false:=by cases op <;> first | rfl | exact absurd rfl h
 have e2:(op == CmpOp.NotIn)=false:=by cases op <;> first | rfl | exact absurd rfl h2
 cases b <;> simp [behindInMarks,e1,e2]
theorem kX {op:CmpOp} {r:R2} (ho:eA X (compareOp op) r) (ha:PE X a ta) (hb:PE X b tb) (hm:behindInMarks op b=false):PE X (.Compare a [op] [b] pos) (zI r ta tb):=by
 intro pins s σ H Q I h
 exact wpAny_Compare1 (CO ha hb I h fun v u s2 x y H2 I2 rx ry q=>ho pins s2 σ H2 x y v u Q I2 rx ry q) hm
def vp (t:TE):TT:=fun σ H Q=>t σ H fun x H'=>∃ k,x=.bl k∧Q k H'
theorem cA {op:CmpOp} {r:R2} (ho:eA X (compareOp op) r) (ha:PE X a ta) (hb:PE X b tb) (hm:behindInMarks op b=false):PT X (.Compare a [op] [b] pos) (vp (zI r ta tb)):=by
 intro pins s σ H Q I h
 refine wpAny_isTrue_Compare1 (bE (ha pins s σ H _ I h) fun v s1 ⟨x,H1,I1,r1,q1⟩=>bE (hb pins s1 σ H1 _ I1 q1) fun u s2 ⟨y,H2,I2,r2,q2⟩ =>
  bE (ho pins s2 σ H2 x y v u _ I2 r1 r2 q2) fun c s3 ⟨z,H3,I3,r3,k,e,q3⟩=>?_) hm
 subst e
 cases r3
 exact wpAny_truthy_bool ⟨H3,I3,q3⟩
def zE (r r':R2) (ta tb tc:TE):TE:=fun σ H Q=>ta σ H fun x H1=>tb σ H1 fun y H2=>r x y H2 fun z H3=>∃ k,z=.bl k ∧
 (if k=true then tc σ H3 fun w' H4=>r' y w' H4 Q else Q (.bl false) H3)
theorem yL {op op':CmpOp} {r r':R2} (ho:eA X (compareOp op) r) (ho':eA X (compareOp op') r') (ha:PE X a ta) (hb:PE X b tb) (hc:PE X c tc)
  (hm:lastMarks [op,op'] [b,c]=false:=by with_unfolding_all rfl):PE X (.Compare a [op,op'] [b,c] pos) (zE r r' ta tb tc):=by
 intro pins s σ H Q I h
 refine Compare_chain (bE (ha pins s σ H _ I h) fun v s1 ⟨x,H1,I1,r1,q1⟩=>chain_link (bE (hb pins s1 σ H1 _ I1 q1) fun u s2 ⟨y,H2,I2,r2,q2⟩ =>
  bE (ho pins s2 σ H2 x y v u _ I2 r1 r2 q2) fun d s3 ⟨z,H3,I3,r3,k,e,q3⟩=>?_)) hm
 subst e
 cases r3
 refine wpAny_truthy_bool ?_
 cases k with
 | false=>exact ite_ff ⟨.bl false,H3,I3,rfl,q3⟩
 | true=>exact ite_tt (chain_last (bE (hc pins s3 σ H3 _ I3 q3) fun w' s4 ⟨z',H4,I4,r4,q4⟩=>ho' pins s4 σ H4 y z' u w' Q I4 r2 r4 q4))
def CJ (K:PySem.W.Frag) (x:V) (H:Hp) (k:Bool):Prop :=
 match x with
 | .non=>k=false
 | .bl b=>k=b
 | .int i=>k=(i != 0)
 | .str y=>y.length≤sizeLine∧k=((y.length:Int) != 0)
 | .byt y=>y.size≤sizeLine∧k=((y.size:Int) != 0)
 | .ref p=>(∃ xs,cM K H p xs∧k=!xs.isEmpty)∨(∃ xs,fh K H p xs∧k=!xs.isEmpty)∨∃ kvs ep,H p=some (.dE kvs ep)∧k=!kvs.isEmpty
 | _=>False
theorem si {κ:Type} {kvs:List (κ × V)} {vs:List (κ × Value)} (r:KV kvs vs):(!vs.isEmpty)=!kvs.isEmpty:=by
 cases r <;> rfl
theorem lU {xs:List V} {its:List Value} (r:Vals xs its):(!its.toArray.isEmpty)=!xs.isEmpty:=by
 cases r <;> simp
theorem iG:(sizeLine:Nat) < 2 ^ 63:=by rw [sizeLine_eq];decide
theorem Ed:G7 X (fun x H Q=>∃ k,CJ X.K x H k∧Q k H):=by
 intro pins s σ H x v Q I rx h
 obtain ⟨k,e,q⟩:=h
 have hl:=iG
 have hs:sizeLine=16777216:=sizeLine_eq
 cases x with
 | non =>
  cases rx
  have e':k=false:=e
  subst e'
  exact truthy_none ⟨H,I,q⟩
 | bl b =>
  cases rx
  have e':k=b:=e
  subst e'
  exact wpAny_truthy_bool ⟨H,I,q⟩
 | int i =>
  obtain ⟨t,rfl⟩:=rx
  have e':k=(i != 0):=e
  subst e'
  exact PySem.P.truthy_int ⟨H,I,q⟩
 | str y =>
  obtain ⟨t,rfl⟩:=rx
  obtain ⟨hy,e'⟩:y.length≤sizeLine∧k=((y.length:Int) != 0):=e
  subst e'
  exact PySem.P.truthy_str (by omega) ⟨H,I.tok _,q⟩
 | byt y =>
  obtain ⟨t,rfl⟩:=rx
  obtain ⟨hy,e'⟩:y.size≤sizeLine∧k=((y.size:Int) != 0):=e
  subst e'
  exact PySem.W.truthy_bytes (by omega) ⟨H,I.tok _,q⟩
 | ref p =>
  cases rx
  have e':(∃ xs,cM X.K H p xs∧k=!xs.isEmpty)∨(∃ xs,fh X.K H p xs∧k=!xs.isEmpty)∨∃ kvs ep,H p=some (.dE kvs ep)∧k=!kvs.isEmpty:=e
  rcases e' with ⟨xs,hx,e'⟩ | ⟨xs,hx,e'⟩ | ⟨kvs,ep,hx,e'⟩
  ·subst e'
   obtain ⟨its,r,pl,hz⟩:=I.list hx
   have hlen:=r.length
   exact wpAny_truthy_list pl.isList (by simp only [List.size_toArray];omega) ⟨H,I.tok _,by rw [lU r];exact q⟩
  ·subst e'
   obtain ⟨its,r,pl,hz⟩:=I.tuple hx
   have hlen:=r.length
   exact truthy_tuple pl (by simp only [List.size_toArray];omega) ⟨H,I.tok _,by rw [lU r];exact q⟩
  ·subst e'
   obtain ⟨hz,hS,vs,r,m⟩:kvs.length≤sizeLine∧(p == sysModules)=false∧∃ vs,KV kvs vs∧s.heap.DictAt (strKind X.prog X.w) p vs ep:=I.hok p _ hx
   have hlen:kvs.length=vs.length:=Paired.length r
   exact wpAny_truthy_dict hS m.dictOf (by omega) ⟨H,I.tok _,by rw [si r];exact q⟩
 | _=>exact (show False from e).elim
theorem yS (ha:PE X a ta) (he:∀ whole,isTrue a X.env whole=(do let v ← whole;standAt a.pos;holding [v] (truthy v))) :
  PT X a (fun σ H Q=>ta σ H fun x H'=>∃ k,CJ X.K x H' k∧Q k H'):=by
 intro pins s σ H Q I h
 exact isTrue_plain (bE (ha pins s σ H _ I h) fun v s1 ⟨x,H1,I1,r1,q1⟩=>Ed pins s1 σ H1 x v Q I1 r1 q1) (he _)
theorem vals1 {x:V} {us:List Value} (r:Vals [x] us):∃ u,us=[u]∧RelV x u:=by
 cases r with
 | cons r1 r2=>cases r2;exact ⟨_,rfl,r1⟩
theorem vals2 {x y:V} {us:List Value} (r:Vals [x,y] us):∃ u w',us=[u,w']∧RelV x u∧RelV y w':=by
 cases r with
 | cons r1 r2 =>
  cases r2 with
  | cons r3 r4=>cases r4;exact ⟨_,_,rfl,r1,r3⟩
theorem iX:b7 X (.builtin "abs") (fun xs H Q=>∃ i,xs=[.int i]∧Q (.int (if i < 0 then -i else i)) H):=by
 intro pins s σ H xs us Q I r h
 obtain ⟨i,rfl,q⟩:=h
 obtain ⟨u,rfl,t,rfl⟩:=vals1 r
 exact call_abs_int fun u tk=>⟨.int (if i < 0 then -i else i),H,I.tok _,⟨_,rfl⟩,q⟩
end
end L2
namespace L2
open PySem PySem.Spec PyProof.Rows
structure rR (h:Heap) (x dx C:Addr) (mA:Str→Option Value):Prop where
 obj:h.get? x=some (PySem.W.instObj C dx)
 ns:h.Ns1 dx mA
 ne:dx≠x
theorem v_ {h:Heap} {dx:Addr} {mA:Str→Option Value} (n:h.Ns1 dx mA):∃ od,h.get? dx=some od∧∀ name,PySem.W.lookIn name od=some (mA name):=by
 obtain ⟨o,es,ep,ho,hd,hk,_,hm⟩:=n
 refine ⟨o,ho,fun name=>?_⟩
 have e:=hm name
 unfold nsFind findBy at e
 rw [← Array.find?_toList] at e
 unfold PySem.W.lookIn
 rw [hd]
 dsimp only
 split
 ·rename_i y q
  rw [q] at e
  exact congrArg some e
 ·rename_i q
  rw [q] at e
  have a:es.toList.any (·.refKey)=false:=by
   rw [List.any_eq_false]
   intro y hy
   obtain ⟨z,t,hkey⟩:=hk y (Array.mem_toList_iff.mp hy)
   simp [DictEntry.refKey,hkey]
  have a':¬ es.toList.any (·.refKey)=true:=by rw [a];exact Bool.false_ne_true
  rw [if_neg a']
  exact congrArg some e
theorem rR.look {h:Heap} {x dx C:Addr} {mA:Str→Option Value} (I:rR h x dx C mA):∃ od,PySem.W.InstAt h x (PySem.W.instObj C dx) C (some od)∧∀ name,PySem.W.lookIn name od=some (mA name) :=
 let ⟨od,ho,hl⟩:=v_ I.ns
 ⟨od,⟨I.obj,rfl,rfl,ho⟩,hl⟩
section
variable {prog:Program} {w:World} {A:Around} {E:Value→Shared→Prop} {s:Shared} {K:PySem.W.Frag} {x dx C f:Addr} {mA:Str→Option Value} {name:Str} {v:Value}
theorem get_map {expr:Bool} {Q:Value→Shared→Prop} (X:K.In s.heap) (I:rR s.heap x dx C mA) (hg:PySem.W.plainGet K C name=true) (hh:PySem.W.hasDictIn K C=true)
  (ha:PySem.W.findIn K (.ref C) name=some none) (hv:mA name=some v) (hv':PySem.W.handedIn v=true) (h:Q v { s with toks:=s.toks + 1 }) :
  wpAny (model prog w) A (getAttr (.ref x) name expr) Q E s:=by
 obtain ⟨od,J,hl⟩:=I.look
 exact PySem.W.get_value X J (PySem.W.plainGet_of hg).1 (PySem.W.findObj_own hh ha rfl (by rw [hl,hv])) hv' h
theorem xM {pl:Sem Bool} {Q:Value × List Value→Shared→Prop} (X:K.In s.heap) (I:rR s.heap x dx C mA) (hg:PySem.W.plainGet K C name=true)
  (hf:PySem.W.findIn K (.ref C) name=some (some (.ref f))) (ht:PySem.W.isFn K (.ref f)=true) (hv:mA name=none) (h:Q (.ref f,[.ref x]) s) :
  wpAny (model prog w) A (getMethod (.ref x) name pl) Q E s:=by
 obtain ⟨od,J,hl⟩:=I.look
 exact PySem.W.method_fn X J (PySem.W.plainGet_of hg).1 (PySem.W.plainGet_of hg).2 hf (beq_iff_eq.mp ht) (by show (PySem.W.lookIn name od).map (·.isSome)=some false;rw [hl,hv];rfl) h
theorem BH {ns:List Str} {Q:Unit→Shared→Prop} (X:K.In s.heap) (I:rR s.heap x dx C mA)
  (hs:PySem.W.findIn K (.ref C) "__setattr__"=some (some (.builtin "object.__setattr__"))) (hp:PySem.W.plainOver K C=true) (ht:PySem.W.takerIn K C name=some none) (hh:PySem.W.hasDictIn K C=true)
  (hw:PySem.Within mA ns) (hsz:ns.length≤sizeLine)
  (h:∀ h',rR h' x dx C (fun y=>if y=name then some v else mA y)→Heap.SameBut dx s.heap h'→Q () { s with heap:=h',toks:=s.toks + 2 }) :
  wpAny (model prog w) A (setAttr (.ref x) name v) Q E s:=by
 obtain ⟨od,J,hl⟩:=I.look
 refine PySem.W.set_plain X J hs (PySem.W.osa_open (s:={ s with toks:=s.toks + 1 }) (r:=none) X J hp ht fun b=>?_)
 obtain ⟨cd,hc,hd'⟩:=PySem.W.any_some hh
 have hx:s.heap.get? x=some ⟨.ref C,some dx,.plain,#[]⟩:=I.obj
 refine wpAny_bind (wpAny_pure (wpAny_bind (wpAny_bind (wpAny_loadPart hx (wpAny_bind (PySem.W.Looks.here (s:={ s with toks:=s.toks + 1 }) (PySem.W.looks_clsIn X hc) ?_))))))
 rw [hd']
 refine wpAny_pure (a:=some dx) (wpAny_bind (wpAny_pure (wpAny_bind ?_)))
 refine wpAny_nsSet1 (s:={ s with toks:=s.toks + 1 }) I.ns fun h' hn2 hs2=>?_
 obtain ⟨oD,esD,epD,hoD,hdD,hcD⟩:=hn2.count (PySem.Within.cons name v hw)
 refine wpAny_bind (wpAny_lookBehind hoD (by rw [hdD];exact pastItsLine_dict (Nat.le_trans hcD (by rw [List.length_cons];omega))) ?_)
 exact wpAny_pure (h _ ⟨(hs2.2 _ (Ne.symm I.ne)).trans I.obj,hn2,I.ne⟩ hs2)
theorem yj {R:Result→Shared→Prop} {vs:List Value} {kw:List (Str × Value)} (X:K.In s.heap) (hm:PySem.W.makesIn K C=true)
  (hi:PySem.W.findIn K (.ref C) "__init__"=some (some (.ref f))) (hf:PySem.W.typeIn K (.ref f)=some (.type "function"))
  (h:codeAny (model prog w) (A.under (.builtin "type.__call__" ⟨.ref C :: vs,kw⟩)) (.call (.ref f) ⟨.ref (s.heap.objs.size + 1) :: vs,kw⟩) (PySem.W.InitBack (s.heap.objs.size + 1) R)
   { s with heap:=(s.heap.push PySem.W.emptyDict).push (PySem.W.instObj C s.heap.objs.size) }) :
  codeAny (model prog w) A (.call (.ref C) ⟨vs,kw⟩) R s:=by
 obtain ⟨hh,g,d,t,os⟩:=s
 exact PySem.W.make_core (PySem.W.makes_of X hm) (PySem.W.looks_findIn X hi) (fun self=>PySem.W.bind_fn X self hf) (.inl rfl) h
end
def dH (f:Str) (v:V):List (Str × V)→List (Str × V)
 | []=>[(f,v)]
 | (g,x) :: r=>if g=f then (g,v) :: r else (g,x) :: dH f v r
theorem kA (f g:Str) (v:V):∀ fs:List (Str × V),(dH f v fs).lookup g=if g=f then some v else fs.lookup g
 | []=>by
  show List.lookup g [(f,v)]=_
  by_cases h:g=f
  ·have hb:(g == f)=true:=beq_iff_eq.mpr h
   simp only [List.lookup,hb,if_pos h]
  ·have hb:(g == f)=false:=beq_eq_false_iff_ne.mpr h
   simp only [List.lookup,hb,if_neg h]
 | (k,x) :: r=>by
  have ih:=kA f g v r
  rw [show dH f v ((k,x) :: r)=(if k=f then (k,v) :: r else (k,x) :: dH f v r) from rfl]
  by_cases hk:k=f
  ·rw [if_pos hk]
   by_cases h:g=k
   ·have hb:(g == k)=true:=beq_iff_eq.mpr h
    simp only [List.lookup,hb,if_pos (h.trans hk)]
   ·have hb:(g == k)=false:=beq_eq_false_iff_ne.mpr h
    simp only [List.lookup,hb,if_neg (fun e:g=f=>h (e.trans hk.symm))]
  ·rw [if_neg hk]
   by_cases h:g=k
   ·have hb:(g == k)=true:=beq_iff_eq.mpr h
    simp only [List.lookup,hb,if_neg (fun e:g=f=>hk (h.symm.trans e))]
   ·have hb:(g == k)=false:=beq_eq_false_iff_ne.mpr h
    simp only [List.lookup,hb]
    exact ih
theorem jO (f:Str) (v:V):∀ fs:List (Str × V),f∈(dH f v fs).map (·.1)∧∀ g,g∈fs.map (·.1)→g∈(dH f v fs).map (·.1)
 | []=>⟨by simp [dH],fun g h=>by simp at h⟩
 | (k,x) :: r=>by
  obtain ⟨i1,i2⟩:=jO f v r
  rw [show dH f v ((k,x) :: r)=(if k=f then (k,v) :: r else (k,x) :: dH f v r) from rfl]
  by_cases hk:k=f
  ·rw [if_pos hk]
   subst hk
   exact ⟨by simp,fun g h=>by simpa using h⟩
  ·rw [if_neg hk]
   refine ⟨?_,fun g h=>?_⟩
   ·rw [List.map_cons]
    exact List.mem_cons_of_mem _ i1
   ·rw [List.map_cons] at h ⊢
    rcases List.mem_cons.mp h with e | e
    ·exact List.mem_cons.mpr (.inl e)
    ·exact List.mem_cons_of_mem _ (i2 g e)
theorem ku (f:Str) (v:V):∀ fs:List (Str × V),(dH f v fs).length≤fs.length + 1
 | []=>by simp [dH]
 | (k,x) :: r=>by
  have ih:=ku f v r
  rw [show dH f v ((k,x) :: r)=(if k=f then (k,v) :: r else (k,x) :: dH f v r) from rfl]
  by_cases hk:k=f
  ·rw [if_pos hk,List.length_cons,List.length_cons];omega
  ·rw [if_neg hk,List.length_cons,List.length_cons];omega
theorem mK.some_of {v:V} {o:Option Value} (r:mK (some v) o):∃ u,o=some u∧RelV v u:=by
 cases o with
 | none=>exact (show False from r).elim
 | some u=>exact ⟨u,rfl,r⟩
theorem mK.none_of {o:Option Value} (r:mK none o):o=none:=by
 cases o with
 | none=>rfl
 | some u=>exact (show False from r).elim
theorem vN {v:V} {u:Value} (r:RelV v u):PySem.W.handedIn u=true:=by
 cases v with
 | non=>cases (show u=Value.none from r);rfl
 | bl b=>cases (show u=Value.bool b from r);rfl
 | int i=>obtain ⟨t,e⟩:=(show ∃ t,u=Value.int i t from r);cases e;rfl
 | str x=>obtain ⟨t,e⟩:=(show ∃ t,u=Value.str x t from r);cases e;rfl
 | byt b=>obtain ⟨t,e⟩:=(show ∃ t,u=Value.bytes b t from r);cases e;rfl
 | flt b=>obtain ⟨t,e⟩:=(show ∃ t,u=Value.float b t from r);cases e;rfl
 | ref a=>cases (show u=Value.ref a from r);rfl
 | ty n=>cases (show u=Value.type n from r);rfl
section
variable {P:Program} {w:World} {H H':Hp} {h h':Heap} {a C dx:Addr} {fs fs':List (Str × V)}
theorem kS (hok:iQ P w H h) (e:H a=some (.ins C dx fs)):∃ mA,rR h a dx C mA∧(∀ f,mK (fs.lookup f) (mA f))∧PySem.Within mA (fs.map (·.1))∧fs.length≤1000∧H dx=some (.own a):=by
 obtain ⟨d,z,ne,ob,mA,n,r,q⟩:=(show b_ P w H h a (.ins C dx fs) from hok a _ e)
 exact ⟨mA,⟨ob,n,ne⟩,r,q,z,d⟩
end
structure kO (K:PySem.W.Frag) (C:Addr):Prop where
 pg:PySem.W.plainGet K C Str.empty=true
 hd:PySem.W.hasDictIn K C=true
 po:PySem.W.plainOver K C=true
 sa:PySem.W.findIn K (.ref C) "__setattr__"=some (some (.builtin "object.__setattr__"))
theorem kO.get {K:PySem.W.Frag} {C:Addr} (c:kO K C) (f:Str):PySem.W.plainGet K C f=true:=c.pg
def aA (K:PySem.W.Frag) (C:Addr) (f:Str):Prop:=PySem.W.findIn K (.ref C) f=some none
theorem aA.Gr {K:PySem.W.Frag} {C:Addr} {f:Str} (n:aA K C f):PySem.W.takerIn K C f=some none:=by
 unfold PySem.W.takerIn
 rw [show PySem.W.findIn K (.ref C) f=some none from n]
 rfl
structure Meth (K:PySem.W.Frag) (C:Addr) (m:Str) (f:Addr):Prop where
 at_:PySem.W.findIn K (.ref C) m=some (some (.ref f))
 fn:PySem.W.isFn K (.ref f)=true
 kp:PySem.W.keepIn K (.ref f)=true
section
variable {X:Cx} {pins:List (Addr × Obj)} {σ:St} {H:Hp} {s:Shared} {a C dx:Addr} {fs:List (Str × V)} {f:Str} {v:V} {A:Around} {E:Value→Shared→Prop}
theorem se {b:Bool} {Q:Value→Shared→Prop} (I:Inv X pins σ H s) (e:H a=some (.ins C dx fs)) (c:kO X.K C) (n:aA X.K C f) (l:fs.lookup f=some v)
  (h:∀ u s',Inv X pins σ H s'→RelV v u→Q u s'):wpAny (model X.prog X.w) A (getAttr (.ref a) f b) Q E s:=by
 obtain ⟨mA,O,r,_,_,_⟩:=kS I.hok e
 obtain ⟨u,hu,ru⟩:=mK.some_of (v:=v) (o:=mA f) (by rw [← l];exact r f)
 exact get_map I.i_ O (c.get f) c.hd n hu (vN ru) (h u _ (I.tok _) ru)
theorem lP {m:Str} {g:Addr} {pl:Sem Bool} {Q:Value × List Value→Shared→Prop} (I:Inv X pins σ H s) (e:H a=some (.ins C dx fs)) (c:kO X.K C) (k:Meth X.K C m g) (l:fs.lookup m=none)
  (h:Q (.ref g,[.ref a]) s):wpAny (model X.prog X.w) A (getMethod (.ref a) m pl) Q E s:=by
 obtain ⟨mA,O,r,_,_,_⟩:=kS I.hok e
 have hn:mA m=none:=mK.none_of (by rw [← l];exact r m)
 exact xM I.i_ O (c.get m) k.at_ k.fn hn h
theorem tw {y:V} {u:Value} {Q:Unit→Shared→Prop} (I:Inv X pins σ H s) (e:H a=some (.ins C dx fs)) (c:kO X.K C) (n:aA X.K C f) (hl:fs.length < 1000) (ry:RelV y u)
  (h:∀ s',Inv X pins σ (upd H a (.ins C dx (dH f y fs))) s'→Q () s'):wpAny (model X.prog X.w) A (setAttr (.ref a) f u) Q E s:=by
 obtain ⟨mA,O,r,wi,_,ho⟩:=kS I.hok e
 have hz:(fs.map (·.1)).length≤sizeLine:=by rw [List.length_map,sizeLine_eq];omega
 refine BH I.i_ O c.sa c.po n.Gr c.hd wi hz fun h' O' sb=>h _ ?_
 have hd:∃ o,h'.get? dx=some o:=let ⟨o,_,_,e',_⟩:=O'.ns;⟨o,e'⟩
 refine I.write (x:=a) (e:=dx) (by rw [e];exact True.intro) (.inr ho) (fun b q hb z=>(sb.2 b hb).trans z) hd ?_
 refine ⟨by rw [aG O.ne];exact ho,?_,O.ne,O'.obj,_,O'.ns,fun g=>?_,fun g hg=>?_⟩
 ·have:=ku f y fs;omega
 ·show mK ((dH f y fs).lookup g) (if g=f then some u else mA g)
  rw [kA]
  by_cases q:g=f
  ·rw [if_pos q,if_pos q];exact ry
  ·rw [if_neg q,if_neg q];exact r g
 ·by_cases q:g=f
  ·rw [q];exact (jO f y fs).1
  ·refine (jO f y fs).2 g (wi g fun z=>hg ?_)
   show (if g=f then some u else mA g)=none
   rw [if_neg q];exact z
theorem Inv.made (I:Inv X pins σ H s):Inv X pins σ (upd (upd H s.heap.objs.size (.own (s.heap.objs.size + 1))) (s.heap.objs.size + 1) (.ins C s.heap.objs.size []))
  { s with heap:=(s.heap.push PySem.W.emptyDict).push (PySem.W.instObj C s.heap.objs.size) }:=by
 have e1:(s.heap.push PySem.W.emptyDict).get? s.heap.objs.size=some PySem.W.emptyDict:=Heap.get?_push_size s.heap rfl
 have e2:((s.heap.push PySem.W.emptyDict).push (PySem.W.instObj C s.heap.objs.size)).get? (s.heap.objs.size + 1)=some (PySem.W.instObj C s.heap.objs.size):=by
  have:=Heap.get?_push_size (s.heap.push PySem.W.emptyDict) (o:=PySem.W.instObj C s.heap.objs.size) rfl
  rwa [Heap.size_push] at this
 have e3:(s.heap.push PySem.W.emptyDict).Ns s.heap.objs.size (fun _=>none):=⟨PySem.W.emptyDict,#[],_,e1,rfl,(fun e he=>absurd he (by simp)),fun _=>rfl⟩
 have I1:=I.laid (a:=s.heap.objs.size) (o:=.own (s.heap.objs.size + 1)) (h':=s.heap.push PySem.W.emptyDict) (t':=s.toks) (fun b u q=>Heap.get?_push_of_some _ q) (Nat.le_refl _) ⟨_,e1⟩
 refine I1.laid (a:=s.heap.objs.size + 1) (o:=.ins C s.heap.objs.size []) (t':=s.toks) (fun b u q=>Heap.get?_push_of_some _ q) (Nat.le_of_eq (Heap.size_push _ _)) ?_
 have ne:s.heap.objs.size≠s.heap.objs.size + 1:=Nat.ne_of_lt (Nat.lt_succ_self _)
 refine ⟨by rw [aG ne,az],Nat.zero_le _,ne,e2,fun _=>none,(Heap.Ns1.of_empty e3).at fun o q=>Heap.get?_push_of_some _ q,fun _=>True.intro,fun y hy=>absurd rfl hy⟩
theorem Ac {prog:Program} {w:World} {env:Env} {e:Expr} {f:Str} {pos:Pos} {s:Shared} {Q:Value→Shared→Prop} (hb:attributeBase e f env (eval e env)=eval e env)
  (h:wpAny (model prog w) A (eval e env) (fun o s₁=>wpAny (model prog w) A (getAttr o f true) Q E s₁) E s):wpAny (model prog w) A (eval (.Attribute e f pos) env) Q E s :=
 Attribute_any_ h (by rw [arm_eval_Attribute,hb])
end
def Ij (K:PySem.W.Frag) (ta:TE) (f:Str):TE:=fun σ H Q=>ta σ H fun x H1=>∃ a C dx fs v,x=.ref a∧H1 a=some (.ins C dx fs)∧kO K C∧aA K C f∧fs.lookup f=some v∧Q v H1
def Ig (K:PySem.W.Frag) (ta tv:TE) (f:Str):TS:=fun D σ H=>tv σ H fun y H1=>ta σ H1 fun x H2=>∃ a C dx fs,x=.ref a∧H2 a=some (.ins C dx fs)∧kO K C∧aA K C f∧fs.length < 1000 ∧
 D.nx σ (upd H2 a (.ins C dx (dH f y fs)))
section
variable {X:Cx} {o e value:Expr} {f:Str} {pos pos' tpos:Pos} {ta tv:TE}
theorem DH (he:PE X e ta) (hb:attributeBase e f X.env (eval e X.env)=eval e X.env):PE X (.Attribute e f pos) (Ij X.K ta f):=by
 intro pins s σ H Q I h
 refine Ac hb (bE (he pins s σ H _ I h) fun u s1 ⟨x,H1,I1,rx,a,C,dx,fs,v,ex,ea,c,n,l,q⟩=>?_)
 subst ex
 obtain rfl:u=Value.ref a:=rx
 exact se I1 ea c n l fun u' s2 I2 ru=>⟨v,H1,I2,ru,q⟩
theorem DJ (ha:PE X o ta) (hv:PE X value tv) (hs:swapsWith value (some (.Attribute o f pos')) pos.line X.env=pure false):PS X (.Assign [.Attribute o f pos'] value pos) (Ig X.K ta tv f):=by
 intro pins s σ H D I h
 refine plainObj_wpAny_Assign_Attribute (bE (hv pins s σ H _ I h) fun u s1 ⟨y,H1,I1,ry,q⟩=>bE (ha pins s1 σ H1 _ I1 q) fun ov s2 ⟨x,H2,I2,rx,a,C,dx,fs,ex,ea,c,n,l,q2⟩=>?_) hs
 subst ex
 obtain rfl:ov=Value.ref a:=rx
 exact tw I2 ea c n l ry fun s3 I3=>⟨σ,_,I3,q2⟩
end
section
variable {X:Cx} {pins:List (Addr × Obj)} {σ:St} {H:Hp} {s:Shared} {A:Around} {E:Value→Shared→Prop} {Q:Value→Shared→Prop} {c:Value} {b:Bool}
inductive eV (K:PySem.W.Frag) (H:Hp):V→Value→Prop where
 | non:eV K H .non (.type "NoneType")
 | bl (x:Bool):eV K H (.bl x) (.type "bool")
 | int (i:Int):eV K H (.int i) (.type "int")
 | str (x:Str):eV K H (.str x) (.type "str")
 | flt (x:UInt64):eV K H (.flt x) (.type "float")
 | lst {a:Addr} {xs:List V} (e:H a=some (.lst xs)):eV K H (.ref a) (.type "list")
 | mF {a:Addr} {o:Obj} {xs:List V} (e:H a=some (.mF o (.lst xs))):eV K H (.ref a) (.type "list")
 | tup {a:Addr} {xs:List V} (e:H a=some (.tup xs)):eV K H (.ref a) (.type "tuple")
 | dK {a:Addr} {kvs:List (Key × V)} (e:H a=some (.dK kvs)):eV K H (.ref a) (.type "dict")
 | dE {a:Addr} {kvs:List (Str × V)} {ep:Nat} (e:H a=some (.dE kvs ep)):eV K H (.ref a) (.type "dict")
 | ins {a C dx:Addr} {fs:List (Str × V)} (e:H a=some (.ins C dx fs)) (cl:kO K C) (ha:PySem.W.findIn K (.ref C) "__class__"=some (some (.builtin "object.__class__")))
   (hn:PySem.W.specialIn K (.builtin "object.__class__") "__get__"=some (some (.builtin "getset_descriptor.__get__"))) (htk:PySem.W.takesIn K (.builtin "object.__class__")=some true)
   (hm:PySem.W.mroIn K C (.type "object")=some true):eV K H (.ref a) (.ref C)
theorem vR {x:V} {u t:Value} (I:Inv X pins σ H s) (rx:RelV x u) (ty:eV X.K H x t) (e:PySem.W.kitOne X.K t c=some b) (h:∀ tk,Q (.bool b) { s with toks:=tk }) :
  wpAny (model X.prog X.w) A (call (.builtin "isinstance") [u,c]) Q E s:=by
 cases ty with
 | non=>cases (show u=Value.none from rx);exact PySem.W.kia_one PySem.W.kitx_none I.i_ True.intro e (fun z=>nomatch z) h
 | bl y=>cases (show u=Value.bool y from rx);exact PySem.W.kia_one PySem.W.kitx_bool I.i_ True.intro e (fun z=>nomatch z) h
 | int i=>obtain ⟨t,q⟩:=(show ∃ t,u=Value.int i t from rx);cases q;exact PySem.W.kia_one PySem.W.kitx_int I.i_ True.intro e (fun z=>nomatch z) h
 | str y=>obtain ⟨t,q⟩:=(show ∃ t,u=Value.str y t from rx);cases q;exact PySem.W.kia_one PySem.W.kitx_str I.i_ True.intro e (fun z=>nomatch z) h
 | flt y=>obtain ⟨t,q⟩:=(show ∃ t,u=Value.float y t from rx);cases q;exact PySem.W.kia_one PySem.W.kitx_float I.i_ True.intro e (fun z=>nomatch z) h
 | @lst a xs ea =>
  cases (show u=Value.ref a from rx)
  obtain ⟨_,_,n,_,h1⟩:=(show b_ X.prog X.w H s.heap a (.lst xs) from I.hok a _ ea)
  exact PySem.W.kia_one PySem.W.kitx_list I.i_ ⟨_,h1,rfl⟩ e (fun z=>nomatch z) h
 | @mF a ob xs ea =>
  cases (show u=Value.ref a from rx)
  obtain ⟨_,_,_,n,_,h1⟩:=(show b_ X.prog X.w H s.heap a (.mF ob (.lst xs)) from I.hok a _ ea)
  exact PySem.W.kia_one PySem.W.kitx_list I.i_ ⟨_,h1,rfl⟩ e (fun z=>nomatch z) h
 | @tup a xs ea =>
  cases (show u=Value.ref a from rx)
  obtain ⟨_,_,_,p⟩:=(show b_ X.prog X.w H s.heap a (.tup xs) from I.hok a _ ea)
  obtain ⟨o,h1,h2,_⟩:=p
  exact PySem.W.kia_one PySem.W.kitx_tuple I.i_ ⟨o,h1,h2⟩ e (fun z=>nomatch z) h
 | @dK a kvs ea =>
  cases (show u=Value.ref a from rx)
  obtain ⟨_,_,vs,_,p⟩:=(show b_ X.prog X.w H s.heap a (.dK kvs) from I.hok a _ ea)
  obtain ⟨o,es,ep,h1,h2,_⟩:=p
  exact PySem.W.kia_one PySem.W.kitx_dict I.i_ ⟨o,h1,h2.1⟩ e (fun z=>nomatch z) h
 | @dE a kvs ep ea =>
  cases (show u=Value.ref a from rx)
  obtain ⟨_,_,vs,_,o,es,h1,h2,_⟩:=(show b_ X.prog X.w H s.heap a (.dE kvs ep) from I.hok a _ ea)
  exact PySem.W.kia_one PySem.W.kitx_dict I.i_ ⟨o,h1,h2.1⟩ e (fun z=>nomatch z) h
 | @ins a C dx fs ea cl ha hn htk hm =>
  cases (show u=Value.ref a from rx)
  obtain ⟨mA,O,_⟩:=kS I.hok ea
  obtain ⟨od,J,_⟩:=O.look
  exact PySem.W.kia_one (PySem.W.kitx_own (cl.get _) cl.hd ha hn htk hm) I.i_ J e (fun z=>nomatch z) h
end
end L2
namespace L2
open PySem PySem.Spec PyProof.Rows
structure ba (k:Nat) (A:Around):Prop where
 hd:A.handled=none
 dp:A.depth + 3 * k + 5 < recursionLimit
 un:A.units + 16 * k + 200 < cLine
theorem ba.mono {j k:Nat} {A:Around} (r:ba k A) (h:j≤k):ba j A:=⟨r.hd,by have:=r.dp;omega,by have:=r.un;omega⟩
theorem ba.deeper {k:Nat} {A:Around} (r:ba (k + 1) A) (env:Env):ba k (A.deeper env) :=
 ⟨r.hd,by have:=r.dp;show A.depth + 1 + 3 * k + 5 < _;omega,by have:=r.un;show A.units + 3 + 16 * k + 200 < _;omega⟩
theorem ba.in1 {k:Nat} {A:Around} (r:ba (k + 1) A):ba k A.in1 :=
 ⟨r.hd,by have:=r.dp;show A.depth + 3 * k + 5 < _;omega,by have:=r.un;show A.units + 1 + 16 * k + 200 < _;omega⟩
theorem sA {A:Around} {C:Addr} {us:List Value} {kw:List (Str × Value)}:(A.under (.builtin "type.__call__" ⟨.ref C :: us,kw⟩)).depth=A.depth + 1:=by
 first | rfl | simp [Around.under,Code.weight,Code.isCreation,Code.isGuard,Code.isCaller,Code.frames,Code.isFrame,guardIds]
theorem sC {A:Around} {C:Addr} {us:List Value} {kw:List (Str × Value)}:(A.under (.builtin "type.__call__" ⟨.ref C :: us,kw⟩)).units=A.units + 1:=by
 first | rfl | simp [Around.under,Code.cUnits,Code.frames,Code.isFrame]
theorem ba.make {k:Nat} {A:Around} (r:ba (k + 1) A) (C:Addr) (us:List Value) (kw:List (Str × Value)):ba k (A.under (.builtin "type.__call__" ⟨.ref C :: us,kw⟩)) :=
 ⟨r.hd,by have:=r.dp;rw [sA];omega,by have:=r.un;rw [sC];omega⟩
theorem ba.depth {k:Nat} {A:Around} (r:ba k A):A.depth < recursionLimit:=by have:=r.dp;omega
theorem ba.units {k:Nat} {A:Around} (r:ba k A):A.units + 64 < cLine:=by have:=r.un;omega
theorem ba.Ef {k:Nat} {A:Around} (r:ba k A):A.units < cLine:=by have:=r.un;omega
def tK:TA:=fun _ H Q=>Q [] H
def rG (ta:TE) (tr:TA):TA:=fun σ H Q=>ta σ H fun x H1=>tr σ H1 fun xs H2=>Q (x :: xs) H2
section
variable {X:Cx} {e:Expr} {es:List Expr} {te:TE} {t:TA} {pos:Pos}
theorem a9:PA X [] tK:=fun _ _ _ _ H Q I h=>Calls.spliced_nil ⟨[],H,I,.nil,h⟩
theorem aL (ha:PE X e te) (hr:PA X es t) (hs:starEach (e :: es) X.env=(false,eval e X.env) :: starEach es X.env:=by rfl):PA X (e :: es) (rG te t):=by
 intro pos pins s σ H Q I h
 rw [hs]
 show wpAny _ _ (spliced ((false,eval e X.env) :: backTo pos (starEach es X.env))) _ _ s
 refine Calls.spliced_cons (bE (ha pins s σ H _ I h) fun u s1 ⟨x,H1,I1,r1,q1⟩=>?_)
 exact bE (hr pos pins s1 σ H1 _ I1 q1) fun us s2 ⟨xs,H2,I2,r2,q2⟩=>⟨x :: xs,H2,I2,.cons r1 r2,q2⟩
def BQ (t:TA):TE:=fun σ H Q=>t σ H fun xs H1=>xs.length≤sizeLine∧∀ p,H1 p=none→Q (.ref p) (upd H1 p (.tup xs))
def zF (t:TA):TE:=fun σ H Q=>t σ H fun xs H1=>xs.length≤sizeLine∧∀ p,H1 p=none→Q (.ref p) (upd H1 p (.lst xs))
theorem l7 {x1} (h:PA X es t):PE X (.Tuple es x1 pos) (BQ t):=by
 intro pins s σ H Q I hq
 refine wpAny_Tuple_spliced (bE (h pos pins s σ H _ I hq) fun us s1 ⟨xs,H1,I1,r,z,q⟩=>⟨by rw [← r.length];exact z,?_⟩)
 have hf:H1 s1.heap.objs.size=none:=I1.hok.fresh (Nat.le_refl _)
 refine ⟨.ref s1.heap.objs.size,upd H1 s1.heap.objs.size (.tup xs),I1.laid (t':=s1.toks) (fun b u e=>Heap.get?_push_of_some _ e) (Nat.le_refl _) ?_,rfl,q _ hf⟩
 exact ⟨z,us,r,⟨_,Heap.get?_push_size _ rfl,rfl,_,rfl⟩⟩
theorem gx (h:PA X es t):PE X (.List es pos) (zF t):=by
 intro pins s σ H Q I hq
 refine wpAny_List_spliced (bE (h pos pins s σ H _ I hq) fun us s1 ⟨xs,H1,I1,r,z,q⟩=>⟨by rw [← r.length];exact z,?_⟩)
 have hf:H1 s1.heap.objs.size=none:=I1.hok.fresh (Nat.le_refl _)
 refine ⟨.ref s1.heap.objs.size,upd H1 s1.heap.objs.size (.lst xs),I1.laid (t':=s1.toks) (fun b u e=>Heap.get?_push_of_some _ e) (Nat.le_refl _) ?_,rfl,q _ hf⟩
 exact ⟨z,us,0,r,Heap.get?_push_size _ rfl⟩
end
abbrev Sp:=List V→Hp→VK→XK→Prop
abbrev mD:=List Env→Hp→Shared→XK→Value→Shared→Prop
structure mI (P:Program) (w:World) (K:PySem.W.Frag) (mg:Str→Option Value) (base:Heap) (A:Around) (outer:List Env) (s:Shared) (H:Hp):Prop where
 frames:A.frames=some outer
 mod:Mod K mg base
 bs:∀ b o,base.get? b=some o→s.heap.get? b=some o∧H b=none
 bsz:base.objs.size≤s.heap.objs.size
 i7:s.heap.FunFrames base outer
 frf:∀ b∈gh outer,H b=none
 hok:iQ P w H s.heap
 bare:AllBare s.gens
def CE (outer:List Env) (P:Program) (w:World) (H:Hp) (s:Shared) (Q:VK) (u:Value) (s':Shared):Prop :=
 ∃ v H',s'.os=s.os∧AllBare s'.gens∧Un (gh outer) [] H H' s.heap s'.heap∧iQ P w H' s'.heap∧RelV v u∧Q v H'
def CR (CX:mD) (outer:List Env) (P:Program) (w:World) (H:Hp) (s:Shared) (Q:VK) (E:XK) (r:Result) (s':Shared):Prop :=
 match r with
 | .ok (.ret u)=>CE outer P w H s Q u s'
 | .ok _=>False
 | .error e=>CX outer H s E e s'
structure aI (P:Program) (w:World) (K:PySem.W.Frag) (mg:Str→Option Value) (base:Heap) (CX:mD) (k:Nat) (f:Addr) (fd:FuncData) (ps:List Str) (sp:Sp):Prop where
 len:∀ vs H Q E,sp vs H Q E→vs.length=ps.length
 run:∀ (A:Around) (outer:List Env) (s:Shared) (H:Hp) (args:Args) (us:List Value) (vs:List V) (Q:VK) (E:XK),ba k A→mI P w K mg base A outer s H→BindsTo s fd args (ps.zip us)→Vals vs us→sp vs H Q E →
  codeAny (model P w) A (.call (.ref f) args) (CR CX outer P w H s Q E) s
theorem aI.mono {P:Program} {w:World} {K:PySem.W.Frag} {mg:Str→Option Value} {base:Heap} {CX:mD} {j k:Nat} {f:Addr} {fd:FuncData} {ps:List Str} {sp:Sp} (F:aI P w K mg base CX j f fd ps sp) (h:j≤k) :
  aI P w K mg base CX k f fd ps sp:=⟨F.len,fun A outer s H args us vs Q E hr=>F.run A outer s H args us vs Q E (hr.mono h)⟩
theorem aI.imp {P:Program} {w:World} {K:PySem.W.Frag} {mg:Str→Option Value} {base:Heap} {CX:mD} {k:Nat} {f:Addr} {fd:FuncData} {ps:List Str} {sp sp':Sp} (F:aI P w K mg base CX k f fd ps sp)
  (h:∀ vs H Q E,sp' vs H Q E→sp vs H Q E):aI P w K mg base CX k f fd ps sp' :=
 ⟨fun vs H Q E q=>F.len vs H Q E (h _ _ _ _ q),fun A outer s H args us vs Q E hr he hb hv hs=>F.run A outer s H args us vs Q E hr he hb hv (h _ _ _ _ hs)⟩
theorem mI.make {P:Program} {w:World} {K:PySem.W.Frag} {mg:Str→Option Value} {base:Heap} {A:Around} {outer:List Env} {s:Shared} {H:Hp} (e:mI P w K mg base A outer s H) (C:Addr) (us:List Value) (kw:List (Str × Value)) :
  mI P w K mg base (A.under (.builtin "type.__call__" ⟨.ref C :: us,kw⟩)) outer s H:=⟨by first | exact e.frames | (simpa [Around.under,Code.envs,Code.isFrame,pushEnvs] using e.frames),e.mod,e.bs,e.bsz,e.i7,e.frf,e.hok,e.bare⟩
theorem mI.in1 {P:Program} {w:World} {K:PySem.W.Frag} {mg:Str→Option Value} {base:Heap} {A:Around} {outer:List Env} {s:Shared} {H:Hp} (e:mI P w K mg base A outer s H) :
  mI P w K mg base A.in1 outer s H:=⟨e.frames,e.mod,e.bs,e.bsz,e.i7,e.frf,e.hok,e.bare⟩
section
variable {X:Cx} {pins:List (Addr × Obj)} {σ:St} {H:Hp} {s s':Shared}
theorem Inv.ES (I:Inv X pins σ H s):mI X.prog X.w X.K X.mg X.base X.A X.stack s H :=
 ⟨I.ok.frames,I.ok.mod,I.bs,Nat.le_trans I.ok.bsz I.sz,I.stack,I.pM,I.hok,I.bare⟩
theorem Inv.after {Q:VK} {u:Value} (I:Inv X pins σ H s) (h:CE X.stack X.prog X.w H s Q u s'):EP X pins σ Q u s':=by
 obtain ⟨v,H',os,bare,un,hok,r,q⟩:=h
 obtain ⟨hh,g,d,t,os'⟩:=s'
 obtain rfl:os'=s.os:=os
 exact ⟨v,H',I.call (h':=hh) (g':=g) (d':=d) (t':=t) (ch:=[]) un hok bare (fun b z=>absurd z (by simp)),r,q⟩
end
def mz (sp:Sp) (dvs:List V) (E:XK) (t:TA):TE:=fun σ H Q=>t σ H fun vs H1=>sp (vs ++ dvs) H1 Q E
def zH (C:Addr) (m:Str) (sp:Sp) (dvs:List V) (E:XK) (ta:TE) (t:TA):TE:=fun σ H Q=>ta σ H fun x H1=>∃ a dx fs,x=.ref a∧H1 a=some (.ins C dx fs)∧fs.lookup m=none ∧
 t σ H1 fun vs H2=>sp (x :: (vs ++ dvs)) H2 Q E
def zG (C:Addr) (sp:Sp) (dvs:List V) (E:XK) (t:TA):TE:=fun σ H Q=>t σ H fun vs H1=>∀ x dx,H1 x=none→H1 dx=none→dx≠x →
 sp (.ref x :: (vs ++ dvs)) (upd (upd H1 dx (.own x)) x (.ins C dx [])) (fun v H2=>v=.non∧Q (.ref x) H2) E
def Binds (K:PySem.W.Frag) (fd:FuncData) (ps:List Str) (ds:List Value):Prop :=
 ∀ (s:Shared) (us:List Value),K.In s.heap→(us ++ ds).length=ps.length→BindsTo s fd ⟨us,[]⟩ (ps.zip (us ++ ds))
theorem Binds.all {K:PySem.W.Frag} {fd:FuncData} {ps:List Str} (h:∀ us:List Value,us.length=ps.length→bindArgs fd ⟨us,[]⟩=pure (ps.zip us)):Binds K fd ps []:=fun s us _ hl=>by
 rw [List.append_nil] at hl ⊢
 exact .of_eq (h us hl)
def Passes (CX:mD) (X:Cx) (E:XK):Prop:=∀ (pins:List (Addr × Obj)) (σ:St) (H:Hp) (s:Shared) (e:Value) (s':Shared),Inv X pins σ H s→CX X.stack H s E e s'→X.xe e s'
section
variable {X:Cx} {CX:mD} {k:Nat} {f C:Addr} {fd:FuncData} {ps:List Str} {sp:Sp} {dvs:List V} {ds:List Value} {E:XK} {x m:Str} {p pos apos:Pos} {e o:Expr} {es:List Expr} {ta:TE} {t:TA}
theorem tq {pins:List (Addr × Obj)} {σ:St} {H:Hp} {s:Shared} {Q:VK} {us:List Value} {vs:List V} (F:aI X.prog X.w X.K X.mg X.base CX k f fd ps sp) (hr:ba k X.A) (hb:Binds X.K fd ps ds) (hd:Vals dvs ds) (hx:Passes CX X E)
  (I:Inv X pins σ H s) (r:Vals vs us) (h:sp (vs ++ dvs) H Q E):wpAny (model X.prog X.w) X.A (call (.ref f) us) (EP X pins σ Q) X.xe s:=by
 have r2:Vals (vs ++ dvs) (us ++ ds):=r.append hd
 have hl:(us ++ ds).length=ps.length:=by rw [← r2.length];exact F.len _ _ _ _ h
 refine wpAny_call (codeAny_mono (F.run X.A X.stack s H ⟨us,[]⟩ (us ++ ds) (vs ++ dvs) Q E hr I.ES (hb s us I.i_ hl) r2 h) fun r s' hq=>?_)
 cases r with
 | error e=>exact hx pins σ H s e s' I hq
 | ok fl =>
  cases fl with
  | ret u=>exact I.after hq
  | next=>exact False.elim hq
  | brk=>exact False.elim hq
  | cont=>exact False.elim hq
theorem uw (F:aI X.prog X.w X.K X.mg X.base CX k f fd ps sp) (hr:ba k X.A) (hg:Gl X x) (hm:X.mg x=some (.ref f)) (hk:PySem.W.keepIn X.K (.ref f)=true) (hb:Binds X.K fd ps ds) (hd:Vals dvs ds) (hx:Passes CX X E)
  (ha:PA X (e :: es) t) (hdb:(x == ("__debug__":Str))=false:=by decide) (he:starEach (e :: es) X.env=(false,eval e X.env) :: starEach es X.env:=by rfl) (hpl:(backTo pos (starEach es X.env)).any (·.1)=false:=by rfl) :
  PE X (.Call (.Name x p) (e :: es) [] pos) (mz sp dvs E t):=by
 intro pins s σ H Q I h
 refine wpAny_Call_Name_kw (jb I hg hm ?_ hdb)
 refine PySem.W.callWith_K (h₀:=X.base) I.ok.mod.kin hk (bE (ha pos pins s σ H _ I h) fun us s1 ⟨vs,H1,I1,r,q⟩=>⟨I1.i_,?_⟩) he hpl
 exact tq F hr hb hd hx I1 r q
theorem A5 {pl:Sem Bool} (he:PE X o ta) (c:kO X.K C) (hm:Meth X.K C m f) (F:aI X.prog X.w X.K X.mg X.base CX k f fd ps sp) (hr:ba k X.A) (hb:Binds X.K fd ps ds) (hd:Vals dvs ds) (hx:Passes CX X E) (ha:PA X (e :: es) t)
  (hst:starEach (e :: es) X.env=(false,eval e X.env) :: starEach es X.env:=by rfl) (hpl:(backTo pos (starEach es X.env)).any (·.1)=false:=by rfl)
  (ht:eval (.Call (.Attribute o m apos) (e :: es) [] pos) X.env=(do
   let ov ← eval o X.env
   standAt apos.atName
   let (f,first) ← holding [ov] (getMethod ov m pl)
   callWith pos f first (backTo pos (starEach (e :: es) X.env)) (backToKw pos (keywordEach [] X.env))):=by rfl) :
  PE X (.Call (.Attribute o m apos) (e :: es) [] pos) (zH C m sp dvs E ta t):=by
 intro pins s σ H Q I h
 refine PySem.W.methodCall_KW (pl:=pl) (bE (he pins s σ H _ I h) fun u s1 ⟨x,H1,I1,rx,a,dx,fs,ex,ea,l,q⟩=>?_) ht
 subst ex
 obtain rfl:u=Value.ref a:=rx
 refine lP I1 ea c hm l ?_
 refine PySem.W.callWith_K (first:=[.ref a]) (h₀:=X.base) I.ok.mod.kin hm.kp (bE (ha pos pins s1 σ H1 _ I1 q) fun us s2 ⟨vs,H2,I2,r,q2⟩=>⟨I2.i_,?_⟩) hst hpl
 exact tq (us:=.ref a :: us) (vs:=.ref a :: vs) F hr hb hd hx I2 (.cons rfl r) q2
theorem yN {pl:Sem Bool} (he:PE X o ta) (c:kO X.K C) (hm:Meth X.K C m f) (F:aI X.prog X.w X.K X.mg X.base CX k f fd ps sp) (hr:ba k X.A) (hb:Binds X.K fd ps ds) (hd:Vals dvs ds) (hx:Passes CX X E)
  (ht:eval (.Call (.Attribute o m apos) [] [] pos) X.env=(do
   let ov ← eval o X.env
   standAt apos.atName
   let (f,first) ← holding [ov] (getMethod ov m pl)
   callWith pos f first (backTo pos (starEach [] X.env)) (backToKw pos (keywordEach [] X.env))):=by rfl) :
  PE X (.Call (.Attribute o m apos) [] [] pos) (zH C m sp dvs E ta tK):=by
 intro pins s σ H Q I h
 refine PySem.W.methodCall_KW (pl:=pl) (bE (he pins s σ H _ I h) fun u s1 ⟨x,H1,I1,rx,a,dx,fs,ex,ea,l,q⟩=>?_) ht
 subst ex
 obtain rfl:u=Value.ref a:=rx
 refine lP I1 ea c hm l ?_
 exact PySem.W.callWith_K0 (first:=[.ref a]) I1.i_ hm.kp (tq (us:=[.ref a]) (vs:=[.ref a]) F hr hb hd hx I1 (.cons rfl .nil) q)
structure Mk (K:PySem.W.Frag) (C f:Addr):Prop where
 makes:PySem.W.makesIn K C=true
 init:PySem.W.findIn K (.ref C) "__init__"=some (some (.ref f))
 fn:PySem.W.isFn K (.ref f)=true
 kp:PySem.W.keepIn K (.ref C)=true
theorem qZ {pins:List (Addr × Obj)} {σ:St} {H:Hp} {s:Shared} {Q:VK} {us:List Value} {vs:List V} (M:Mk X.K C f) (F:aI X.prog X.w X.K X.mg X.base CX k f fd ps sp) (hr:ba (k + 1) X.A) (hb:Binds X.K fd ps ds) (hd:Vals dvs ds)
  (hx:Passes CX X E) (I:Inv X pins σ H s) (r:Vals vs us)
  (h:∀ x dx,H x=none→H dx=none→dx≠x→sp (.ref x :: (vs ++ dvs)) (upd (upd H dx (.own x)) x (.ins C dx [])) (fun v H2=>v=.non∧Q (.ref x) H2) E) :
  wpAny (model X.prog X.w) X.A (call (.ref C) us) (EP X pins σ Q) X.xe s:=by
 have hq:=h (s.heap.objs.size + 1) s.heap.objs.size (I.hok.fresh (Nat.le_succ _)) (I.hok.fresh (Nat.le_refl _)) (Nat.ne_of_lt (Nat.lt_succ_self _))
 have I2:=Inv.made (C:=C) I
 have r2:Vals (V.ref (s.heap.objs.size + 1) :: (vs ++ dvs)) (Value.ref (s.heap.objs.size + 1) :: (us ++ ds)):=.cons rfl (r.append hd)
 have hl:(Value.ref (s.heap.objs.size + 1) :: us ++ ds).length=ps.length:=by
  have e:=r2.length
  rw [F.len _ _ _ _ hq] at e
  exact e.symm
 refine wpAny_call (yj (f:=f) I.i_ M.makes M.init (beq_iff_eq.mp M.fn) (codeAny_mono (F.run _ X.stack _ _ ⟨Value.ref (s.heap.objs.size + 1) :: us,[]⟩ (Value.ref (s.heap.objs.size + 1) :: (us ++ ds)) _ _ E (hr.make C us [])
  (I2.ES.make C us []) (hb _ (Value.ref (s.heap.objs.size + 1) :: us) I2.i_ hl) r2 hq) fun r s' hq'=>?_))
 cases r with
 | error e=>exact hx pins σ _ _ e s' I2 hq'
 | ok fl =>
  cases fl with
  | ret u =>
   obtain ⟨v,H',I3,rv,ev,q3⟩:=I2.after hq'
   subst ev
   exact ⟨rv,⟨V.ref (s.heap.objs.size + 1),H',I3,rfl,q3⟩⟩
  | next=>exact False.elim hq'
  | brk=>exact False.elim hq'
  | cont=>exact False.elim hq'
theorem A4 (M:Mk X.K C f) (F:aI X.prog X.w X.K X.mg X.base CX k f fd ps sp) (hr:ba (k + 1) X.A) (hg:Gl X x) (hm:X.mg x=some (.ref C)) (hb:Binds X.K fd ps ds) (hd:Vals dvs ds) (hx:Passes CX X E)
  (ha:PA X (e :: es) t) (hdb:(x == ("__debug__":Str))=false:=by decide) (he:starEach (e :: es) X.env=(false,eval e X.env) :: starEach es X.env:=by rfl) (hpl:(backTo pos (starEach es X.env)).any (·.1)=false:=by rfl) :
  PE X (.Call (.Name x p) (e :: es) [] pos) (zG C sp dvs E t):=by
 intro pins s σ H Q I h
 refine wpAny_Call_Name_kw (jb I hg hm ?_ hdb)
 refine PySem.W.callWith_K (h₀:=X.base) I.ok.mod.kin M.kp (bE (ha pos pins s σ H _ I h) fun us s1 ⟨vs,H1,I1,r,q⟩=>⟨I1.i_,?_⟩) he hpl
 exact qZ M F hr hb hd hx I1 r q
theorem yM (M:Mk X.K C f) (F:aI X.prog X.w X.K X.mg X.base CX k f fd ps sp) (hr:ba (k + 1) X.A) (hg:Gl X x) (hm:X.mg x=some (.ref C)) (hb:Binds X.K fd ps ds) (hd:Vals dvs ds) (hx:Passes CX X E)
  (hdb:(x == ("__debug__":Str))=false:=by decide):PE X (.Call (.Name x p) [] [] pos) (zG C sp dvs E tK):=by
 intro pins s σ H Q I h
 refine wpAny_Call_Name_kw (jb I hg hm ?_ hdb)
 exact PySem.W.callWith_K0 I.i_ M.kp (qZ (us:=[]) M F hr hb hd hx I .nil h)
end
section
variable {X:Cx} {CX:mD} {k:Nat} {f C:Addr} {fd:FuncData} {ps ks:List Str} {sp:Sp} {E:XK} {x m:Str} {p pos apos kpos:Pos} {e o:Expr} {es:List Expr} {kws:List Keyword} {te ta:TE} {t tk:TA} {nm:Option Str}
variable {g:List Value→List Value→List Value} {gV:List V→List V→List V}
end
structure aw (N P:List Str) (sc:Scope):Prop where
 kind:sc.kind=.function
 co:sc.isCoroutine=false
 gen:sc.isGenerator=false
 nd:N.Nodup
 pre:N.take P.length=P
 par:∀ x∈P,sc.names.lookup x=some .local∨sc.names.lookup x=some .cell
 nofree:∀ y∈sc.names,y.2≠.free
theorem nq {kindOf:Str→Option NameKind} {x:Str}:∀ {binds:List (Str × Value)} {m:Str→Option Value},(∀ v,(x,v) ∉ binds)→bindL kindOf binds m x=m x
 | [],_,_=>rfl
 | (n,v) :: r,m,h=>by
  unfold bindL
  rw [nq fun w hw=>h w (List.mem_cons_of_mem _ hw)]
  split
  ·have:x≠n:=by rintro rfl;exact h v List.mem_cons_self
   simp [this]
  ·rfl
theorem nj {kindOf:Str→Option NameKind} {x:Str}:∀ {binds:List (Str × Value)} {m:Str→Option Value},(∀ v,(x,v) ∉ binds)→bindC kindOf binds m x=m x
 | [],_,_=>rfl
 | (n,v) :: r,m,h=>by
  unfold bindC
  rw [nj fun w hw=>h w (List.mem_cons_of_mem _ hw)]
  split
  ·rfl
  ·have:x≠n:=by rintro rfl;exact h v List.mem_cons_self
   simp [this]
theorem nk {kindOf:Str→Option NameKind} {x:Str} {v:Value}:∀ {P:List Str} {vs:List Value} {i:Nat} {m:Str→Option Value},P.Nodup→P[i]?=some x→vs[i]?=some v→kindOf x=some .local →
  bindL kindOf (P.zip vs) m x=some v
 | [],_,_,_,_,h,_,_=>by simp at h
 | _ :: _,[],_,_,_,_,h,_=>by simp at h
 | p :: P,w :: vs,0,m,nd,h1,h2,hk=>by
  simp at h1 h2;subst h1;subst h2
  show bindL kindOf ((p,w) :: P.zip vs) m p=_
  unfold bindL
  rw [nq fun v hv=>(List.nodup_cons.mp nd).1 (List.of_mem_zip hv).1,if_pos hk]
  simp
 | p :: P,w :: vs,i + 1,m,nd,h1,h2,hk=>by
  show bindL kindOf ((p,w) :: P.zip vs) m x=_
  unfold bindL
  exact nk (i:=i) (List.nodup_cons.mp nd).2 (by simpa using h1) (by simpa using h2) hk
theorem ni {kindOf:Str→Option NameKind} {x:Str} {v:Value}:∀ {P:List Str} {vs:List Value} {i:Nat} {m:Str→Option Value},P.Nodup→P[i]?=some x→vs[i]?=some v→kindOf x≠some .local →
  bindC kindOf (P.zip vs) m x=some v
 | [],_,_,_,_,h,_,_=>by simp at h
 | _ :: _,[],_,_,_,_,h,_=>by simp at h
 | p :: P,w :: vs,0,m,nd,h1,h2,hk=>by
  simp at h1 h2;subst h1;subst h2
  show bindC kindOf ((p,w) :: P.zip vs) m p=_
  unfold bindC
  rw [nj fun v hv=>(List.nodup_cons.mp nd).1 (List.of_mem_zip hv).1,if_neg hk]
  simp
 | p :: P,w :: vs,i + 1,m,nd,h1,h2,hk=>by
  show bindC kindOf ((p,w) :: P.zip vs) m x=_
  unfold bindC
  exact ni (i:=i) (List.nodup_cons.mp nd).2 (by simpa using h1) (by simpa using h2) hk
def start (N:List Str) (vs:List V):St:=vs.map some ++ List.replicate (N.length - vs.length) none
def n_ (CX:mD) (P:Program) (w:World) (K:PySem.W.Frag) (mg:Str→Option Value) (base:Heap) (N:List Str) (qual:Str) (scope:Scope) (f:Addr) (cd:Value) (A:Around) (outer:List Env) (s:Shared) (H:Hp) (E:XK):Cx where
 prog:=P
 w:=w
 K:=K
 mg:=mg
 base:=base
 A:=A.deeper (envOfC qual scope s.heap.objs.size f cd)
 N:=N
 s₀:=s
 H₀:=H
 env:=envOfC qual scope s.heap.objs.size f cd
 outer:=outer
 stack:=envOfC qual scope s.heap.objs.size f cd :: outer
 ex:=[]
 calm:=true
 fn:=fun _=>true
 pn:=[]
 xe:=fun e s'=>wpAny (model P w) (A.deeper (envOfC qual scope s.heap.objs.size f cd)) (leaving (envOfC qual scope s.heap.objs.size f cd) e) (fun _ s''=>CX outer H s E e s'') (fun e' s''=>CX outer H s E e' s'') s'
theorem p5 {sc:Scope} {n:Nat} {x:Str} (h:sc.names.lookup x=some .cell):∃ c,(cellsFrom n sc.names []).lookup x=some c:=by
 have q:=PySem.W.cellsFrom_some sc.names n [] (.inl h)
 exact Option.isSome_iff_exists.mp q
theorem vQ {CX:mD} {P:Program} {w:World} {K:PySem.W.Frag} {mg:Str→Option Value} {base:Heap} {N ps:List Str} {qual:Str} {scope:Scope} {f:Addr} {cd:Value} {A:Around} {outer:List Env} {s s1:Shared} {H:Hp} {E:XK} {us:List Value} {vs:List V}
  (S:aw N ps scope) (hd:A.handled=none) (e0:mI P w K mg base A outer s H) (hl:vs.length=ps.length) (r:Vals vs us)
  (x:InCallC s s.heap.objs.size (bindL (envOfC qual scope s.heap.objs.size f cd).kindOf (ps.zip us) fun _=>none) (cellsFrom (s.heap.objs.size + 1) scope.names []) (bindC (envOfC qual scope s.heap.objs.size f cd).kindOf (ps.zip us) fun _=>none) s1) :
  Inv (n_ CX P w K mg base N qual scope f cd A outer s H E) [] (start N vs) H s1:=by
 have hpl:ps.length≤N.length:=by have:=congrArg List.length S.pre;rw [List.length_take] at this;omega
 obtain ⟨h1,tk,rfl,hk⟩:=x.done
 have noA:∀ b:Addr,b ∉ (n_ CX P w K mg base N qual scope f cd A outer s H E).ex:=fun b z=>absurd (show b∈([]:List Addr) from z) (by simp)
 refine ⟨⟨e0.mod,S.kind,rfl,rfl,Nat.le_refl _,fun y z c h1 h2=>?_,fun y hy=>?_,fun y c _ h=>?_,fun _=>hd,Around.frames_deeper e0.frames,.inr ⟨rfl,rfl⟩,fun b z=>absurd z (noA b),e0.bs,e0.bsz,fun b _ _=>noA b,fun b z=>absurd z (noA b),e0.i7,e0.frf⟩,
  rfl,e0.bare,Un.kept hk,⟨_,x.toInCall.ns,fun i y v h1 h2 h3=>?_⟩,fun y c h=>⟨_,x.cell y c h⟩,e0.hok.fresh (Nat.le_refl _),fun y c h=>?_,fun p hp=>absurd (show p∈([]:List (Addr × Obj)) from hp) (by simp),e0.hok.kept hk,?_⟩
 ·exact name_of_addr x.apart (PySem.mem_of_lookup h1) (PySem.mem_of_lookup h2)
 ·have hy:scope.names.lookup y=some .cell∨scope.names.lookup y=some .free:=hy
  rcases hy with hy | hy
  ·exact p5 hy
  ·exact absurd rfl (S.nofree _ (PySem.mem_of_lookup hy))
 ·exact Nat.le_of_lt (x.above y c (PySem.mem_of_lookup h))
 ·have hi:i < vs.length:=by
   unfold start at h2
   by_cases hi:i < vs.length
   ·exact hi
   ·rw [List.getElem?_append_right (by simpa using hi)] at h2
    rw [List.getElem?_replicate] at h2
    split at h2 <;> cases h2
  have ha:vs[i]?=some v:=by
   unfold start at h2
   rw [List.getElem?_append_left (by simpa using hi),List.getElem?_map] at h2
   cases e:vs[i]? with
   | none=>rw [e] at h2;cases h2
   | some a=>rw [e] at h2;cases h2;rfl
  obtain ⟨u,hu,rv⟩:=r.get ha
  have hp:ps[i]?=some y:=by
   rw [← S.pre,List.getElem?_take_of_lt (by omega)];exact h1
  have ndP:ps.Nodup:=by rw [← S.pre];exact S.nd.sublist (List.take_sublist _ _)
  refine ⟨u,rv,?_⟩
  rcases S.par y (List.mem_of_getElem? hp) with k | k
  ·exact .inl ⟨k,nk ndP hp hu k⟩
  ·obtain ⟨c,e⟩:=p5 (n:=s.heap.objs.size + 1) k
   refine .inr ⟨.inl k,c,e,?_⟩
   have q:=x.cell y c e
   rw [ni ndP hp hu (by show scope.names.lookup y≠_;rw [k];decide)] at q
   exact q
 ·exact e0.hok.fresh (Nat.le_of_lt (x.above y c (PySem.mem_of_lookup h)))
 ·unfold start
  show _=N.length
  rw [List.length_append,List.length_map,List.length_replicate]
  omega
theorem xF {CX:mD} {P:Program} {w:World} {K:PySem.W.Frag} {mg:Str→Option Value} {base:Heap} {k:Nat} {f:Addr} {name qual:Str} {params:Arguments} {body:List Stmt} {scope:Scope} {dV kV doc pm cdv ct oc:Value} {an od:Option Addr}
  {osl:Array (Option Value)} {N ps:List Str} {sp:Sp} (lk:K.lookup f=some ⟨oc,od,.func (PySem.W.fnOf name qual params body scope dV kV doc pm an cdv ct),osl⟩) (hcd:PySem.W.codeIn K cdv qual=true) (S:aw N ps scope)
  (len:∀ vs H Q E,sp vs H Q E→vs.length=ps.length)
  (hbody:∀ (A:Around) (outer:List Env) (s:Shared) (H:Hp) (vs:List V) (Q:VK) (E:XK),ba k (A.deeper (envOfC qual scope s.heap.objs.size f cdv))→sp vs H Q E →
   ∃ t,m_ (n_ CX P w K mg base N qual scope f cdv A outer s H E) body t∧t { nx:=fun _ H'=>Q .non H',rt:=Q } (start N vs) H) :
  aI P w K mg base CX (k + 1) f (PySem.W.fnOf name qual params body scope dV kV doc pm an cdv ct) ps sp:=by
 refine ⟨len,fun A outer s H args us vs Q E hr e0 hb r hsp=>?_⟩
 have hl:=len _ _ _ _ hsp
 have KX:K.In s.heap:=e0.mod.kin.keeps fun b o e=>(e0.bs b o e).1
 have lim:s.heap.NoLimit:=e0.mod.nolimit.keeps fun b o e=>(e0.bs b o e).1
 have hkind:∀ y∈ps.zip us,scope.names.lookup y.1=some .local∨(scope.names.lookup y.1=some .cell∧((cellsFrom (s.heap.objs.size + 1) scope.names []).lookup y.1).isSome=true):=fun ⟨n,v⟩ hy=>by
  rcases S.par n (List.of_mem_zip hy).1 with q | q
  ·exact .inl q
  ·exact .inr ⟨q,PySem.W.cellsFrom_some _ _ _ (.inl q)⟩
 refine codeAny_call_function hr.depth (KX _ _ lk) rfl S.co S.gen rfl (PySem.W.codeRec_of KX hcd) (hb _ _ _ _ ?_)
 refine wpAny_newFunctionEnv_cells S.kind hkind fun env he s1 x=>?_
 subst he
 refine ⟨lim.keeps x.toInCall.keep,codeAny_func ?_⟩
 obtain ⟨t,ht,hq⟩:=hbody A outer s H vs Q E (hr.deeper _) hsp
 have I:Inv (n_ CX P w K mg base N qual scope f cdv A outer s H E) [] (start N vs) H s1:=vQ S hr.hd e0 hl r x
 refine wpAny_mono (ht [] s1 (start N vs) H _ I hq) (fun fl s' hs=>?_) fun e s' hs=>hs
 have fin:∀ {σ':St} {H':Hp} {v:V} {u:Value},Inv (n_ CX P w K mg base N qual scope f cdv A outer s H E) [] σ' H' s'→RelV v u→Q v H'→CE outer P w H s Q u s' :=
  fun {σ' H' v u} J rv q=>⟨v,H',J.os,J.bare,J.base,J.hok,rv,q⟩
 cases fl with
 | ret u =>
  obtain ⟨v,σ',H',J,rv,q⟩:=hs
  exact fin J rv q
 | next =>
  obtain ⟨σ',H',J,q⟩:=hs
  exact fin (v:=V.non) (u:=Value.none) J rfl q
 | brk =>
  obtain ⟨_,_,_,q⟩:=hs
  exact False.elim q
 | cont =>
  obtain ⟨_,_,_,q⟩:=hs
  exact False.elim q
end L2
namespace L2
open PySem PySem.Spec PyProof.Rows
section
variable {X:Cx} {x:Str} {p pos:Pos} {e:Expr} {es:List Expr} {t:TA} {id T:String} {r:List V→Hp→VK→Prop}
def CA (r:List V→Hp→VK→Prop) (t:TA):TE:=fun σ H Q=>t σ H fun vs H1=>r vs H1 Q
theorem cQ (hc:b7 X (.builtin id) r) (hg:Gl X x) (hm:X.mg x=none) (hv:bootBuiltins x=some (.builtin id)) (ha:PA X (e :: es) t) (hn:x≠"__name__":=by decide) (hdb:(x == ("__debug__":Str))=false:=by decide)
  (he:starEach (e :: es) X.env=(false,eval e X.env) :: starEach es X.env:=by rfl) (hpl:(backTo pos (starEach es X.env)).any (·.1)=false:=by rfl):PE X (.Call (.Name x p) (e :: es) [] pos) (CA r t):=by
 intro pins s σ H Q I h
 refine wpAny_Call_Name_kw (jP I hg hm hv ?_ hn hdb)
 exact PyProof.Rows.callWith_builtin1 (bE (ha pos pins s σ H _ I h) fun us s1 ⟨vs,H1,I1,r1,q1⟩=>hc pins s1 σ H1 vs us Q I1 r1 q1) he hpl
theorem jV (hc:b7 X (.type T) r) (hg:Gl X x) (hm:X.mg x=none) (hv:bootBuiltins x=some (.type T)) (ha:PA X (e :: es) t) (hn:x≠"__name__":=by decide) (hdb:(x == ("__debug__":Str))=false:=by decide)
  (he:starEach (e :: es) X.env=(false,eval e X.env) :: starEach es X.env:=by rfl) (hpl:(backTo pos (starEach es X.env)).any (·.1)=false:=by rfl):PE X (.Call (.Name x p) (e :: es) [] pos) (CA r t):=by
 intro pins s σ H Q I h
 refine wpAny_Call_Name_kw (jP I hg hm hv ?_ hn hdb)
 exact PyProof.Rows.callWith_type1 (bE (ha pos pins s σ H _ I h) fun us s1 ⟨vs,H1,I1,r1,q1⟩=>hc pins s1 σ H1 vs us Q I1 r1 q1) he hpl
end
end L2
namespace HT
open PySem PyProof.Rows
def lexLt:List Int→List Int→Bool
 | [],[]=>false
 | [],_ :: _=>true
 | _ :: _,[]=>false
 | x :: xs,y :: ys=>if x=y then lexLt xs ys else decide (x < y)
section
open PySem.SeqAt
open PySem.AutoSeq1 (wpAny_loadPart')
open PySem.MeetsSeq PySem.MeetsSeq2 PySem.MeetsSeq3
end
section
variable {prog:Program} {w:World} {A:Around} {E:Value→Shared→Prop} {s:Shared}
def c9 (n d:Nat):Option Int→Nat
 | none=>d
 | some v=>if v < 0 then (v + (n:Int)).toNat else min v.toNat n
theorem zd (n d:Nat):c9 n d none=d:=rfl
theorem Bw (n d k:Nat):c9 n d (some (k:Int))=min k n:=by
 show (if (k:Int) < 0 then ((k:Int) + (n:Int)).toNat else min (k:Int).toNat n)=min k n
 rw [if_neg (by omega),Int.toNat_natCast]
theorem D1 (n d:Nat) (hd:d≤n) (o:Option Int):c9 n d o≤n:=by
 cases o with
 | none=>exact hd
 | some v =>
  show (if v < 0 then (v + (n:Int)).toNat else min v.toNat n)≤n
  by_cases hv:v < 0
  ·rw [if_pos hv];omega
  ·rw [if_neg hv];exact Nat.min_le_right _ _
theorem tS (v:Int) (n d:Nat):(if v < 0 then max (v + (n:Int)) 0 else min v (n:Int))=((c9 n d (some v):Nat):Int):=by
 show (if v < 0 then max (v + (n:Int)) 0 else min v (n:Int))=(((if v < 0 then (v + (n:Int)).toNat else min v.toNat n):Nat):Int)
 by_cases hv:v < 0
 ·simp only [if_pos hv];omega
 ·simp only [if_neg hv];omega
theorem rT (lo hi:Option Int) (n:Nat):Builtin.Slice.sliceAdjust lo hi 1 (n:Int)=(((c9 n 0 lo:Nat):Int),((c9 n n hi:Nat):Int)):=by
 have h1:¬ ((1:Int) < 0):=by omega
 unfold Builtin.Slice.sliceAdjust
 simp only [h1,if_false]
 refine Prod.ext ?_ ?_
 ·cases lo with
  | none=>rfl
  | some v=>exact tS v n 0
 ·cases hi with
  | none=>rfl
  | some v=>exact tS v n n
theorem sT (i j:Nat):Builtin.Slice.slicePlaces (i:Int) (j:Int) 1=j - i:=by
 unfold Builtin.Slice.slicePlaces
 have h1:(1:Int) > 0:=by omega
 simp only [h1,if_true,Int.ediv_one]
 split <;> omega
theorem mj {v:Value} {o:Option Int} {Q:Option Int→Shared→Prop} (p:IsPart v o) (h:Q o s):wpAny (model prog w) A (Builtin.Slice.slicePartIndex v) Q E s:=by
 cases p with
 | none=>exact slicePart_none h
 | int i t=>exact slicePart_int h
theorem j_ {sl:Addr} {vl vu:Value} {lo hi:Option Int} {n:Nat} {Q:Int × Int × Nat→Shared→Prop} (hs:s.heap.IsSliceOf sl vl vu .none) (pl:IsPart vl lo) (pu:IsPart vu hi)
  (h:Q (((c9 n 0 lo:Nat):Int),1,c9 n n hi - c9 n 0 lo) s):wpAny (model prog w) A (Builtin.Slice.sliceApplied (.ref sl) (pure (n:Int))) Q E s:=by
 obtain ⟨os,hos,hcs,hds⟩:=id hs
 unfold Builtin.Slice.sliceApplied Builtin.Slice.sliceFields
 refine wpAny_bind (wpAny_bind (wpAny_field hos hds (x:=vl) rfl (wpAny_bind (wpAny_field hos hds (x:=vu) rfl (wpAny_bind (wpAny_field hos hds (x:=.none) rfl (wpAny_pure ?_)))))))
 refine wpAny_bind (slicePart_none ?_)
 show wpAny _ _ (if ((1:Int) == 0)=true then _ else _) _ _ s
 rw [if_neg (by decide)]
 refine wpAny_bind (mj pl (wpAny_bind (mj pu (wpAny_bind (wpAny_pure ?_)))))
 show wpAny _ _ (match Builtin.Slice.sliceAdjust lo hi 1 (n:Int) with | (lo,hi)=>pure (lo,(1:Int),Builtin.Slice.slicePlaces lo hi 1)) _ _ s
 rw [rT lo hi n]
 show wpAny _ _ (pure (((c9 n 0 lo:Nat):Int),(1:Int),Builtin.Slice.slicePlaces ((c9 n 0 lo:Nat):Int) ((c9 n n hi:Nat):Int) 1)) _ _ s
 rw [sT]
 exact wpAny_pure h
theorem yP (xs:Array Value) (i k:Nat):((List.range k).filterMap fun (m:Nat)=>xs[((i:Int) + (m:Int) * 1).toNat]?).toArray=((xs.toList.drop i).take k).toArray:=by
 have e:(fun (m:Nat)=>xs[((i:Int) + (m:Int) * 1).toNat]?)=fun m=>xs[i + m]?:=by
  funext m
  have:((i:Int) + (m:Int) * 1).toNat=i + m:=by omega
  rw [this]
 rw [e]
 have:=pick_run xs i k
 rw [List.filterMap_map] at this
 have e2:((fun x=>xs[x]?) ∘ fun x=>i + x)=fun m=>xs[i + m]?:=rfl
 rw [e2] at this
 rw [this]
theorem i8 {t sl:Addr} {items:Array Value} {vl vu:Value} {lo hi:Option Int} {Q:Value→Shared→Prop} (ht:IsTup s.heap t items) (hs:s.heap.IsSliceOf sl vl vu .none) (pl:IsPart vl lo) (pu:IsPart vu hi)
  (hw:¬ (c9 items.size 0 lo=0∧c9 items.size items.size hi=items.size))
  (h:Q (.ref s.heap.objs.size) { s with heap:=s.heap.push { cls:=.type "tuple",data:=.seq ((items.toList.drop (c9 items.size 0 lo)).take (c9 items.size items.size hi - c9 items.size 0 lo)).toArray } })
  (hsz:items.size≤sizeLine):wpAny (model prog w) A (getItem (.ref t) (.ref sl)) Q E s:=by
 have htake:sizeOk (.seq ((items.toList.drop (c9 items.size 0 lo)).take (c9 items.size items.size hi - c9 items.size 0 lo)).toArray):=by
  show ((items.toList.drop (c9 items.size 0 lo)).take (c9 items.size items.size hi - c9 items.size 0 lo)).toArray.size≤sizeLine
  rw [List.size_toArray,List.length_take,List.length_drop,Array.length_toList]
  omega
 have hj:c9 items.size items.size hi≤items.size:=D1 _ _ (Nat.le_refl _) hi
 obtain ⟨os,hos,hcs,hds⟩:=id hs
 have hTs:s.TypeIs (.ref sl) "slice":=⟨os,hos,hcs⟩
 unfold getItem
 try with_reducible refine wpAny_holding ?_
 first | refine wpAny_bind (wpAny_pure ?_) | skip
 refine wpAny_bind (wpAny_sequenceKey ht.typeIs (by decide) ?_)
 refine wpAny_bind (wpAny_callSpecial?_slot (name:=Str.ofString "__getitem__") ht.typeIs PyProof.Rows.slot_tuple_getitem
  (wpAny_call_entry PyProof.Rows.slot_tuple_getitem ht.typeIs entry_tuple_getitem ?_ (args_tuple_getitem _ _)))
 show wpAny _ _ (Builtin.Tuple.tupleItemsOf (.ref t) >>= _) _ _ s
 refine wpAny_bind (tupleItemsOf_ ht ?_)
 refine wpAny_bind (wpAny_typeOf hTs ?_)
 rw [if_pos (by decide)]
 refine wpAny_bind (j_ hs pl pu ?_)
 have hno:¬ ((((c9 items.size 0 lo:Nat):Int) == 0 && (1:Int) == 1 && (c9 items.size items.size hi - c9 items.size 0 lo) == items.size)=true):=by
  intro q
  rw [Bool.and_eq_true,Bool.and_eq_true] at q
  have q1:((c9 items.size 0 lo:Nat):Int)=0:=eq_of_beq q.1.1
  have q2:c9 items.size items.size hi - c9 items.size 0 lo=items.size:=eq_of_beq q.2
  exact hw ⟨by omega,by omega⟩
 show wpAny _ _ (if (((c9 items.size 0 lo:Nat):Int) == 0 && (1:Int) == 1 && (c9 items.size items.size hi - c9 items.size 0 lo) == items.size)=true then _ else _) _ _ s
 rw [if_neg hno,yP]
 first
  | exact wpAny_bind (m:=Builtin.Tuple.tupleExact _) (wpAny_newObj_type (wpAny_pure ⟨_,rfl,wpAny_pure h⟩) htake)
  | exact wpAny_bind (m:=Builtin.Tuple.tupleExact _) (wpAny_newObj_type (wpAny_bind (wpAny_pure (wpAny_pure ⟨_,rfl,wpAny_pure h⟩))) htake)
  | exact wpAny_bind (wpAny_bind (m:=Builtin.Tuple.tupleExact _) (wpAny_newObj_type (wpAny_pure (wpAny_pure ⟨_,rfl,wpAny_pure h⟩)) htake))
  | exact wpAny_bind (wpAny_bind (m:=Builtin.Tuple.tupleExact _) (wpAny_newObj_type (wpAny_pure ⟨_,rfl,wpAny_pure h⟩) htake))
end
end HT
namespace L2
open PySem PySem.Spec PyProof.Rows
abbrev TO:=St→Hp→(Option Int→Hp→Prop)→Prop
def PO (X:Cx) (e:Option Expr) (t:TO):Prop :=
 ∀ (pins:List (Addr × Obj)) (s:Shared) (σ:St) (H:Hp) (Q:Option Int→Hp→Prop),Inv X pins σ H s→t σ H Q →
  wpAny (model X.prog X.w) X.A (evalPart e X.env) (fun u s'=>∃ o H',Inv X pins σ H' s'∧IsPart u o∧Q o H') X.xe s
def lB:TO:=fun _ H Q=>Q none H
def vn (t:TE):TO:=fun σ H Q=>t σ H fun x H1=>∃ i,x=.int i∧Q (some i) H1
theorem intsAre_of {ns:List Int}:∀ {us:List Value},Vals (ns.map V.int) us→IntsAre us ns:=by
 induction ns with
 | nil=>intro us r;rw [List.map_nil] at r;cases r;exact .nil
 | cons n ns ih =>
  intro us r
  rw [List.map_cons] at r
  cases r with
  | cons r1 r2 =>
   obtain ⟨t,e⟩:=r1
   subst e
   exact .cons n t (ih r2)
section
variable {X:Cx} {e:Expr} {te:TE} {lo hi:Option Expr} {tl th:TO} {pos p2:Pos}
theorem kZ:PO X none lB:=by
 intro pins s σ H Q I h
 rw [evalPart_none]
 exact wpAny_pure ⟨none,H,I,.none,h⟩
theorem g6 (h:PE X e te):PO X (some e) (vn te):=by
 intro pins s σ H Q I hw
 rw [evalPart_some]
 refine bE (h pins s σ H _ I hw) fun u s1 ⟨x,H1,I1,r1,q1⟩=>?_
 obtain ⟨i,rfl,q⟩:=q1
 obtain ⟨t,rfl⟩:=r1
 exact ⟨some i,H1,I1,.int i t,q⟩
def rK (X:Cx) (r:V→Option Int→Option Int→Hp→VK→Prop):Prop :=
 ∀ (pins:List (Addr × Obj)) (s:Shared) (σ:St) (H:Hp) (x:V) (v vl vu:Value) (lo hi:Option Int) (sl:Addr) (Q:VK),Inv X pins σ H s→RelV x v→s.heap.IsSliceOf sl vl vu .none→IsPart vl lo→IsPart vu hi→r x lo hi H Q →
  ∃ T id,typeLookup (.type T) "__getitem__"=pure (some (.builtin id))∧s.TypeIs v T∧wpAny (model X.prog X.w) X.A (getItem v (.ref sl)) (EP X pins σ Q) X.xe s
def GW (r:V→Option Int→Option Int→Hp→VK→Prop) (te:TE) (tl th:TO):TE:=fun σ H Q=>te σ H fun x H1=>tl σ H1 fun l H2=>th σ H2 fun u H3=>r x l u H3 Q
theorem gy {r:V→Option Int→Option Int→Hp→VK→Prop} (hr:rK X r) (he:PE X e te) (hl:PO X lo tl) (hu:PO X hi th):PE X (.Subscript e (.Slice lo hi none p2) pos) (GW r te tl th):=by
 intro pins s σ H Q I h
 refine Subscript_ (bE (he pins s σ H _ I h) fun v s1 ⟨x,H1,I1,r1,q1⟩=>?_)
 refine wpAny_Slice (bE (hl pins s1 σ H1 _ I1 q1) fun vl s2 ⟨l,H2,I2,pl,q2⟩=>bE (hu pins s2 σ H2 _ I2 q2) fun vu s3 ⟨u,H3,I3,pu,q3⟩=>?_)
 rw [evalPart_none]
 refine wpAny_pure ?_
 have I4:Inv X pins σ H3 { s3 with heap:=s3.heap.push { cls:=.type "slice",data:=.fields #[vl,vu,.none] } }:=I3.kept (t':=s3.toks) fun b ob q=>Heap.get?_push_of_some _ q
 obtain ⟨T,id,hT,ht,hg⟩:=hr pins { s3 with heap:=s3.heap.push { cls:=.type "slice",data:=.fields #[vl,vu,.none] } } σ H3 x v vl vu l u s3.heap.objs.size Q I4 r1 (Heap.IsSliceOf.new ..) pl pu q3
 show wpAny (model X.prog X.w) X.A (subscriptTail e (.Slice lo hi none p2) v (.ref s3.heap.objs.size)) (EP X pins σ Q) X.xe { s3 with heap:=s3.heap.push { cls:=.type "slice",data:=.fields #[vl,vu,.none] } }
 exact tail_any (ops:=[.ref s3.heap.objs.size,v]) ht hT hg (by with_unfolding_all rfl)
def lK (xs:List V) (lo hi:Option Int):List V:=(xs.drop (HT.c9 xs.length 0 lo)).take (HT.c9 xs.length xs.length hi - HT.c9 xs.length 0 lo)
theorem ko (xs:List V) (lo hi:Option Int):(lK xs lo hi).length≤xs.length:=by
 unfold lK
 rw [List.length_take,List.length_drop]
 omega
def Ib (K:PySem.W.Frag):V→Option Int→Option Int→Hp→VK→Prop:=fun x lo hi H Q=>∃ a xs,x=.ref a∧fh K H a xs ∧
 ¬ (HT.c9 xs.length 0 lo=0∧HT.c9 xs.length xs.length hi=xs.length)∧∀ p,H p=none→Q (.ref p) (upd H p (.tup (lK xs lo hi)))
theorem D6:rK X (Ib X.K):=by
 intro pins s σ H x v vl vu lo hi sl Q I rx hs pl pu h
 obtain ⟨a,xs,rfl,hx,hw,q⟩:=h
 cases rx
 obtain ⟨its,r,ht,hz⟩:=I.tuple hx
 have hlen:its.toArray.size=xs.length:=by rw [List.size_toArray];exact r.length.symm
 refine ⟨"tuple",_,PyProof.Rows.slot_tuple_getitem.lookup,ht.typeIs,?_⟩
 refine HT.i8 ht hs pl pu (by rw [hlen];exact hw) ?_ (by rw [hlen];exact hz)
 rw [hlen]
 refine ⟨.ref s.heap.objs.size,_,I.laid (t':=s.toks) (o:=.tup (lK xs lo hi)) (fun b ob q=>Heap.get?_push_of_some _ q) (Nat.le_refl _) ?_,rfl,q _ (I.hok.fresh (Nat.le_refl _))⟩
 exact ⟨Nat.le_trans (ko xs lo hi) hz,_,(r.drop (HT.c9 xs.length 0 lo)).take (HT.c9 xs.length xs.length hi - HT.c9 xs.length 0 lo),IsTup.new _ _⟩
end
end L2
namespace L2
open PySem PySem.Spec PyProof.Rows
def xa (n:Nat) (i:Int):Option Nat:=if 0≤i then (if i < n then some i.toNat else none) else if -(n:Int)≤i then some (i + n).toNat else none
def cI {α:Type} (xs:List α) (i:Int):Option α:=(xa xs.length i).bind fun j=>xs[j]?
theorem uh {n:Nat} {i:Int} {j:Nat} (h:xa n i=some j):seqIndex? i n=some j∧j < n∧-(n:Int)≤i∧i < n:=by
 unfold xa at h
 by_cases h0:0≤i
 ·rw [if_pos h0] at h
  by_cases h1:i < n
  ·rw [if_pos h1] at h
   have e:i.toNat=j:=Option.some.inj h
   exact ⟨by rw [seqIndex_of h0 h1,e],by omega,by omega,h1⟩
  ·rw [if_neg h1] at h;cases h
 ·rw [if_neg h0] at h
  by_cases h1:-(n:Int)≤i
  ·rw [if_pos h1] at h
   have e:(i + n).toNat=j:=Option.some.inj h
   exact ⟨by rw [seqIndex_neg (by omega) h1,e],by omega,h1,by omega⟩
  ·rw [if_neg h1] at h;cases h
theorem n4 {α:Type} {xs:List α} {i:Int} {v:α} (h:cI xs i=some v):∃ j,seqIndex? i xs.length=some j∧xs[j]?=some v∧j < xs.length∧-(xs.length:Int)≤i∧i < xs.length:=by
 unfold cI at h
 cases e:xa xs.length i with
 | none=>rw [e] at h;cases h
 | some j =>
  rw [e] at h
  obtain ⟨h1,h2,h3,h4⟩:=uh e
  exact ⟨j,h1,h,h2,h3,h4⟩
theorem a8 {α:Type} {xs:List α} {j:Nat} {v:α} (h:xs[j]?=some v):cI xs (j:Int)=some v:=by
 have hj:j < xs.length:=(List.getElem?_eq_some_iff.mp h).1
 have e:xa xs.length (j:Int)=some j:=by
  unfold xa
  rw [if_pos (by omega),if_pos (by omega)];simp
 unfold cI;rw [e];exact h
def cx (b:Expr):Prop:=∀ o i,subscripted b false o i=operate [o,i] (getItem o i)
def lE (X:Cx) (r:R2):Prop :=
 ∀ (value slice:Expr) (pins:List (Addr × Obj)) (s:Shared) (σ:St) (H:Hp) (x y:V) (v u:Value) (Q:VK),Inv X pins σ H s→RelV x v→RelV y u→r x y H Q →
  subscripted slice false v u=operate [v,u] (getItem v u)→wpAny (model X.prog X.w) X.A (subscriptTail value slice v u) (EP X pins σ Q) X.xe s
def nY (X:Cx) (id:String) (r:V→List V→Hp→VK→Prop):Prop :=
 ∀ (pins:List (Addr × Obj)) (s:Shared) (σ:St) (H:Hp) (x:V) (xs:List V) (v:Value) (us:List Value) (Q:VK),Inv X pins σ H s→RelV x v→Vals xs us→r x xs H Q →
  wpAny (model X.prog X.w) X.A (call (.builtin id) (v :: us)) (EP X pins σ Q) X.xe s
section
variable {X:Cx} {a b:Expr} {ta tb:TE} {pos:Pos}
theorem lE.or {r r':R2} (h:lE X r) (h':lE X r'):lE X (fun x y H Q=>r x y H Q∨r' x y H Q):=by
 intro value slice pins s σ H x y v u Q I rx ry q hs
 rcases q with q | q
 ·exact h value slice pins s σ H x y v u Q I rx ry q hs
 ·exact h' value slice pins s σ H x y v u Q I rx ry q hs
theorem bH {r:R2} (hr:lE X r) (ha:PE X a ta) (hb:PE X b tb) (hs:cx b):PE X (.Subscript a b pos) (zI r ta tb):=by
 intro pins s σ H Q I h
 exact Subscript_ (CO ha hb I h fun v u s2 x y H2 I2 rx ry q=>hr a b pins s2 σ H2 x y v u Q I2 rx ry q (hs _ _))
def FY (K:PySem.W.Frag):R2:=fun x y H Q=>∃ p xs i v,x=.ref p∧y=.int i∧cM K H p xs∧cI xs i=some v∧Q v H
def F0 (K:PySem.W.Frag):R2:=fun x y H Q=>∃ p xs i v,x=.ref p∧y=.int i∧fh K H p xs∧cI xs i=some v∧Q v H
def FZ:R2:=fun x y H Q=>∃ z i c,x=.str z∧y=.int i∧z.length≤sizeLine∧cI z.cps.toList i=some c∧Q (.str ⟨#[c]⟩) H
theorem oj:lE X (FY X.K):=by
 intro value slice pins s σ H x y v u Q I rx ry h hs
 obtain ⟨p,xs,i,z,rfl,rfl,hq,he,q⟩:=h
 cases rx
 obtain ⟨t,rfl⟩:=ry
 obtain ⟨its,r,pl,hz⟩:=I.list hq
 obtain ⟨j,h1,h2,h3,h4,h5⟩:=n4 he
 obtain ⟨w,ew,rw'⟩:=r.get h2
 have hl:=r.length
 have hn:=iG
 have fin:EP X pins σ Q w s:=⟨z,H,I,rw',q⟩
 by_cases h0:0≤i
 ·have hj:i.toNat=j:=by
   rw [seqIndex_of h0 h5] at h1
   exact Option.some.inj h1
  exact item_listR pl.isList h0 (by omega) (by rw [hj];simpa using ew) fin hs
 ·have hj:(i + (its.toArray.size:Int)).toNat=j:=by
   rw [seqIndex_neg (by omega) h4] at h1
   rw [List.size_toArray,← hl]
   exact Option.some.inj h1
  exact subscriptTail_builtinR (x:=w) pl.isList.typeIs slot_list_getitem.lookup
   (wpAny_getItem_list_neg (Q:=fun r s'=>r=w∧EP X pins σ Q r s') pl.isList (by omega) (by rw [List.size_toArray] <;> omega) (by omega) (by rw [hj];simpa using ew) ⟨rfl,fin⟩) hs
theorem bX:lE X (F0 X.K):=by
 intro value slice pins s σ H x y v u Q I rx ry h hs
 obtain ⟨p,xs,i,z,rfl,rfl,hq,he,q⟩:=h
 cases rx
 obtain ⟨t,rfl⟩:=ry
 obtain ⟨its,r,pl,hz⟩:=I.tuple hq
 obtain ⟨j,h1,h2,h3,h4,h5⟩:=n4 he
 obtain ⟨w,ew,rw'⟩:=r.get h2
 have hl:=r.length
 have hn:=iG
 have fin:EP X pins σ Q w s:=⟨z,H,I,rw',q⟩
 exact subscriptTail_builtinR (x:=w) pl.typeIs slot_tuple_getitem.lookup
  (getItem_tuple (j:=j) (Q:=fun r s'=>r=w∧EP X pins σ Q r s') pl (by omega) (by omega) (by rw [List.size_toArray,← hl];exact h1) (by simpa using ew) ⟨rfl,fin⟩) hs
theorem x8:lE X FZ:=by
 intro value slice pins s σ H x y v u Q I rx ry h hs
 obtain ⟨z,i,c,rfl,rfl,hz,he,q⟩:=h
 obtain ⟨t,rfl⟩:=rx
 obtain ⟨t',rfl⟩:=ry
 obtain ⟨j,h1,h2,h3,h4,h5⟩:=n4 he
 have hl:z.cps.toList.length=z.length:=by simp [Str.length]
 rw [hl] at h1 h4 h5
 have hn:=iG
 exact tail_any (typeIs_str s z t) slot_str_getitem.lookup (getItem_str (c:=c) (by
  have e1:decide (i < -(2 ^ 63:Int))=false:=decide_eq_false (by omega)
  have e2:decide (i ≥ 2 ^ 63)=false:=decide_eq_false (by omega)
  rw [e1,e2,Bool.or_false]) (by rw [h1];simpa using h2) ⟨.str ⟨#[c]⟩,H,I.tok _,⟨_,rfl⟩,q⟩) hs
theorem sD (its:List Value) (n j:Nat) (u:Value):Obj.mapSeq (·.setIfInBounds j u) { cls:=.type "list",data:=.seq its.toArray n }={ cls:=.type "list",data:=.seq (its.set j u).toArray n }:=by
 simp [Obj.mapSeq]
theorem Inv.lst {pins:List (Addr × Obj)} {σ:St} {H:Hp} {s:Shared} {p:Addr} {xs:List V} (I:Inv X pins σ H s) (h:H p=some (.lst xs)) :
  ∃ (its:List Value) (n:Nat),Vals xs its∧s.heap.get? p=some { cls:=.type "list",data:=.seq its.toArray n }∧xs.length≤sizeLine:=by
 obtain ⟨z,its,n,r,e⟩:=I.hok p _ h
 exact ⟨its,n,r,e,z⟩
theorem Inv.Ds {pins:List (Addr × Obj)} {σ:St} {H:Hp} {s:Shared} {p:Addr} {xs ys:List V} {its its':List Value} {n n':Nat} {f:Obj→Obj} (I:Inv X pins σ H s) (h:H p=some (.lst xs))
  (ho:s.heap.get? p=some { cls:=.type "list",data:=.seq its.toArray n }) (hf:f { cls:=.type "list",data:=.seq its.toArray n }={ cls:=.type "list",data:=.seq its'.toArray n' }) (r:Vals ys its') (hz:ys.length≤sizeLine) (t:Nat) :
  Inv X pins σ (upd H p (.lst ys)) { s with heap:=s.heap.update p f,toks:=t }:=by
 have e:(s.heap.update p f).get? p=some { cls:=.type "list",data:=.seq its'.toArray n' }:=by
  rw [Heap.get?_update_self f ho (by rw [hf] <;> rfl),hf]
 refine I.write (x:=p) (e:=p) (by rw [h];trivial) (.inl rfl) (fun b u hb q=>(Heap.get?_update_other _ _ (Ne.symm hb)).trans q) ⟨_,e⟩ ?_
 exact ⟨hz,its',n',r,e⟩
def Cw:V→V→V→Hp→(Hp→Prop)→Prop:=fun o i v H Q=>∃ p xs k j,o=.ref p∧i=.int k∧H p=some (.lst xs)∧xa xs.length k=some j∧Q (upd H p (.lst (xs.set j v)))
theorem set_list:h_ X Cw:=by
 intro pins s σ H o i v ov iv u Q I ro ri rv h
 obtain ⟨p,xs,k,j,rfl,rfl,hp,hj,q⟩:=h
 cases ro
 obtain ⟨t,rfl⟩:=ri
 obtain ⟨its,n,r,ho,hz⟩:=I.lst hp
 obtain ⟨h1,h2,h3,h4⟩:=uh hj
 have hl:=r.length
 have hn:=iG
 have I':Inv X pins σ (upd H p (.lst (xs.set j v))) { s with heap:=s.heap.update p (Obj.mapSeq (·.setIfInBounds j u)) } :=
  I.Ds hp ho (sD its n j u) (r.set rv j) (by rw [List.length_set];exact hz) s.toks
 by_cases h0:0≤k
 ·have hk:k.toNat=j:=by
   rw [seqIndex_of h0 h4] at h1
   exact Option.some.inj h1
  exact PySem.W.ki_setAt ho h0 (by omega) (by rw [List.size_toArray,← hl];exact h4) (by rw [hk];exact ⟨_,I',q⟩)
 ·have hk:(k + (its.toArray.size:Int)).toNat=j:=by
   rw [seqIndex_neg (by omega) h3] at h1
   rw [List.size_toArray,← hl]
   exact Option.some.inj h1
  exact PySem.W.ki_setBack ho (by omega) (by rw [List.size_toArray,← hl];exact h3) (by omega) (by rw [hk];exact ⟨_,I',q⟩)
theorem pG (lo hi:Option Int) (n:Nat):(sliceBounds lo hi none n).1=((HT.c9 n 0 lo:Nat):Int)∧(sliceBounds lo hi none n).2.1=((HT.c9 n n hi:Nat):Int)∧(sliceBounds lo hi none n).2.2=1:=by
 refine ⟨?_,?_,rfl⟩
 ·cases lo with
  | none=>simp [sliceBounds,HT.c9]
  | some i =>
   simp only [sliceBounds,HT.c9,Option.getD_none,show (1:Int) > 0 by decide,if_true]
   by_cases h:i < 0
   ·simp only [h,if_true] <;> omega
   ·simp only [h,if_false] <;> omega
 ·cases hi with
  | none=>simp [sliceBounds,HT.c9]
  | some i =>
   simp only [sliceBounds,HT.c9,Option.getD_none,show (1:Int) > 0 by decide,if_true]
   by_cases h:i < 0
   ·simp only [h,if_true] <;> omega
   ·simp only [h,if_false] <;> omega
theorem m6 (its:List Value) (lo hi:Option Int):slicePick its.toArray lo hi none=((its.drop (HT.c9 its.length 0 lo)).take (HT.c9 its.length its.length hi - HT.c9 its.length 0 lo)).toArray:=by
 obtain ⟨h1,h2,h3⟩:=pG lo hi its.toArray.size
 unfold slicePick
 rw [h1,h2,h3]
 simp only [sliceRange_one,pick_run,List.size_toArray] <;> rfl
def F7 (K:PySem.W.Frag):V→Option Int→Option Int→Hp→VK→Prop:=fun x lo hi H Q=>∃ a xs,x=.ref a∧cM K H a xs∧∀ p,H p=none→Q (.ref p) (upd H p (.lst (lK xs lo hi)))
theorem pF:rK X (F7 X.K):=by
 intro pins s σ H x v vl vu lo hi sl Q I rx hs pl pu h
 obtain ⟨a,xs,rfl,hx,q⟩:=h
 cases rx
 obtain ⟨its,r,ht,hz⟩:=I.list hx
 have hlen:=r.length
 refine ⟨"list",_,slot_list_getitem.lookup,ht.isList.typeIs,?_⟩
 refine wpAny_getItem_list_slice ht.isList hs pl pu .none (by simp) ?_ (by rw [List.size_toArray] <;> omega)
 rw [m6,← hlen]
 refine ⟨.ref s.heap.objs.size,_,I.laid (t':=s.toks) (o:=.lst (lK xs lo hi)) (fun b ob q=>Heap.get?_push_of_some _ q) (Nat.le_refl _) ?_,rfl,q _ (I.hok.fresh (Nat.le_refl _))⟩
 exact ⟨Nat.le_trans (ko xs lo hi) hz,_,0,(r.drop (HT.c9 xs.length 0 lo)).take (HT.c9 xs.length xs.length hi - HT.c9 xs.length 0 lo),Heap.get?_push_size _ rfl⟩
def fZ:V→Bool
 | .non=>true
 | .bl _=>true
 | .int _=>true
 | .str _=>true
 | _=>false
def zQ:V→V→Bool
 | .non,.non=>true
 | .bl a,.bl b=>a == b
 | .bl a,.int b=>(if a then 1 else 0) == b
 | .int a,.bl b=>a == (if b then 1 else 0)
 | .int a,.int b=>a == b
 | .str a,.str b=>a == b
 | _,_=>false
theorem C0 {A:Around} {s:Shared} {y x:V} {u v:Value} (ry:RelV y u) (rx:RelV x v) (fy:fZ y=true) (fx:fZ x=true):SeqAt.EqAt A s u v (zQ y x):=by
 cases y with
 | non =>
  cases ry
  cases x with
  | non=>cases rx;exact SeqAt.EqAt.same _
  | bl b=>cases rx;exact SeqAt.EqAt.none_bool b
  | int b=>obtain ⟨t,rfl⟩:=rx;exact SeqAt.EqAt.none_int b t
  | str b=>obtain ⟨t,rfl⟩:=rx;exact SeqAt.EqAt.none_str b t
  | _=>exact absurd (show false=true from fx) Bool.false_ne_true
 | bl a =>
  cases ry
  cases x with
  | non=>cases rx;exact SeqAt.EqAt.bool_none a
  | bl b=>cases rx;exact SeqAt.EqAt.bool_bool a b
  | int b=>obtain ⟨t,rfl⟩:=rx;exact SeqAt.EqAt.bool_int a b t
  | str b=>obtain ⟨t,rfl⟩:=rx;exact SeqAt.EqAt.bool_str a b t
  | _=>exact absurd (show false=true from fx) Bool.false_ne_true
 | int a =>
  obtain ⟨t',rfl⟩:=ry
  cases x with
  | non=>cases rx;exact SeqAt.EqAt.int_none a t'
  | bl b=>cases rx;exact SeqAt.EqAt.int_bool a t' b
  | int b=>obtain ⟨t,rfl⟩:=rx;exact SeqAt.EqAt.int_int a t' b t
  | str b=>obtain ⟨t,rfl⟩:=rx;exact SeqAt.EqAt.int_str a t' b t
  | _=>exact absurd (show false=true from fx) Bool.false_ne_true
 | str a =>
  obtain ⟨t',rfl⟩:=ry
  cases x with
  | non=>cases rx;exact SeqAt.EqAt.str_none a t'
  | bl b=>cases rx;exact SeqAt.EqAt.str_bool a t' b
  | int b=>obtain ⟨t,rfl⟩:=rx;exact SeqAt.EqAt.str_int a t' b t
  | str b=>obtain ⟨t,rfl⟩:=rx;exact SeqAt.EqAt.str_str a t' b t
  | _=>exact absurd (show false=true from fx) Bool.false_ne_true
 | _=>exact absurd (show false=true from fy) Bool.false_ne_true
def r8 (x:V) (u:Value):Bool:=match u with
 | .none=>zQ .non x
 | .bool b=>zQ (.bl b) x
 | .int i _=>zQ (.int i) x
 | .str z _=>zQ (.str z) x
 | _=>false
theorem xD {x y:V} {u:Value} (r:RelV y u) (f:fZ y=true):r8 x u=zQ y x:=by
 cases y with
 | non=>cases r;rfl
 | bl b=>cases r;rfl
 | int i=>obtain ⟨t,rfl⟩:=r;rfl
 | str z=>obtain ⟨t,rfl⟩:=r;rfl
 | _=>exact absurd (show false=true from f) Bool.false_ne_true
theorem iW {x:V}:∀ {xs:List V} {us:List Value},Vals xs us→xs.all fZ=true→us.any (r8 x)=xs.any fun y=>zQ y x
 | _,_,.nil,_=>rfl
 | y :: xs,u :: us,.cons r t,f=>by
  rw [List.all_cons,Bool.and_eq_true] at f
  rw [List.any_cons,List.any_cons,xD r f.1,iW t f.2]
theorem gu {A:Around} {s:Shared} {x:V} {v:Value} (rx:RelV x v) (fx:fZ x=true):∀ {xs:List V} {us:List Value},Vals xs us→xs.all fZ=true→∀ u∈us,SeqAt.EqAt A s u v (r8 x u)
 | _,_,.nil,_=>fun u hu=>by cases hu
 | y :: xs,u :: us,.cons r t,f=>fun u' hu=>by
  rw [List.all_cons,Bool.and_eq_true] at f
  rcases List.mem_cons.mp hu with rfl | hu
  ·rw [xD r f.1];exact C0 r rx f.1 fx
  ·exact gu rx fx t f.2 u' hu
def Eo (x:V) (xs:List V):Bool:=xs.any fun y=>zQ y x
def I8 (K:PySem.W.Frag) (neg:Bool):R2:=fun x y H Q=>∃ p xs,y=.ref p∧(cM K H p xs∨fh K H p xs)∧fZ x=true∧xs.all fZ=true∧Q (.bl (if neg then !Eo x xs else Eo x xs)) H
theorem wy:eA X (compareOp .In) (I8 X.K false):=by
 intro pins s σ H x y v u Q I rx ry h
 obtain ⟨p,xs,rfl,hq,fx,fs,q⟩:=h
 cases ry
 rcases hq with hq | hq
 ·obtain ⟨its,r,pl,hz⟩:=I.list hq
  refine SeqAt.in_listAt (r8 x) pl.isList (fun w hw=>gu rx fx r fs w (by simpa using hw)) ⟨.bl _,H,I,rfl,?_⟩
  rw [show its.toArray.any (r8 x)=its.any (r8 x) by simp,iW r fs]
  exact q
 ·obtain ⟨its,r,pl,hz⟩:=I.tuple hq
  refine SeqAt.in_tupleAt (r8 x) pl (fun w hw=>gu rx fx r fs w (by simpa using hw)) ⟨.bl _,H,I,rfl,?_⟩
  rw [show its.toArray.any (r8 x)=its.any (r8 x) by simp,iW r fs]
  exact q
theorem oO:eA X (compareOp .NotIn) (I8 X.K true):=by
 intro pins s σ H x y v u Q I rx ry h
 obtain ⟨p,xs,rfl,hq,fx,fs,q⟩:=h
 cases ry
 rcases hq with hq | hq
 ·obtain ⟨its,r,pl,hz⟩:=I.list hq
  refine SeqAt.notIn_listAt (r8 x) pl.isList (fun w hw=>gu rx fx r fs w (by simpa using hw)) ⟨.bl _,H,I,rfl,?_⟩
  rw [show its.toArray.any (r8 x)=its.any (r8 x) by simp,iW r fs]
  exact q
 ·obtain ⟨its,r,pl,hz⟩:=I.tuple hq
  refine SeqAt.notIn_tupleAt (r8 x) pl (fun w hw=>gu rx fx r fs w (by simpa using hw)) ⟨.bl _,H,I,rfl,?_⟩
  rw [show its.toArray.any (r8 x)=its.any (r8 x) by simp,iW r fs]
  exact q
theorem fF:b7 X (.builtin "len") (fun xs H Q=>∃ p ys,xs=[.ref p]∧(cM X.K H p ys∨fh X.K H p ys)∧Q (.int ys.length) H):=by
 intro pins s σ H xs us Q I r h
 obtain ⟨p,ys,rfl,hq,q⟩:=h
 obtain ⟨u,rfl,rx⟩:=vals1 r
 cases rx
 have hn:=iG
 rcases hq with hq | hq
 ·obtain ⟨its,r',pl,hz⟩:=I.list hq
  have hlen:=r'.length
  exact Calls.call_len_list pl.isList (by simp only [List.size_toArray] <;> omega) ⟨.int ys.length,H,I.tok _,⟨s.toks + 1,by rw [List.size_toArray,hlen]⟩,q⟩
 ·obtain ⟨its,r',pl,hz⟩:=I.tuple hq
  have hlen:=r'.length
  exact len_tuple pl (by simp only [List.size_toArray] <;> omega) ⟨.int ys.length,H,I.tok _,⟨s.toks + 1,by rw [List.size_toArray,hlen]⟩,q⟩
theorem iY:b7 X (.builtin "len") (fun xs H Q=>∃ z,xs=[.str z]∧z.length≤sizeLine∧Q (.int z.length) H):=by
 intro pins s σ H xs us Q I r h
 obtain ⟨z,rfl,hz,q⟩:=h
 obtain ⟨u,rfl,t,rfl⟩:=vals1 r
 have hn:=iG
 exact len_str (by omega) ⟨.int z.length,H,I.tok _,⟨_,rfl⟩,q⟩
theorem n8:b7 X (.type "list") (fun xs H Q=>∃ p ys,xs=[.ref p]∧(cM X.K H p ys∨fh X.K H p ys)∧∀ l,H l=none→Q (.ref l) (upd H l (.lst ys))):=by
 intro pins s σ H xs us Q I r h
 obtain ⟨p,ys,rfl,hq,q⟩:=h
 obtain ⟨u,rfl,rx⟩:=vals1 r
 cases rx
 have fin:∀ (its:List Value),Vals ys its→ys.length≤sizeLine→∀ (h':Heap) (c':Nat),(∀ b o',s.heap.get? b=some o'→h'.get? b=some o') →
   h'.get? s.heap.objs.size=some { cls:=.type "list",dict:=none,data:=.seq its.toArray c',slots:=#[] }→EP X pins σ Q (.ref s.heap.objs.size) { s with heap:=h' }:=fun its r' hz h' c' kp e =>
  ⟨.ref s.heap.objs.size,_,I.laid (t':=s.toks) kp (Nat.le_refl _) (show b_ X.prog X.w _ h' _ (.lst ys) from ⟨hz,its,c',r',e⟩),rfl,q _ (I.hok.fresh (Nat.le_refl _))⟩
 rcases hq with hq | hq
 ·obtain ⟨its,r',pl,hz⟩:=I.list hq
  have hlen:=r'.length
  obtain ⟨o,ho,hc,n,hd⟩:=pl.isList
  exact call_list_seq p (.inl rfl) ho hc hd (fun h' c' kp e=>fin its r' hz h' c' kp e) (by simp only [List.size_toArray] <;> omega)
 ·obtain ⟨its,r',pl,hz⟩:=I.tuple hq
  have hlen:=r'.length
  obtain ⟨o,ho,hc,n,hd⟩:=pl
  exact call_list_seq p (.inr rfl) ho hc hd (fun h' c' kp e=>fin its r' hz h' c' kp e) (by simp only [List.size_toArray] <;> omega)
def GZ (K:PySem.W.Frag) (T:String) (x:V) (H:Hp):Prop:=match x with
 | .str _=>T="str"
 | .int _=>T="int"
 | .ref p=>(T="list"∧∃ xs,cM K H p xs)∨(T="tuple"∧∃ o,K.lookup p=some o∧o.cls=.type "tuple"∧o.dict=none) ∨
   (T="dict"∧((∃ kvs,H p=some (.dK kvs))∨∃ kvs ep,H p=some (.dE kvs ep)))∨(T="set"∧∃ S n,H p=some (.set S n))
 | _=>False
theorem zL {pins:List (Addr × Obj)} {σ:St} {H:Hp} {s:Shared} {T:String} {x:V} {v:Value} (I:Inv X pins σ H s) (r:RelV x v) (ty:GZ X.K T x H) :
  s.TypeIs v T∧∀ a,v=.ref a→∃ ob,s.heap.get? a=some ob∧ob.dict=none:=by
 cases x with
 | str z =>
  obtain ⟨t,rfl⟩:=r
  cases (show T="str" from ty)
  exact ⟨typeIs_str s z t,fun _ e=>nomatch e⟩
 | int i =>
  obtain ⟨t,rfl⟩:=r
  cases (show T="int" from ty)
  exact ⟨typeIs_int s i t,fun _ e=>nomatch e⟩
 | ref p =>
  cases r
  rcases ty with ⟨rfl,xs,hq⟩ | ⟨rfl,o,hk,hc,hd⟩ | ⟨rfl,hk⟩ | ⟨rfl,S,n,hk⟩
  ·obtain ⟨its,_,pl,_⟩:=I.list hq
   refine ⟨pl.isList.typeIs,fun a e=>?_⟩
   cases e
   obtain ⟨o,n,e,c,hd,_⟩:=pl
   exact ⟨o,e,hd⟩
  ·refine ⟨⟨o,I.i_ p o hk,hc⟩,fun a e=>?_⟩
   cases e
   exact ⟨o,I.i_ _ o hk,hd⟩
  ·have z:∃ o,s.heap.get? p=some o∧o.ExactDict:=by
    rcases hk with ⟨kvs,hk⟩ | ⟨kvs,ep,hk⟩
    ·obtain ⟨_,_,_,_,o,_,_,e,ex,_⟩:=I.hok p _ hk
     exact ⟨o,e,ex⟩
    ·obtain ⟨_,_,_,_,o,_,e,ex,_⟩:=I.hok p _ hk
     exact ⟨o,e,ex⟩
   obtain ⟨o,e,ex⟩:=z
   refine ⟨⟨o,e,ex.1⟩,fun a e2=>?_⟩
   cases e2
   exact ⟨o,e,ex.2.1⟩
  ·obtain ⟨o,_,_,_,e,ex,_⟩:=I.hok p _ hk
   refine ⟨⟨o,e,ex.1⟩,fun a e2=>?_⟩
   cases e2
   exact ⟨o,e,ex.2.1⟩
 | _=>exact False.elim ty
def Ii (K:PySem.W.Frag) (T:String) (r:V→List V→Hp→VK→Prop) (to:TE):TE:=fun σ H Q=>to σ H fun x H1=>GZ K T x H1∧r x [] H1 Q
def GU (K:PySem.W.Frag) (T:String) (r:V→List V→Hp→VK→Prop) (to:TE) (t:TA):TE:=fun σ H Q=>to σ H fun x H1=>GZ K T x H1∧t σ H1 fun xs H2=>r x xs H2 Q
variable {o e:Expr} {es:List Expr} {to:TE} {t:TA} {name:Str} {apos cpos:Pos} {T id:String} {r:V→List V→Hp→VK→Prop}
theorem DF (pa:PlainAttrs T) (slot:Slot T name id) (hty:typeOf (.builtin id)=pure (.type "method_descriptor")) (hm:nY X id r) (ho:PE X o to)
  (hbase:attributeBase o name X.env (eval o X.env)=eval o X.env:=by rfl) (hline:(apos.endLine == cpos.line)=true:=by rfl):PE X (.Call (.Attribute o name apos) [] [] cpos) (Ii X.K T r to):=by
 intro pins s σ H Q I h
 refine wpAny_Call_method0_late hbase hline (bE (ho pins s σ H _ I h) fun v s1 ⟨x,H1,I1,r1,ty,q1⟩=>?_)
 obtain ⟨h1,h2⟩:=zL I1 r1 ty
 exact ⟨T,id,pa,slot,hty,h1,h2,Calls.callWith_builtin rfl (PySem.evalArgs_none (hm pins s1 σ H1 x [] v [] Q I1 r1 .nil q1))⟩
theorem l5 (pa:PlainAttrs T) (slot:Slot T name id) (hty:typeOf (.builtin id)=pure (.type "method_descriptor")) (hm:nY X id r) (ho:PE X o to) (ha:PA X (e :: es) t)
  (hbase:attributeBase o name X.env (eval o X.env)=eval o X.env:=by rfl)
  (hfew:((backTo cpos (starEach (e :: es) X.env)).all (fun x=>!x.1) && (backToKw cpos (keywordEach [] X.env)).all (fun x=>x.1.isSome)
   && decide ((e :: es).length + ([]:List Keyword).length + (if ([]:List Keyword).isEmpty then 0 else 1) < 30))=true:=by rfl)
  (hline:(apos.endLine == cpos.line)=true:=by rfl) (hs:starEach (e :: es) X.env=(false,eval e X.env) :: starEach es X.env:=by rfl) (hplain:(backTo cpos (starEach es X.env)).any (·.1)=false:=by rfl) :
  PE X (.Call (.Attribute o name apos) (e :: es) [] cpos) (GU X.K T r to t):=by
 intro pins s σ H Q I h
 refine wpAny_Call_method_late hbase hfew hline rfl (bE (ho pins s σ H _ I h) fun v s1 ⟨x,H1,I1,r1,ty,q1⟩=>?_)
 obtain ⟨h1,h2⟩:=zL I1 r1 ty
 refine ⟨T,id,pa,slot,hty,h1,h2,?_⟩
 have hA:=ha cpos pins s1 σ H1 _ I1 q1
 rw [hs] at hA ⊢
 refine Calls.callWith_builtin (by show (false || (backTo cpos (starEach es X.env)).any (·.1))=false;rw [hplain] <;> rfl) (Calls.evalArgs_plain ?_)
 exact bE hA fun us s2 ⟨vs,H2,I2,r2,q2⟩=>hm pins s2 σ H2 x vs v us Q I2 r1 r2 q2
end
end L2
namespace L2
open PySem PySem.Spec PyProof.Rows
def IC (X:Cx) (id:String) (r:V→List V→Hp→VK→Prop):Prop :=
 ∀ (pins:List (Addr × Obj)) (s:Shared) (σ:St) (H:Hp) (x:V) (xs:List V) (v:Value) (us:List Value) (Q:VK),Inv X pins σ H s→RelV x v→Vals xs us→r x xs H Q →
  wpAny (model X.prog X.w) X.A (call (.builtin id) (v :: us)) (EP X pins σ Q) X.xe s
theorem Vals.one:∀ {x:V} {us:List Value},Vals [x] us→∃ u,us=[u]∧RelV x u
 | _,_,.cons r .nil=>⟨_,rfl,r⟩
theorem Vals.zero:∀ {us:List Value},Vals [] us→us=[]
 | _,.nil=>rfl
theorem Vals.dropLast {xs:List V} {us:List Value} (h:Vals xs us):Vals xs.dropLast us.dropLast:=by
 induction h with
 | nil=>exact .nil
 | cons r t ih =>
  cases t with
  | nil=>exact .nil
  | cons q t'=>exact .cons r ih
theorem Vals.eraseIdx:∀ {xs:List V} {us:List Value} (i:Nat),Vals xs us→Vals (xs.eraseIdx i) (us.eraseIdx i)
 | _,_,_,.nil=>.nil
 | _,_,0,.cons _ t=>t
 | _,_,i + 1,.cons r t=>.cons r (Vals.eraseIdx i t)
theorem Vals.reverse {xs:List V} {us:List Value} (h:Vals xs us):Vals xs.reverse us.reverse:=by
 induction h with
 | nil=>exact .nil
 | cons r t ih=>rw [List.reverse_cons,List.reverse_cons];exact Vals.append ih (.cons r .nil)
theorem Vals.rep {xs:List V} {us:List Value} (h:Vals xs us):∀ k:Nat,Vals (List.replicate k xs).flatten (List.replicate k us).flatten
 | 0=>.nil
 | k + 1=>by
  rw [List.replicate_succ,List.replicate_succ,List.flatten_cons,List.flatten_cons]
  exact Vals.append h (Vals.rep h k)
theorem r_ {α:Type} (l:List α):l.eraseIdx (l.length - 1)=l.dropLast:=by
 induction l with
 | nil=>rfl
 | cons a r ih =>
  cases r with
  | nil=>rfl
  | cons b r =>
   have e:(a :: b :: r).length - 1=((b :: r).length - 1) + 1:=by
    have h1:(a :: b :: r).length=r.length + 2:=rfl
    have h2:(b :: r).length=r.length + 1:=rfl
    omega
   rw [e,List.eraseIdx_cons_succ,ih]
   all_goals rfl
section
variable {X:Cx} {pins:List (Addr × Obj)} {σ:St} {H:Hp} {s:Shared} {l b:Addr} {xs ys zs:List V}
theorem Inv.Az {its its':List Value} {n:Nat} {f:Array Value→Array Value} {t':Nat} (I:Inv X pins σ H s) (hH:H l=some (.lst xs))
  (e:s.heap.get? l=some { cls:=.type "list",data:=.seq its.toArray n }) (hf:f its.toArray=its'.toArray) (hv:Vals ys its') (hz:ys.length≤sizeLine) :
  Inv X pins σ (upd H l (.lst ys)) { s with heap:=s.heap.update l (Obj.mapSeq f),toks:=t' }:=by
 have q:=PySem.IsL.update e f
 rw [hf] at q
 refine I.write (x:=l) (e:=l) (by rw [hH];exact trivial) (.inl rfl) (fun b' u hb hu=>(Heap.get?_update_other s.heap (Obj.mapSeq f) (Ne.symm hb)).trans hu) ⟨_,q⟩ ?_
 exact ⟨hz,its',_,hv,q⟩
theorem Inv.fresh (I:Inv X pins σ H s):H s.heap.objs.size=none:=I.hok.fresh (Nat.le_refl _)
theorem Inv.AA (I:Inv X pins σ H s) (hH:H l=some (.lst xs)):xs.length≤sizeLine∧∃ (its:List Value) (n:Nat),Vals xs its∧xs.length=its.length∧s.heap.get? l=some { cls:=.type "list",data:=.seq its.toArray n }:=by
 obtain ⟨z,its,n,r,e⟩:=I.hok l _ hH
 exact ⟨z,its,n,r,r.length,e⟩
end
section
variable {X:Cx}
def uG:V→List V→Hp→VK→Prop:=fun x vs H Q=>∃ l xs y,x=.ref l∧vs=[y]∧H l=some (.lst xs)∧xs.length < sizeLine∧Q .non (upd H l (.lst (xs ++ [y])))
theorem er:IC X "list.append" uG:=by
 intro pins s σ H x vs v us Q I rx rv h
 obtain ⟨l,xs,y,rfl,rfl,hH,hz,q⟩:=h
 cases rx
 obtain ⟨u,rfl,ru⟩:=rv.one
 obtain ⟨z,its,n,r,hl,e⟩:=I.AA hH
 refine call_meets F.slot_list_append ⟨_,e,rfl⟩ F.entry_list_append (F.args_list_append_2 _ _) (PySem.list_append l its.toArray n u (by rw [List.size_toArray];omega)) ⟨e,?_⟩
 refine ⟨.non,_,I.Az (its':=its ++ [u]) hH e (by simp) (r.append (.cons ru .nil)) ?_,rfl,q⟩
 rw [List.length_append,List.length_singleton]
 omega
def Ia:V→List V→Hp→VK→Prop:=fun x vs H Q=>∃ l xs y,x=.ref l∧vs=[]∧H l=some (.lst xs)∧xs[xs.length - 1]?=some y∧Q y (upd H l (.lst xs.dropLast))
theorem Dv:IC X "list.pop" Ia:=by
 intro pins s σ H x vs v us Q I rx rv h
 obtain ⟨l,xs,y,rfl,rfl,hH,hy,q⟩:=h
 cases rx
 have hus:=rv.zero
 subst hus
 obtain ⟨z,its,n,r,hl,e⟩:=I.AA hH
 obtain ⟨u,hu,ru⟩:=r.get hy
 have hy':its.toArray[its.toArray.size - 1]?=some u:=by
  show its.toArray[its.length - 1]?=some u
  rw [← Array.getElem?_toList,← hl]
  exact hu
 refine call_meets F.slot_list_pop ⟨_,e,rfl⟩ F.entry_list_pop (F.args_list_pop_1 _) (MeetsSeq.list_pop_last l its.toArray n u hy' (by rw [List.size_toArray];omega)) ⟨e,?_⟩
 refine ⟨y,_,I.Az (its':=its.dropLast) hH e ?_ r.dropLast ?_,ru,q⟩
 ·show its.toArray.eraseIdxIfInBounds (its.toArray.size - 1)=its.dropLast.toArray
  rw [List.size_toArray,List.eraseIdxIfInBounds_toArray,r_]
 ·rw [List.length_dropLast]
  omega
end
section
variable {prog:Program} {w:World} {A:Around} {E:Value→Shared→Prop} {s:Shared}
end
section
variable {X:Cx}
end
end L2
namespace Att
open PySem PySem.W PySem.Calls PyProof.Rows
theorem kH {P:Params} {h:Heap}:∀ (ns:List Int) (vs:List Value),WellAll P h vs (ns.map WData.int)→IntsAre vs ns:=by
 intro ns
 induction ns with
 | nil =>
  intro vs w
  rw [List.map_nil] at w
  cases w
  exact .nil
 | cons n ns ih =>
  intro vs w
  rw [List.map_cons] at w
  cases w with
  | cons a b =>
   cases a
   exact .cons _ _ (ih _ b)
theorem wN {l:OpenLaw} {n:Nat} (hn:l.most=some n) {P:Params} {h:Heap} {args:List WData} {vals:List Value}
  (hpre:l.row.toRowW.claim.pre args=true) (hwl:WellAll P h vals args) :
  ∃ a vs ns,vals=[Value.ref a]∧args=[WData.list (ns.map WData.int)]∧h.get? a=some { cls:=.type "list",data:=.seq vs.toArray }∧IntsAre vs ns∧ns.length≤n:=by
 have hsh:WShape.hasAll [] args [.list .int]=true:=(pre_splitW hpre).1
 have hc:l.pre.holds [] { args:=args }=true:=(pre_splitW hpre).2
 obtain ⟨d,r,rfl,h1,h2⟩:=hasAllW_cons hsh
 obtain rfl:=hasAllW_nil h2
 obtain ⟨xs,rfl,h3⟩:=hasW_list h1
 obtain ⟨ns,rfl⟩:=items_int h3
 have hlen:ns.length≤n:=by
  unfold OpenLaw.pre at hc
  have h4:(WTm.not (.lt (.lit (.int (n:Int))) (.len (.arg 0)))).holds [] { args:=[.list (ns.map .int)] }=true:=by
   have h4:=(holds_andW hc).1
   rw [hn] at h4
   exact h4
  have h5:=condW_of h4 (w_not (w_lt w_lit (w_len_list (w_arg rfl))))
  rw [List.length_map] at h5
  refine Nat.le_of_not_lt fun q=>?_
  have q':(n:Int) < ((ns.length:Nat):Int):=by omega
  first
   | (rw [decide_eq_true q'] at h5;exact absurd h5 (by decide))
   | (simp at h5;omega)
 cases hwl with
 | cons w1 w2 =>
  cases w2
  cases w1 with
  | list ho hall=>exact ⟨_,_,ns,rfl,rfl,ho,kH ns _ hall,hlen⟩
theorem wF (l:OpenLaw) (args:List WData):l.row.toRowW.claim.post args (.bool true) args=true :=
 postW_of (r:=l.row.toRowW) (X:=(true == true))
  (show WShape.has [] (.bool true) .bool=true by first | rfl | decide | simp [WShape.has,WShape.arms,WShape.armsAll])
  (show (WTm.eq .res (.lit (.bool true))).value [] { args:=args,res:=some (.bool true),after:=args }=some (.bool (true == true)) from w_eq_bool (w_res rfl) w_lit) rfl
theorem pY {l:OpenLaw} {n:Nat} {q:Program} {loose:List Str} {XP:(Str→Option Value)→Heap→Prop} {YP:World→Heap→Prop} {d:DefRec}
  (hn:l.most=some n) (hdf:d.params.defaults=[])
  (call:∀ (w:World) (s₀ s₁:Shared) (mg mb:Str→Option Value) (fa:Addr) (o:Obj) (pm cd doc:Value) (a:Addr) (vs:List Value) (ns:List Int),
   Ground q loose [] XP w s₀ mg mb s₁.heap→YP w s₁.heap →
   s₁.heap.get? fa=some o→o.data=.func (docDef d.name d.params d.body d.scope pm cd doc)→s₁.heap.CodeRec cd d.name→mg d.name=some (.ref fa) →
   s₁.heap.get? a=some { cls:=.type "list",data:=.seq vs.toArray }→IntsAre vs ns→ns.length≤n→s₁.gens=#[] →
   codeAny (model l.prog w) callerA (.call (.ref fa) ⟨[.ref a],[]⟩) (fun r s'=>r=.ok (.ret (.bool true))∧OldK s₁.heap s'.heap∧s'.os=s₁.os∧AllBare s'.gens) s₁) :
  WalkO q loose XP YP l.row.toRowW d [] (fun f vs=>PySem.call f vs):=by
 intro w s₀ s₁ mg mb G Y fa o pm cd doc dV kV ho hd hcd hD hmg hg args vals as hpre hlay hrd hwl hlo
 obtain rfl:dV=.none:=Dflts.none hD hdf
 obtain rfl:kV=.none:=Dflts.noKw hD
 obtain ⟨a,vs,ns,rfl,rfl,hobj,hints,hlen⟩:=wN hn hpre hwl
 refine enter_call (codeAny_mono (call w s₀ s₁ mg mb fa o pm cd doc a vs ns G Y ho (fd_plain hd) hcd hmg hobj hints hlen hg) fun r s' hq=>?_)
 obtain ⟨rfl,h2,h3,h4⟩:=hq
 exact ⟨.inl ⟨.bool true,.bool true,[],rfl,fun _=>rfl,.bool true,wF l _,fun _=>⟨List.Pairwise.nil,fun _ hm=>(nomatch hm)⟩⟩,h2,h3,h4⟩
section
variable {prog:Program} {w:World} {A:Around} {E:Value→Shared→Prop} {s:Shared} {K:Frag}
end
end Att
namespace L2
open PySem PySem.Spec PyProof.Rows
theorem nX:∀ {vs:List Value} {ns:List Int},IntsAre vs ns→Vals (ns.map V.int) vs
 | _,_,.nil=>.nil
 | _,_,.cons n t h=>.cons ⟨t,rfl⟩ (nX h)
end L2
namespace L2
open PySem PySem.Spec PyProof.Rows
abbrev bS {K:PySem.W.Frag} {h:Heap} (_:K.In h):PySem.W.Frag:=K
end L2
namespace L2
open PySem PySem.Spec PyProof.Rows
def inClass (s:Stmt) (j:Nat):Stmt:=match s with
 | .ClassDef _ _ _ body _ _ _ _ _ _ _=>body.getD j (.Pass ⟨0,0,0,0⟩)
 | _=>.Pass ⟨0,0,0,0⟩
def cb (s:Stmt):Arguments:=match s with
 | .FunctionDef _ a _ _ _ _ _ _ _ _=>a
 | _=>{ posonlyargs:=[],args:=[],vararg:=none,kwonlyargs:=[],kw_defaults:=[],kwarg:=none,defaults:=[] }
def bC (s:Stmt):List Stmt:=match s with
 | .FunctionDef _ _ b _ _ _ _ _ _ _=>b
 | _=>[]
def aj (s:Stmt):Scope:=match s with
 | .FunctionDef _ _ _ _ _ _ sc _ _ _=>sc
 | _=>{ kind:=.function,names:=[],isGenerator:=false,isCoroutine:=false }
abbrev lD:mD:=fun _ _ _ _ _ _=>False
abbrev E0:XK:=fun _ _ _=>False
theorem Fx {X:Cx}:Passes lD X E0:=fun _ _ _ _ _ _ _ h=>h.elim
structure bV (K:PySem.W.Frag) (x qual:Str) (st:Stmt) (f:Addr) (fd:FuncData):Prop where
 ex:∃ (oc:Value) (od:Option Addr) (kV doc pm:Value) (an:Option Addr) (cdv ct:Value) (osl:Array (Option Value)),
  fd=PySem.W.fnOf x qual (cb st) (bC st) (aj st) .none kV doc pm an cdv ct∧K.lookup f=some ⟨oc,od,.func fd,osl⟩∧PySem.W.codeIn K cdv qual=true
 kp:PySem.W.keepIn K (.ref f)=true
section
variable {P:Program} {w:World} {K:PySem.W.Frag} {mg:Str→Option Value} {base:Heap}
theorem bV.ok {x qual:Str} {st:Stmt} {f:Addr} {fd:FuncData} {N ps:List Str} {k:Nat} {sp:Sp} (F:bV K x qual st f fd) (S:aw N ps (aj st)) (len:∀ vs H Q E,sp vs H Q E→vs.length=ps.length)
  (hbody:∀ (cdv:Value) (A:Around) (outer:List Env) (s:Shared) (H:Hp) (vs:List V) (Q:VK) (E:XK),ba k (A.deeper (envOfC qual (aj st) s.heap.objs.size f cdv))→sp vs H Q E →
   ∃ t,m_ (n_ lD P w K mg base N qual (aj st) f cdv A outer s H E).yp (bC st) t∧t { nx:=fun _ H'=>Q .non H',rt:=Q } (start N vs) H):aI P w K mg base lD (k + 1) f fd ps sp:=by
 obtain ⟨oc,od,kV,doc,pm,an,cdv,ct,osl,rfl,lk,hcd⟩:=F.ex
 refine xF lk hcd S len fun A outer s H vs Q E hr hsp=>?_
 obtain ⟨t,h,q⟩:=hbody cdv A outer s H vs Q E hr hsp
 exact ⟨t,h.yp,q⟩
theorem bV.binds {x qual:Str} {st:Stmt} {f:Addr} {fd:FuncData} {ps:List Str} (F:bV K x qual st f fd)
  (h:∀ (kV doc pm:Value) (an:Option Addr) (cdv ct:Value) (us:List Value),us.length=ps.length→bindArgs (PySem.W.fnOf x qual (cb st) (bC st) (aj st) .none kV doc pm an cdv ct) ⟨us,[]⟩=pure (ps.zip us)):Binds K fd ps []:=by
 obtain ⟨oc,od,kV,doc,pm,an,cdv,ct,osl,rfl,lk,hcd⟩:=F.ex
 exact .all (h kV doc pm an cdv ct)
theorem sd {x qual:Str} {st:Stmt} {f:Addr} {oc:Value} {od an:Option Addr} {osl:Array (Option Value)} {kV doc pm cdv ct:Value} (l:K.lookup f=some ⟨oc,od,.func (PySem.W.fnOf x qual (cb st) (bC st) (aj st) .none kV doc pm an cdv ct),osl⟩)
  (c:PySem.W.codeIn K cdv qual=true) (k:PySem.W.keepIn K (.ref f)=true):bV K x qual st f (PySem.W.fnOf x qual (cb st) (bC st) (aj st) .none kV doc pm an cdv ct):=⟨⟨oc,od,kV,doc,pm,an,cdv,ct,osl,rfl,l,c⟩,k⟩
end
theorem aX {n:Nat} (h:n≤1000):n < sizeLine:=Nat.lt_of_le_of_lt h (by decide)
section
variable {X:Cx}
theorem pv (i:Nat) {x:Str} {pos:Pos} (hN:X.N[i]?=some x:=by rfl) (hv:pU X.env.scope x:=by first | exact Or.inl rfl | exact Or.inr (Or.inl rfl) | exact Or.inr (Or.inr rfl)) (hd:(x == ("__debug__":Str))=false:=by decide)
  (hcd:(x == ("__classdict__":Str))=false:=by decide):PE X (.Name x pos) (wQ i):=sR hN hv hd hcd
end
theorem xZ {c A B:Prop} [Decidable c] (h1:c→A) (h2:¬ c→B):if c then A else B:=by
 by_cases h:c
 ·rw [if_pos h]
  exact h1 h
 ·rw [if_neg h]
  exact h2 h
def aY (H H':Hp):Prop:=∀ b o,H b=some o→H' b=some o
theorem aY.refl (H:Hp):aY H H:=fun _ _ h=>h
theorem aY.trans {H H1 H2:Hp} (a:aY H H1) (b:aY H1 H2):aY H H2:=fun c o h=>b c o (a c o h)
theorem aY.free {H H':Hp} (e:aY H H') {l:Addr} (h:H' l=Option.none):H l=Option.none:=by
 cases q:H l with
 | none=>rfl
 | some o =>
  rw [e l o q] at h
  cases h
theorem aY.seq {K:PySem.W.Frag} {H H':Hp} {a:Addr} {xs:List V} (e:aY H H') (h:cM K H a xs):cM K H' a xs:=by
 rcases h with (h | ⟨o,h⟩) | h
 ·exact .inl (.inl (e _ _ h))
 ·exact .inl (.inr ⟨o,e _ _ h⟩)
 ·exact .inr h
end L2
namespace Ov
theorem p_ {a b:Int} (h:b≠0):Int.gcd b (a % b)=Int.gcd a b:=by
 have e:a=b * (a / b) + a % b:=(Int.mul_ediv_add_emod a b).symm
 have d1:((Int.gcd b (a % b):Nat):Int) ∣ a:=by
  rw [e]
  exact Int.dvd_add (Int.dvd_trans (Int.gcd_dvd_left ..) (Int.dvd_mul_right ..)) (by rw [← e];exact Int.gcd_dvd_right ..)
 have d2:((Int.gcd a b:Nat):Int) ∣ a % b:=by
  have e2:a % b=a - b * (a / b):=by omega
  rw [e2]
  exact Int.dvd_sub (Int.gcd_dvd_left ..) (Int.dvd_trans (Int.gcd_dvd_right ..) (Int.dvd_mul_right ..))
 exact Nat.dvd_antisymm (Int.dvd_gcd d1 (Int.gcd_dvd_left ..)) (Int.dvd_gcd (Int.gcd_dvd_right ..) d2)
theorem t9 {a:Int} (h:0≤a):((Int.gcd a 0:Nat):Int)=a:=by
 rw [Int.gcd_zero_right];omega
theorem Am (a b:Int):Int.gcd (if a < 0 then -a else a) (if b < 0 then -b else b)=Int.gcd a b:=by
 split <;> split <;> simp [Int.gcd_neg,Int.neg_gcd]
theorem xI (a b:Int):Int.gcd (if a < 0 then -a else a) b=Int.gcd a b:=by
 split <;> simp [Int.gcd_neg,Int.neg_gcd]
theorem t_ {t b:Int} (h:b≠0):0 < ((Int.gcd t b:Nat):Int):=by
 have:0 < Int.gcd t b:=Int.gcd_pos_of_ne_zero_right t h
 omega
theorem C6 {t b:Int} (h:b≠0):Int.gcd t b≤b.natAbs:=Nat.le_of_dvd (by omega) (Int.ofNat_dvd.mp (by rw [Int.dvd_natAbs];exact Int.gcd_dvd_right ..))
theorem oB {t b:Int} (h:0 < b):t.fdiv ((Int.gcd t b:Nat):Int)=(Rat.divInt t b).num:=by
 rw [Rat.num_divInt,Int.sign_eq_one_of_pos h,Int.one_mul,Int.gcd_comm b t,Int.fdiv_eq_ediv_of_nonneg _ (Int.natCast_nonneg _)]
theorem den_pos {t b:Int} (h:0 < b):b.fdiv ((Int.gcd t b:Nat):Int)=((Rat.divInt t b).den:Int):=by
 rw [Rat.den_divInt,if_neg (by omega),Int.gcd_comm b t,Int.fdiv_eq_ediv_of_nonneg _ (Int.natCast_nonneg _)]
 rw [Int.natCast_ediv]
 congr 1
 omega
theorem ur {t b:Int} (h:b < 0):t.fdiv (-((Int.gcd t b:Nat):Int))=(Rat.divInt t b).num:=by
 have e:t.fdiv (-((Int.gcd t b:Nat):Int))=(-t).fdiv ((Int.gcd t b:Nat):Int):=by
  have:=Int.neg_fdiv_neg (a:=-t) (b:=((Int.gcd t b:Nat):Int))
  rw [← this];simp
 rw [e,Rat.num_divInt,Int.sign_eq_neg_one_of_neg h,Int.gcd_comm b t,Int.fdiv_eq_ediv_of_nonneg _ (Int.natCast_nonneg _)]
 congr 1
 omega
theorem Af {t b:Int} (h:b < 0):b.fdiv (-((Int.gcd t b:Nat):Int))=((Rat.divInt t b).den:Int):=by
 have e:b.fdiv (-((Int.gcd t b:Nat):Int))=(-b).fdiv ((Int.gcd t b:Nat):Int):=by
  have:=Int.neg_fdiv_neg (a:=-b) (b:=((Int.gcd t b:Nat):Int))
  rw [← this];simp
 rw [e,Rat.den_divInt,if_neg (by omega),Int.gcd_comm b t,Int.fdiv_eq_ediv_of_nonneg _ (Int.natCast_nonneg _)]
 rw [Int.natCast_ediv]
 congr 1
 omega
theorem uq (t b:Int):(Rat.divInt t b).num.natAbs≤t.natAbs:=by
 rcases Int.lt_trichotomy b 0 with h | h | h
 ·rw [← ur h]
  exact Int.natAbs_fdiv_le_natAbs ..
 ·subst h;simp
 ·rw [← oB h,Int.fdiv_eq_ediv_of_nonneg _ (Int.natCast_nonneg _)]
  exact Int.natAbs_ediv_le_natAbs ..
theorem oa {t b:Int} (h:b≠0):(((Rat.divInt t b).den:Int)).natAbs≤b.natAbs:=by
 rw [Rat.den_divInt,if_neg h]
 exact Nat.div_le_self ..
theorem hX (p:Rat):Rat.divInt p.num p.den=p:=Rat.num_divInt_den p
theorem dB (p:Rat):(p.den:Int)≠0:=by have:=p.den_pos;omega
theorem eD (p:Rat):(0:Int) < p.den:=by have:=p.den_pos;omega
theorem add_eq (p q:Rat):Rat.divInt (p.num * q.den + q.num * p.den) (p.den * q.den)=p + q:=by
 rw [← Rat.divInt_add_divInt _ _ (dB p) (dB q),hX,hX]
theorem sub_eq (p q:Rat):Rat.divInt (p.num * q.den - q.num * p.den) (p.den * q.den)=p - q:=by
 rw [← Rat.divInt_sub_divInt _ _ (dB p) (dB q),hX,hX]
theorem mul_eq (p:Rat) (m:Int):Rat.divInt (p.num * m) p.den=p * m:=by
 have:=Rat.divInt_mul_divInt p.num m (d₁:=p.den) (d₂:=1)
 rw [hX,Int.mul_one] at this
 rw [← this,Rat.divInt_eq_div]
 congr 1
 grind
theorem cast_eq (p:Rat):(p.num:Rat)=p * (p.den:Int):=by
 have h:((p.den:Int):Rat)≠0:=by
  intro e
  exact dB p (by exact_mod_cast e)
 have e:=hX p
 rw [Rat.divInt_eq_div] at e
 grind
theorem de (p:Rat):((p.den:Int):Rat)≠0:=fun e=>dB p (by exact_mod_cast e)
theorem EL (b p m:Rat) (v:Int):Rat.divInt (p.num * (m.den * b.den) + v * (m.num * b.den - b.num * m.den) * p.den) (p.den * (m.den * b.den))=p + (m - b) * v:=by
 have h:=de p
 have g:=de b
 have k:=de m
 simp only [Rat.divInt_eq_div,Rat.intCast_add,Rat.intCast_sub,Rat.intCast_mul,cast_eq p,cast_eq b,cast_eq m]
 generalize ((p.den:Int):Rat)=d at h ⊢
 generalize ((b.den:Int):Rat)=e at g ⊢
 generalize ((m.den:Int):Rat)=f at k ⊢
 generalize (v:Rat)=v
 grind
theorem kq {n:Int} (h:n≠0):(n:Rat)≠0:=fun e=>h (by exact_mod_cast e)
theorem DP (g:Rat) (n:Int) (h:n≠0):Rat.divInt g.num (g.den * n)=g / n:=by
 have k:=de g
 have l:=kq h
 simp only [Rat.divInt_eq_div,Rat.intCast_mul,cast_eq g]
 generalize ((g.den:Int):Rat)=d at k ⊢
 generalize (n:Rat)=n at l ⊢
 grind
end Ov
namespace Ov
open PySem PySem.Spec PyProof.Rows L2
structure Bd (n:Nat) (x:Int):Prop where
 lt:x.natAbs < 2 ^ n
theorem Bd.bits {n:Nat} {x:Int} (h:Bd n x):Builtin.Int.intBits x≤n:=intBits_le_iff.mpr h.lt
theorem Bd.of {n:Nat} {x:Int} (h:Builtin.Int.intBits x≤n):Bd n x:=⟨intBits_le_iff.mp h⟩
theorem Bd.mono {m n:Nat} {x:Int} (h:Bd m x) (hmn:m≤n):Bd n x:=.of (Nat.le_trans h.bits hmn)
theorem Bd.neg {n:Nat} {x:Int} (h:Bd n x):Bd n (-x):=.of (intBits_neg_le h.bits)
theorem Bd.add {m n k:Nat} {x y:Int} (h:Bd m x) (g:Bd n y) (hk:max m n + 1≤k:=by decide):Bd k (x + y):=(Bd.of (intBits_add_le h.bits g.bits)).mono hk
theorem Bd.sub {m n k:Nat} {x y:Int} (h:Bd m x) (g:Bd n y) (hk:max m n + 1≤k:=by decide):Bd k (x - y):=(Bd.of (intBits_sub_le h.bits g.bits)).mono hk
theorem Bd.mul {m n k:Nat} {x y:Int} (h:Bd m x) (g:Bd n y) (hk:m + n≤k:=by decide):Bd k (x * y):=(Bd.of (intBits_mul_le h.bits g.bits)).mono hk
theorem Bd.le {n:Nat} {x y:Int} (g:Bd n y) (h:x.natAbs≤y.natAbs):Bd n x:=⟨Nat.lt_of_le_of_lt h g.lt⟩
theorem Bd.small {x:Int} (h1:-(2 ^ 64) < x) (h2:x < 2 ^ 64):Bd 64 x:=.of (intBits_le_64 h1 h2)
theorem Bd.log {n:Nat} {x:Int} (h:Bd n x) (hn:n≤9000) (h0:x≠0):x.natAbs.log2 < 9000 :=
 Nat.lt_of_lt_of_le ((Nat.log2_lt (by omega)).mpr h.lt) hn
section
variable {X:Cx}
def CM (i j:Int):Prop:=∃ m n,Bd m i∧Bd n j∧m + n≤134217728
theorem CM.of {m n:Nat} {i j:Int} (h:Bd m i) (g:Bd n j) (hk:m + n≤134217728:=by decide):CM i j:=⟨m,n,h,g,hk⟩
theorem bT:eA X (binaryOp .Mult) (rI CM fun i j=>.int (i * j)):=GP fun _ _ _ _ _ _ _ hc q=>by
 obtain ⟨m,n,h,g,hk⟩:=hc
 exact mul_int q (IntMulOk.of_le h.bits g.bits hk)
def CQ (_ j:Int):Prop:=j≠0∧Bd 9000 j
theorem eI:eA X (binaryOp .FloorDiv) (rI CQ fun i j=>.int (i.fdiv j)):=GP fun _ _ _ _ _ _ _ hc q =>
 floordiv_int hc.1 q (.inl (PyProof.noPylong_of_log2 (hc.2.log (Nat.le_refl _) hc.1)))
def Jt (f:Bool→Bool):R2:=fun x y H Q=>∃ (p q:Addr) (a b c d:Int),x=.ref p∧y=.ref q∧H p=some (.tup [.int a,.int b])∧H q=some (.tup [.int c,.int d])∧Q (.bl (f (decide (a=c∧b=d)))) H
def Gm (t u:TS):TS:=fun D σ H=>∃ M:L2.St→Hp→Prop,t { D with nx:=M } σ H∧∀ σ' H',M σ' H'→u D σ' H'
theorem Bc {st:Stmt} {rest:List Stmt} {t u:TS} (h1:PS X st t) (h2:m_ X rest u):m_ X (st :: rest) (Gm t u):=by
 intro pins s σ H D I h
 obtain ⟨M,h,k⟩:=h
 refine wpAny_execs_cons (bE (h1 pins s σ H { D with nx:=M } I h) fun f s1 q=>?_)
 cases f with
 | next =>
  obtain ⟨σ',H',I',q⟩:=q
  exact h2 pins s1 σ' H' D I' (k _ _ q)
 | ret v=>exact q
 | brk=>exact q
 | cont=>exact q
end
section
variable {X:Cx}
def Cr:R2:=fun x y H Q=>∃ p xs i v,x=.ref p∧y=.int i∧H p=some (.lst xs)∧cI xs i=some v∧Q v H
def F1:R2:=fun x y H Q=>∃ p xs i v,x=.ref p∧y=.int i∧H p=some (.tup xs)∧cI xs i=some v∧Q v H
theorem eE:lE X Cr:=fun value slice pins s σ H x y v u Q I rx ry ⟨p,xs,i,z,e1,e2,h,e3,q⟩ hs =>
 oj value slice pins s σ H x y v u Q I rx ry ⟨p,xs,i,z,e1,e2,cM.of h,e3,q⟩ hs
end
theorem cO {α:Type} (x:α) (xs:List α):cI (x :: xs) 0=some x:=a8 (j:=0) rfl
theorem d5 {α:Type} (x y:α) (xs:List α):cI (x :: y :: xs) 1=some y:=a8 (j:=1) rfl
theorem ij {α:Type} (x y z:α) (xs:List α):cI (x :: y :: z :: xs) 2=some z:=a8 (j:=2) rfl
theorem xp {α:Type} (x y z u:α) (xs:List α):cI (x :: y :: z :: u :: xs) 3=some u:=a8 (j:=3) rfl
theorem BE (i j:Int):zi (.int i) (.int j)=true:=rfl
theorem BD (i j:Bool):zi (.bl i) (.bl j)=true:=rfl
theorem BF (i j:Str):zi (.str i) (.str j)=true:=rfl
def mE (P:Program) (w:World) (K:PySem.W.Frag) (mg:Str→Option Value) (base:Heap) (k:Nat) (x:Str) (ps:List Str) (sp:Sp):Prop :=
 ∃ f fd,aI P w K mg base lD k f fd ps sp∧Binds K fd ps []∧PySem.W.keepIn K (.ref f)=true∧mg x=some (.ref f)
theorem DG {X:Cx} {k k':Nat} {x:Str} {ps:List Str} {sp:Sp} {p pos:Pos} {e:Expr} {es:List Expr} {t:TA} (C:mE X.prog X.w X.K X.mg X.base k x ps sp) (hr:ba k' X.A) (hk:k≤k') (hg:Gl X x) (ha:PA X (e :: es) t)
  (hdb:(x == ("__debug__":Str))=false:=by decide) (he:starEach (e :: es) X.env=(false,eval e X.env) :: starEach es X.env:=by rfl) (hpl:(backTo pos (starEach es X.env)).any (·.1)=false:=by rfl) :
  PE X (.Call (.Name x p) (e :: es) [] pos) (mz sp [] E0 t):=by
 obtain ⟨f,fd,F,b,kp,m⟩:=C
 exact uw F (hr.mono hk) hg m kp b .nil Fx ha hdb he hpl
theorem dT {N P:List Str} {sc:Scope} (a:sc.kind=.function:=by rfl) (b:sc.isCoroutine=false:=by rfl) (c:sc.isGenerator=false:=by rfl) (d:N.Nodup:=by decide +kernel) (e:N.take P.length=P:=by rfl) (f:∀ x∈P,sc.names.lookup x=some .local∨sc.names.lookup x=some .cell:=by decide +kernel) (g:∀ y∈sc.names,y.2≠.free:=by decide +kernel):aw N P sc:=⟨a,b,c,d,e,f,g⟩
def Def (K:PySem.W.Frag) (mg:Str→Option Value) (x:Str) (st:Stmt):Prop:=∃ f fd,bV K x x st f fd∧mg x=some (.ref f)
theorem CY {K:PySem.W.Frag} {h:Heap} {mg:Str→Option Value} {x:Str} {st:Stmt} (X:K.In h) (G:h.Ns mainGlobals mg) {f:Addr} {od an:Option Addr} {sl:Array (Option Value)} {oc kV dc pm cd ct:Value}
  (a:PySem.W.nsIn K mainGlobals x=some (some (.ref f))) (l:K.lookup f=some ⟨oc,od,.func (PySem.W.fnOf x x (cb st) (bC st) (aj st) .none kV dc pm an cd ct),sl⟩) (c:PySem.W.codeIn K cd x=true) (k:PySem.W.keepIn K (.ref f)=true) :
  Def K mg x st:=⟨f,_,sd l c k,PySem.W.mg_of X G a⟩
theorem Def.xr {P:Program} {w:World} {K:PySem.W.Frag} {mg:Str→Option Value} {base:Heap} {x:Str} {st:Stmt} {k:Nat} {ps:List Str} {sp:Sp} (D:Def K mg x st)
  (h:∀ f fd,bV K x x st f fd→aI P w K mg base lD k f fd ps sp)
  (hb:∀ (kV doc pm:Value) (an:Option Addr) (cdv ct:Value) (us:List Value),us.length=ps.length→bindArgs (PySem.W.fnOf x x (cb st) (bC st) (aj st) .none kV doc pm an cdv ct) ⟨us,[]⟩=pure (ps.zip us)) :
  mE P w K mg base k x ps sp:=by
 obtain ⟨f,fd,F,m⟩:=D
 exact ⟨f,fd,h f fd F,F.binds hb,F.kp,m⟩
theorem Dh {K:PySem.W.Frag} {mg:Str→Option Value} {st:Stmt} {fa:Addr} {p:Str} (D:Def K mg "law" st) (hfa:mg "law"=some (.ref fa))
  (hb:∀ (kV doc pm:Value) (an:Option Addr) (cdv ct:Value) (u:Value),bindArgs (PySem.W.fnOf "law" "law" (cb st) (bC st) (aj st) .none kV doc pm an cdv ct) ⟨[u],[]⟩=pure [(p,u)]) :
  ∃ fd,bV K "law" "law" st fa fd∧∀ (s:Shared) (u:Value),BindsTo s fd ⟨[u],[]⟩ [(p,u)]:=by
 obtain ⟨f,fd,F,m⟩:=D
 have e:=m.symm.trans hfa
 cases e
 obtain ⟨oc,od,kV,doc,pm,an,cdv,ct,osl,rfl,lk,hcd⟩:=F.ex
 exact ⟨_,F,fun s u=>.of_eq (hb kV doc pm an cdv ct u)⟩
structure w8 (mg:Str→Option Value):Prop where
 abs:mg "abs"=none
 len:mg "len"=none
 isinstance:mg "isinstance"=none
 range:mg "range"=none
 int:mg "int"=none
 bool:mg "bool"=none
 tuple:mg "tuple"=none
 list:mg "list"=none
 sorted:mg "sorted"=none
 all:mg "all"=none
theorem _root_.L2.aY.tup {K:PySem.W.Frag} {H H':Hp} {a:Addr} {xs:List V} (e:aY H H') (h:fh K H a xs):fh K H' a xs:=by
 rcases h with (h | ⟨o,h⟩) | h
 ·exact .inl (.inl (e _ _ h))
 ·exact .inl (.inr ⟨o,e _ _ h⟩)
 ·exact .inr h
theorem _root_.L2.aY.new {H:Hp} {p:Addr} (h:H p=none) (o:HO):aY H (upd H p o):=fun b u q=>by rw [aG (bG q h)];exact q
theorem _root_.L2.aY.Es {H H':Hp} {p:Addr} (h:H p=none) (e:aY H H') (o:HO):aY H (upd H' p o):=fun b u q=>by rw [aG (bG q h)];exact e b u q
def zU (K:PySem.W.Frag) (H:Hp) (a:Addr) (q:Rat):Prop:=fh K H a [.int q.num,.int q.den]
theorem zU.keep {K:PySem.W.Frag} {H H':Hp} {a:Addr} {q:Rat} (h:zU K H a q) (e:aY H H'):zU K H' a q:=e.tup h
structure Sz (n:Nat) (q:Rat):Prop where
 num:Bd n q.num
 den:Bd n q.den
theorem Sz.mono {m n:Nat} {q:Rat} (h:Sz m q) (k:m≤n):Sz n q:=⟨h.num.mono k,h.den.mono k⟩
theorem Br (x y:Rat):(x.num=y.num∧(x.den:Int)=(y.den:Int))=(x=y):=propext
 ⟨fun h=>Rat.ext h.1 (by have:=h.2;omega),fun h=>by subst h;exact ⟨rfl,rfl⟩⟩
theorem gr (c:Str→NameKind→Bool):∀ (names:List (Str × NameKind)) (y:Str),
  (names.map fun (x:Str × NameKind)=>if c x.1 x.2 then (x.1,NameKind.cell) else (x.1,x.2)).lookup y=(names.lookup y).map fun k=>if c y k then NameKind.cell else k
 | [],_=>rfl
 | (n,k) :: r,y=>by
  have ih:=gr c r y
  cases hy:y == n with
  | true =>
   have e:y=n:=by simpa using hy
   subst e
   by_cases h:c y k=true <;> simp [List.lookup_cons,h]
  | false =>
   by_cases h:c n k=true <;> simp [List.lookup_cons,h,hy,ih]
theorem gE (sc:Scope) (env:Env) (y:Str):(relabel sc env).names.lookup y=(sc.names.lookup y).map fun k=>if (k == .free && env.scope.kind == .function && env.kindOf y == some .cell) then NameKind.cell else k:=by
 have h:=gr (fun n k=>k == .free && env.scope.kind == .function && env.kindOf n == some .cell) sc.names y
 exact h
theorem iA {env:Env}:∀ (names:List (Str × NameKind)) (acc:List (Str × Addr)),(∀ y∈names,y.2=.free→∃ c,env.cells.lookup y.1=some c)→(∀ y c,acc.lookup y=some c→env.cells.lookup y=some c) →
  ∃ cl,(forIn names acc fun (x:Str × NameKind) (r:List (Str × Addr))=>match x with
   | (name,kind)=>if (kind == NameKind.free)=true then (do let c ← cellOf env name;pure (ForInStep.yield ((name,c) :: r))) else (pure (ForInStep.yield r):Sem (ForInStep (List (Str × Addr)))))=(pure cl:Sem (List (Str × Addr))) ∧
   (∀ y c,cl.lookup y=some c→env.cells.lookup y=some c)∧(∀ y c,acc.lookup y=some c→∃ c,cl.lookup y=some c)∧∀ y∈names,y.2=.free→∃ c,cl.lookup y.1=some c
 | [],acc,_,ha=>⟨acc,rfl,ha,fun y c e=>⟨c,e⟩,fun y hy=>by cases hy⟩
 | (n,k) :: r,acc,hn,ha=>by
  by_cases hk:k=.free
  ·subst hk
   obtain ⟨c,hc⟩:=hn (n,.free) List.mem_cons_self rfl
   obtain ⟨cl,e,h1,h2,h3⟩:=iA r ((n,c) :: acc) (fun y hy=>hn y (List.mem_cons_of_mem _ hy)) (fun y d e=>by
    rw [List.lookup_cons] at e
    cases hy:y == n with
    | true =>
     rw [hy] at e
     have e1:y=n:=by simpa using hy
     subst e1
     rw [hc]
     exact e
    | false=>rw [hy] at e;exact ha y d e)
   have self:∃ d,cl.lookup n=some d:=h2 n c (by simp [List.lookup_cons])
   refine ⟨cl,?_,h1,fun y d q=>?_,fun y hy hf=>?_⟩
   ·rw [List.forIn_cons]
    have ec:cellOf env n=pure c:=by unfold cellOf;rw [hc]
    simp only [beq_self_eq_true,if_true,ec,pure_bind]
    exact e
   ·by_cases hy:y=n
    ·subst hy;exact self
    ·exact h2 y d (by rw [List.lookup_cons];have:(y == n)=false:=by simpa using hy
                      rw [this];exact q)
   ·rcases List.mem_cons.mp hy with rfl | hy
    ·exact self
    ·exact h3 y hy hf
  ·obtain ⟨cl,e,h1,h2,h3⟩:=iA r acc (fun y hy=>hn y (List.mem_cons_of_mem _ hy)) ha
   refine ⟨cl,?_,h1,h2,fun y hy hf=>?_⟩
   ·rw [List.forIn_cons]
    have hb:(k == NameKind.free)=false:=by simpa using hk
    simp only [hb,Bool.false_eq_true,if_false,pure_bind]
    exact e
   ·rcases List.mem_cons.mp hy with rfl | hy
    ·exact absurd hf hk
    ·exact h3 y hy hf
theorem fG {sc:Scope} {env:Env} (h:∀ y∈sc.names,y.2=.free→∃ c,env.cells.lookup y.1=some c) :
  ∃ cl,closureFor sc env=pure cl∧(∀ y c,cl.lookup y=some c→env.cells.lookup y=some c)∧∀ y∈sc.names,y.2=.free→∃ c,cl.lookup y.1=some c:=by
 obtain ⟨cl,e,h1,_,h3⟩:=iA sc.names [] h (fun y c z=>by cases z)
 refine ⟨cl,?_,h1,h3⟩
 unfold closureFor
 have e':=congrArg (fun m=>m >>= fun r=>(pure r:Sem (List (Str × Addr)))) e
 simp only [pure_bind] at e'
 exact e'
abbrev b9 (sc osc:Scope) (N:List Str) (x:Str) (ks:List (Str × Nat)):Prop :=
 sc.kind=.function∧(∀ y∈sc.names,y.2≠.cell)∧sc.names.lookup x=some .local∧(∀ y∈sc.names,y.2=.local→sc.names.lookup y.1=some .local) ∧
 (∀ y∈sc.names,y.2=.free→osc.names.lookup y.1=some .cell)∧(∀ p∈ks,N[p.2]?=some p.1∧sc.names.lookup p.1=some .free)∧(x :: ks.map (·.1)).Nodup
def dR (X:Cx) (sc:Scope) (cl:List (Str × Addr)) (C:Addr) (x:Str) (ks:List (Str × Nat)) (s₀:Shared) (H₀:Hp) (fp:List Addr) (pins:List (Addr × Obj)):Cx :=
 { X with N:=x :: ks.map (·.1),s₀:=s₀,H₀:=H₀,env:=compEnvC sc cl C X.env,outer:=X.stack,ex:=fp,fn:=fun _=>false,pn:=X.pn ++ pins,xe:=fun _ _=>False }
def cn (ks:List (Str × Nat)) (σ:L2.St):L2.St:=ks.map fun p=>(σ[p.2]?).getD none
section
variable {X:Cx} {pins:List (Addr × Obj)} {σ:L2.St} {H:Hp} {s:Shared} {sc:Scope} {cl:List (Str × Addr)} {x:Str} {ks:List (Str × Nat)} {fp:List Addr}
theorem get_map {α β:Type} (f:α→β) (l:List α) (i:Nat):(l.map f)[i]?=(l[i]?).map f:=List.getElem?_map
theorem lT (I:Inv X pins σ H s) (ok:b9 sc X.env.scope X.N x ks) (h1:∀ y c,cl.lookup y=some c→X.env.cells.lookup y=some c) (h2:∀ y∈sc.names,y.2=.free→∃ c,cl.lookup y.1=some c)
  (hfp:∀ b∈fp,f9 X pins H b∧∃ o,s.heap.get? b=some o) {h4:Heap} {m:Str→Option Value} {t':Nat} (hn:h4.Ns s.heap.objs.size m) (kp:∀ b o,s.heap.get? b=some o→h4.get? b=some o) :
  Inv (dR X sc cl s.heap.objs.size x ks s H fp pins) [] (none :: cn ks σ) H { s with heap:=h4,toks:=t' }:=by
 obtain ⟨kd,nc,lx,ll,fr,kk,nd⟩:=ok
 have fresh:H s.heap.objs.size=none:=I.hok.fresh (Nat.le_refl _)
 have lt:∀ b o,s.heap.get? b=some o→b≠s.heap.objs.size:=fun b o e=>Nat.ne_of_lt (Heap.lt_size e)
 have cellLt:∀ y c,X.env.cells.lookup y=some c→c≠s.heap.objs.size:=fun y c e=>by
  obtain ⟨v,o,ho,_⟩:=I.cell y c e
  exact lt c o ho
 have sub:∀ b∈gh X.stack,b=X.env.locals∨b∈X.fs:=fun b hb=>List.mem_cons.mp (I.iO b hb)
 have kof:∀ y,(compEnvC sc cl s.heap.objs.size X.env).kindOf y=(relabel sc X.env).names.lookup y:=fun y=>rfl
 have ok':(dR X sc cl s.heap.objs.size x ks s H fp pins).Ok:={
  mod:=I.ok.mod
  kind:=kd
  glob:=I.ok.glob
  blt:=I.ok.blt
  above:=Nat.le_refl _
  inj:=fun y z c e1 e2=>I.ok.inj y z c (h1 y c e1) (h1 z c e2)
  has:=fun y hy=>by
   rw [show (dR X sc cl s.heap.objs.size x ks s H fp pins).env.kindOf y=_ from kof y,gE] at hy
   cases e:sc.names.lookup y with
   | none=>rw [e] at hy;rcases hy with z | z <;> cases z
   | some k =>
    have hm:(y,k)∈sc.names:=by
     have:=List.lookup_eq_some_iff.mp e
     obtain ⟨l1,l2,q,_⟩:=this
     rw [q]
     simp
    by_cases hk:k=.free
    ·subst hk;exact h2 _ hm rfl
    ·have hb:(k == NameKind.free)=false:=by simpa using hk
     rw [e] at hy
     simp only [Option.map_some,hb,Bool.false_and,Bool.false_eq_true,if_false] at hy
     rcases hy with z | z
     ·exact absurd (Option.some.inj z) (nc _ hm)
     ·exact absurd (Option.some.inj z) hk
  cab:=fun _ _ z=>by cases z
  hd:=fun z=>I.ok.hd z
  frames:=I.ok.frames
  stk:=.inl rfl
  exf:=fun b hb=>⟨lt b _ (hfp b hb).2.choose_spec,fun y c e=>(hfp b hb).1.2.2.2.2.1 y c (h1 y c e)⟩
  bs:=fun b o e=>I.bs b o e
  bsz:=Nat.le_trans I.ok.bsz I.sz
  noex:=fun b o e hb=>by
   rcases (hfp b hb).1.2.2.2.1 with z | z
   ·exact I.ok.noex b o e z
   ·exact absurd (Nat.lt_of_lt_of_le (Heap.lt_size e) (Nat.le_trans I.ok.bsz z)) (Nat.lt_irrefl _)
  exfs:=fun b hb z=>by
   rcases sub b z with e | e
   ·exact (hfp b hb).1.2.1 e
   ·exact (hfp b hb).1.2.2.1 e
  i7:=I.stack
  frf:=I.pM }
 obtain ⟨mX,hnX,hlX⟩:=I.loc
 refine ⟨ok',rfl,I.bare,Un.kept kp,⟨m,hn,fun i y v e1 e2 e3=>?_⟩,fun y c e=>?_,fresh,fun y c e=>I.freeC y c (h1 y c e),fun p hp=>?_,I.hok.kept kp,by simp [dR,cn]⟩
 ·cases i with
  | zero =>
   rw [List.getElem?_cons_zero] at e2
   cases e2
  | succ i =>
   have e1':(ks.map (·.1))[i]?=some y:=by simpa [dR] using e1
   rw [List.getElem?_cons_succ] at e2
   unfold cn at e2
   rw [List.getElem?_map] at e1' e2
   cases ep:ks[i]? with
   | none=>rw [ep] at e1';cases e1'
   | some p =>
    rw [ep] at e1' e2
    have ey:p.1=y:=Option.some.inj e1'
    have ev:(σ[p.2]?).getD none=some v:=Option.some.inj e2
    obtain ⟨kN,kf⟩:=kk p (List.mem_of_getElem? ep)
    have es:σ[p.2]?=some (some v):=by
     cases q:σ[p.2]? with
     | none=>rw [q] at ev;cases ev
     | some w=>rw [q] at ev;exact congrArg some ev
    have hm:(p.1,NameKind.free)∈sc.names:=by
     obtain ⟨l1,l2,q,_⟩:=List.lookup_eq_some_iff.mp kf
     rw [q]
     simp
    have oc:X.env.scope.names.lookup p.1=some .cell:=fr _ hm rfl
    obtain ⟨u,ru,lu⟩:=hlX p.2 p.1 v kN es (.inr (.inl oc))
    refine ⟨u,ru,.inr ⟨.inl ?_,?_⟩⟩
    ·rw [show (dR X sc cl s.heap.objs.size x ks s H fp pins).env.kindOf y=_ from kof y,gE,← ey,kf]
     have k1:X.env.kindOf p.1=some .cell:=oc
     simp [I.ok.kind,k1]
    ·obtain ⟨c,hc⟩:=h2 _ hm rfl
     have hc:cl.lookup p.1=some c:=hc
     rcases lu with ⟨z,_⟩ | ⟨_,c',hc',z⟩
     ·have z':X.env.scope.names.lookup p.1=some .local:=z
      rw [oc] at z';cases z'
     ·have:=h1 _ _ hc
      rw [hc'] at this
      cases this
      obtain ⟨o,ho,hd⟩:=z
      exact ⟨_,by rw [← ey];exact hc,o,kp _ _ ho,hd⟩
 ·obtain ⟨v,o,ho,hd⟩:=I.cell y c (h1 y c e)
  exact ⟨v,o,kp _ _ ho,hd⟩
 ·rw [List.append_nil] at hp
  obtain ⟨a1,a2,a3,a4,a5⟩:=I.pin p hp
  refine ⟨kp _ _ a1,a2,lt _ _ a1,fun z=>?_,a5⟩
  rcases sub p.1 z with e | e
  ·exact a3 e
  ·exact a4 e
end
section
variable {prog:Program} {w:World} {A:Around} {R:Result→Shared→Prop} {s:Shared}
theorem wa {elt iter:Expr} {x:Str} {px:Pos} {sc:Scope} {pos:Pos} {it acc:Value} {env:Env} (I:Nat→Shared→Prop)
  (turn:∀ n s,I n s→wpAny (model prog w) A (pyNext it) (fun r s₁=>match r with
   | none=>R (.ok .next) s₁
   | some v=>wpAny (model prog w) A (letOwnedTupleGo (.Name x px) it v) (fun _ s₂=>wpAny (model prog w) A (assign (.Name x px) env v) (fun _ s₃=>wpAny (model prog w) A (eval elt env) (fun y s₄ =>
     wpAny (model prog w) A (call (.builtin "list.append") [acc,y]) (fun _ s₅=>∃ m,m < n∧I m s₅) (fun _ _=>False) s₄) (fun _ _=>False) s₃) (fun _ _=>False) s₂) (fun _ _=>False) s₁) (fun _ _=>False) s)
  (n:Nat) (h:I n s):codeAny (model prog w) A (.compLoop (.ListComp elt [⟨.Name x px,iter,[],0⟩] sc pos) 0 it acc env) R s:=by
 refine codeAny_loop rfl I (fun n s hI=>?_) n h
 show wpAny _ _ ((compTurn (.ListComp elt [⟨.Name x px,iter,[],0⟩] sc pos) 0 it acc env).onRaise (fun x=>do noteFrame x env;theTreesLotGoes x)) _ _ s
 refine wpAny_noted ?_
 rw [compTurn_list1]
 have no:∀ (e:Value) (s':Shared),False→notedBy (model prog w) A env (fun e s'=>R (.error e) s') e s':=fun _ _ z=>z.elim
 refine wpAny_bind (wpAny_standAt (wpAny_bind (wpAny_mono (turn n s hI) (fun r s₁ h₁=>?_) no)))
 cases r with
 | none=>exact wpAny_pure h₁
 | some v =>
  refine wpAny_bind (wpAny_mono h₁ (fun _ s₂ h₂=>?_) no)
  exact wpAny_bind (wpAny_mono h₂ (fun _ s₃ h₃=>wpAny_bind (wpAny_bind (wpAny_mono h₃ (fun y s₄ h₄=>wpAny_bind (wpAny_mono h₄
   (fun _ s₅ h₅=>wpAny_pure (wpAny_pure ⟨rfl,h₅⟩)) no)) no))) no)
end
def Ik (wi:TI) (ks:List (Str × Nat)) (te:TE):TE:=fun σ H Q=>wi σ H fun J H1=>∀ D,H1 D=none→∃ W:Nat→Nat→Hp→Prop,(∃ m,W 0 m (upd H1 D (.lst []))) ∧
 ∀ i m H2,W i m H2→(J.stop i H2∧Q (.ref D) H2)∨(J.go i H2∧∀ v H3,J.yld i H2 v H3→te (some v :: cn ks σ) H3 fun y H4=>∃ ys,H4 D=some (.lst ys)∧ys.length < sizeLine∧∃ m',m' < m∧W (i + 1) m' (upd H4 D (.lst (ys ++ [y]))))
section
variable {X:Cx}
theorem qY {elt iter:Expr} {x:Str} {px:Pos} {sc:Scope} {pos:Pos} {te:TE} {ks:List (Str × Nat)} {cl:List (Str × Addr)} {pins:List (Addr × Obj)} {σ:L2.St} {H:Hp} {s:Shared} {it:Addr} {fp:List Addr} {tn:Nat→Heap→Prop} {J:It} {Q:VK}
  {RR:Value→Addr→Result→Shared→Prop} {E:Value→Shared→Prop}
  (hc:X.calm=true) (ok:b9 sc X.env.scope X.N x ks) (h1:∀ y c,cl.lookup y=some c→X.env.cells.lookup y=some c) (h2:∀ y∈sc.names,y.2=.free→∃ c,cl.lookup y.1=some c)
  (he:∀ cl C s₀ H₀ fp pins,PE (dR X sc cl C x ks s₀ H₀ fp pins) elt te)
  (I:Inv X pins σ H s) (T:Turn X.prog X.w X.K (.Name x px) J fp it tn) (st:tn 0 s.heap) (f:∀ b∈fp,f9 X pins H b)
  (hw:∀ D,H D=none→∃ W:Nat→Nat→Hp→Prop,(∃ m,W 0 m (upd H D (.lst [])))∧∀ i m H2,W i m H2→(J.stop i H2∧Q (.ref D) H2) ∨
   (J.go i H2∧∀ v H3,J.yld i H2 v H3→te (some v :: cn ks σ) H3 fun y H4=>∃ ys,H4 D=some (.lst ys)∧ys.length < sizeLine∧∃ m',m' < m∧W (i + 1) m' (upd H4 D (.lst (ys ++ [y])))))
  (hR:∀ (D C:Addr) (s':Shared) (H':Hp) (m:Str→Option Value),Inv X pins σ H' s'→Q (.ref D) H'→s'.heap.Ns C m→H' C=none→C≠X.env.locals→X.s₀.heap.objs.size≤C→(∀ y c,X.env.cells.lookup y=some c→c≠C)→(∀ p∈X.pn ++ pins,p.1≠C)→RR (.ref D) C (.ok .next) s') :
  wpAny (model X.prog X.w) X.A (newList []) (fun acc s₃=>wpAny (model X.prog X.w) X.A (newFunctionEnv sc X.env.globals cl [] X.env.qual none .none (some X.env)) (fun cenv s₄ =>
   codeAny (model X.prog X.w) X.A (.compStart (.ListComp elt [⟨.Name x px,iter,[],0⟩] sc pos) 0 (.ref it) acc { cenv with scope:=relabel sc X.env }) (RR acc cenv.locals) s₄) E s₃) E s:=by
 have okk:=ok
 obtain ⟨kd,nc,lx,ll,fr,kk,nd⟩:=okk
 have hD0:H s.heap.objs.size=none:=I.hok.fresh (Nat.le_refl _)
 obtain ⟨W,⟨m0,w0⟩,turn⟩:=hw s.heap.objs.size hD0
 refine wpAny_newObj_type ?_
 have I3:Inv X pins σ (upd H s.heap.objs.size (.lst [])) { s with heap:=s.heap.push { cls:=.type "list",dict:=none,data:=.seq ([]:List Value).toArray } } :=
  I.laid (t':=s.toks) (fun b u e=>Heap.get?_push_of_some _ e) (Nat.le_refl _) (show b_ X.prog X.w _ _ _ (.lst []) from ⟨Nat.zero_le _,[],0,.nil,Heap.get?_push_size _ rfl⟩)
 have st3:tn 0 (s.heap.push { cls:=.type "list",dict:=none,data:=.seq ([]:List Value).toArray }):=T.keep 0 _ _ st fun b hb o e=>Heap.get?_push_of_some _ e
 generalize hD:s.heap.objs.size=D at *
 generalize hH:upd H D (.lst [])=H3 at *
 generalize hs3:({ s with heap:=s.heap.push { cls:=.type "list",dict:=none,data:=.seq ([]:List Value).toArray } }:Shared)=s3 at *
 have e3:s.heap.push { cls:=.type "list",dict:=none,data:=.seq ([]:List Value).toArray }=s3.heap:=by rw [← hs3]
 rw [e3] at st3
 have fD:∀ b∈fp,b≠D:=fun b hb z=>by
  obtain ⟨o,ho,_⟩:=T.obj 0 _ st b hb
  have:=Heap.lt_size ho
  rw [z,← hD] at this
  exact Nat.lt_irrefl _ this
 have f3:∀ b∈fp,f9 X pins H3 b:=fun b hb=>⟨by rw [← hH,aG (fD b hb)];exact (f b hb).1,(f b hb).2⟩
 have g3:∀ b∈fp,∃ o,s3.heap.get? b=some o:=fun b hb=>by
  obtain ⟨o,ho,_⟩:=T.obj 0 _ st3 b hb
  exact ⟨o,ho⟩
 refine wpAny_newFunctionEnv nc (by intro y hy;simp at hy) (fun h₁ hns hsb=>?_) kd
 have kp:∀ b o,s3.heap.get? b=some o→h₁.get? b=some o:=fun b o e=>hsb.extBut b o (Nat.ne_of_lt (Heap.lt_size e)) (Heap.get?_push_of_some _ e)
 have J0:=lT (fp:=fp) (cl:=cl) (t':=s3.toks + ([]:List (Str × Value)).length) I3 ok h1 h2 (fun b hb=>⟨f3 b hb,g3 b hb⟩) hns kp
 have st4:tn 0 h₁:=T.keep 0 _ _ st3 fun b hb o e=>kp b o e
 have ltC:∀ b o,s3.heap.get? b=some o→b≠s3.heap.objs.size:=fun b o e=>Nat.ne_of_lt (Heap.lt_size e)
 have cC:∀ y c,X.env.cells.lookup y=some c→c≠s3.heap.objs.size:=fun y c e=>by
  obtain ⟨v,o,ho,_⟩:=I3.cell y c e
  exact ltC c o ho
 have pC:∀ p∈X.pn ++ pins,p.1≠s3.heap.objs.size:=fun p hp=>ltC _ _ (I3.pin p hp).1
 have lC:s3.heap.objs.size≠X.env.locals:=Nat.ne_of_gt I3.lt
 have fX:∀ {H':Hp},(∀ b∈fp,H' b=none)→∀ b∈fp,f9 (dR X sc cl s3.heap.objs.size x ks s3 H3 fp pins) [] H' b:=fun hn b hb=>by
  obtain ⟨o,ho⟩:=g3 b hb
  obtain ⟨_,q1,q2,q3,q4,q5⟩:=f b hb
  refine ⟨hn b hb,ltC b o ho,fun z=>?_,.inl hb,fun y c e=>q4 y c (h1 y c e),fun p hp=>q5 p (by simpa [dR] using hp)⟩
  rcases List.mem_cons.mp (I3.iO b z) with e | e
  ·exact q1 e
  ·exact q2 e
 have back:∀ {o:Option V} {H':Hp} {s':Shared},Inv (dR X sc cl s3.heap.objs.size x ks s3 H3 fp pins) [] (o :: cn ks σ) H' s'→Inv X pins σ H' s':=fun {o H' s'} J=>by
  obtain ⟨hh,g,d,t,os'⟩:=s'
  obtain rfl:os'=s3.os:=J.os
  exact I3.call (h':=hh) (g':=g) (d':=d) (t':=t) (ch:=fp) J.base J.hok J.bare fun b hb=>⟨(f b hb).2.2.2.1,(f b hb).2.1,(f b hb).2.2.2.2.1,(f b hb).2.2.2.2.2⟩
 have lookX:(relabel sc X.env).names.lookup x=some .local:=lookup_relabel_local lx
 have loop:∀ s',(∃ (i:Nat) (o:Option V) (H':Hp),Inv (dR X sc cl s3.heap.objs.size x ks s3 H3 fp pins) [] (o :: cn ks σ) H' s'∧tn i s'.heap∧(∀ b∈fp,H' b=none)∧W i m0 H') →
   codeAny (model X.prog X.w) X.A (.compLoop (.ListComp elt [⟨.Name x px,iter,[],0⟩] sc pos) 0 (.ref it) (.ref D) (compEnvC sc cl s3.heap.objs.size X.env)) (RR (.ref D) s3.heap.objs.size) s':=by
  intro s' hs'
  refine wa (fun n s'=>∃ (i:Nat) (o:Option V) (H':Hp),Inv (dR X sc cl s3.heap.objs.size x ks s3 H3 fp pins) [] (o :: cn ks σ) H' s'∧tn i s'.heap∧(∀ b∈fp,H' b=none)∧W i n H') ?_ m0 hs'
  rintro n s5 ⟨i,o,H5,J5,t5,n5,w5⟩
  rcases turn i n H5 w5 with ⟨stop,hq⟩ | ⟨go,step⟩
  ·refine bE (T.done (dR X sc cl s3.heap.objs.size x ks s3 H3 fp pins) rfl rfl rfl hc i [] s5 _ H5 _ J5 (fX n5) t5 stop) fun r s6 ⟨hr,J6⟩=>?_
   subst hr
   obtain ⟨m,hm,_⟩:=J6.loc
   exact hR D _ s6 H5 m (back J6) hq hm J6.free lC I3.sz cC pC
  ·refine bE (T.item (dR X sc cl s3.heap.objs.size x ks s3 H3 fp pins) rfl rfl rfl hc i [] s5 _ H5 _ J5 (fX n5) t5 go) fun r s6 ⟨u,hr,h6⟩=>?_
   subst hr
   refine bE h6 fun _ s7 ⟨v,H7,J7,r7,y7,t7,n7⟩=>?_
   have J7':=J7.pinned (fX n7) (T.obj _ _ t7)
   refine wpAny_assign_Name (dY (X:=dR X sc cl s3.heap.objs.size x ks s3 H3 fp pins) (i:=0) J7' nd rfl (.inl lookX) r7 (fun s8 J8=>?_) (.inr lookX))
   refine bE (he cl s3.heap.objs.size s3 H3 fp pins _ s8 _ H7 _ J8 (step v H7 y7)) fun y s9 ⟨vy,H9,J9,r9,ys,hys,hz,m',hm,w'⟩=>?_
   refine bE (er (X:=dR X sc cl s3.heap.objs.size x ks s3 H3 fp pins) _ s9 _ H9 (.ref D) [vy] (.ref D) [y] (fun _ H'=>H'=upd H9 D (.lst (ys ++ [vy]))) J9 rfl (.cons r9 .nil) ⟨D,ys,vy,rfl,rfl,hys,hz,rfl⟩) fun _ s10 ⟨_,H10,J10,_,eH⟩=>?_
   subst eH
   refine ⟨m',hm,i + 1,_,_,J10.dZ,?_,?_,w'⟩
   ·exact T.keep _ _ _ t7 fun b hb o e=>(J10.pin (b,o) (List.mem_append_right _ (List.mem_append_right _ (bz hb e)))).1
   ·intro b hb
    obtain ⟨o,e,d⟩:=T.obj _ _ t7 b hb
    exact (J10.pin (b,o) (List.mem_append_right _ (List.mem_append_right _ (bz hb e)))).2.1
 have l0:=loop _ ⟨0,none,H3,J0,st4,fun b hb=>(f3 b hb).1,w0⟩
 exact codeAny_compStart_list l0 (T.self _ 0 _ _ _ st4 l0)
theorem jj {sc osc:Scope} {N:List Str} {x:Str} {ks:List (Str × Nat)} (ok:b9 sc osc N x ks) {pins:List (Addr × Obj)} {σ:L2.St} {H:Hp} {s:Shared} (I:Inv X pins σ H s) (ho:X.env.scope=osc):∀ y∈sc.names,y.2=.free→∃ c,X.env.cells.lookup y.1=some c:=fun y hy hf =>
 I.ok.has y.1 (.inl (by show X.env.scope.names.lookup y.1=some .cell;rw [ho];exact ok.2.2.2.2.1 y hy hf))
theorem Fz {elt iter:Expr} {x:Str} {px:Pos} {sc:Scope} {pos:Pos} {wi:TI} {te:TE} (osc:Scope) (N:List Str) (ks:List (Str × Nat)) (hc:X.calm=true) (ho:X.env.scope=osc) (hN:X.N=N) (hi:PI X (.Name x px) iter wi)
  (he:∀ cl C s₀ H₀ fp pins,PE (dR X sc cl C x ks s₀ H₀ fp pins) elt te) (ok:b9 sc osc N x ks:=by decide +kernel) (hs:∀ x,foldedSetIterable iter X.env x=pure x:=by intro _;rfl) :
  PE X (.ListComp elt [⟨.Name x px,iter,[],0⟩] sc pos) (Ik wi ks te):=by
 intro pins s σ H Q I hw
 obtain ⟨cl,hcl,h1,h2⟩:=fG (jj ok I ho)
 have ok':b9 sc X.env.scope X.N x ks:=by rw [ho,hN];exact ok
 rw [eval_ListComp]
 refine wpAny_comprehension_free (use:=none) rfl hs hcl ok.1 ok.2.2.2.1 (bE (hi pins s σ H _ I hw) fun v s1 h3=>bE h3 fun itv s2 h4=>?_)
 obtain ⟨it,fp,tn,J,H2,rfl,I2,T,st2,f2,hR⟩:=h4
 refine qY (RR:=fun acc C=>compPost (model X.prog X.w) X.A X.xe none (EP X pins σ Q) acc C) hc ok' h1 h2 he I2 T st2 f2 hR ?_
 intro D C s' H' m J' q hn hC cl' cs cc cp
 refine ⟨m,hn,fun h' hsb=>⟨.ref D,H',?_,rfl,q⟩⟩
 exact J'.turned (t':=s'.toks) (it:=C) (fun b o ne e=>hsb.extBut b o ne e) hC cl' (.inr cs) cc cp
def Ea (wi:TI) (ks:List (Str × Nat)) (te:TE) (i:Nat):TS:=fun D σ H=>Ik wi ks te σ H fun v H1=>D.nx (σ.set i (some v)) H1
theorem FE {elt iter:Expr} {x y:Str} {px py:Pos} {sc:Scope} {pos spos:Pos} {wi:TI} {te:TE} {i:Nat} (osc:Scope) (N:List Str) (ks:List (Str × Nat)) (hc:X.calm=true) (ho:X.env.scope=osc) (hN:X.N=N) (hnd:X.N.Nodup) (hy:X.N[i]?=some y) (hl:Loc X.env.scope y)
  (hi:PI X (.Name x px) iter wi) (he:∀ cl C s₀ H₀ fp pins,PE (dR X sc cl C x ks s₀ H₀ fp pins) elt te) (ok:b9 sc osc N x ks:=by decide +kernel) (hs:∀ x,foldedSetIterable iter X.env x=pure x:=by intro _;rfl)
  (hsw:swapsWith (.ListComp elt [⟨.Name x px,iter,[],0⟩] sc pos) (some (.Name y py)) spos.line X.env=pure true:=by rfl) (hf:X.fn y=true∨X.env.scope.names.lookup y=some .local:=by first | exact .inl rfl | exact .inr rfl | assumption) :
  PS X (.Assign [.Name y py] (.ListComp elt [⟨.Name x px,iter,[],0⟩] sc pos) spos) (Ea wi ks te i):=by
 intro pins s σ H Dn I hw
 obtain ⟨cl,hcl,h1,h2⟩:=fG (jj ok I ho)
 have ok':b9 sc X.env.scope X.N x ks:=by rw [ho,hN];exact ok
 rw [exec_Assign_Name_used _ _ _ _ hsw]
 refine wpAny_bind (wpAny_standAt (wpAny_bind ?_))
 show wpAny _ X.A (do let _ ← comprehension (.ListComp elt [⟨.Name x px,iter,[],0⟩] sc pos) sc X.env _ (newList []) false (eval iter X.env) (some (assign (.Name y py) X.env))) _ _ s
 refine wpAny_bind (wpAny_mono (wpAny_comprehension_free (use:=some (assign (.Name y py) X.env)) (Q:=fun _ s'=>SP X pins Dn .next s') rfl hs hcl ok.1 ok.2.2.2.1
  (bE (hi pins s σ H _ I hw) fun v s1 h3=>bE h3 fun itv s2 h4=>?_)) (fun _ s' hq=>wpAny_pure (wpAny_pure hq)) fun _ _ e=>e)
 obtain ⟨it,fp,tn,J,H2,rfl,I2,T,st2,f2,hR⟩:=h4
 refine qY (Q:=fun v H1=>Dn.nx (σ.set i (some v)) H1) (RR:=fun acc C=>compPost (model X.prog X.w) X.A X.xe (some (assign (.Name y py) X.env)) (fun _ s'=>SP X pins Dn .next s') acc C) hc ok' h1 h2 he I2 T st2 f2 hR ?_
 intro D C s' H' m J' q hn hC cl' cs cc cp
 show wpAny _ X.A (assign (.Name y py) X.env (.ref D)) _ _ _
 refine wpAny_assign_Name (ki J' hnd hy hl (v:=.ref D) rfl (fun s'' J'' ⟨a,hsb,ha⟩=>?_) hf)
 refine ⟨m,hn.sameBut hsb (fun z=>?_),fun h' hsb'=>⟨_,H',?_,q⟩⟩
 ·rcases ha with e | e
  ·exact cl' (z.trans e)
  ·exact cc _ _ e z.symm
 ·exact J''.turned (t':=s''.toks) (it:=C) (fun b o ne e=>hsb'.extBut b o ne e) hC cl' (.inr cs) cc cp
end
theorem Aw {K:PySem.W.Frag} {a D:Addr} {xs:List V} {H:Hp} {te:TE} {ks:List (Str × Nat)} {σ:L2.St} {q:Hp→Prop} (Pv:Nat→Hp→Prop) (h0:Pv 0 (upd H D (.lst []))) (hl:∀ i H,i≤xs.length→Pv i H→cM K H a xs)
  (hs:∀ i x H (R:VK),xs[i]?=some x→Pv i H→(∀ y H4 ys,H4 D=some (.lst ys)→ys.length < sizeLine→Pv (i + 1) (upd H4 D (.lst (ys ++ [y])))→R y H4)→te (some x :: cn ks σ) H R) (hd:∀ H,Pv xs.length H→q H) :
  ∃ W:Nat→Nat→Hp→Prop,(∃ m,W 0 m (upd H D (.lst [])))∧∀ i m H2,W i m H2→((zW K a).stop i H2∧q H2) ∨
   ((zW K a).go i H2∧∀ v H3,(zW K a).yld i H2 v H3→te (some v :: cn ks σ) H3 fun y H4=>∃ ys,H4 D=some (.lst ys)∧ys.length < sizeLine∧∃ m',m' < m∧W (i + 1) m' (upd H4 D (.lst (ys ++ [y])))):=by
 refine ⟨fun i m H=>m=xs.length - i∧i≤xs.length∧Pv i H,⟨xs.length,by simp,Nat.zero_le _,h0⟩,?_⟩
 rintro i m H2 ⟨rfl,hi,p⟩
 have hq:=hl i H2 hi p
 by_cases hlt:i < xs.length
 ·refine .inr ⟨⟨xs,xs[i],hq,by simp [hlt]⟩,fun v H3 y=>?_⟩
  obtain ⟨e,y⟩:=y
  subst e
  exact hs i v _ _ (y xs hq) p fun y H4 ys e1 e2 e3=>⟨ys,e1,e2,xs.length - (i + 1),by omega,rfl,hlt,e3⟩
 ·have e:i=xs.length:=by omega
  subst e
  exact .inl ⟨⟨xs,hq,Nat.le_refl _⟩,hd H2 p⟩
theorem yd {lo:Int} {n:Nat} {D:Addr} {H:Hp} {te:TE} {ks:List (Str × Nat)} {σ:L2.St} {q:Hp→Prop} (Pv:Nat→Hp→Prop) (h0:Pv 0 (upd H D (.lst [])))
  (hs:∀ i H (R:VK),i < n→Pv i H→(∀ y H4 ys,H4 D=some (.lst ys)→ys.length < sizeLine→Pv (i + 1) (upd H4 D (.lst (ys ++ [y])))→R y H4)→te (some (.int (lo + i)) :: cn ks σ) H R) (hd:∀ H,Pv n H→q H) :
  ∃ W:Nat→Nat→Hp→Prop,(∃ m,W 0 m (upd H D (.lst [])))∧∀ i m H2,W i m H2→((xg lo n).stop i H2∧q H2) ∨
   ((xg lo n).go i H2∧∀ v H3,(xg lo n).yld i H2 v H3→te (some v :: cn ks σ) H3 fun y H4=>∃ ys,H4 D=some (.lst ys)∧ys.length < sizeLine∧∃ m',m' < m∧W (i + 1) m' (upd H4 D (.lst (ys ++ [y])))):=by
 refine ⟨fun i m H=>m=n - i∧i≤n∧Pv i H,⟨n,by simp,Nat.zero_le _,h0⟩,?_⟩
 rintro i m H2 ⟨rfl,hi,p⟩
 by_cases hlt:i < n
 ·refine .inr ⟨hlt,fun v H3 y=>?_⟩
  obtain ⟨e,y⟩:=y
  subst e y
  exact hs i _ _ hlt p fun y H4 ys e1 e2 e3=>⟨ys,e1,e2,n - (i + 1),by omega,rfl,hlt,e3⟩
 ·have e:i=n:=by omega
  subst e
  exact .inl ⟨Nat.le_refl _,hd H2 p⟩
def one (c:Nat):Str:=⟨#[c]⟩
theorem nF:∀ (cs:List Nat) (acc:Array Nat),(cs.map one).foldl (fun acc (p:Str)=>acc ++ (Str.ofString "").cps ++ p.cps) acc=acc ++ cs.toArray
 | [],acc=>by simp
 | c :: cs,acc=>by
  have e:(Str.ofString "").cps=#[]:=by decide +kernel
  rw [List.map_cons,List.foldl_cons,nF cs]
  rw [e]
  show (acc ++ #[] ++ #[c]) ++ cs.toArray=_
  simp
theorem join_ones (cs:List Nat):Txt.join (Str.ofString "") (cs.map one)=⟨cs.toArray⟩:=by
 unfold Txt.join Builtin.Str.glued
 cases cs with
 | nil=>rfl
 | cons c cs =>
  simp only [List.map_cons,List.drop_succ_cons,List.drop_zero,List.headD_cons]
  rw [nF]
  show (⟨#[c] ++ cs.toArray⟩:Str)=_
  simp
theorem fU:∀ {ys:List Str} {us:List Value},Vals (ys.map V.str) us→StrsAre us ys
 | [],_,.nil=>.nil
 | y :: ys,_,.cons r rr=>by
  obtain ⟨t,rfl⟩:=r
  exact .cons y t (fU rr)
section
variable {X:Cx}
def rJoin (K:PySem.W.Frag):V→List V→Hp→VK→Prop:=fun x vs H Q=>∃ z p ys,x=.str z∧vs=[.ref p]∧cM K H p (ys.map V.str)∧(ys.map (·.length)).sum + ys.length * z.length≤16777216∧Q (.str (Txt.join z ys)) H
theorem AH:nY X "str.join" (rJoin X.K):=by
 intro pins s σ H x vs v us Q I rx rv h
 obtain ⟨z,p,ys,rfl,rfl,hp,hz,q⟩:=h
 obtain ⟨t,rfl⟩:=rx
 obtain ⟨u,rfl,ru⟩:=vals1 rv
 cases ru
 obtain ⟨its,r,pl,_⟩:=I.list hp
 exact join_list pl.isList (by simpa using fU r) hz fun t' k=>⟨.str _,H,I.tok _,⟨_,rfl⟩,q⟩
end
def n9:Expr→Option V
 | .Constant (.int i) _ _=>some (.int i)
 | .Constant (.str x) _ _=>some (.str x)
 | .Constant (.bool b) _ _=>some (.bl b)
 | _=>none
theorem l4 {X:Cx}:∀ {es:List Expr} (vs:List V),es.map n9=vs.map some→PA X es (fun _ H Q=>Q vs H)
 | [],[],_=>fun _ _ _ _ H Q I h=>Calls.spliced_nil ⟨[],H,I,.nil,h⟩
 | [],_ :: _,h=>by cases h
 | _ :: _,[],h=>by cases h
 | e :: es,v :: vs,h=>by
  rw [List.map_cons,List.map_cons] at h
  injection h with h1 h2
  have ih:=l4 (X:=X) (es:=es) vs h2
  have hs:starEach (e :: es) X.env=(false,eval e X.env) :: starEach es X.env:=by
   cases e <;> first | rfl | cases h1
  have he:PE X e (tC v):=by
   cases e with
   | Constant c j pos =>
    cases c with
    | int i=>cases h1;exact aF
    | str x=>cases h1;exact jW
    | bool b=>cases h1;exact qO
    | _=>cases h1
   | _=>cases h1
  exact fun pos pins s σ H Q I hq=>aL he ih hs pos pins s σ H Q I hq
end Ov
namespace Ov
open PySem PySem.Spec PyProof.Rows
open L2 (V HO Hp Inv Cx St VK TE TT TA TS TG lH TI TO ia Ends pU Loc Gl Rd RelV Vals eA rL b7 lE rK nY h_ R2 wQ tC zI GX vp tB zD Gq BL vh BM vm GV BQ zF tK rG CA mz GU tI BN lO Aj t8 Al Ak BK pN D_ uc Hf ud B2 BO vo vi Gk D9 vj BP tJ lB vn GW upd E0 ba cx)
structure QE (X:Cx) (e:Expr) (t:TE):Prop where
 run:L2.PE X e t
structure QT (X:Cx) (e:Expr) (t:TT):Prop where
 run:L2.PT X e t
structure QW (X:Cx) (e:Expr) (t:TT):Prop where
 run:L2.PW X e t
structure QA (X:Cx) (es:List Expr) (t:TA):Prop where
 run:L2.PA X es t
structure QS (X:Cx) (st:Stmt) (t:TS):Prop where
 run:L2.PS X st t
structure QB (X:Cx) (st:List Stmt) (t:TS):Prop where
 run:L2.m_ X st t
structure QG (X:Cx) (e:Expr) (t:TG):Prop where
 run:L2.PG X e t
structure GG (X:Cx) (es:List Expr) (t:lH):Prop where
 run:L2.BZ X es t
structure QI (X:Cx) (tg e:Expr) (t:TI):Prop where
 run:L2.PI X tg e t
structure QO (X:Cx) (e:Option Expr) (t:TO):Prop where
 run:L2.PO X e t
section
variable {X:Cx} {a b c e o:Expr} {es rest:List Expr} {ta tb te tc to:TE} {tA tB':TT} {t:TA} {pos px p p2 apos cpos:Pos} {x:Str} {i j:Nat}
theorem pv (i:Nat) {x:Str} {pos:Pos} (hN:X.N[i]?=some x:=by rfl) (hv:pU X.env.scope x:=by first | exact Or.inl rfl | exact Or.inr (Or.inl rfl) | exact Or.inr (Or.inr rfl)) (hd:(x == ("__debug__":Str))=false:=by decide)
  (hcd:(x == ("__classdict__":Str))=false:=by decide):QE X (.Name x pos) (wQ i):=⟨L2.sR hN hv hd hcd⟩
theorem aF {i:Int} {j pos}:QE X (.Constant (.int i) j pos) (tC (.int i)):=⟨L2.aF⟩
theorem qO {b:Bool} {j pos}:QE X (.Constant (.bool b) j pos) (tC (.bl b)):=⟨L2.qO⟩
theorem sO {j pos}:QE X (.Constant .none j pos) (tC .non):=⟨L2.sO⟩
theorem jW {x:Str} {j pos}:QE X (.Constant (.str x) j pos) (tC (.str x)):=⟨L2.jW⟩
theorem kY {v:V} {u:Value} (hg:Gl X x) (hm:X.mg x=some u) (r:RelV v u) (hd:(x == ("__debug__":Str))=false:=by decide):QE X (.Name x pos) (tC v):=⟨L2.kY hg hm r hd⟩
theorem oR {v:V} {u:Value} (hg:Gl X x) (hm:X.mg x=none) (hv:bootBuiltins x=some u) (r:RelV v u) (hn:x≠"__name__":=by decide) (hd:(x == ("__debug__":Str))=false:=by decide):QE X (.Name x pos) (tC v):=⟨L2.oR hg hm hv r hn hd⟩
theorem aW {op:Operator} {r:R2} (ho:eA X (binaryOp op) r) (ha:QE X a ta) (hb:QE X b tb):QE X (.BinOp a op b pos) (zI r ta tb):=⟨L2.aW ho ha.run hb.run⟩
theorem ux {op:UnaryOp} {r:V→Hp→VK→Prop} (ho:rL X (unaryOp op) r) (ha:QE X a ta):QE X (.UnaryOp op a pos) (GX r ta):=⟨L2.ux ho ha.run⟩
theorem kX {op:CmpOp} {r:R2} (ho:eA X (compareOp op) r) (ha:QE X a ta) (hb:QE X b tb) (hm:behindInMarks op b=false):QE X (.Compare a [op] [b] pos) (zI r ta tb):=⟨L2.kX ho ha.run hb.run hm⟩
theorem cA {op:CmpOp} {r:R2} (ho:eA X (compareOp op) r) (ha:QE X a ta) (hb:QE X b tb) (hm:behindInMarks op b=false):QT X (.Compare a [op] [b] pos) (vp (zI r ta tb)):=⟨L2.cA ho ha.run hb.run hm⟩
theorem sQ {op} (h:QE X a ta):QE X (.BoolOp op [a] pos) ta:=⟨L2.sQ h.run⟩
theorem sM (ha:QE X a ta) (hb:QE X (.BoolOp .And (b :: rest) pos) tb):QE X (.BoolOp .And (a :: b :: rest) pos) (vh ta tb):=⟨L2.sM ha.run hb.run⟩
theorem yO (ha:QE X a ta) (hb:QE X (.BoolOp .Or (b :: rest) pos) tb):QE X (.BoolOp .Or (a :: b :: rest) pos) (BM ta tb):=⟨L2.yO ha.run hb.run⟩
theorem sP (ha:QE X a ta):QE X (.UnaryOp .Not a pos) (vm ta):=⟨L2.sP ha.run⟩
theorem sU (ha:QT X a tA):QT X (.UnaryOp .Not a pos) (BL tA):=⟨L2.sU ha.run⟩
theorem k4 (ha:QT X a tA):QW X (.BoolOp .And [a] pos) tA:=⟨L2.k4 ha.run⟩
theorem o4 (ha:QT X a tA):QW X (.BoolOp .Or [a] pos) tA:=⟨L2.o4 ha.run⟩
theorem oZ (ha:QT X a tA) (hb:QW X (.BoolOp .And (b :: rest) pos) tB'):QW X (.BoolOp .And (a :: b :: rest) pos) (zD tA tB'):=⟨L2.oZ ha.run hb.run⟩
theorem uC (ha:QT X a tA) (hb:QW X (.BoolOp .Or (b :: rest) pos) tB'):QW X (.BoolOp .Or (a :: b :: rest) pos) (Gq tA tB'):=⟨L2.uC ha.run hb.run⟩
theorem Ck (h:QW X e tA):QT X e tA:=⟨h.run.pt⟩
theorem sV (h:QE X e te) (he:∀ whole,isTrue e X.env whole=(do let v ← whole;standAt e.pos;holding [v] (truthy v)):=by intro _;rfl):QT X e (tB te):=⟨L2.sV h.run he⟩
theorem l6 (hc:QT X c tA) (ha:QE X a ta) (hb:QE X b tb):QE X (.IfExp c a b pos) (GV tA ta tb):=⟨L2.l6 hc.run ha.run hb.run⟩
theorem a9:QA X [] tK:=⟨L2.a9⟩
theorem aL (ha:QE X e te) (hr:QA X es t) (hs:starEach (e :: es) X.env=(false,eval e X.env) :: starEach es X.env:=by rfl):QA X (e :: es) (rG te t):=⟨L2.aL ha.run hr.run hs⟩
theorem yI {es:List Expr} (vs:List V) (h:es.map n9=vs.map some):QA X es (fun _ H Q=>Q vs H):=⟨l4 vs h⟩
theorem l7 {x1} (h:QA X es t):QE X (.Tuple es x1 pos) (BQ t):=⟨L2.l7 h.run⟩
theorem gx (h:QA X es t):QE X (.List es pos) (zF t):=⟨L2.gx h.run⟩
theorem bH {r:R2} (hr:lE X r) (ha:QE X a ta) (hb:QE X b tb) (hs:cx b):QE X (.Subscript a b pos) (zI r ta tb):=⟨L2.bH hr ha.run hb.run hs⟩
theorem kZ:QO X none lB:=⟨L2.kZ⟩
theorem g6 (h:QE X e te):QO X (some e) (vn te):=⟨L2.g6 h.run⟩
theorem gy {lo hi:Option Expr} {tl th:TO} {r:V→Option Int→Option Int→Hp→VK→Prop} (hr:rK X r) (he:QE X e te) (hl:QO X lo tl) (hu:QO X hi th):QE X (.Subscript e (.Slice lo hi none p2) pos) (GW r te tl th):=⟨L2.gy hr he.run hl.run hu.run⟩
theorem cQ {id:String} {r:List V→Hp→VK→Prop} (hc:b7 X (.builtin id) r) (hg:Gl X x) (hm:X.mg x=none) (hv:bootBuiltins x=some (.builtin id)) (ha:QA X (e :: es) t) (hn:x≠"__name__":=by decide) (hdb:(x == ("__debug__":Str))=false:=by decide)
  (he:starEach (e :: es) X.env=(false,eval e X.env) :: starEach es X.env:=by rfl) (hpl:(backTo pos (starEach es X.env)).any (·.1)=false:=by rfl):QE X (.Call (.Name x p) (e :: es) [] pos) (CA r t):=⟨L2.cQ hc hg hm hv ha.run hn hdb he hpl⟩
theorem jV {T:String} {r:List V→Hp→VK→Prop} (hc:b7 X (.type T) r) (hg:Gl X x) (hm:X.mg x=none) (hv:bootBuiltins x=some (.type T)) (ha:QA X (e :: es) t) (hn:x≠"__name__":=by decide) (hdb:(x == ("__debug__":Str))=false:=by decide)
  (he:starEach (e :: es) X.env=(false,eval e X.env) :: starEach es X.env:=by rfl) (hpl:(backTo pos (starEach es X.env)).any (·.1)=false:=by rfl):QE X (.Call (.Name x p) (e :: es) [] pos) (CA r t):=⟨L2.jV hc hg hm hv ha.run hn hdb he hpl⟩
theorem qP {k k':Nat} {ps:List Str} {sp:L2.Sp} (C:mE X.prog X.w X.K X.mg X.base k x ps sp) (hr:ba k' X.A) (hk:k≤k') (hg:Gl X x) (ha:QA X (e :: es) t)
  (hdb:(x == ("__debug__":Str))=false:=by decide) (he:starEach (e :: es) X.env=(false,eval e X.env) :: starEach es X.env:=by rfl) (hpl:(backTo pos (starEach es X.env)).any (·.1)=false:=by rfl) :
  QE X (.Call (.Name x p) (e :: es) [] pos) (mz sp [] E0 t):=⟨DG C hr hk hg ha.run hdb he hpl⟩
theorem l5 {name:Str} {T id:String} {r:V→List V→Hp→VK→Prop} (pa:PlainAttrs T) (slot:Slot T name id) (hty:typeOf (.builtin id)=pure (.type "method_descriptor")) (hm:nY X id r) (ho:QE X o to) (ha:QA X (e :: es) t)
  (hbase:attributeBase o name X.env (eval o X.env)=eval o X.env:=by rfl)
  (hfew:((backTo cpos (starEach (e :: es) X.env)).all (fun x=>!x.1) && (backToKw cpos (keywordEach [] X.env)).all (fun x=>x.1.isSome)
   && decide ((e :: es).length + ([]:List Keyword).length + (if ([]:List Keyword).isEmpty then 0 else 1) < 30))=true:=by rfl)
  (hline:(apos.endLine == cpos.line)=true:=by rfl) (hs:starEach (e :: es) X.env=(false,eval e X.env) :: starEach es X.env:=by rfl) (hplain:(backTo cpos (starEach es X.env)).any (·.1)=false:=by rfl) :
  QE X (.Call (.Attribute o name apos) (e :: es) [] cpos) (GU X.K T r to t):=⟨L2.l5 pa slot hty hm ho.run ha.run hbase hfew hline hs hplain⟩
end
section
variable {X:Cx} {st:Stmt} {rest:List Stmt} {t u:TS} {e tg:Expr} {es:List Expr} {te:TE} {pos:Pos} {g:TG}
theorem d6:QB X [] vj:=⟨L2.d6⟩
theorem aO (h1:QS X st t) (h2:QB X rest u):QB X (st :: rest) (BP t u):=⟨L2.aO h1.run h2.run⟩
theorem a_ (h1:QS X st t):QB X [st] t:=⟨L2.a_ h1.run⟩
theorem qR (h1:QS X st t) (h2:QB X rest u):QB X (st :: rest) (Gm t u):=⟨Bc h1.run h2.run⟩
theorem jZ {sts:List Stmt}:QB X sts tJ:=⟨L2.jZ⟩
theorem g7 (he:QE X e te) (hs:swapsWith e none pos.line X.env=pure false:=by rfl):QS X (.Expr e pos) (vi te):=⟨L2.g7 he.run hs⟩
theorem cJ (he:QE X e te):QS X (.Return (some e) pos) (BO te):=⟨L2.cJ he.run⟩
theorem oX:QS X (.Return none pos) vo:=⟨L2.oX⟩
theorem jl {c:Expr} {a b:List Stmt} {tc:TT} (hc:QT X c tc) (ha:QB X a t) (hb:QB X b u):QS X (.If c a b pos) (BK tc t u):=⟨L2.jl hc.run ha.run hb.run⟩
theorem gA {c:Expr} {body:List Stmt} {tc:TT} {tb:TS} (hp:PassesOwn (model X.prog X.w) X.A X.env X.xe) (hc:QT X c tc) (hb:QB X body tb):QS X (.While c body [] pos) (pN tc tb):=⟨L2.gA hp hc.run hb.run⟩
theorem gZ {i:Nat} {x:Str} (hN:X.N.Nodup) (hi:X.N[i]?=some x) (hx:Loc X.env.scope x) (hf:X.fn x=true∨X.env.scope.names.lookup x=some .local:=by first | exact .inl rfl | exact .inr rfl | assumption):QG X (.Name x pos) (lO i):=⟨L2.gZ hN hi hx hf⟩
theorem oT:GG X [] Aj:=⟨L2.oT⟩
theorem l8 {e:Expr} {es:List Expr} {t:TG} {u:lH} (h1:QG X e t) (h2:GG X es u)
  (hs:(assignEach (e :: es) X.env).map (·.2)=assign e X.env :: (assignEach es X.env).map (·.2):=by rfl):GG X (e :: es) (t8 t u):=⟨L2.l8 h1.run h2.run hs⟩
theorem sS {k:Nat} {t:lH} {n:Nat} (hc:X.calm=true) (h:GG X es t)
  (hn:(assignEach es X.env).length=n:=by rfl) (hst:(assignEach es X.env).findIdx? (·.1)=none:=by rfl):QG X (.Tuple es k pos) (Al X.K n t):=⟨L2.sS hc h.run hn hst⟩
theorem oS {o i:Expr} {to ti:TE} {t:ia} (ho:QE X o to) (hi:QE X i ti) (hs:h_ X t)
  (ha:∀ v,assign (.Subscript o i pos) X.env v=(do
   let ov ← holding [v] (eval o X.env)
   let iv ← holding [v,ov] (eval i X.env)
   standAt pos
   holding [v,ov,iv] (setItem ov iv v)
   release [v,ov,iv] []):=by intro _;rfl):QG X (.Subscript o i pos) (Ak to ti t):=⟨L2.oS ho.run hi.run hs ha⟩
theorem oW {tg e:Expr} (he:QE X e te) (hg:QG X tg g) (hs:swapsWithSole [tg] e pos.line X.env=pure false:=by rfl) (hw:swappedStores [tg] e X.env=pure none:=by rfl)
  (h1:(assignEach [tg] X.env).map (·.2)=[assign tg X.env]:=by rfl):QS X (.Assign [tg] e pos) (tI te g):=⟨L2.oW he.run hg.run hs hw h1⟩
theorem bY {i:Nat} {x:Str} {pos':Pos} (hN:X.N.Nodup) (hi:X.N[i]?=some x) (hx:Loc X.env.scope x) (he:QE X e te) (hs:swapsWith e (some (.Name x pos')) pos.line X.env=pure false:=by rfl) (hf:X.fn x=true∨X.env.scope.names.lookup x=some .local:=by first | exact .inl rfl | exact .inr rfl | assumption) :
  QS X (.Assign [.Name x pos'] e pos) (tI te (lO i)):=⟨L2.bY hN hi hx he.run hs hf⟩
theorem jY {i j:Nat} {x y:Str} {a b:Expr} {ta:TA} {px py pt:Pos} {kt k2 pt2} (hc:X.calm=true) (hN:X.N.Nodup) (hi:X.N[i]?=some x) (hj:X.N[j]?=some y) (hij:i≠j)
  (hx:X.env.scope.names.lookup x=some .local) (hy:X.env.scope.names.lookup y=some .local) (ha:QA X [a,b] ta)
  (hw:swappedStores [.Tuple [.Name x px,.Name y py] kt pt] (.Tuple [a,b] k2 pt2) X.env=pure (some [x,y]))
  (hs:swapsWithSole [.Tuple [.Name x px,.Name y py] kt pt] (.Tuple [a,b] k2 pt2) pos.line X.env=pure false:=by rfl) :
  QS X (.Assign [.Tuple [.Name x px,.Name y py] kt pt] (.Tuple [a,b] k2 pt2) pos) (BN i j ta):=⟨L2.jY hc hN hi hj hij hx hy ha.run hw hs⟩
theorem jk {l:Expr} {tl:TE} (hl:QE X l tl):QI X tg l (uc X.K tl):=⟨L2.jk hl.run⟩
theorem eu {a:Expr} {ta:TA} {p pos:Pos} (hg:Gl X "range") (hm:X.mg "range"=none) (ha:QA X [a] ta) (hs:starEach [a] X.env=[(false,eval a X.env)]:=by rfl):QI X tg (.Call (.Name "range" p) [a] [] pos) (ud ta):=⟨L2.eu hg hm ha.run hs⟩
theorem jX {iter:Expr} {body:List Stmt} {wi:TI} {g:TG} {tb:TS} {pos:Pos} (hp:PassesOwn (model X.prog X.w) X.A X.env X.xe) (hc:X.calm=true) (hi:QI X tg iter wi) (hg:QG X tg g) (hb:QB X body tb)
  (hs:∀ x,foldedSetIterable iter X.env x=pure x:=by intro _;rfl):QS X (.For tg iter body [] pos) (D_ wi g tb):=⟨L2.jX hp hc hi.run hg.run hb.run hs⟩
theorem A3 {elt iter:Expr} {x:Str} {px:Pos} {sc:Scope} {pos:Pos} {wi:TI} (osc:Scope) (N:List Str) (ks:List (Str × Nat)) (hc:X.calm=true) (ho:X.env.scope=osc) (hN:X.N=N) (hi:QI X (.Name x px) iter wi)
  (he:∀ cl C s₀ H₀ fp pins,QE (dR X sc cl C x ks s₀ H₀ fp pins) elt te) (ok:b9 sc osc N x ks:=by decide +kernel) (hs:∀ x,foldedSetIterable iter X.env x=pure x:=by intro _;rfl) :
  QE X (.ListComp elt [⟨.Name x px,iter,[],0⟩] sc pos) (Ik wi ks te):=⟨Fz osc N ks hc ho hN hi.run (fun cl C s₀ H₀ fp pins=>(he cl C s₀ H₀ fp pins).run) ok hs⟩
theorem Bb {elt iter:Expr} {x y:Str} {px py:Pos} {sc:Scope} {pos spos:Pos} {wi:TI} {i:Nat} (osc:Scope) (N:List Str) (ks:List (Str × Nat)) (hc:X.calm=true) (ho:X.env.scope=osc) (hN:X.N=N) (hnd:X.N.Nodup) (hy:X.N[i]?=some y) (hl:Loc X.env.scope y)
  (hi:QI X (.Name x px) iter wi) (he:∀ cl C s₀ H₀ fp pins,QE (dR X sc cl C x ks s₀ H₀ fp pins) elt te) (ok:b9 sc osc N x ks:=by decide +kernel) (hs:∀ x,foldedSetIterable iter X.env x=pure x:=by intro _;rfl)
  (hsw:swapsWith (.ListComp elt [⟨.Name x px,iter,[],0⟩] sc pos) (some (.Name y py)) spos.line X.env=pure true:=by rfl) (hf:X.fn y=true∨X.env.scope.names.lookup y=some .local:=by first | exact .inl rfl | exact .inr rfl | assumption) :
  QS X (.Assign [.Name y py] (.ListComp elt [⟨.Name x px,iter,[],0⟩] sc pos) spos) (Ea wi ks te i):=⟨FE osc N ks hc ho hN hnd hy hl hi.run (fun cl C s₀ H₀ fp pins=>(he cl C s₀ H₀ fp pins).run) ok hs hsw hf⟩
end
end Ov
namespace Ov
open PySem PySem.Spec PyProof.Rows
open L2 (V HO Hp Inv Cx VK TE TA Vals RelV eA b7 cM R2 upd EP vals1 intsAre_of Gl)
section
variable {X:Cx}
end
end Ov
namespace Ov
open PySem PySem.Spec PyProof.Rows
open L2 (V HO Hp Inv Cx VK TE TA Vals RelV eA b7 cM fh R2 upd aY)
inductive Py where
 | non | bl (b:Bool) | int (i:Int) | str (x:Str) | tup (xs:List Py) | lst (xs:List Py)
mutual
def At (K:PySem.W.Frag) (H:Hp):Py→V→Prop
 | .non,v=>v=.non
 | .bl b,v=>v=.bl b
 | .int i,v=>v=.int i
 | .str x,v=>v=.str x
 | .tup xs,v=>∃ a vs,v=.ref a∧fh K H a vs∧mG K H xs vs
 | .lst xs,v=>∃ a vs,v=.ref a∧cM K H a vs∧mG K H xs vs
def mG (K:PySem.W.Frag) (H:Hp):List Py→List V→Prop
 | [],vs=>vs=[]
 | x :: xs,vs=>∃ v us,vs=v :: us∧At K H x v∧mG K H xs us
end
mutual
def gS:Py→Py→Bool
 | .non,.non=>true
 | .bl a,.bl b=>a == b
 | .int a,.int b=>a == b
 | .bl a,.int b=>(if a then 1 else 0) == b
 | .int a,.bl b=>a == (if b then 1 else 0)
 | .str a,.str b=>a == b
 | .tup xs,.tup ys=>gm xs ys
 | .lst xs,.lst ys=>gm xs ys
 | _,_=>false
def gm:List Py→List Py→Bool
 | [],[]=>true
 | x :: xs,y :: ys=>gS x y && gm xs ys
 | _,_=>false
end
mutual
def dep:Py→Nat
 | .tup xs=>dw xs + 1
 | .lst xs=>dw xs + 1
 | _=>0
def dw:List Py→Nat
 | []=>0
 | x :: xs=>max (dep x) (dw xs)
end
mutual
theorem p9:∀ x:Py,gS x x=true
 | .non=>rfl
 | .bl b=>by simp [gS]
 | .int b=>by simp [gS]
 | .str b=>by simp [gS]
 | .tup xs=>by simpa [gS] using jN xs
 | .lst xs=>by simpa [gS] using jN xs
theorem jN:∀ xs:List Py,gm xs xs=true
 | []=>rfl
 | x :: xs=>by simp [gm,p9 x,jN xs]
end
mutual
theorem At.same {K:PySem.W.Frag} {H H':Hp} (e:aY H H'):∀ {x:Py} {v:V},At K H x v→At K H' x v
 | .non,_,h=>h
 | .bl _,_,h=>h
 | .int _,_,h=>h
 | .str _,_,h=>h
 | .tup xs,_,⟨a,vs,e1,h,k⟩=>⟨a,vs,e1,e.tup h,mG.same e k⟩
 | .lst xs,_,⟨a,vs,e1,h,k⟩=>⟨a,vs,e1,e.seq h,mG.same e k⟩
theorem mG.same {K:PySem.W.Frag} {H H':Hp} (e:aY H H'):∀ {xs:List Py} {vs:List V},mG K H xs vs→mG K H' xs vs
 | [],_,h=>h
 | _ :: _,_,⟨v,us,e1,h,k⟩=>⟨v,us,e1,At.same e h,mG.same e k⟩
end
theorem mG.length {K:PySem.W.Frag} {H:Hp}:∀ {xs:List Py} {vs:List V},mG K H xs vs→xs.length=vs.length
 | [],_,h=>by cases h;rfl
 | _ :: xs,_,⟨v,us,e1,_,k⟩=>by subst e1;simp [mG.length k]
def vI (xs ys:List Py) (j:Nat):Bool:=match xs[j]?,ys[j]? with
 | some x,some y=>gS x y
 | _,_=>false
theorem fE:∀ (xs ys:List Py),((List.range (min xs.length ys.length)).all (vI xs ys) && (xs.length == ys.length))=gm xs ys
 | [],[]=>rfl
 | [],_ :: _=>by simp [gm]
 | _ :: _,[]=>by simp [gm]
 | x :: xs,y :: ys=>by
  have ih:=fE xs ys
  rw [List.length_cons,List.length_cons,Nat.succ_min_succ,List.range_succ_eq_map,List.all_cons,List.all_map]
  have e1:(vI (x :: xs) (y :: ys) ∘ Nat.succ)=vI xs ys:=by
   funext j
   simp [vI]
  have e2:(xs.length + 1 == ys.length + 1)=(xs.length == ys.length):=by
   rw [Bool.eq_iff_iff]
   simp
  rw [e1,e2,Bool.and_assoc,ih]
  simp [vI,gm]
section
variable {X:Cx} {pins:List (Addr × Obj)} {σ:L2.St} {H:Hp} {s:Shared}
mutual
theorem At.one (I:Inv X pins σ H s):∀ {x y:Py} {v:V},At X.K H x v→At X.K H y v→gS x y=true
 | .non,y,v,h,k=>by cases h;cases y <;> simp_all [At,gS]
 | .bl b,y,v,h,k=>by cases h;cases y <;> simp_all [At,gS]
 | .int b,y,v,h,k=>by cases h;cases y <;> simp_all [At,gS]
 | .str b,y,v,h,k=>by cases h;cases y <;> simp_all [At,gS]
 | .tup xs,y,v,h,k=>by
  obtain ⟨a,vs,rfl,h1,h2⟩:=h
  cases y with
  | tup ys =>
   obtain ⟨b,us,e,k1,k2⟩:=k
   cases e
   cases I.wR h1 k1
   simpa [gS] using mG.one I h2 k2
  | lst ys =>
   obtain ⟨b,us,e,k1,k2⟩:=k
   cases e
   obtain ⟨_,_,⟨o,e1,c1,_⟩,_⟩:=I.tuple h1
   obtain ⟨_,_,⟨o',n,e2,c2,_⟩,_⟩:=I.list k1
   rw [e1] at e2;cases e2;exact absurd (Value.type.inj (c1.symm.trans c2)) (by decide)
  | _=>cases k
 | .lst xs,y,v,h,k=>by
  obtain ⟨a,vs,rfl,h1,h2⟩:=h
  cases y with
  | lst ys =>
   obtain ⟨b,us,e,k1,k2⟩:=k
   cases e
   cases I.lX h1 k1
   simpa [gS] using mG.one I h2 k2
  | tup ys =>
   obtain ⟨b,us,e,k1,k2⟩:=k
   cases e
   obtain ⟨_,_,⟨o,e1,c1,_⟩,_⟩:=I.tuple k1
   obtain ⟨_,_,⟨o',n,e2,c2,_⟩,_⟩:=I.list h1
   rw [e1] at e2;cases e2;exact absurd (Value.type.inj (c1.symm.trans c2)) (by decide)
  | _=>cases k
theorem mG.one (I:Inv X pins σ H s):∀ {xs ys:List Py} {vs:List V},mG X.K H xs vs→mG X.K H ys vs→gm xs ys=true
 | [],ys,vs,h,k=>by
  cases h
  cases ys with
  | nil=>rfl
  | cons y ys=>obtain ⟨_,_,e,_⟩:=k;cases e
 | x :: xs,ys,vs,h,k=>by
  obtain ⟨v,us,rfl,h1,h2⟩:=h
  cases ys with
  | nil=>cases k
  | cons y ys =>
   obtain ⟨v',us',e,k1,k2⟩:=k
   cases e
   simp [gm,At.one I h1 k1,mG.one I h2 k2]
end
mutual
theorem Hb (I:Inv X pins σ H s):∀ (x y:Py) {v v':V} {u u':Value} {A:Around},At X.K H x v→At X.K H y v'→RelV v u→RelV v' u'→A.units + dep x < cLine→SeqAt.EqAt A s u u' (gS x y)
 | .non,y,v,v',u,u',A,h,k,r,r',hu=>by
  cases h;cases r
  cases y with
  | non=>cases k;cases r';exact SeqAt.EqAt.same _
  | bl b=>cases k;cases r';exact SeqAt.EqAt.none_bool _
  | int b=>cases k;obtain ⟨t,rfl⟩:=r';exact SeqAt.EqAt.none_int _ _
  | str b=>cases k;obtain ⟨t,rfl⟩:=r';exact SeqAt.EqAt.none_str _ _
  | tup ys=>obtain ⟨a,vs,rfl,h1,h2⟩:=k;cases r';obtain ⟨_,_,p,_⟩:=I.tuple h1;exact SeqAt.EqAt.none_tuple p (by simpa [dep] using hu)
  | lst ys=>obtain ⟨a,vs,rfl,h1,h2⟩:=k;cases r';obtain ⟨_,_,p,_⟩:=I.list h1;exact SeqAt.EqAt.none_list p.isList (by simpa [dep] using hu)
 | .bl x,y,v,v',u,u',A,h,k,r,r',hu=>by
  cases h;cases r
  cases y with
  | non=>cases k;cases r';exact SeqAt.EqAt.bool_none _
  | bl b=>cases k;cases r';exact SeqAt.EqAt.bool_bool _ _
  | int b=>cases k;obtain ⟨t,rfl⟩:=r';exact SeqAt.EqAt.bool_int _ _ _
  | str b=>cases k;obtain ⟨t,rfl⟩:=r';exact SeqAt.EqAt.bool_str _ _ _
  | tup ys=>obtain ⟨a,vs,rfl,h1,h2⟩:=k;cases r';obtain ⟨_,_,p,_⟩:=I.tuple h1;exact SeqAt.EqAt.bool_tuple _ p (by simpa [dep] using hu)
  | lst ys=>obtain ⟨a,vs,rfl,h1,h2⟩:=k;cases r';obtain ⟨_,_,p,_⟩:=I.list h1;exact SeqAt.EqAt.bool_list _ p.isList (by simpa [dep] using hu)
 | .int x,y,v,v',u,u',A,h,k,r,r',hu=>by
  cases h;obtain ⟨t0,rfl⟩:=r
  cases y with
  | non=>cases k;cases r';exact SeqAt.EqAt.int_none _ _
  | bl b=>cases k;cases r';exact SeqAt.EqAt.int_bool _ _ _
  | int b=>cases k;obtain ⟨t,rfl⟩:=r';exact SeqAt.EqAt.int_int _ _ _ _
  | str b=>cases k;obtain ⟨t,rfl⟩:=r';exact SeqAt.EqAt.int_str _ _ _ _
  | tup ys=>obtain ⟨a,vs,rfl,h1,h2⟩:=k;cases r';obtain ⟨_,_,p,_⟩:=I.tuple h1;exact SeqAt.EqAt.int_tuple _ _ p (by simpa [dep] using hu)
  | lst ys=>obtain ⟨a,vs,rfl,h1,h2⟩:=k;cases r';obtain ⟨_,_,p,_⟩:=I.list h1;exact SeqAt.EqAt.int_list _ _ p.isList (by simpa [dep] using hu)
 | .str x,y,v,v',u,u',A,h,k,r,r',hu=>by
  cases h;obtain ⟨t0,rfl⟩:=r
  cases y with
  | non=>cases k;cases r';exact SeqAt.EqAt.str_none _ _
  | bl b=>cases k;cases r';exact SeqAt.EqAt.str_bool _ _ _
  | int b=>cases k;obtain ⟨t,rfl⟩:=r';exact SeqAt.EqAt.str_int _ _ _ _
  | str b=>cases k;obtain ⟨t,rfl⟩:=r';exact SeqAt.EqAt.str_str _ _ _ _
  | tup ys=>obtain ⟨a,vs,rfl,h1,h2⟩:=k;cases r';obtain ⟨_,_,p,_⟩:=I.tuple h1;exact SeqAt.EqAt.str_tuple _ _ p (by simpa [dep] using hu)
  | lst ys=>obtain ⟨a,vs,rfl,h1,h2⟩:=k;cases r';obtain ⟨_,_,p,_⟩:=I.list h1;exact SeqAt.EqAt.str_list _ _ p.isList (by simpa [dep] using hu)
 | .tup xs,y,v,v',u,u',A,h,k,r,r',hu=>by
  have h0:=h
  obtain ⟨a,vs,rfl,h1,h2⟩:=h
  cases r
  obtain ⟨is,r1,p1,_⟩:=I.tuple h1
  have hu0:A.units < cLine:=by omega
  have hu1:A.in1.units + dw xs < cLine:=by
   have e:dep (.tup xs)=dw xs + 1:=by rw [dep]
   rw [e] at hu
   show A.units + 1 + dw xs < cLine
   omega
  cases y with
  | non=>cases k;cases r';exact SeqAt.EqAt.tuple_none p1 hu0
  | bl b=>cases k;cases r';exact SeqAt.EqAt.tuple_bool _ p1 hu0
  | int b=>cases k;obtain ⟨t,rfl⟩:=r';exact SeqAt.EqAt.tuple_int _ _ p1 hu0
  | str b=>cases k;obtain ⟨t,rfl⟩:=r';exact SeqAt.EqAt.tuple_str _ _ p1 hu0
  | lst ys=>obtain ⟨b,us,rfl,k1,k2⟩:=k;cases r';obtain ⟨_,_,p,_⟩:=I.list k1;exact SeqAt.EqAt.tuple_list p1 p.isList hu0
  | tup ys =>
   have k0:=k
   obtain ⟨b,us,rfl,k1,k2⟩:=k
   cases r'
   by_cases hab:a=b
   ·subst hab
    rw [At.one I h0 k0]
    exact SeqAt.EqAt.same _
   ·obtain ⟨js,r2,p2,_⟩:=I.tuple k1
    refine SeqAt.EqAt.of_refs hab ?_
    have key:=SeqAt.RcAt.tuples (e:=vI xs ys) p1 p2 hu0 fun j q1 q2=>lM I xs ys h2 k2 r1 r2 hu1 j (by simpa using q1) (by simpa using q2)
    have e1:is.length=xs.length:=by rw [← r1.length,h2.length]
    have e2:js.length=ys.length:=by rw [← r2.length,k2.length]
    simp only [List.size_toArray] at key
    rw [e1,e2,fE] at key
    simpa [gS] using key
 | .lst xs,y,v,v',u,u',A,h,k,r,r',hu=>by
  have h0:=h
  obtain ⟨a,vs,rfl,h1,h2⟩:=h
  cases r
  obtain ⟨is,r1,p1,_⟩:=I.list h1
  have hu0:A.units < cLine:=by omega
  have hu1:A.in1.units + dw xs < cLine:=by
   have e:dep (.lst xs)=dw xs + 1:=by rw [dep]
   rw [e] at hu
   show A.units + 1 + dw xs < cLine
   omega
  cases y with
  | non=>cases k;cases r';exact SeqAt.EqAt.list_none p1.isList hu0
  | bl b=>cases k;cases r';exact SeqAt.EqAt.list_bool _ p1.isList hu0
  | int b=>cases k;obtain ⟨t,rfl⟩:=r';exact SeqAt.EqAt.list_int _ _ p1.isList hu0
  | str b=>cases k;obtain ⟨t,rfl⟩:=r';exact SeqAt.EqAt.list_str _ _ p1.isList hu0
  | tup ys=>obtain ⟨b,us,rfl,k1,k2⟩:=k;cases r';obtain ⟨_,_,p,_⟩:=I.tuple k1;exact SeqAt.EqAt.list_tuple p1.isList p hu0
  | lst ys =>
   have k0:=k
   obtain ⟨b,us,rfl,k1,k2⟩:=k
   cases r'
   by_cases hab:a=b
   ·subst hab
    rw [At.one I h0 k0]
    exact SeqAt.EqAt.same _
   ·obtain ⟨js,r2,p2,_⟩:=I.list k1
    refine SeqAt.EqAt.of_refs hab ?_
    have e1:is.length=xs.length:=by rw [← r1.length,h2.length]
    have e2:js.length=ys.length:=by rw [← r2.length,k2.length]
    have ae:=fE xs ys
    by_cases hl:xs.length=ys.length
    ·have key:=SeqAt.RcAt.lists (e:=vI xs ys) p1.isList p2.isList (by simp only [List.size_toArray];omega) hu0 fun j q1 q2=>lM I xs ys h2 k2 r1 r2 hu1 j (by simpa using q1) (by simpa using q2)
     simp only [List.size_toArray] at key
     rw [hl,Nat.min_self] at ae
     have e3:(ys.length == ys.length)=true:=by simp
     rw [e3,Bool.and_true] at ae
     rw [e1,hl,ae] at key
     simpa [gS] using key
    ·have key:=SeqAt.RcAt.lists_lengths p1.isList p2.isList (A:=A) (by simp only [List.size_toArray];rw [e1,e2];simpa using hl) hu0
     have e3:gm xs ys=false:=by
      rw [← ae]
      have:(xs.length == ys.length)=false:=by simpa using hl
      rw [this,Bool.and_false]
     simpa [gS,e3] using key
theorem lM (I:Inv X pins σ H s):∀ (xs ys:List Py) {vs us:List V} {is js:List Value} {A:Around},mG X.K H xs vs→mG X.K H ys us→Vals vs is→Vals us js→A.units + dw xs < cLine→∀ j (h1:j < is.length) (h2:j < js.length),SeqAt.EqAt A s is[j] js[j] (vI xs ys j)
 | [],ys,vs,us,is,js,A,h,k,r,r',hu,j,h1,h2=>by
  cases h;cases r;exact absurd h1 (Nat.not_lt_zero _)
 | x :: xs,[],vs,us,is,js,A,h,k,r,r',hu,j,h1,h2=>by
  cases k;cases r';exact absurd h2 (Nat.not_lt_zero _)
 | x :: xs,y :: ys,vs,us,is,js,A,h,k,r,r',hu,j,h1,h2=>by
  obtain ⟨v,vs',rfl,a1,a2⟩:=h
  obtain ⟨v',us',rfl,b1,b2⟩:=k
  cases r with
  | cons q1 q2 =>
   cases r' with
   | cons z1 z2 =>
    have e:dw (x :: xs)=max (dep x) (dw xs):=by rw [dw]
    rw [e] at hu
    cases j with
    | zero=>exact Hb I x y a1 b1 q1 z1 (by omega)
    | succ j =>
     have:=lM I xs ys a2 b2 q2 z2 (A:=A) (by omega) j (by simpa using h1) (by simpa using h2)
     simpa [vI] using this
end
theorem Ie (I:Inv X pins σ H s) (x y:Py) {v v':V} {u u':Value} {A:Around} (h:At X.K H x v) (k:At X.K H y v') (r:RelV v u) (r':RelV v' u') (hu:A.units + dep x < cLine):SeqAt.RcAt A s u u' (gS x y):=by
 have hu0:A.units < cLine:=by omega
 cases x with
 | non =>
  cases h;cases r
  cases y with
  | non=>cases k;cases r';exact SeqAt.RcAt.none_none
  | bl b=>cases k;cases r';exact SeqAt.RcAt.none_bool _
  | int b=>cases k;obtain ⟨t,rfl⟩:=r';exact SeqAt.RcAt.none_int _ _
  | str b=>cases k;obtain ⟨t,rfl⟩:=r';exact SeqAt.RcAt.none_str _ _
  | tup ys=>obtain ⟨b,us,rfl,k1,k2⟩:=k;cases r';obtain ⟨js,r2,p2,_⟩:=I.tuple k1;exact SeqAt.RcAt.none_tuple p2 hu0
  | lst ys=>obtain ⟨b,us,rfl,k1,k2⟩:=k;cases r';obtain ⟨js,r2,p2,_⟩:=I.list k1;exact SeqAt.RcAt.none_list p2.isList hu0
 | bl i =>
  cases h;cases r
  cases y with
  | non=>cases k;cases r';exact SeqAt.RcAt.bool_none _
  | bl b=>cases k;cases r';exact SeqAt.RcAt.bool_bool _ _
  | int b=>cases k;obtain ⟨t,rfl⟩:=r';exact SeqAt.RcAt.bool_int _ _ _
  | str b=>cases k;obtain ⟨t,rfl⟩:=r';exact SeqAt.RcAt.bool_str _ _ _
  | tup ys=>obtain ⟨b,us,rfl,k1,k2⟩:=k;cases r';obtain ⟨js,r2,p2,_⟩:=I.tuple k1;exact SeqAt.RcAt.bool_tuple _ p2 hu0
  | lst ys=>obtain ⟨b,us,rfl,k1,k2⟩:=k;cases r';obtain ⟨js,r2,p2,_⟩:=I.list k1;exact SeqAt.RcAt.bool_list _ p2.isList hu0
 | int i =>
  cases h;obtain ⟨t0,rfl⟩:=r
  cases y with
  | non=>cases k;cases r';exact SeqAt.RcAt.int_none _ _
  | bl b=>cases k;cases r';exact SeqAt.RcAt.int_bool _ _ _
  | int b=>cases k;obtain ⟨t,rfl⟩:=r';exact SeqAt.RcAt.int_int _ _ _ _
  | str b=>cases k;obtain ⟨t,rfl⟩:=r';exact SeqAt.RcAt.int_str _ _ _ _
  | tup ys=>obtain ⟨b,us,rfl,k1,k2⟩:=k;cases r';obtain ⟨js,r2,p2,_⟩:=I.tuple k1;exact SeqAt.RcAt.int_tuple _ _ p2 hu0
  | lst ys=>obtain ⟨b,us,rfl,k1,k2⟩:=k;cases r';obtain ⟨js,r2,p2,_⟩:=I.list k1;exact SeqAt.RcAt.int_list _ _ p2.isList hu0
 | str i =>
  cases h;obtain ⟨t0,rfl⟩:=r
  cases y with
  | non=>cases k;cases r';exact SeqAt.RcAt.str_none _ _
  | bl b=>cases k;cases r';exact SeqAt.RcAt.str_bool _ _ _
  | int b=>cases k;obtain ⟨t,rfl⟩:=r';exact SeqAt.RcAt.str_int _ _ _ _
  | str b=>cases k;obtain ⟨t,rfl⟩:=r';exact SeqAt.RcAt.str_str _ _ _ _
  | tup ys=>obtain ⟨b,us,rfl,k1,k2⟩:=k;cases r';obtain ⟨js,r2,p2,_⟩:=I.tuple k1;exact SeqAt.RcAt.str_tuple _ _ p2 hu0
  | lst ys=>obtain ⟨b,us,rfl,k1,k2⟩:=k;cases r';obtain ⟨js,r2,p2,_⟩:=I.list k1;exact SeqAt.RcAt.str_list _ _ p2.isList hu0
 | tup xs =>
  obtain ⟨a,vs,rfl,h1,h2⟩:=h
  cases r
  obtain ⟨is,r1,p1,_⟩:=I.tuple h1
  have hu1:A.in1.units + dw xs < cLine:=by
   have e:dep (.tup xs)=dw xs + 1:=by rw [dep]
   rw [e] at hu
   show A.units + 1 + dw xs < cLine
   omega
  cases y with
  | non=>cases k;cases r';exact SeqAt.RcAt.tuple_none p1 hu0
  | bl b=>cases k;cases r';exact SeqAt.RcAt.tuple_bool _ p1 hu0
  | int b=>cases k;obtain ⟨t,rfl⟩:=r';exact SeqAt.RcAt.tuple_int _ _ p1 hu0
  | str b=>cases k;obtain ⟨t,rfl⟩:=r';exact SeqAt.RcAt.tuple_str _ _ p1 hu0
  | tup ys =>
   obtain ⟨b,us,rfl,k1,k2⟩:=k;cases r';obtain ⟨js,r2,p2,_⟩:=I.tuple k1
   have e1:is.length=xs.length:=by rw [← r1.length,h2.length]
   have e2:js.length=ys.length:=by rw [← r2.length,k2.length]
   have ae:=fE xs ys
   have key:=SeqAt.RcAt.tuples (e:=vI xs ys) p1 p2 hu0 fun j q1 q2=>lM I xs ys h2 k2 r1 r2 hu1 j (by simpa using q1) (by simpa using q2)
   simp only [List.size_toArray] at key
   rw [e1,e2,ae] at key
   simpa [gS] using key
  | lst ys=>obtain ⟨b,us,rfl,k1,k2⟩:=k;cases r';obtain ⟨js,r2,p2,_⟩:=I.list k1;exact SeqAt.RcAt.tuple_list p1 p2.isList hu0
 | lst xs =>
  obtain ⟨a,vs,rfl,h1,h2⟩:=h
  cases r
  obtain ⟨is,r1,p1,_⟩:=I.list h1
  have hu1:A.in1.units + dw xs < cLine:=by
   have e:dep (.lst xs)=dw xs + 1:=by rw [dep]
   rw [e] at hu
   show A.units + 1 + dw xs < cLine
   omega
  cases y with
  | non=>cases k;cases r';exact SeqAt.RcAt.list_none p1.isList hu0
  | bl b=>cases k;cases r';exact SeqAt.RcAt.list_bool _ p1.isList hu0
  | int b=>cases k;obtain ⟨t,rfl⟩:=r';exact SeqAt.RcAt.list_int _ _ p1.isList hu0
  | str b=>cases k;obtain ⟨t,rfl⟩:=r';exact SeqAt.RcAt.list_str _ _ p1.isList hu0
  | tup ys=>obtain ⟨b,us,rfl,k1,k2⟩:=k;cases r';obtain ⟨js,r2,p2,_⟩:=I.tuple k1;exact SeqAt.RcAt.list_tuple p1.isList p2 hu0
  | lst ys =>
   obtain ⟨b,us,rfl,k1,k2⟩:=k;cases r';obtain ⟨js,r2,p2,_⟩:=I.list k1
   have e1:is.length=xs.length:=by rw [← r1.length,h2.length]
   have e2:js.length=ys.length:=by rw [← r2.length,k2.length]
   have ae:=fE xs ys
   by_cases hl:xs.length=ys.length
   ·have key:=SeqAt.RcAt.lists (e:=vI xs ys) p1.isList p2.isList (by simp only [List.size_toArray];omega) hu0 fun j q1 q2=>lM I xs ys h2 k2 r1 r2 hu1 j (by simpa using q1) (by simpa using q2)
    simp only [List.size_toArray] at key
    rw [hl,Nat.min_self] at ae
    have e3:(ys.length == ys.length)=true:=by simp
    rw [e3,Bool.and_true] at ae
    rw [e1,hl,ae] at key
    simpa [gS] using key
   ·have key:=SeqAt.RcAt.lists_lengths p1.isList p2.isList (A:=A) (by simp only [List.size_toArray];rw [e1,e2];simpa using hl) hu0
    have e3:gm xs ys=false:=by
     rw [← ae]
     have:(xs.length == ys.length)=false:=by simpa using hl
     rw [this,Bool.and_false]
    simpa [gS,e3] using key
theorem Gb (I:Inv X pins σ H s) (x y:Py) {v v':V} {u u':Value} {A:Around} (h:At X.K H x v) (k:At X.K H y v') (r:RelV v u) (r':RelV v' u') (hu:A.units + dep x < cLine):SeqAt.RcNeAt A s u u' (!gS x y):=by
 have hu0:A.units < cLine:=by omega
 cases x with
 | non =>
  cases h;cases r
  cases y with
  | non=>cases k;cases r';exact SeqAt.RcNeAt.none_none
  | bl b=>cases k;cases r';exact SeqAt.RcNeAt.none_bool _
  | int b=>cases k;obtain ⟨t,rfl⟩:=r';exact SeqAt.RcNeAt.none_int _ _
  | str b=>cases k;obtain ⟨t,rfl⟩:=r';exact SeqAt.RcNeAt.none_str _ _
  | tup ys=>obtain ⟨b,us,rfl,k1,k2⟩:=k;cases r';obtain ⟨js,r2,p2,_⟩:=I.tuple k1;exact SeqAt.RcNeAt.none_tuple p2 hu0
  | lst ys=>obtain ⟨b,us,rfl,k1,k2⟩:=k;cases r';obtain ⟨js,r2,p2,_⟩:=I.list k1;exact SeqAt.RcNeAt.none_list p2.isList hu0
 | bl i =>
  cases h;cases r
  cases y with
  | non=>cases k;cases r';exact SeqAt.RcNeAt.bool_none _
  | bl b=>cases k;cases r';exact SeqAt.RcNeAt.bool_bool _ _
  | int b=>cases k;obtain ⟨t,rfl⟩:=r';exact SeqAt.RcNeAt.bool_int _ _ _
  | str b=>cases k;obtain ⟨t,rfl⟩:=r';exact SeqAt.RcNeAt.bool_str _ _ _
  | tup ys=>obtain ⟨b,us,rfl,k1,k2⟩:=k;cases r';obtain ⟨js,r2,p2,_⟩:=I.tuple k1;exact SeqAt.RcNeAt.bool_tuple _ p2 hu0
  | lst ys=>obtain ⟨b,us,rfl,k1,k2⟩:=k;cases r';obtain ⟨js,r2,p2,_⟩:=I.list k1;exact SeqAt.RcNeAt.bool_list _ p2.isList hu0
 | int i =>
  cases h;obtain ⟨t0,rfl⟩:=r
  cases y with
  | non=>cases k;cases r';exact SeqAt.RcNeAt.int_none _ _
  | bl b=>cases k;cases r';exact SeqAt.RcNeAt.int_bool _ _ _
  | int b=>cases k;obtain ⟨t,rfl⟩:=r';exact SeqAt.RcNeAt.int_int _ _ _ _
  | str b=>cases k;obtain ⟨t,rfl⟩:=r';exact SeqAt.RcNeAt.int_str _ _ _ _
  | tup ys=>obtain ⟨b,us,rfl,k1,k2⟩:=k;cases r';obtain ⟨js,r2,p2,_⟩:=I.tuple k1;exact SeqAt.RcNeAt.int_tuple _ _ p2 hu0
  | lst ys=>obtain ⟨b,us,rfl,k1,k2⟩:=k;cases r';obtain ⟨js,r2,p2,_⟩:=I.list k1;exact SeqAt.RcNeAt.int_list _ _ p2.isList hu0
 | str i =>
  cases h;obtain ⟨t0,rfl⟩:=r
  cases y with
  | non=>cases k;cases r';exact SeqAt.RcNeAt.str_none _ _
  | bl b=>cases k;cases r';exact SeqAt.RcNeAt.str_bool _ _ _
  | int b=>cases k;obtain ⟨t,rfl⟩:=r';exact SeqAt.RcNeAt.str_int _ _ _ _
  | str b=>cases k;obtain ⟨t,rfl⟩:=r';exact SeqAt.RcNeAt.str_str _ _ _ _
  | tup ys=>obtain ⟨b,us,rfl,k1,k2⟩:=k;cases r';obtain ⟨js,r2,p2,_⟩:=I.tuple k1;exact SeqAt.RcNeAt.str_tuple _ _ p2 hu0
  | lst ys=>obtain ⟨b,us,rfl,k1,k2⟩:=k;cases r';obtain ⟨js,r2,p2,_⟩:=I.list k1;exact SeqAt.RcNeAt.str_list _ _ p2.isList hu0
 | tup xs =>
  obtain ⟨a,vs,rfl,h1,h2⟩:=h
  cases r
  obtain ⟨is,r1,p1,_⟩:=I.tuple h1
  have hu1:A.in1.units + dw xs < cLine:=by
   have e:dep (.tup xs)=dw xs + 1:=by rw [dep]
   rw [e] at hu
   show A.units + 1 + dw xs < cLine
   omega
  cases y with
  | non=>cases k;cases r';exact SeqAt.RcNeAt.tuple_none p1 hu0
  | bl b=>cases k;cases r';exact SeqAt.RcNeAt.tuple_bool _ p1 hu0
  | int b=>cases k;obtain ⟨t,rfl⟩:=r';exact SeqAt.RcNeAt.tuple_int _ _ p1 hu0
  | str b=>cases k;obtain ⟨t,rfl⟩:=r';exact SeqAt.RcNeAt.tuple_str _ _ p1 hu0
  | tup ys =>
   obtain ⟨b,us,rfl,k1,k2⟩:=k;cases r';obtain ⟨js,r2,p2,_⟩:=I.tuple k1
   have e1:is.length=xs.length:=by rw [← r1.length,h2.length]
   have e2:js.length=ys.length:=by rw [← r2.length,k2.length]
   have ae:=fE xs ys
   have key:=SeqAt.RcNeAt.tuples (e:=vI xs ys) p1 p2 hu0 fun j q1 q2=>lM I xs ys h2 k2 r1 r2 hu1 j (by simpa using q1) (by simpa using q2)
   simp only [List.size_toArray] at key
   rw [e1,e2,ae] at key
   simpa [gS] using key
  | lst ys=>obtain ⟨b,us,rfl,k1,k2⟩:=k;cases r';obtain ⟨js,r2,p2,_⟩:=I.list k1;exact SeqAt.RcNeAt.tuple_list p1 p2.isList hu0
 | lst xs =>
  obtain ⟨a,vs,rfl,h1,h2⟩:=h
  cases r
  obtain ⟨is,r1,p1,_⟩:=I.list h1
  have hu1:A.in1.units + dw xs < cLine:=by
   have e:dep (.lst xs)=dw xs + 1:=by rw [dep]
   rw [e] at hu
   show A.units + 1 + dw xs < cLine
   omega
  cases y with
  | non=>cases k;cases r';exact SeqAt.RcNeAt.list_none p1.isList hu0
  | bl b=>cases k;cases r';exact SeqAt.RcNeAt.list_bool _ p1.isList hu0
  | int b=>cases k;obtain ⟨t,rfl⟩:=r';exact SeqAt.RcNeAt.list_int _ _ p1.isList hu0
  | str b=>cases k;obtain ⟨t,rfl⟩:=r';exact SeqAt.RcNeAt.list_str _ _ p1.isList hu0
  | tup ys=>obtain ⟨b,us,rfl,k1,k2⟩:=k;cases r';obtain ⟨js,r2,p2,_⟩:=I.tuple k1;exact SeqAt.RcNeAt.list_tuple p1.isList p2 hu0
  | lst ys =>
   obtain ⟨b,us,rfl,k1,k2⟩:=k;cases r';obtain ⟨js,r2,p2,_⟩:=I.list k1
   have e1:is.length=xs.length:=by rw [← r1.length,h2.length]
   have e2:js.length=ys.length:=by rw [← r2.length,k2.length]
   have ae:=fE xs ys
   by_cases hl:xs.length=ys.length
   ·have key:=SeqAt.RcNeAt.lists (e:=vI xs ys) p1.isList p2.isList (by simp only [List.size_toArray];omega) hu0 fun j q1 q2=>lM I xs ys h2 k2 r1 r2 hu1 j (by simpa using q1) (by simpa using q2)
    simp only [List.size_toArray] at key
    rw [hl,Nat.min_self] at ae
    have e3:(ys.length == ys.length)=true:=by simp
    rw [e3,Bool.and_true] at ae
    rw [e1,hl,ae] at key
    simpa [gS] using key
   ·have key:=SeqAt.RcNeAt.lists_lengths p1.isList p2.isList (A:=A) (by simp only [List.size_toArray];rw [e1,e2];simpa using hl) hu0
    have e3:gm xs ys=false:=by
     rw [← ae]
     have:(xs.length == ys.length)=false:=by simpa using hl
     rw [this,Bool.and_false]
    simpa [gS,e3] using key
def rP (K:PySem.W.Frag) (f:Bool→Bool):R2:=fun v v' H Q=>∃ x y:Py,At K H x v∧At K H y v'∧dep x≤60∧Q (.bl (f (gS x y))) H
theorem Dz (hu:X.A.units + 61 < cLine):eA X (compareOp .Eq) (rP X.K id):=by
 intro pins s σ H x y v u Q I rx ry h
 obtain ⟨a,b,h1,h2,d,q⟩:=h
 exact Ie I a b h1 h2 rx ry (by omega) X.prog X.w X.xe _ ⟨.bl _,H,I,rfl,q⟩
theorem DC (hu:X.A.units + 61 < cLine):eA X (compareOp .NotEq) (rP X.K not):=by
 intro pins s σ H x y v u Q I rx ry h
 obtain ⟨a,b,h1,h2,d,q⟩:=h
 exact Gb I a b h1 h2 rx ry (by omega) X.prog X.w X.xe _ ⟨.bl _,H,I,rfl,q⟩
end
end Ov
namespace Ov
open PySem PySem.Spec PySem.Calls PyProof.Rows PySem.W Builtin.Getset_descriptor
def ExcAt (x D:Addr) (h:Heap):Prop:=∃ ox,h.get? x=some ox∧ox.cls=.ref D
theorem ExcAt.ty {M:Model} {h:Heap} {x D:Addr} (I:ExcAt x D h):Looks M h (typeOf (.ref x)) (.ref D):=by
 obtain ⟨ox,a,b⟩:=I
 rw [← b]
 exact (Looks.ld a).andThen .now
section
variable {prog:Program} {w:World} {A:Around} {E:Value→Shared→Prop} {s:Shared} {K:Frag} {x D:Addr}
structure zZ (K:Frag) (D:Addr):Prop where
 cls:(clsIn K D).isSome=true
 ga:findIn K (.ref D) "__getattribute__"=some (some (.builtin "BaseException.__getattribute__"))
 gt:findIn K (.ref D) "__getattr__"=some none
 ca:findIn K (.ref D) "__class__"=some (some (.builtin "object.__class__"))
 get:specialIn K (.builtin "object.__class__") "__get__"=some (some (.builtin "getset_descriptor.__get__"))
 tk:takesIn K (.builtin "object.__class__")=some true
 obj:mroIn K D (.type "object")=some true
 bex:subIn K (.ref D) (.type "BaseException")=some true
theorem zZ.at {h:Heap} (Z:zZ K D) (X:K.In h):∃ c d cd sl,h.get? D=some ⟨c,d,.cls cd,sl⟩:=by
 obtain ⟨cd,q⟩:=Option.isSome_iff_exists.mp Z.cls
 unfold clsIn at q
 split at q
 ·exact ⟨_,_,_,_,X _ _ (by assumption)⟩
 ·cases q
end
end Ov
namespace Ov
open PySem PySem.Spec PyProof.Rows L2
structure BY (P:Program) (w:World) (outer:List Env) (H:Hp) (s:Shared) (ea:Addr) (cls:Value) (H':Hp) (s':Shared):Prop where
 os:s'.os=s.os
 bare:AllBare s'.gens
 un:Un (gh outer) [] H H' s.heap s'.heap
 hok:iQ P w H' s'.heap
 fl:∃ B t,Heap.FlyingW B outer ea cls (.ref t) s'.heap∧∀ b o,s'.heap.get? b=some o→(H' b≠none∨∃ o₀,s.heap.get? b=some o₀)→b ∉ gh outer→B.get? b=some o
def cS (P:Program) (w:World):mD:=fun outer H s E e s'=>∃ ea cls H',e=.ref ea∧BY P w outer H s ea cls H' s'∧E cls none H'
theorem AM {P:Program} {w:World} {H:Hp} {h:Heap} {a:Addr} {o:HO} (x:b_ P w H h a o):∃ ob,h.get? a=Option.some ob:=by
 have lt:=x.lt
 cases o with
 | lst xs=>obtain ⟨_,_,_,_,e⟩:=x;exact ⟨_,e⟩
 | tup xs=>obtain ⟨_,_,_,ob,e,_⟩:=x;exact ⟨_,e⟩
 | dK kvs=>obtain ⟨_,_,_,_,o,_,_,e,_⟩:=x;exact ⟨_,e⟩
 | dE kvs ep=>obtain ⟨_,_,_,_,o,_,e,_⟩:=x;exact ⟨_,e⟩
 | set S n=>obtain ⟨o,_,_,_,e,_⟩:=x;exact ⟨_,e⟩
 | ins C dx fs=>obtain ⟨_,_,_,e,_⟩:=x;exact ⟨_,e⟩
 | own y=>exact x
 | xd fs=>obtain ⟨_,⟨_,_,_,e,_⟩,_⟩:=x;exact ⟨_,e⟩
 | Et lo hi=>obtain ⟨_,_,_,e⟩:=x;exact ⟨_,e⟩
 | mF ob u=>obtain ⟨e,_⟩:=x;exact ⟨_,e⟩
 | tbl ps=>exact ⟨_,x⟩
 | met f y=>exact ⟨_,x⟩
 | ext φ=>obtain ⟨_,e,_⟩:=x;exact e
section
variable {X:Cx} {pins:List (Addr × Obj)} {σ:L2.St} {H H':Hp} {s:Shared} {ea t:Addr} {cls:Value} {B h1 h2:Heap}
theorem i6 (I:Inv X pins σ H s) (un:Un (gh X.stack) [] H H' s.heap h1) {b:Addr} (hb:b∈gh X.stack):H' b=none∧∃ o,h1.get? b=some o∧∀ vs,o.data≠.fields vs:=by
 obtain ⟨_,o,ho,hn⟩:=I.stack.mem hb
 have n:=I.pM b hb
 obtain ⟨sl,e⟩:=un.any ho n (by simp)
 exact ⟨un.free b o ho n (by simp),_,e,hn⟩
theorem ub (I:Inv X pins σ H s) (un:Un (gh X.stack) [] H H' s.heap h1) (cov:∀ b o,h1.get? b=some o→(H' b≠none∨∃ o₀,s.heap.get? b=some o₀)→b ∉ gh X.stack→B.get? b=some o)
  (hB:B.StaysIn h2) (up:h1.UpToSlots h2):Un (gh X.stack) [] H H' s.heap h2 where
 keep:=fun b o e n hb hx=>hB b o (cov b o (un.keep b o e n hb hx) (.inr ⟨o,e⟩) hb)
 slot:=fun b o e n hb hx=>by
  obtain ⟨sl,e1⟩:=un.slot b o e n hb hx
  obtain ⟨_,o',e2,hn⟩:=i6 I un hb
  rw [e1] at e2;cases e2
  obtain ⟨sl',e3⟩:=up b _ e1 hn
  exact ⟨sl',e3⟩
 free:=un.free
 there:=fun b o e hx=>by
  obtain ⟨o',e1⟩:=un.there b o e hx
  by_cases hb:b∈gh X.stack
  ·obtain ⟨_,o2,e2,hn⟩:=i6 I un hb
   obtain ⟨sl',e3⟩:=up b _ e2 hn
   exact ⟨_,e3⟩
  ·exact ⟨o',hB b o' (cov b o' e1 (.inr ⟨o,e⟩) hb)⟩
 tups:=un.tups
 frzs:=un.frzs
 tbls:=un.tbls
theorem ua (I:Inv X pins σ H s) (un:Un (gh X.stack) [] H H' s.heap h1) (cov:∀ b o,h1.get? b=some o→(H' b≠none∨∃ o₀,s.heap.get? b=some o₀)→b ∉ gh X.stack→B.get? b=some o)
  (hB:B.StaysIn h2) (ok:iQ X.prog X.w H' h1):iQ X.prog X.w H' h2:=fun a o e=>by
 have nf:∀ b u,H' b=some u→b ∉ gh X.stack:=fun b u q hb=>by
  have:=(i6 I un hb).1
  rw [q] at this;cases this
 refine (ok a o e).ig (fun b u hb q=>?_) (fun _ q=>q) fun _ _ q=>q
 rcases hb with rfl | hb
 ·exact hB _ _ (cov _ _ q (.inl (by rw [e];exact fun z=>nomatch z)) (nf _ _ e))
 ·exact hB _ _ (cov _ _ q (.inl (by rw [hb];exact fun z=>nomatch z)) (nf _ _ hb))
theorem xt (un:Un (gh X.stack) [] H H' s.heap h1) (ok:iQ X.prog X.w H' h1) (cov:∀ b o,h1.get? b=some o→(H' b≠none∨∃ o₀,s.heap.get? b=some o₀)→b ∉ gh X.stack→B.get? b=some o) (hB:B.StaysIn h2) :
  ∀ b o,h2.get? b=some o→(H' b≠none∨∃ o₀,s.heap.get? b=some o₀)→b ∉ gh X.stack→B.get? b=some o:=fun b o e hb nb=>by
 have:∃ o1,h1.get? b=some o1:=by
  rcases hb with z | ⟨o₀,z⟩
  ·cases q:H' b with
   | none=>exact absurd q z
   | some u=>exact AM (ok b u q)
  ·exact un.there b o₀ z (by simp)
 obtain ⟨o1,e1⟩:=this
 have c:=cov b o1 e1 hb nb
 have:=hB b o1 c
 rw [e] at this;cases this
 exact c
theorem tZ {s2:Shared} (I:Inv X pins σ H s) (hst:X.stack=X.env :: X.outer) (hfr:X.env.frame=some X.env.locals) (hex:X.ex=[]) (os:s2.os=s.os) (bare:AllBare s2.gens) (un:Un (gh X.stack) [] H H' s.heap s2.heap)
  (ok:iQ X.prog X.w H' s2.heap) (cov:∀ b o,s2.heap.get? b=some o→(H' b≠none∨∃ o₀,s.heap.get? b=some o₀)→b ∉ gh X.stack→B.get? b=some o) (fl:Heap.FlyingW B X.outer ea cls (.ref t) s2.heap) :
  BY X.prog X.w X.outer X.H₀ X.s₀ ea cls H' s2:=by
 have nst:∀ b o,X.s₀.heap.get? b=some o→b ∉ X.fs→b ∉ gh X.stack:=fun b o e nb hb=>by
  rcases List.mem_cons.mp (I.iO b hb) with z | z
  ·have:=Nat.lt_of_lt_of_le (Heap.lt_size e) I.ok.above
   rw [z] at this
   exact Nat.lt_irrefl _ this
  ·exact nb z
 have sub:∀ b,b∈X.fs→b∈gh X.stack:=fun b hb=>by rw [hst];unfold gh;rw [List.filterMap_cons,hfr];exact List.mem_cons_of_mem _ hb
 have nx:∀ b:Addr,b ∉ X.ex:=fun b=>by rw [hex];simp
 refine ⟨os.trans I.os,bare,⟨fun b o e n hb _=>?_,fun b o e n hb _=>?_,fun b o e n _=>?_,fun b o e _=>?_,fun b xs q=>un.tups b xs (I.base.tups b xs q),fun b o xs q=>un.frzs b o xs (I.base.frzs b o xs q),fun b ps q=>?_⟩,ok,B,t,fl,fun b o e hb nb=>?_⟩
 ·exact un.keep b o (I.base.keep b o e n hb (nx b)) (I.base.free b o e n (nx b)) (nst b o e hb) (by simp)
 ·obtain ⟨sl,e1⟩:=I.base.slot b o e n hb (nx b)
  obtain ⟨sl',e2⟩:=un.slot b _ e1 (I.base.free b o e n (nx b)) (sub b hb) (by simp)
  exact ⟨sl',e2⟩
 ·obtain ⟨o',e1⟩:=I.base.there b o e (nx b)
  exact un.free b o' e1 (I.base.free b o e n (nx b)) (by simp)
 ·obtain ⟨o',e1⟩:=I.base.there b o e (nx b)
  exact un.there b o' e1 (by simp)
 ·obtain ⟨m1,e1⟩:=I.base.tbls b ps q
  obtain ⟨m2,e2⟩:=un.tbls b _ e1
  exact ⟨m1 ++ m2,by rw [e2,Array.append_assoc]⟩
 ·rcases hb with z | ⟨o₀,z⟩
  ·exact cov b o e (.inl z) fun hb=>z (i6 I un hb).1
  ·obtain ⟨o1,e1⟩:=I.base.there b o₀ z (nx b)
   exact cov b o e (.inr ⟨o1,e1⟩) (nst b o₀ z nb)
theorem vW {E:XK} {e:Value} {s':Shared} {R:Value→Shared→Prop} (I:Inv X pins σ H s) (hst:X.stack=X.env :: X.outer) (hfr:X.env.frame=some X.env.locals) (hex:X.ex=[]) (h:cS X.prog X.w X.stack H s E e s') :
  wpAny (model X.prog X.w) X.A (leaving X.env e) (fun _ s''=>cS X.prog X.w X.outer X.H₀ X.s₀ E e s'') R s':=by
 obtain ⟨ea,cls,H',rfl,F,q⟩:=h
 obtain ⟨B,t,fl,cov⟩:=F.fl
 refine wpAny_leaves_onW (by rw [I.ok.frames,hst]) hfr (hst ▸ fl) fun h2 fl2 up=>?_
 exact ⟨ea,cls,H',rfl,tZ (s2:={ s' with heap:=h2 }) I hst hfr hex F.os F.bare (ub I F.un cov fl2.1 up) (ua I F.un cov fl2.1 F.hok) (xt F.un F.hok cov fl2.1) fl2,q⟩
theorem leave_new {E:XK} {e C:Addr} {args:List Value} {h':Heap} {R:Value→Shared→Prop} (I:Inv X pins σ H s) (hst:X.stack=X.env :: X.outer) (hfr:X.env.frame=some X.env.locals) (hex:X.ex=[])
  (hx:Heap.MadeExcOf s.heap h' e (.ref C) args) (q:E (.ref C) none H) :
  wpAny (model X.prog X.w) X.A (leaving X.env (.ref e)) (fun _ s''=>cS X.prog X.w X.outer X.H₀ X.s₀ E (.ref e) s'') R { s with heap:=h' }:=by
 have hin:∀ env∈X.env :: X.outer,∀ a,env.frame=some a→a∈gh X.stack:=fun env he a ha=>by rw [hst];exact List.mem_filterMap.mpr ⟨env,he,ha⟩
 have cov:∀ b o,s.heap.get? b=some o→(H b≠none∨∃ o₀,s.heap.get? b=some o₀)→b ∉ gh X.stack→(PySem.W.hideAll s.heap (gh X.stack)).get? b=some o:=fun b o e _ nb=>PySem.W.hideAll_get _ e nb
 refine wpAny_leaves_madeW (base:=PySem.W.hideAll s.heap (gh X.stack)) (by rw [I.ok.frames,hst]) hfr (fun b o z=>PySem.W.of_hideAll _ z) (PySem.W.funFrames_hide (hst ▸ I.stack) hin) hx fun h2 t fl _ _ up=>?_
 have up2:s.heap.UpToSlots h2:=(Heap.UpToSlots.of_keeps hx.keeps).trans up
 exact ⟨e,.ref C,H,rfl,tZ (s2:={ s with heap:=h2 }) I hst hfr hex rfl I.bare (ub I Un.refl cov fl.1 up2) (ua I Un.refl cov fl.1 I.hok) (xt Un.refl I.hok cov fl.1) fl,q⟩
end
abbrev G9:List Value:=[.type "ValueError",.type "Exception",.type "BaseException",.type "object"]
structure Own (K:PySem.W.Frag) (mg:Str→Option Value) (x:Str) (C:Addr):Prop where
 mg:mg x=some (.ref C)
 own:PySem.W.excIn K C G9 "ValueError.__new__"=true
 xc:zZ K C
theorem AZ {K:PySem.W.Frag} {h:Heap} {C:Addr} {bmB:List Value} {newId:String} (X:K.In h) (q:PySem.W.excIn K C bmB newId=true) :
  ∃ bm N nm qn bs hd sn sub ab col dd k0 k1 k2 k3 k5 mN,h.get? C=some (excClassObj nm qn C N bs bm hd sn sub ab col dd k0 k1 k2 k3 k5 newId)∧h.Ns N mN∧mN "__init__"=none∧OwnTail h bmB bm:=by
 unfold PySem.W.excIn at q
 split at q
 ·next dd cd sl ho =>
  split at q
  ·next C' bm k0 k1 k2 k3 n k5 hm hs =>
   simp only [beq_iff_eq,Bool.and_eq_true,Bool.not_eq_true'] at q
   obtain ⟨⟨⟨⟨⟨rfl,rfl⟩,e3⟩,e4⟩,e5⟩,e6⟩:=q
   cases cd with
   | mk nm bs mro ns qn hd sn sub ab col del =>
    have hm:mro=.ref C' :: bm:=hm
    have e3:del=false:=e3
    subst hm;subst e3
    have hsl:sl=#[k0,k1,k2,k3,some (.builtin n),k5]:=Array.toList_inj.mp hs
    subst hsl
    exact ⟨bm,ns,nm,qn,bs,hd,sn,sub,ab,col,dd,k0,k1,k2,k3,k5,_,X _ _ ho,.of_isNs (PySem.W.isNs_of_in X e5),PySem.W.nsMap_none_of_in X e5 e6,PySem.W.tail_of_in X e4⟩
  ·cases q
 ·cases q
def Eb (C:Addr) (E:XK) (t:TA):TS:=fun _ σ H=>t σ H fun vs H1=>vs.length≤sizeLine∧E (.ref C) none H1
def Throws (X:Cx) (E:XK):Prop:=∀ (pins:List (Addr × Obj)) (σ:L2.St) (H:Hp) (s:Shared) (e C:Addr) (args:List Value) (h':Heap),Inv X pins σ H s→Heap.MadeExcOf s.heap h' e (.ref C) args→E (.ref C) none H→X.xe (.ref e) { s with heap:=h' }
theorem wH {X:Cx} {E:XK} {x:Str} {C:Addr} {e:Expr} {es:List Expr} {np cpos pos:Pos} {t:TA} (O:Own X.K X.mg x C) (hc:X.calm=true) (hx:Throws X E) (hg:Gl X x) (ha:PA X (e :: es) t)
  (hd:(x == ("__debug__":Str))=false:=by decide) (he:starEach (e :: es) X.env=(false,eval e X.env) :: starEach es X.env:=by rfl) (hpl:(backTo cpos (starEach es X.env)).any (·.1)=false:=by rfl) :
  PS X (.Raise (some (.Call (.Name x np) (e :: es) [] cpos)) none pos) (Eb C E t):=by
 intro pins s σ H D I h
 obtain ⟨bm,N,nm,qn,bs,hd',sn,sub,ab,col,dd,k0,k1,k2,k3,k5,mN,hC,hN,hni,T⟩:=AZ I.mod.kin O.own
 have hplain:(backTo cpos (starEach (e :: es) X.env)).any (·.1)=false:=by
  rw [he]
  show (false || (backTo cpos (starEach es X.env)).any (·.1))=false
  rw [hpl];rfl
 refine wpAny_Raise_call_subT (C:=C) (N:=N) (nm:=nm) (q:=qn) (bs:=bs) (hdct:=hd') (sn:=sn) (sub:=sub) (ab:=ab) (col:=col) (dd:=dd) (k0:=k0) (k1:=k1) (k2:=k2) (k3:=k3) (k5:=k5) PySem.F.excBase_ValueError (T.hasType (by decide +kernel)) (I.ok.hd hc) hplain hni ?_
 refine jb I hg O.mg ⟨rfl,?_⟩ hd
 have key:=bE (ha cpos pins s σ H _ I h) (Q':=fun us s1=>us.length≤sizeLine∧s1.heap.get? C=some (excClassObj nm qn C N bs bm hd' sn sub ab col dd k0 k1 k2 k3 k5 "ValueError.__new__")∧s1.heap.Ns N mN∧OwnTail s1.heap G9 bm ∧
  ∀ h' e,Heap.MadeExcOf s1.heap h' e (.ref C) us→X.xe (.ref e) { s1 with heap:=h' }) fun us s1 ⟨vs,H1,I1,r,z,q⟩ =>
   ⟨by rw [← r.length];exact z,I1.bk _ _ hC,hN.keeps I1.bk,T.keeps I1.bk,fun h' ea hm=>hx pins σ H1 s1 ea C us h' I1 hm q⟩
 rw [he] at key ⊢
 exact PySem.Calls.evalArgs_plain (bE key fun _ _ z=>⟨rfl,z⟩)
section
variable {P:Program} {w:World} {K:PySem.W.Frag} {mg:Str→Option Value} {base:Heap} {N:List Str} {qual:Str} {scope:Scope} {f:Addr} {cd:Value} {A:Around} {outer:List Env} {s:Shared} {H:Hp} {E:XK}
abbrev w_ (P:Program) (w:World) (K:PySem.W.Frag) (mg:Str→Option Value) (base:Heap) (N:List Str) (qual:Str) (scope:Scope) (f:Addr) (cd:Value) (A:Around) (outer:List Env) (s:Shared) (H:Hp) (E:XK):Cx:=n_ (cS P w) P w K mg base N qual scope f cd A outer s H E
theorem bW:Throws (w_ P w K mg base N qual scope f cd A outer s H E) E:=fun pins σ H1 s1 e C args h' I hm q =>
 leave_new (X:=w_ P w K mg base N qual scope f cd A outer s H E) I rfl rfl rfl hm q
theorem rY:Passes (cS P w) (w_ P w K mg base N qual scope f cd A outer s H E) E:=fun pins σ H1 s1 e s' I h =>
 vW (X:=w_ P w K mg base N qual scope f cd A outer s H E) I rfl rfl rfl h
theorem cy:PassesOwn (model P w) (w_ P w K mg base N qual scope f cd A outer s H E).A (w_ P w K mg base N qual scope f cd A outer s H E).env (w_ P w K mg base N qual scope f cd A outer s H E).xe:=PassesOwn.leaving
theorem Js {x qual:Str} {st:Stmt} {f:Addr} {fd:FuncData} {N ps:List Str} {k:Nat} {sp:Sp} (F:bV K x qual st f fd) (S:aw N ps (aj st)) (len:∀ vs H Q E,sp vs H Q E→vs.length=ps.length)
  (hbody:∀ (cdv:Value) (A:Around) (outer:List Env) (s:Shared) (H:Hp) (vs:List V) (Q:VK) (E:XK),ba k (A.deeper (envOfC qual (aj st) s.heap.objs.size f cdv))→sp vs H Q E →
   ∃ t,QB (w_ P w K mg base N qual (aj st) f cdv A outer s H E) (bC st) t∧t { nx:=fun _ H'=>Q .non H',rt:=Q } (start N vs) H):aI P w K mg base (cS P w) (k + 1) f fd ps sp:=by
 obtain ⟨oc,od,kV,doc,pm,an,cdv,ct,osl,rfl,lk,hcd⟩:=F.ex
 refine xF lk hcd S len fun A outer s H vs Q E hr hsp=>?_
 obtain ⟨t,h,q⟩:=hbody cdv A outer s H vs Q E hr hsp
 exact ⟨t,h.run,q⟩
end
def CH (P:Program) (w:World) (K:PySem.W.Frag) (mg:Str→Option Value) (base:Heap) (k:Nat) (x:Str) (ps:List Str) (sp:Sp):Prop :=
 ∃ f fd,aI P w K mg base (cS P w) k f fd ps sp∧Binds K fd ps []∧PySem.W.keepIn K (.ref f)=true∧mg x=some (.ref f)
theorem A2 {X:Cx} {k k':Nat} {x:Str} {ps:List Str} {sp:Sp} {p pos:Pos} {e:Expr} {es:List Expr} {t:TA} {E:XK} (C:CH X.prog X.w X.K X.mg X.base k x ps sp) (hx:Passes (cS X.prog X.w) X E) (hr:ba k' X.A) (hk:k≤k') (hg:Gl X x) (ha:PA X (e :: es) t)
  (hdb:(x == ("__debug__":Str))=false:=by decide) (he:starEach (e :: es) X.env=(false,eval e X.env) :: starEach es X.env:=by rfl) (hpl:(backTo pos (starEach es X.env)).any (·.1)=false:=by rfl) :
  PE X (.Call (.Name x p) (e :: es) [] pos) (mz sp [] E t):=by
 obtain ⟨f,fd,F,b,kp,m⟩:=C
 exact uw F (hr.mono hk) hg m kp b .nil hx ha hdb he hpl
theorem Def.G_ {P:Program} {w:World} {K:PySem.W.Frag} {mg:Str→Option Value} {base:Heap} {x:Str} {st:Stmt} {k:Nat} {ps:List Str} {sp:Sp} (D:Def K mg x st)
  (h:∀ f fd,bV K x x st f fd→aI P w K mg base (cS P w) k f fd ps sp)
  (hb:∀ (kV doc pm:Value) (an:Option Addr) (cdv ct:Value) (us:List Value),us.length=ps.length→bindArgs (PySem.W.fnOf x x (cb st) (bC st) (aj st) .none kV doc pm an cdv ct) ⟨us,[]⟩=pure (ps.zip us)) :
  CH P w K mg base k x ps sp:=by
 obtain ⟨f,fd,F,m⟩:=D
 exact ⟨f,fd,h f fd F,F.binds hb,F.kp,m⟩
section
variable {X:Cx} {pins pn:List (Addr × Obj)} {σ:L2.St} {H H':Hp} {s:Shared}
end
end Ov
namespace Ov
open PySem PySem.Spec PyProof.Rows
open L2 (V HO Hp Inv Cx St VK TE TT TA TS Ends Loc Gl RelV Vals eA b7 mz upd E0 ba XK Passes)
section
variable {X:Cx} {e:Expr} {es:List Expr} {t:TA} {x:Str} {np cpos pos p:Pos}
end
open PySem.W in
def zO (K:Frag) (D:Addr):Bool:=(clsIn K D).isSome && findIn K (.ref D) "__getattribute__" == some (some (.builtin "BaseException.__getattribute__")) && findIn K (.ref D) "__getattr__" == some none &&
 findIn K (.ref D) "__class__" == some (some (.builtin "object.__class__")) && specialIn K (.builtin "object.__class__") "__get__" == some (some (.builtin "getset_descriptor.__get__")) && takesIn K (.builtin "object.__class__") == some true &&
 mroIn K D (.type "object") == some true && subIn K (.ref D) (.type "BaseException") == some true
theorem BX {K:PySem.W.Frag} {D:Addr} (h:zO K D=true):zZ K D:=by
 simp only [zO,Bool.and_eq_true,beq_iff_eq] at h
 obtain ⟨⟨⟨⟨⟨⟨⟨a,b⟩,c⟩,d⟩,e⟩,f⟩,g⟩,i⟩:=h
 exact ⟨a,b,c,d,e,f,g,i⟩
open L2 (tI zF rG tK wQ tC CA lO)
theorem _root_.L2.ba.aT {k:Nat} {A:Around} (r:ba k A):A.units + 61 < cLine:=by have:=r.un;omega
end Ov
namespace Ov
open PySem PySem.Spec PyProof.Rows L2
def c_ (P:Addr) (h:Heap):Prop:=∃ ps:Array Value,h.get? P=some { cls:=.none,data:=.fields ps }∧TriplesOk ps.toList
def m8 (K:PySem.W.Frag) (c P:Addr):Prop:=c≠P∧∃ (o:Obj) (vs:Array Value) (file:Str) (tf:Tok) (flags:Int) (tg:Tok) (inF:Bool) (text:Int) (tt:Tok),
 K.lookup c=some o∧o.cls=.type "code"∧o.data=.fields vs∧vs[11]?=some (.ref P)∧vs.getD 18 .none=.str file tf∧vs.getD 7 .none=.int flags tg∧vs.getD 9 .none=.bool inF∧vs.getD 10 .none=.int text tt
def BMain (mg:Str→Option Value) (h:Heap):Prop:=∃ bm ob,mg "__builtins__"=some (.ref bm)∧bm≠builtinsNs∧h.get? bm=some ob∧ob.cls=.type "module"∧ob.dict=some builtinsNs∧ob.data=.plain
theorem m8.at {K:PySem.W.Frag} {h:Heap} {c P:Addr} {ps:Array Value} (Z:m8 K c P) (X:K.In h) (hp:h.get? P=some { cls:=.none,data:=.fields ps }) (tr:TriplesOk ps.toList):h.IsCode c P ps∧h.TableAt c P ps:=by
 obtain ⟨ne,o,vs,file,tf,flags,tg,inF,text,tt,lk,hc,hd,h11,h18,h7,h9,h10⟩:=Z
 have e11:vs.getD 11 .none=.ref P:=by
  rw [Array.getD_eq_getD_getElem?,h11];rfl
 exact ⟨⟨o,vs,file,tf,flags,tg,inF,text,tt,_,X _ _ lk,hd,e11,h18,h7,h9,h10,hp,rfl,tr,ne⟩,⟨o,vs,X _ _ lk,hc,hd,h11⟩,hp⟩
section
variable {X:Cx} {pins:List (Addr × Obj)} {σ:L2.St} {H:Hp} {s:Shared} {c P:Addr}
theorem As {s':Shared} (I:Inv X pins σ H s) (hP:H P=some (.ext (c_ P))) (os:s'.os=s.os) (bare:AllBare s'.gens) (k:∀ b o,b≠P→s.heap.get? b=some o→s'.heap.get? b=some o) (t:c_ P s'.heap):Inv X pins σ H s':=by
 have nP:∀ b,H b=none→b≠P:=fun b n z=>by rw [z,hP] at n;cases n
 have hok:iQ X.prog X.w H s'.heap:=fun b u e=>by
  by_cases hb:b=P
  ·subst hb
   rw [hP] at e;cases e
   obtain ⟨ps,hp,_⟩:=id t
   exact ⟨t,⟨_,hp⟩,((I.hok b _ hP)).2.2⟩
  ·refine (I.hok b u e).ig (fun d v hd q=>k d v ?_ q) (fun _ q=>q) fun _ _ q=>q
   rcases hd with rfl | hd
   ·exact hb
   ·intro z
    rw [z,hP] at hd;cases hd
 have un:Un (gh X.stack) [] H H s.heap s'.heap:=⟨fun b o e n _ _=>k b o (nP b n) e,fun b o e n _ _=>⟨o.slots,k b o (nP b n) e⟩,fun _ _ _ n _=>n,fun b o e _=>by
  by_cases hb:b=P
  ·subst hb
   obtain ⟨ps,hp,_⟩:=t
   exact ⟨_,hp⟩
  ·exact ⟨o,k b o hb e⟩,fun _ _ q=>q,fun _ _ _ q=>q,fun _ ps q=>⟨#[],by rw [q];simp⟩⟩
 exact I.EN os un hok bare fun b z=>absurd z (by simp)
theorem xK {M:Model} {A:Around} {E:Value→Shared→Prop} {env:Env} {pos:Pos} {q:Str} {sc:Scope} {Q:Value→Shared→Prop} {s:Shared} (hc:env.code=.ref c) (Z:m8 X.K c P) (kin:X.K.In s.heap) (t:c_ P s.heap)
  (h:∀ code h' tk,(∀ b o,b≠P→s.heap.get? b=some o→h'.get? b=some o)→s.heap.objs.size≤h'.objs.size→c_ P h'→Q code { s with heap:=h',toks:=tk }):wpAny M A (genexprCode env pos q sc) Q E s:=by
 obtain ⟨ps,hp,tr⟩:=t
 obtain ⟨ic,ta⟩:=Z.at kin hp tr
 cases hf:codeAmong pos ps.toList with
 | some c'=>exact wpAny_genexprCode_hit hc ic hf (h c' s.heap s.toks (fun _ _ _ e=>e) (Nat.le_refl _) ⟨ps,hp,tr⟩)
 | none =>
  refine wpAny_genexprCodeX hc ic ta hf fun c' h' tk ext l1 l2 ic' _ ta' _=>h _ h' tk (fun b o nb e=>ext b o nb e) (Nat.le_of_lt (Nat.lt_of_le_of_lt l1 l2)) ⟨_,ta'.2,?_⟩
  obtain ⟨_,_,_,_,_,_,_,_,_,_,_,_,_,_,_,_,_,hop,hpd,tr',_⟩:=ic'
  exact tr'
theorem xk {α:Type} (B:List α) (q:α→Bool):((List.range B.length).all fun j=>(B[j]?).elim true q)=B.all q:=by
 rw [Bool.eq_iff_iff,List.all_eq_true,List.all_eq_true]
 refine ⟨fun h b hb=>?_,fun h j hj=>?_⟩
 ·obtain ⟨j,hj,rfl⟩:=List.getElem_of_mem hb
  have:=h j (List.mem_range.mpr hj)
  rwa [List.getElem?_eq_getElem hj] at this
 ·have hj:=List.mem_range.mp hj
  rw [List.getElem?_eq_getElem hj]
  exact h _ (List.getElem_mem hj)
def c7 (tx:Str) (ch:Nat):Bool:=!(Builtin.Str.occurrences tx ⟨#[ch]⟩ 0 tx.length 1).isEmpty
def zC (P:Addr) (tx:Str) (ti:TE):TE:=fun σ H Q=>ti σ H fun v H1=>∃ y:Str,v=.str y∧H1 P=some (.ext (c_ P))∧Q (.bl (y.cps.toList.all (c7 tx))) H1
theorem yZ {prog:Program} {w:World} {env:Env} {scope:Scope} {x g:Str} {tx y:Str} {tt:Tok} {C:Addr} {code:Value} {fp wr:List Addr} {href:Heap} {D U:Nat} {p1 p2 p3:Pos} {mg:Str→Option Value} (sck:scope.kind=.function) (hx:scope.names.lookup x=some .local) (hg:scope.names.lookup g=some .globalImplicit)
  (ns:href.Ns env.globals mg) (hm:mg g=some (.str tx tt)) (h1:env.globals∈fp) (h2:env.globals ∉ wr) (hmk:behindInMarks .In (.Name g p2)=false) (hdx:(x == ("__debug__":Str))=false) (hdg:(g == ("__debug__":Str))=false) :
  QuietGenD prog w (genEnv scope [] C code builtinsNs env) x [] (.Compare (.Name x p1) [.In] [.Name g p2] p3) fp wr (SignAt y) (fun _=>true) (fun i v=>∃ ch,y.cps[i]?=some ch∧v=.bool (c7 tx ch)) href D U where
 tests:=fun A' E' i v s₂ m₂ _ _ _ _ _ _ _=>wpAny_pure ⟨rfl,_,_,rfl,fun _ _ e=>e⟩
 elt:=fun A' E' i v s₂ m₂ _ _ _ hP _ hn hmx hk=>by
  obtain ⟨ch,u,hch,rfl⟩:=hP
  refine wpAny_Compare1 (wpAny_Name (wpAny_loadName_local (show (genEnv scope [] C code builtinsNs env).scope.kind=.function from sck) (show (genEnv scope [] C code builtinsNs env).kindOf x=some .local from hx) hn hmx ?_) hdx) hmk
  refine Calls.Name_function_global (show (genEnv scope [] C code builtinsNs env).scope.kind=.function from sck) (show (genEnv scope [] C code builtinsNs env).kindOf g=some .globalImplicit from hg) (Calls.loadGlobal_global (ns.at' fun o e=>hk _ h1 h2 o e) hm ?_) hdg
  exact in_str ⟨⟨ch,hch,rfl⟩,_,_,rfl,fun _ _ e=>e⟩
theorem wC {x g:Str} {p px p1 p2 p3 gpos cpos:Pos} {iter:Expr} {ti:TE} {scope:Scope} {tx:Str} {tt:Tok} (hcalm:X.calm=true) (Bm:BMain X.mg X.base) (hcode:X.env.code=.ref c) (Z:m8 X.K c P) (hdep:X.A.depth < recursionLimit)
  (hgl:Gl X "all") (hma:X.mg "all"=none) (hsg:X.mg g=some (.str tx tt)) (hi:PE X iter ti) (sck:scope.kind=.function) (hco:scope.isCoroutine=false) (hclos:closureFor scope X.env=pure []) (hcell:∀ y∈scope.names,y.2≠.cell)
  (h0:scope.names.lookup (".0":Str)=some NameKind.local) (hx:scope.names.lookup x=some .local) (hsc:scope.names.lookup g=some .globalImplicit) (hmk:behindInMarks .In (.Name g p2)=false) (hs:∀ x,genFold iter X.env x=pure x)
  (hst:starEach [.GeneratorExp (.Compare (.Name x p1) [.In] [.Name g p2] p3) [⟨.Name x px,iter,[],0⟩] scope gpos] X.env=[(false,eval (.GeneratorExp (.Compare (.Name x p1) [.In] [.Name g p2] p3) [⟨.Name x px,iter,[],0⟩] scope gpos) X.env)])
  (hdx:(x == ("__debug__":Str))=false) (hdg:(g == ("__debug__":Str))=false) :
  PE X (.Call (.Name "all" p) [.GeneratorExp (.Compare (.Name x p1) [.In] [.Name g p2] p3) [⟨.Name x px,iter,[],0⟩] scope gpos] [] cpos) (zC P tx ti):=by
 intro pins s σ H Q I h
 refine wpAny_Call_Name_kw (jP I hgl hma PyProof.Rows.Boot.«all» ?_)
 refine PyProof.Rows.callWith_builtin1 ?_ hst rfl
 rw [hst]
 show wpAny _ _ (spliced ((false,eval (.GeneratorExp (.Compare (.Name x p1) [.In] [.Name g p2] p3) [⟨.Name x px,iter,[],0⟩] scope gpos) X.env) :: [])) _ _ s
 refine Calls.spliced_cons ?_
 refine wpAny_GeneratorExp_walksQD (I.ok.hd hcalm) hco hclos hcell h0 hx sck hdep ?_ hs
 refine bE (hi pins s σ H _ I h) fun xv s1 ⟨v,H1,I1,r1,y,ev,hP,q⟩=>?_
 subst ev
 obtain ⟨ty,rfl⟩:=r1
 have t1:c_ P s1.heap:=(I1.hok P _ hP).1
 have ltP:P < s1.heap.objs.size:=I1.hok.lt hP
 refine wpAny_pyIter_str fun o St W st0=>?_
 have k1:∀ b ob,s1.heap.get? b=some ob→(s1.heap.push o).get? b=some ob:=fun b ob e=>Heap.get?_push_of_some _ e
 refine ⟨I1.nolimit.keeps k1,?_⟩
 have t2:c_ P (s1.heap.push o):=let ⟨ps,hp,tr⟩:=t1;⟨ps,k1 _ _ hp,tr⟩
 refine xK (X:=X) (s:={ s1 with heap:=s1.heap.push o }) hcode Z (I1.i_.keeps k1) t2 fun code h' tk k sz t'=>?_
 have kk:∀ b ob,b≠P→s1.heap.get? b=some ob→h'.get? b=some ob:=fun b ob nb e=>k b ob nb (k1 b ob e)
 have nsP:∀ (b:Addr) (m:Str→Option Value),s1.heap.Ns b m→b≠P:=fun b m hn z=>by
  obtain ⟨ob,es,ep,ho,hd,_⟩:=hn
  obtain ⟨ps,hp,_⟩:=t1
  rw [z,hp] at ho;cases ho;cases hd
 have nsK:∀ (b:Addr) (m:Str→Option Value),s1.heap.Ns b m→h'.Ns b m:=fun b m hn=>hn.at' fun ob e=>kk b ob (nsP b m hn) e
 have nsG:s1.heap.Ns X.env.globals X.mg:=by rw [I1.ok.glob];exact I1.mod.glob.keeps I1.bk
 have nl:h'.NoLimit:=let ⟨mc,h1,h2⟩:=I1.nolimit;⟨mc,nsK _ _ h1,h2⟩
 have ltC:cStatics < s1.heap.objs.size:=let ⟨mc,h1,_⟩:=I1.nolimit;h1.lt
 have szI:s1.heap.objs.size < h'.objs.size:=Nat.lt_of_lt_of_le (by rw [Heap.size_push];exact Nat.lt_succ_self _) sz
 obtain ⟨bm,ob,b1,b2,b3,b4,b5,b6⟩:=Bm
 have b3':=I1.bk _ _ b3
 have nbm:bm≠P:=fun z=>by
  obtain ⟨ps,hp,_⟩:=t1
  rw [z,hp] at b3'
  rw [← Option.some.inj b3'] at b6;cases b6
 refine wpAny_builtinsFor (nsK _ _ nsG) b1 b2 (kk _ _ nbm b3') b4 b5 b6 ?_
 refine ⟨s1.heap.objs.size,[s1.heap.objs.size],[s1.heap.objs.size],y.cps.size,SignAt y,St,fun _=>true,fun i v=>∃ ch,y.cps[i]?=some ch∧v=.bool (c7 tx ch),rfl,W,
  (W X.A (I.ok.hd hcalm)).frame _ _ _ st0 fun b hb o' e=>k b o' (by rw [List.mem_singleton.mp hb];exact Nat.ne_of_gt ltP) e,fun b hb=>by rw [List.mem_singleton.mp hb];exact szI,nl,
  fun hb=>Nat.ne_of_lt ltC (List.mem_singleton.mp hb),fun href kh=>yZ sck hx hsc ((nsK _ _ nsG).keeps kh) hsg (List.mem_range.mpr (nsK _ _ nsG).lt) (fun hb=>Nat.ne_of_lt nsG.lt (List.mem_singleton.mp hb)) hmk hdx hdg,fun a h5 tk5 gs hgs ltA szA k5 WS G=>?_⟩
 refine Calls.spliced_nil ?_
 have pall:passing (fun _=>true) y.cps.size 0=List.range y.cps.size:=by simp [passing]
 have WS:=WS.in4_1
 refine call_all_walkS (WS.self 0 _ _ _ G ⟨a,_,_,_,_,_,_,(fun j=>(y.cps.toList[j]?).elim true (c7 tx)),rfl,WS,G,fun j v s Q E hv hQ=>?_,fun s' hm=>?_⟩)
 ·obtain ⟨i,hi,ch,hch,rfl⟩:=hv
  rw [pall] at hi
  have hji:i=j:=by
   obtain ⟨hj,e⟩:=List.getElem?_eq_some_iff.mp hi
   simpa using e.symm
  subst hji
  have e:y.cps.toList[i]?=some ch:=by simpa using hch
  simp only [e,Option.elim] at hQ
  exact wpAny_truthy_bool hQ
 ·have nwr:∀ b,b < s1.heap.objs.size→b ∉ h'.objs.size :: [s1.heap.objs.size]:=fun b hb hm=>by
   rcases List.mem_cons.mp hm with z | z
   ·omega
   ·have:=List.mem_singleton.mp z
    omega
  refine ⟨.bl _,H1,As I1 hP hm.os ((I1.bare.push hgs).movedS hm) (fun b o' nb e=>hm.heap b o' (nwr b (Heap.lt_size e)) (k5 b o' (kk b o' nb e))) ?_,rfl,?_⟩
  ·obtain ⟨ps,hp,tr⟩:=t'
   exact ⟨ps,hm.heap P _ (nwr P ltP) (k5 P _ hp),tr⟩
  ·rw [pall]
   have e:y.cps.size=y.cps.toList.length:=by simp
   have z:=xk y.cps.toList (c7 tx)
   rw [List.length_range,e,z]
   exact q
end
section
variable {X:Cx} {c P:Addr}
theorem yK {x g:Str} {p px p1 p2 p3 gpos cpos:Pos} {iter:Expr} {ti:TE} {scope:Scope} {tx:Str} {tt:Tok} {k:Nat} (hcalm:X.calm=true) (Bm:BMain X.mg X.base) (hcode:X.env.code=.ref c) (Z:m8 X.K c P) (hr:ba k X.A)
  (hgl:Gl X "all") (hma:X.mg "all"=none) (hsg:X.mg g=some (.str tx tt)) (hi:QE X iter ti) (sck:scope.kind=.function:=by rfl) (hco:scope.isCoroutine=false:=by rfl) (hclos:closureFor scope X.env=pure []:=by rfl) (hcell:∀ y∈scope.names,y.2≠.cell:=by decide)
  (h0:scope.names.lookup (".0":Str)=some NameKind.local:=by rfl) (hx:scope.names.lookup x=some .local:=by rfl) (hsc:scope.names.lookup g=some .globalImplicit:=by rfl) (hmk:behindInMarks .In (.Name g p2)=false:=by with_unfolding_all rfl) (hs:∀ x,genFold iter X.env x=pure x:=by intro _;rfl)
  (hst:starEach [.GeneratorExp (.Compare (.Name x p1) [.In] [.Name g p2] p3) [⟨.Name x px,iter,[],0⟩] scope gpos] X.env=[(false,eval (.GeneratorExp (.Compare (.Name x p1) [.In] [.Name g p2] p3) [⟨.Name x px,iter,[],0⟩] scope gpos) X.env)]:=by rfl)
  (hdx:(x == ("__debug__":Str))=false:=by decide) (hdg:(g == ("__debug__":Str))=false:=by decide) :
  QE X (.Call (.Name "all" p) [.GeneratorExp (.Compare (.Name x p1) [.In] [.Name g p2] p3) [⟨.Name x px,iter,[],0⟩] scope gpos] [] cpos) (zC P tx ti) :=
 ⟨wC hcalm Bm hcode Z (by have:=hr.dp;omega) hgl hma hsg hi.run sck hco hclos hcell h0 hx hsc hmk hs hst hdx hdg⟩
end
structure zV (K:PySem.W.Frag) (mg:Str→Option Value) (x:Str) (st:Stmt) (P:Addr) (f:Addr) (fd:FuncData) (c:Addr):Prop where
 fn:bV K x x st f fd
 mg:mg x=some (.ref f)
 code:fd.code=.ref c
 tab:m8 K c P
 out:K.lookup P=none
def rO (K:PySem.W.Frag) (mg:Str→Option Value) (x:Str) (st:Stmt) (P:Addr):Prop:=∃ f fd c,zV K mg x st P f fd c
section
variable {P:Program} {w:World} {K:PySem.W.Frag} {mg:Str→Option Value} {base:Heap}
theorem Jr {x:Str} {st:Stmt} {T f c:Addr} {fd:FuncData} {N ps:List Str} {k:Nat} {sp:Sp} (F:zV K mg x st T f fd c) (S:aw N ps (aj st)) (len:∀ vs H Q E,sp vs H Q E→vs.length=ps.length)
  (hbody:∀ (A:Around) (outer:List Env) (s:Shared) (H:Hp) (vs:List V) (Q:VK) (E:XK),ba k (A.deeper (envOfC x (aj st) s.heap.objs.size f (.ref c)))→sp vs H Q E →
   ∃ t,QB (n_ lD P w K mg base N x (aj st) f (.ref c) A outer s H E).yp (bC st) t∧t { nx:=fun _ H'=>Q .non H',rt:=Q } (start N vs) H):aI P w K mg base lD (k + 1) f fd ps sp:=by
 obtain ⟨oc,od,kV,doc,pm,an,cdv,ct,osl,rfl,lk,hcd⟩:=F.fn.ex
 obtain rfl:cdv=.ref c:=F.code
 refine xF lk hcd S len fun A outer s H vs Q E hr hsp=>?_
 obtain ⟨t,h,q⟩:=hbody A outer s H vs Q E hr hsp
 exact ⟨t,h.run.yp,q⟩
theorem rO.xr {x:Str} {st:Stmt} {T:Addr} {k:Nat} {ps:List Str} {sp:Sp} (D:rO K mg x st T)
  (h:∀ f fd c,zV K mg x st T f fd c→aI P w K mg base lD k f fd ps sp)
  (hb:∀ (kV doc pm:Value) (an:Option Addr) (cdv ct:Value) (us:List Value),us.length=ps.length→bindArgs (PySem.W.fnOf x x (cb st) (bC st) (aj st) .none kV doc pm an cdv ct) ⟨us,[]⟩=pure (ps.zip us)) :
  mE P w K mg base k x ps sp:=by
 obtain ⟨f,fd,c,F⟩:=D
 exact ⟨f,fd,h f fd c F,F.fn.binds hb,F.fn.kp,F.mg⟩
end
def codeB (vs:Array Value):Bool:=(match vs.getD 18 .none with | .str _ _=>true | _=>false) && (match vs.getD 7 .none with | .int _ _=>true | _=>false) && (match vs.getD 9 .none with | .bool _=>true | _=>false) && (match vs.getD 10 .none with | .int _ _=>true | _=>false)
theorem Ae {K:PySem.W.Frag} {h:Heap} {mg:Str→Option Value} {x:Str} {st:Stmt} (X:K.In h) (G:h.Ns mainGlobals mg) {f c T:Addr} {od an od':Option Addr} {sl sl':Array (Option Value)} {vs:Array Value} {oc kV dc pm ct:Value}
  (a:PySem.W.nsIn K mainGlobals x=some (some (.ref f))) (l:K.lookup f=some ⟨oc,od,.func (PySem.W.fnOf x x (cb st) (bC st) (aj st) .none kV dc pm an (.ref c) ct),sl⟩) (cc:PySem.W.codeIn K (.ref c) x=true) (k:PySem.W.keepIn K (.ref f)=true)
  (t:K.lookup c=some ⟨.type "code",od',.fields vs,sl'⟩) (p:vs[11]?=some (.ref T)) (b:codeB vs=true) (ne:c≠T) (out:K.lookup T=none):rO K mg x st T:=by
 refine ⟨f,_,c,sd l cc k,PySem.W.mg_of X G a,rfl,⟨ne,?_⟩,out⟩
 simp only [codeB,Bool.and_eq_true] at b
 obtain ⟨⟨⟨b1,b2⟩,b3⟩,b4⟩:=b
 cases e1:vs.getD 18 .none with
 | str file tf =>
  cases e2:vs.getD 7 .none with
  | int fl tg =>
   cases e3:vs.getD 9 .none with
   | bool inF =>
    cases e4:vs.getD 10 .none with
    | int text tt=>exact ⟨_,vs,file,tf,fl,tg,inF,text,tt,t,rfl,rfl,p,e1,e2,e3,e4⟩
    | _=>rw [e4] at b4;cases b4
   | _=>rw [e3] at b3;cases b3
  | _=>rw [e2] at b2;cases b2
 | _=>rw [e1] at b1;cases b1
def EC (K:PySem.W.Frag) (mg:Str→Option Value) (names:List Str) (T:Addr):Prop:=∃ x∈names,∃ st,rO K mg x st T
theorem vU {P:Program} {w:World} {K:PySem.W.Frag} {mg mb:Str→Option Value} {k:Nat} {fa a:Addr} {fd:FuncData} {x:Str} {sp:Sp} {s₁:Shared} {vs:List Value} {ns:List Int} {tabs:List Addr}
  (KX:K.In s₁.heap) (hns:s₁.heap.Ns mainGlobals mg) (hb:s₁.heap.Ns builtinsNs mb) (hbb:∀ x:Str,x≠"__name__"→mb x=bootBuiltins x) (hlim:s₁.heap.NoLimit) (hg:s₁.gens=#[])
  (ha:s₁.heap.get? a=some { cls:=.type "list",data:=.seq vs.toArray }) (hi:IntsAre vs ns) (hl:ns.length≤sizeLine) (hr:ba k callerA) (hbm:BMain mg s₁.heap)
  (htab:∀ T∈tabs,isCodeTable s₁.heap T∧s₁.heap.get? T=some { cls:=.none,data:=.fields #[] }∧K.lookup T=none)
  (F:∀ base:Heap,K.In base→base.Ns mainGlobals mg→BMain mg base→aI P w K mg base lD k fa fd [x] sp) (hbind:∀ (s:Shared) (u:Value),BindsTo s fd ⟨[u],[]⟩ [(x,u)])
  (hsp:∀ H:Hp,(∀ T∈tabs,H T=some (.ext (c_ T)))→cM K H a (ns.map V.int)→(∀ b,H b≠none→b=a∨b∈tabs)→(∀ u,H a=some u→∃ o xs,u=.mF o (.lst xs))→sp [.ref a] H (fun v H'=>v=.bl true∧aY H H') fun _ _ _=>False) :
  codeAny (model P w) callerA (.call (.ref fa) ⟨[.ref a],[]⟩) (fun r s'=>r=.ok (.ret (.bool true))∧OldK s₁.heap s'.heap∧s'.os=s₁.os∧AllBare s'.gens) s₁:=by
 have rv:=nX hi
 have lenV:=hi.length
 have naT:∀ T∈tabs,T≠a:=fun T hT z=>by
  have:=(htab T hT).2.1
  rw [z,ha] at this
  have h1:=congrArg Obj.cls (Option.some.inj this)
  cases h1
 have core:∀ H:Hp,(∀ T∈tabs,H T=some (.ext (c_ T)))→cM K H a (ns.map V.int)→iQ P w H s₁.heap→(∀ b,H b≠none→b=a∨b∈tabs)→(∀ u,H a=some u→K.lookup a=none∧∃ o xs,u=.mF o (.lst xs)) →
   codeAny (model P w) callerA (.call (.ref fa) ⟨[.ref a],[]⟩) (fun r s'=>r=.ok (.ret (.bool true))∧OldK s₁.heap s'.heap∧s'.os=s₁.os∧AllBare s'.gens) s₁:=by
  intro H hT hS hok hA hK
  have base_of:∀ {b:Addr} {o:Obj},s₁.heap.get? b=some o→H b=none→(mM s₁.heap H).get? b=some o:=fun e n=>xP e n
  have no:∀ {b:Addr} {o:Obj},s₁.heap.get? b=some o→(∀ xs n,o.data≠.seq xs n)→(∀ xs,o.data≠.fields xs)→H b=none:=fun {b o} e d1 d2=>by
   cases q:H b with
   | none=>rfl
   | some u =>
    rcases hA b (by rw [q];simp) with rfl | hb
    ·rw [ha] at e;cases e;exact absurd rfl (d1 _ _)
    ·rw [(htab b hb).2.1] at e;cases e;exact absurd rfl (d2 _)
  have nsK:∀ {b:Addr} {m:Str→Option Value},s₁.heap.Ns b m→(mM s₁.heap H).Ns b m:=fun {b m} ⟨o,es,ep,e,d,r⟩=>⟨o,es,ep,base_of e (no e (fun _ _ z=>by rw [d] at z;cases z) fun _ z=>by rw [d] at z;cases z),d,r⟩
  have hKb:K.In (mM s₁.heap H):=fun b o e=>base_of (KX b o e) (by
   cases q:H b with
   | none=>rfl
   | some u =>
    rcases hA b (by rw [q];simp) with rfl | hb
    ·have:=(hK u q).1
     exact absurd (this.symm.trans e) (fun z=>nomatch z)
    ·have:=(htab b hb).2.2
     exact absurd (this.symm.trans e) (fun z=>nomatch z))
  have hM:Mod K mg (mM s₁.heap H):=⟨hKb,nsK hns,⟨mb,nsK hb,hbb⟩,let ⟨mc,h1,h2⟩:=hlim;⟨mc,nsK h1,h2⟩⟩
  have hbm':BMain mg (mM s₁.heap H):=by
   obtain ⟨bm,ob,b1,b2,b3,b4,b5,b6⟩:=hbm
   exact ⟨bm,ob,b1,b2,base_of b3 (no b3 (fun _ _ z=>by rw [b6] at z;cases z) fun _ z=>by rw [b6] at z;cases z),b4,b5,b6⟩
  have e0:mI P w K mg (mM s₁.heap H) callerA [] s₁ H:=⟨rfl,hM,fun b o e=>AN e,Nat.le_of_eq (vO _ _),trivial,fun b hb=>absurd (show b∈([]:List Addr) from hb) (by simp),hok,.of_eq hg⟩
  refine codeAny_mono ((F _ hKb (nsK hns) hbm').run callerA [] s₁ H ⟨[.ref a],[]⟩ [.ref a] [.ref a] _ _ hr e0 (hbind s₁ (.ref a)) (.cons rfl .nil) (hsp H hT hS hA fun u z=>(hK u z).2)) fun r s' h=>?_
  cases r with
  | error e=>exact False.elim h
  | ok fl =>
   cases fl with
   | next=>exact False.elim h
   | brk=>exact False.elim h
   | cont=>exact False.elim h
   | ret u =>
    obtain ⟨v,H',os,bare,un,hok',r',rfl,same⟩:=h
    obtain rfl:u=Value.bool true:=r'
    refine ⟨rfl,⟨fun b o e=>?_,fun b o e=>?_⟩,os,bare⟩
    ·cases q:H b with
     | none=>exact .inl (un.keep b o e q (by intro z;exact absurd (show b∈([]:List Addr) from z) (by simp)) (by simp))
     | some u =>
      have q':=same b u q
      rcases hA b (by rw [q];simp) with rfl | hb'
      ·obtain ⟨_,ob,xs,rfl⟩:=hK u q
       obtain ⟨e1,_⟩:=hok _ _ q
       obtain ⟨e2,_⟩:=hok' _ _ q'
       rw [e] at e1;cases e1
       exact .inl e2
      ·have hz:=hT b hb'
       rw [q] at hz;cases hz
       obtain ⟨⟨ps,hp,_⟩,_⟩:=hok' _ _ q'
       obtain ⟨t1,t2,_⟩:=htab b hb'
       rw [t2] at e;cases e
       exact .inr (.inl ⟨t1,rfl,#[],ps,rfl,by rw [hp];simp⟩)
    ·exact un.there b o e (by simp)
 have hTt:∀ T∈tabs,∀ H:Hp,b_ P w H s₁.heap T (.ext (c_ T)):=fun T hT H=>by
  have:=(htab T hT).2.1
  exact ⟨⟨#[],this,trivial⟩,⟨_,this⟩,fun h1 h2 ⟨ps,hp,tr⟩ kk=>⟨ps,kk _ hp,tr⟩⟩
 cases hk:K.lookup a with
 | some o =>
  have e:=KX a o hk
  rw [ha] at e
  cases e
  refine core (fun b=>if b∈tabs then some (.ext (c_ b)) else none) (fun T hT=>if_pos hT) (.inr ⟨_,vs.toArray,_,hk,rfl,rfl,rfl,by rw [List.size_toArray,lenV];exact hl,by simpa using rv⟩) (fun b u z=>?_) (fun b z=>?_) fun u z=>?_
  ·by_cases hb:b∈tabs
   ·have z':=(if_pos hb).symm.trans z
    cases z'
    exact hTt b hb _
   ·have z':=(if_neg hb).symm.trans z
    cases z'
  ·by_cases hb:b∈tabs
   ·exact .inr hb
   ·exact absurd (if_neg hb) z
  ·have hb:a ∉ tabs:=fun hb=>naT a hb rfl
   have z':=(if_neg hb).symm.trans z
   cases z'
 | none =>
  refine core (fun b=>if b=a then some (.mF { cls:=.type "list",data:=.seq vs.toArray } (.lst (ns.map V.int))) else if b∈tabs then some (.ext (c_ b)) else none) (fun T hT=>?_) (.inl (.inr ⟨{ cls:=.type "list",data:=.seq vs.toArray },if_pos rfl⟩)) (fun b u z=>?_) (fun b z=>?_) fun u z=>?_
  ·show (if T=a then _ else _)=_
   rw [if_neg (naT T hT),if_pos hT]
  ·by_cases hb:b=a
   ·have z':=(if_pos hb).symm.trans z
    cases z'
    subst hb
    exact ⟨ha,by rw [List.length_map];exact hl,vs,_,rv,ha⟩
   ·have z:=(if_neg hb).symm.trans z
    by_cases hb:b∈tabs
    ·have z':=(if_pos hb).symm.trans z
     cases z'
     exact hTt b hb _
    ·have z':=(if_neg hb).symm.trans z
     cases z'
  ·by_cases hb:b=a
   ·exact .inl hb
   ·by_cases hb':b∈tabs
    ·exact .inr hb'
    ·exact absurd ((if_neg hb).trans (if_neg hb')) z
  ·have z':=(if_pos rfl).symm.trans z
   cases z'
   exact ⟨hk,_,_,rfl⟩
theorem Ec {p:Program} {loose:List Str} {mean:ExcName→Option Value} {mg mb:Str→Option Value} {h:Heap} {K:PySem.W.Frag} {x:Str} {st:Stmt} {T:Addr} (Tp:Top p loose mean mg mb h) (KX:K.In h) (hx:∃ d∈recsOf p,d.name=x) (D:rO K mg x st T) :
  isCodeTable h T∧h.get? T=some { cls:=.none,data:=.fields #[] }∧K.lookup T=none:=by
 obtain ⟨f,fd,c,F⟩:=D
 obtain ⟨d,hd,rfl⟩:=hx
 obtain ⟨a',o',fd',c',P',h1,h2,h3,h4,h5,h6⟩:=Tp.tab d hd
 rw [F.mg] at h1;cases h1
 obtain ⟨oc,od,kV,doc,pm,an,cdv,ct,osl,rfl,lk,_⟩:=F.fn.ex
 have:=KX _ _ lk
 rw [h2] at this;cases this
 have e3:fd'=_:=(Data.func.inj h3).symm
 subst e3
 have e4:=F.code.symm.trans h4
 cases e4
 obtain ⟨_,oo,vs,_,_,_,_,_,_,_,lk',_,hd',h11,_⟩:=F.tab
 obtain ⟨⟨o2,vs2,g1,g2,g3,g4⟩,g5⟩:=id h6
 rw [KX _ _ lk'] at g1;cases g1
 rw [hd'] at g3;cases g3
 rw [h11] at g4;cases g4
 exact ⟨h6.isCodeTable,g5,F.out⟩
theorem zN {l:PySem.W.OpenLaw} {n k:Nat} {q:Program} {loose:List Str} {XP:(Str→Option Value)→Heap→Prop} {YP:World→Heap→Prop} {d:DefRec} {K:Params→PySem.W.Frag} {sp:List Addr→PySem.W.Frag→Sp} {x:Str} (names:List Str)
  (hn:l.most=some n) (hn2:n≤sizeLine) (hdf:d.params.defaults=[]) (hr:ba k callerA) (hY:∀ (w:World) (h:Heap),YP w h→(K w.params).In h) (hnm:∀ x∈names,∃ d∈recsOf q,d.name=x)
  (F:∀ (w:World) (mg:Str→Option Value) (fa:Addr) (h:Heap),(K w.params).In h→h.Ns mainGlobals mg→mg d.name=some (.ref fa) →
   ∃ (fd:FuncData) (tabs:List Addr),(∀ (s:Shared) (u:Value),BindsTo s fd ⟨[u],[]⟩ [(x,u)])∧(∀ T∈tabs,EC (K w.params) mg names T) ∧
    ∀ base:Heap,(K w.params).In base→base.Ns mainGlobals mg→BMain mg base→aI l.prog w (K w.params) mg base lD k fa fd [x] (sp tabs (K w.params)))
  (hsp:∀ (tabs:List Addr) (K:PySem.W.Frag) (H:Hp) (a:Addr) (ns:List Int),ns.length≤n→(∀ T∈tabs,H T=some (.ext (c_ T)))→cM K H a (ns.map V.int)→(∀ b,H b≠none→b=a∨b∈tabs)→(∀ u,H a=some u→∃ o xs,u=.mF o (.lst xs))→sp tabs K [.ref a] H (fun v H'=>v=.bl true∧aY H H') fun _ _ _=>False) :
  PySem.W.WalkO q loose XP YP l.row.toRowW d [] (fun f vs=>PySem.call f vs):=by
 refine Att.pY hn hdf fun w s₀ s₁ mg mb fa o pm cd doc a vs ns G Y ho hd hcd hmg hobj hints hlen hg=>?_
 have KX:=hY w _ Y
 obtain ⟨fd,tabs,hb,ht,hF⟩:=F w mg fa _ KX G.T.g hmg
 refine vU KX G.T.g G.T.b G.T.builtins G.T.nolimit hg hobj hints (Nat.le_trans hlen hn2) hr G.T.bmain (fun T hT=>?_) hF hb (fun H hT hS hA hK=>hsp tabs _ H a ns hlen hT hS hA hK)
 obtain ⟨x,hx,st,D⟩:=ht T hT
 exact Ec G.T KX (hnm x hx) D
def xW (s:Str):Value→Bool
 | .str y _=>y == s
 | _=>false
def xU (i:Int):Value→Bool
 | .int j _=>j == i
 | _=>false
theorem vH {K:PySem.W.Frag} {h:Heap} {mg:Str→Option Value} {x s:Str} {u:Value} (X:K.In h) (G:h.Ns mainGlobals mg) (e:PySem.W.nsIn K mainGlobals x=some (some u)) (hu:xW s u=true):∃ t,mg x=some (.str s t):=by
 cases u with
 | str y t =>
  have:y=s:=by simpa [xW] using hu
  subst this
  exact ⟨t,PySem.W.mg_of X G e⟩
 | _=>cases hu
theorem const_int {K:PySem.W.Frag} {h:Heap} {mg:Str→Option Value} {x:Str} {i:Int} {u:Value} (X:K.In h) (G:h.Ns mainGlobals mg) (e:PySem.W.nsIn K mainGlobals x=some (some u)) (hu:xU i u=true):∃ t,mg x=some (.int i t):=by
 cases u with
 | int y t =>
  have:y=i:=by simpa [xU] using hu
  subst this
  exact ⟨t,PySem.W.mg_of X G e⟩
 | _=>cases hu
section
variable {X:Cx} {tg:Expr}
end
section
variable {prog:Program} {w:World} {A:Around} {R:Result→Shared→Prop} {s:Shared}
theorem sx {elt iter cnd:Expr} {x:Str} {px:Pos} {sc:Scope} {pos:Pos} {it acc:Value} {env:Env} (I:Nat→Shared→Prop)
  (turn:∀ n s,I n s→wpAny (model prog w) A (pyNext it) (fun r s₁=>match r with
   | none=>R (.ok .next) s₁
   | some v=>wpAny (model prog w) A (letOwnedTupleGo (.Name x px) it v) (fun _ s₂=>wpAny (model prog w) A (assign (.Name x px) env v) (fun _ s₃=>wpAny (model prog w) A (isTrue cnd env (eval cnd env)) (fun ok s₃=>if ok=true then wpAny (model prog w) A (eval elt env) (fun y s₄ =>
     wpAny (model prog w) A (call (.builtin "list.append") [acc,y]) (fun _ s₅=>∃ m,m < n∧I m s₅) (fun _ _=>False) s₄) (fun _ _=>False) s₃ else ∃ m,m < n∧I m s₃) (fun _ _=>False) s₃) (fun _ _=>False) s₂) (fun _ _=>False) s₁) (fun _ _=>False) s)
  (n:Nat) (h:I n s):codeAny (model prog w) A (.compLoop (.ListComp elt [⟨.Name x px,iter,[cnd],0⟩] sc pos) 0 it acc env) R s:=by
 refine codeAny_loop rfl I (fun n s hI=>?_) n h
 show wpAny _ _ ((compTurn (.ListComp elt [⟨.Name x px,iter,[cnd],0⟩] sc pos) 0 it acc env).onRaise (fun x=>do noteFrame x env;theTreesLotGoes x)) _ _ s
 refine wpAny_noted ?_
 rw [compTurn_list]
 have no:∀ (e:Value) (s':Shared),False→notedBy (model prog w) A env (fun e s'=>R (.error e) s') e s':=fun _ _ z=>z.elim
 refine wpAny_bind (wpAny_standAt (wpAny_bind (wpAny_mono (turn n s hI) (fun r s₁ h₁=>?_) no)))
 cases r with
 | none=>exact wpAny_pure h₁
 | some v =>
  refine wpAny_bind (wpAny_mono h₁ (fun _ s₂ h₂=>?_) no)
  refine wpAny_bind (wpAny_mono h₂ (fun _ s₃ h₃=>wpAny_bind (wpAny_mono (wpAny_tests_one h₃) (fun ok s₃' h₃'=>?_) no)) no)
  cases ok with
  | false=>exact wpAny_pure ⟨rfl,h₃'⟩
  | true =>
   exact wpAny_bind (wpAny_bind (wpAny_mono h₃' (fun y s₄ h₄=>wpAny_bind (wpAny_mono h₄ (fun _ s₅ h₅=>wpAny_pure (wpAny_pure ⟨rfl,h₅⟩)) no)) no))
end
def D' (wi:TI) (ks:List (Str × Nat)) (tc:TT) (te:TE):TE:=fun σ H Q=>wi σ H fun J H1=>∀ D,H1 D=none→∃ W:Nat→Nat→Hp→Prop,(∃ m,W 0 m (upd H1 D (.lst []))) ∧
 ∀ i m H2,W i m H2→(J.stop i H2∧Q (.ref D) H2)∨(J.go i H2∧∀ v H3,J.yld i H2 v H3→tc (some v :: cn ks σ) H3 fun b H4=>if b=true then te (some v :: cn ks σ) H4 fun y H5=>∃ ys,H5 D=some (.lst ys)∧ys.length < sizeLine∧∃ m',m' < m∧W (i + 1) m' (upd H5 D (.lst (ys ++ [y]))) else ∃ m',m' < m∧W (i + 1) m' H4)
section
variable {X:Cx}
theorem wL {elt iter cnd:Expr} {x:Str} {px:Pos} {sc:Scope} {pos:Pos} {te:TE} {tc:TT} {ks:List (Str × Nat)} {cl:List (Str × Addr)} {pins:List (Addr × Obj)} {σ:L2.St} {H:Hp} {s:Shared} {it:Addr} {fp:List Addr} {tn:Nat→Heap→Prop} {J:It} {Q:VK}
  {RR:Value→Addr→Result→Shared→Prop} {E:Value→Shared→Prop}
  (hc:X.calm=true) (ok:b9 sc X.env.scope X.N x ks) (h1:∀ y c,cl.lookup y=some c→X.env.cells.lookup y=some c) (h2:∀ y∈sc.names,y.2=.free→∃ c,cl.lookup y.1=some c)
  (he:∀ cl C s₀ H₀ fp pins,PE (dR X sc cl C x ks s₀ H₀ fp pins) elt te) (hcn:∀ cl C s₀ H₀ fp pins,PT (dR X sc cl C x ks s₀ H₀ fp pins) cnd tc)
  (I:Inv X pins σ H s) (T:Turn X.prog X.w X.K (.Name x px) J fp it tn) (st:tn 0 s.heap) (f:∀ b∈fp,f9 X pins H b)
  (hw:∀ D,H D=none→∃ W:Nat→Nat→Hp→Prop,(∃ m,W 0 m (upd H D (.lst [])))∧∀ i m H2,W i m H2→(J.stop i H2∧Q (.ref D) H2) ∨
   (J.go i H2∧∀ v H3,J.yld i H2 v H3→tc (some v :: cn ks σ) H3 fun b H4=>if b=true then te (some v :: cn ks σ) H4 fun y H5=>∃ ys,H5 D=some (.lst ys)∧ys.length < sizeLine∧∃ m',m' < m∧W (i + 1) m' (upd H5 D (.lst (ys ++ [y]))) else ∃ m',m' < m∧W (i + 1) m' H4))
  (hR:∀ (D C:Addr) (s':Shared) (H':Hp) (m:Str→Option Value),Inv X pins σ H' s'→Q (.ref D) H'→s'.heap.Ns C m→H' C=none→C≠X.env.locals→X.s₀.heap.objs.size≤C→(∀ y c,X.env.cells.lookup y=some c→c≠C)→(∀ p∈X.pn ++ pins,p.1≠C)→RR (.ref D) C (.ok .next) s') :
  wpAny (model X.prog X.w) X.A (newList []) (fun acc s₃=>wpAny (model X.prog X.w) X.A (newFunctionEnv sc X.env.globals cl [] X.env.qual none .none (some X.env)) (fun cenv s₄ =>
   codeAny (model X.prog X.w) X.A (.compStart (.ListComp elt [⟨.Name x px,iter,[cnd],0⟩] sc pos) 0 (.ref it) acc { cenv with scope:=relabel sc X.env }) (RR acc cenv.locals) s₄) E s₃) E s:=by
 have okk:=ok
 obtain ⟨kd,nc,lx,ll,fr,kk,nd⟩:=okk
 have hD0:H s.heap.objs.size=none:=I.hok.fresh (Nat.le_refl _)
 obtain ⟨W,⟨m0,w0⟩,turn⟩:=hw s.heap.objs.size hD0
 refine wpAny_newObj_type ?_
 have I3:Inv X pins σ (upd H s.heap.objs.size (.lst [])) { s with heap:=s.heap.push { cls:=.type "list",dict:=none,data:=.seq ([]:List Value).toArray } } :=
  I.laid (t':=s.toks) (fun b u e=>Heap.get?_push_of_some _ e) (Nat.le_refl _) (show b_ X.prog X.w _ _ _ (.lst []) from ⟨Nat.zero_le _,[],0,.nil,Heap.get?_push_size _ rfl⟩)
 have st3:tn 0 (s.heap.push { cls:=.type "list",dict:=none,data:=.seq ([]:List Value).toArray }):=T.keep 0 _ _ st fun b hb o e=>Heap.get?_push_of_some _ e
 generalize hD:s.heap.objs.size=D at *
 generalize hH:upd H D (.lst [])=H3 at *
 generalize hs3:({ s with heap:=s.heap.push { cls:=.type "list",dict:=none,data:=.seq ([]:List Value).toArray } }:Shared)=s3 at *
 have e3:s.heap.push { cls:=.type "list",dict:=none,data:=.seq ([]:List Value).toArray }=s3.heap:=by rw [← hs3]
 rw [e3] at st3
 have fD:∀ b∈fp,b≠D:=fun b hb z=>by
  obtain ⟨o,ho,_⟩:=T.obj 0 _ st b hb
  have:=Heap.lt_size ho
  rw [z,← hD] at this
  exact Nat.lt_irrefl _ this
 have f3:∀ b∈fp,f9 X pins H3 b:=fun b hb=>⟨by rw [← hH,aG (fD b hb)];exact (f b hb).1,(f b hb).2⟩
 have g3:∀ b∈fp,∃ o,s3.heap.get? b=some o:=fun b hb=>by
  obtain ⟨o,ho,_⟩:=T.obj 0 _ st3 b hb
  exact ⟨o,ho⟩
 refine wpAny_newFunctionEnv nc (by intro y hy;simp at hy) (fun h₁ hns hsb=>?_) kd
 have kp:∀ b o,s3.heap.get? b=some o→h₁.get? b=some o:=fun b o e=>hsb.extBut b o (Nat.ne_of_lt (Heap.lt_size e)) (Heap.get?_push_of_some _ e)
 have J0:=lT (fp:=fp) (cl:=cl) (t':=s3.toks + ([]:List (Str × Value)).length) I3 ok h1 h2 (fun b hb=>⟨f3 b hb,g3 b hb⟩) hns kp
 have st4:tn 0 h₁:=T.keep 0 _ _ st3 fun b hb o e=>kp b o e
 have ltC:∀ b o,s3.heap.get? b=some o→b≠s3.heap.objs.size:=fun b o e=>Nat.ne_of_lt (Heap.lt_size e)
 have cC:∀ y c,X.env.cells.lookup y=some c→c≠s3.heap.objs.size:=fun y c e=>by
  obtain ⟨v,o,ho,_⟩:=I3.cell y c e
  exact ltC c o ho
 have pC:∀ p∈X.pn ++ pins,p.1≠s3.heap.objs.size:=fun p hp=>ltC _ _ (I3.pin p hp).1
 have lC:s3.heap.objs.size≠X.env.locals:=Nat.ne_of_gt I3.lt
 have fX:∀ {H':Hp},(∀ b∈fp,H' b=none)→∀ b∈fp,f9 (dR X sc cl s3.heap.objs.size x ks s3 H3 fp pins) [] H' b:=fun hn b hb=>by
  obtain ⟨o,ho⟩:=g3 b hb
  obtain ⟨_,q1,q2,q3,q4,q5⟩:=f b hb
  refine ⟨hn b hb,ltC b o ho,fun z=>?_,.inl hb,fun y c e=>q4 y c (h1 y c e),fun p hp=>q5 p (by simpa [dR] using hp)⟩
  rcases List.mem_cons.mp (I3.iO b z) with e | e
  ·exact q1 e
  ·exact q2 e
 have back:∀ {o:Option V} {H':Hp} {s':Shared},Inv (dR X sc cl s3.heap.objs.size x ks s3 H3 fp pins) [] (o :: cn ks σ) H' s'→Inv X pins σ H' s':=fun {o H' s'} J=>by
  obtain ⟨hh,g,d,t,os'⟩:=s'
  obtain rfl:os'=s3.os:=J.os
  exact I3.call (h':=hh) (g':=g) (d':=d) (t':=t) (ch:=fp) J.base J.hok J.bare fun b hb=>⟨(f b hb).2.2.2.1,(f b hb).2.1,(f b hb).2.2.2.2.1,(f b hb).2.2.2.2.2⟩
 have lookX:(relabel sc X.env).names.lookup x=some .local:=lookup_relabel_local lx
 have loop:∀ s',(∃ (i:Nat) (o:Option V) (H':Hp),Inv (dR X sc cl s3.heap.objs.size x ks s3 H3 fp pins) [] (o :: cn ks σ) H' s'∧tn i s'.heap∧(∀ b∈fp,H' b=none)∧W i m0 H') →
   codeAny (model X.prog X.w) X.A (.compLoop (.ListComp elt [⟨.Name x px,iter,[cnd],0⟩] sc pos) 0 (.ref it) (.ref D) (compEnvC sc cl s3.heap.objs.size X.env)) (RR (.ref D) s3.heap.objs.size) s':=by
  intro s' hs'
  refine sx (fun n s'=>∃ (i:Nat) (o:Option V) (H':Hp),Inv (dR X sc cl s3.heap.objs.size x ks s3 H3 fp pins) [] (o :: cn ks σ) H' s'∧tn i s'.heap∧(∀ b∈fp,H' b=none)∧W i n H') ?_ m0 hs'
  rintro n s5 ⟨i,o,H5,J5,t5,n5,w5⟩
  rcases turn i n H5 w5 with ⟨stop,hq⟩ | ⟨go,step⟩
  ·refine bE (T.done (dR X sc cl s3.heap.objs.size x ks s3 H3 fp pins) rfl rfl rfl hc i [] s5 _ H5 _ J5 (fX n5) t5 stop) fun r s6 ⟨hr,J6⟩=>?_
   subst hr
   obtain ⟨m,hm,_⟩:=J6.loc
   exact hR D _ s6 H5 m (back J6) hq hm J6.free lC I3.sz cC pC
  ·refine bE (T.item (dR X sc cl s3.heap.objs.size x ks s3 H3 fp pins) rfl rfl rfl hc i [] s5 _ H5 _ J5 (fX n5) t5 go) fun r s6 ⟨u,hr,h6⟩=>?_
   subst hr
   refine bE h6 fun _ s7 ⟨v,H7,J7,r7,y7,t7,n7⟩=>?_
   have J7':=J7.pinned (fX n7) (T.obj _ _ t7)
   refine wpAny_assign_Name (dY (X:=dR X sc cl s3.heap.objs.size x ks s3 H3 fp pins) (i:=0) J7' nd rfl (.inl lookX) r7 (fun s8 J8=>?_) (.inr lookX))
   refine bE (hcn cl s3.heap.objs.size s3 H3 fp pins _ s8 _ H7 _ J8 (step v H7 y7)) fun ok s8' ⟨H8,J8',q8⟩=>?_
   cases ok with
   | false =>
    simp only [Bool.false_eq_true,if_false] at q8 ⊢
    obtain ⟨m',hm,w'⟩:=q8
    refine ⟨m',hm,i + 1,_,_,J8'.dZ,?_,?_,w'⟩
    ·exact T.keep _ _ _ t7 fun b hb o e=>(J8'.pin (b,o) (List.mem_append_right _ (List.mem_append_right _ (bz hb e)))).1
    ·intro b hb
     obtain ⟨o,e,d⟩:=T.obj _ _ t7 b hb
     exact (J8'.pin (b,o) (List.mem_append_right _ (List.mem_append_right _ (bz hb e)))).2.1
   | true =>
    simp only [if_true] at q8 ⊢
    refine bE (he cl s3.heap.objs.size s3 H3 fp pins _ s8' _ H8 _ J8' q8) fun y s9 ⟨vy,H9,J9,r9,ys,hys,hz,m',hm,w'⟩=>?_
    refine bE (er (X:=dR X sc cl s3.heap.objs.size x ks s3 H3 fp pins) _ s9 _ H9 (.ref D) [vy] (.ref D) [y] (fun _ H'=>H'=upd H9 D (.lst (ys ++ [vy]))) J9 rfl (.cons r9 .nil) ⟨D,ys,vy,rfl,rfl,hys,hz,rfl⟩) fun _ s10 ⟨_,H10,J10,_,eH⟩=>?_
    subst eH
    refine ⟨m',hm,i + 1,_,_,J10.dZ,?_,?_,w'⟩
    ·exact T.keep _ _ _ t7 fun b hb o e=>(J10.pin (b,o) (List.mem_append_right _ (List.mem_append_right _ (bz hb e)))).1
    ·intro b hb
     obtain ⟨o,e,d⟩:=T.obj _ _ t7 b hb
     exact (J10.pin (b,o) (List.mem_append_right _ (List.mem_append_right _ (bz hb e)))).2.1
 have l0:=loop _ ⟨0,none,H3,J0,st4,fun b hb=>(f3 b hb).1,w0⟩
 exact codeAny_compStart_list l0 (T.self _ 0 _ _ _ st4 l0)
def Gn (wi:TI) (ks:List (Str × Nat)) (tc:TT) (te:TE) (i:Nat):TS:=fun D σ H=>D' wi ks tc te σ H fun v H1=>D.nx (σ.set i (some v)) H1
theorem yR {elt iter cnd:Expr} {x y:Str} {px py:Pos} {sc:Scope} {pos spos:Pos} {wi:TI} {te:TE} {tc:TT} {i:Nat} (osc:Scope) (N:List Str) (ks:List (Str × Nat)) (hc:X.calm=true) (ho:X.env.scope=osc) (hN:X.N=N) (hnd:X.N.Nodup) (hy:X.N[i]?=some y) (hl:Loc X.env.scope y)
  (hi:PI X (.Name x px) iter wi) (he:∀ cl C s₀ H₀ fp pins,PE (dR X sc cl C x ks s₀ H₀ fp pins) elt te) (hcn:∀ cl C s₀ H₀ fp pins,PT (dR X sc cl C x ks s₀ H₀ fp pins) cnd tc) (ok:b9 sc osc N x ks:=by decide +kernel) (hs:∀ x,foldedSetIterable iter X.env x=pure x:=by intro _;rfl)
  (hsw:swapsWith (.ListComp elt [⟨.Name x px,iter,[cnd],0⟩] sc pos) (some (.Name y py)) spos.line X.env=pure true:=by rfl) (hf:X.fn y=true∨X.env.scope.names.lookup y=some .local:=by first | exact .inl rfl | exact .inr rfl | assumption) :
  PS X (.Assign [.Name y py] (.ListComp elt [⟨.Name x px,iter,[cnd],0⟩] sc pos) spos) (Gn wi ks tc te i):=by
 intro pins s σ H Dn I hw
 obtain ⟨cl,hcl,h1,h2⟩:=fG (jj ok I ho)
 have ok':b9 sc X.env.scope X.N x ks:=by rw [ho,hN];exact ok
 rw [exec_Assign_Name_used _ _ _ _ hsw]
 refine wpAny_bind (wpAny_standAt (wpAny_bind ?_))
 show wpAny _ X.A (do let _ ← comprehension (.ListComp elt [⟨.Name x px,iter,[cnd],0⟩] sc pos) sc X.env _ (newList []) false (eval iter X.env) (some (assign (.Name y py) X.env))) _ _ s
 refine wpAny_bind (wpAny_mono (wpAny_comprehension_free (use:=some (assign (.Name y py) X.env)) (Q:=fun _ s'=>SP X pins Dn .next s') rfl hs hcl ok.1 ok.2.2.2.1
  (bE (hi pins s σ H _ I hw) fun v s1 h3=>bE h3 fun itv s2 h4=>?_)) (fun _ s' hq=>wpAny_pure (wpAny_pure hq)) fun _ _ e=>e)
 obtain ⟨it,fp,tn,J,H2,rfl,I2,T,st2,f2,hR⟩:=h4
 refine wL (Q:=fun v H1=>Dn.nx (σ.set i (some v)) H1) (RR:=fun acc C=>compPost (model X.prog X.w) X.A X.xe (some (assign (.Name y py) X.env)) (fun _ s'=>SP X pins Dn .next s') acc C) hc ok' h1 h2 he hcn I2 T st2 f2 hR ?_
 intro D C s' H' m J' q hn hC cl' cs cc cp
 show wpAny _ X.A (assign (.Name y py) X.env (.ref D)) _ _ _
 refine wpAny_assign_Name (ki J' hnd hy hl (v:=.ref D) rfl (fun s'' J'' ⟨a,hsb,ha⟩=>?_) hf)
 refine ⟨m,hn.sameBut hsb (fun z=>?_),fun h' hsb'=>⟨_,H',?_,q⟩⟩
 ·rcases ha with e | e
  ·exact cl' (z.trans e)
  ·exact cc _ _ e z.symm
 ·exact J''.turned (t':=s''.toks) (it:=C) (fun b o ne e=>hsb'.extBut b o ne e) hC cl' (.inr cs) cc cp
end
end Ov
namespace Ov
open PySem PySem.Spec PyProof.Rows
open L2 (V HO Hp Inv Cx VK XK TE TT TA TS TG lH TI TO ia Ends pU Loc Gl Rd RelV Vals eA rL b7 lE rK nY h_ R2 upd az aG cM fh Sp mD It aY)
inductive PV where
 | non | bl (b:Bool) | int (i:Int) | str (x:Str) | ref (a:Addr) | ty (n:String) | tup (xs:List PV) | fl (xs:List PV)
inductive HQ where
 | lst (xs:List PV) | ins (C:Addr) (fs:List (Str × PV)) | dct (kvs:List (Str × PV)) (ep:Nat) | tab
abbrev Hq:=Addr→Option HQ
def put (J:Hq) (a:Addr) (o:HQ):Hq:=fun b=>if b=a then some o else J b
theorem av {J:Hq} {a:Addr} {o:HQ}:put J a o a=some o:=by unfold put;rw [if_pos rfl]
theorem ar {J:Hq} {a b:Addr} {o:HQ} (h:b≠a):put J a o b=J b:=by unfold put;rw [if_neg h]
theorem dM {J:Hq} {a:Addr} {o u:HQ}:put (put J a o) a u=put J a u:=by
 funext b;unfold put;split <;> rfl
theorem yV {J:Hq} {a b:Addr} {o u:HQ} (h:a≠b):put (put J a o) b u=put (put J b u) a o:=by
 funext c;unfold put
 by_cases h1:c=b <;> by_cases h2:c=a <;> simp [h1,h2]
 ·exact absurd (h2.symm.trans h1) h
 ·intro z;exact absurd z.symm h
 ·intro z;exact absurd z h
theorem sY {J:Hq} {a:Addr} {o:HQ} (h:J a=some o):put J a o=J:=by
 funext b;unfold put
 by_cases e:b=a
 ·subst e;rw [if_pos rfl,h]
 ·rw [if_neg e]
def xf (K:PySem.W.Frag) (J:Hq) (H:Hp) (a:Addr) (vs:List V):Prop:=(J a=none∧Rd H a (.lst vs))∨∃ (o:Obj) (its:Array Value) (n:Nat),K.lookup a=some o∧o.cls=.type "list"∧o.dict=none∧o.data=.seq its n∧its.size≤sizeLine∧Vals vs its.toList
theorem xf.sq {K:PySem.W.Frag} {J:Hq} {H:Hp} {a:Addr} {vs:List V} (h:xf K J H a vs):cM K H a vs:=by
 rcases h with h | h
 ·exact .inl h.2
 ·exact .inr h
section
variable (K:PySem.W.Frag)
mutual
def bI (J:Hq) (H:Hp):PV→V→Prop
 | .non,v=>v=.non
 | .bl b,v=>v=.bl b
 | .int i,v=>v=.int i
 | .str x,v=>v=.str x
 | .ref a,v=>v=.ref a
 | .ty n,v=>v=.ty n
 | .tup xs,v=>∃ a vs,v=.ref a∧fh K H a vs∧aE J H xs vs
 | .fl xs,v=>∃ a vs,v=.ref a∧xf K J H a vs∧aE J H xs vs
def aE (J:Hq) (H:Hp):List PV→List V→Prop
 | [],vs=>vs=[]
 | x :: xs,vs=>∃ v us,vs=v :: us∧bI J H x v∧aE J H xs us
end
def iu {κ:Type} (J:Hq) (H:Hp) (fs:List (κ × PV)) (gs:List (κ × V)):Prop:=fs.map (·.1)=gs.map (·.1)∧aE K J H (fs.map (·.2)) (gs.map (·.2))
def xh (J:Hq) (H:Hp) (a:Addr):HQ→Prop
 | .lst xs=>∃ vs,H a=some (.lst vs)∧aE K J H xs vs
 | .ins C fs=>∃ dx gs,H a=some (.ins C dx gs)∧iu K J H fs gs
 | .dct kvs ep=>∃ gs,H a=some (.dE gs ep)∧iu K J H kvs gs
 | .tab=>H a=some (.ext (c_ a))
def Rep (J:Hq) (H:Hp):Prop:=∀ a o,J a=some o→xh K J H a o
structure Ext (J:Hq) (H:Hp) (J':Hq) (H':Hp):Prop where
 tup:∀ a vs,fh K H a vs→fh K H' a vs
 ll:∀ a o,J a=none→H a=some o→((∃ vs,o=.lst vs)∨∃ ob vs,o=.mF ob (.lst vs))→J' a=none∧H' a=some o
end
section
variable {K:PySem.W.Frag} {J J' J'':Hq} {H H' H'':Hp}
theorem Ext.fl (e:Ext K J H J' H') (a:Addr) (vs:List V) (n:J a=none) (h:Rd H a (.lst vs)):J' a=none∧Rd H' a (.lst vs):=by
 rcases h with h | ⟨o,h⟩
 ·obtain ⟨a,b⟩:=e.ll a _ n h (.inl ⟨_,rfl⟩);exact ⟨a,.inl b⟩
 ·obtain ⟨a,b⟩:=e.ll a _ n h (.inr ⟨_,_,rfl⟩);exact ⟨a,.inr ⟨o,b⟩⟩
theorem Ext.flat (e:Ext K J H J' H') {a:Addr} {vs:List V} (h:xf K J H a vs):xf K J' H' a vs:=by
 rcases h with h | h
 ·exact .inl (e.fl a vs h.1 h.2)
 ·exact .inr h
mutual
theorem Ext.rep (e:Ext K J H J' H'):∀ {x:PV} {v:V},bI K J H x v→bI K J' H' x v
 | .non,_,h=>h
 | .bl _,_,h=>h
 | .int _,_,h=>h
 | .str _,_,h=>h
 | .ref _,_,h=>h
 | .ty _,_,h=>h
 | .tup xs,_,⟨a,vs,e1,h,k⟩=>⟨a,vs,e1,e.tup _ _ h,Ext.gf e k⟩
 | .fl xs,_,⟨a,vs,e1,h,k⟩=>⟨a,vs,e1,e.flat h,Ext.gf e k⟩
theorem Ext.gf (e:Ext K J H J' H'):∀ {xs:List PV} {vs:List V},aE K J H xs vs→aE K J' H' xs vs
 | [],_,h=>h
 | _ :: _,_,⟨v,us,e1,h,k⟩=>⟨v,us,e1,Ext.rep e h,Ext.gf e k⟩
end
theorem Ext.refl:Ext K J H J H:=⟨fun _ _ h=>h,fun _ _ n h _=>⟨n,h⟩⟩
theorem Ext.trans (a:Ext K J H J' H') (b:Ext K J' H' J'' H''):Ext K J H J'' H'' :=
 ⟨fun c vs h=>b.tup c vs (a.tup c vs h),fun c o n h z=>b.ll c o (a.ll c o n h z).1 (a.ll c o n h z).2 z⟩
theorem Ext.qX {κ:Type} (e:Ext K J H J' H') {fs:List (κ × PV)} {gs:List (κ × V)} (h:iu K J H fs gs):iu K J' H' fs gs:=⟨h.1,e.gf h.2⟩
theorem Rd.same {a:Addr} {u:HO} (s:aY H H') (h:Rd H a u):Rd H' a u:=by
 rcases h with h | ⟨o,h⟩
 ·exact .inl (s _ _ h)
 ·exact .inr ⟨o,s _ _ h⟩
theorem Ext.same (s:aY H H'):Ext K J H J H':=⟨fun a vs h=>s.tup h,fun a o n h _=>⟨n,s _ _ h⟩⟩
theorem xh.same (s:aY H H') {a:Addr} {o:HQ} (h:xh K J H a o):xh K J H' a o:=by
 have e:=Ext.same (K:=K) (J:=J) s
 cases o with
 | lst xs=>obtain ⟨vs,h1,h2⟩:=h;exact ⟨vs,s _ _ h1,e.gf h2⟩
 | ins C fs=>obtain ⟨dx,gs,h1,h2⟩:=h;exact ⟨dx,gs,s _ _ h1,e.qX h2⟩
 | dct kvs ep=>obtain ⟨gs,h1,h2⟩:=h;exact ⟨gs,s _ _ h1,e.qX h2⟩
 | tab=>exact s _ _ (show H a=some (.ext (c_ a)) from h)
theorem Rep.same (s:aY H H') (h:Rep K J H):Rep K J H':=fun a o q=>(h a o q).same s
theorem Ext.less (h:∀ a,J' a=J a∨J' a=none):Ext K J H J' H:=⟨fun _ _ h=>h,fun a o n z _=>⟨(h a).elim (fun e=>e.trans n) (fun e=>e),z⟩⟩
theorem Rep.less (h:∀ a,J' a=J a∨J' a=none) (r:Rep K J H):Rep K J' H:=fun a o q=>by
 have e:J a=some o:=by
  rcases h a with e | e
  ·rw [← e];exact q
  ·rw [e] at q;cases q
 have x:=Ext.less (K:=K) (H:=H) h
 have z:=r a o e
 cases o with
 | lst xs=>obtain ⟨vs,h1,h2⟩:=z;exact ⟨vs,h1,x.gf h2⟩
 | ins C fs=>obtain ⟨dx,gs,h1,h2⟩:=z;exact ⟨dx,gs,h1,x.qX h2⟩
 | dct kvs ep=>obtain ⟨gs,h1,h2⟩:=z;exact ⟨gs,h1,x.qX h2⟩
 | tab=>exact z
theorem aE.length:∀ {xs:List PV} {vs:List V},aE K J H xs vs→xs.length=vs.length
 | [],_,h=>by cases h;rfl
 | _ :: xs,_,⟨v,us,e1,_,k⟩=>by subst e1;simp [aE.length k]
theorem aE.get:∀ {xs:List PV} {vs:List V} {i:Nat} {x:PV},aE K J H xs vs→xs[i]?=some x→∃ v,vs[i]?=some v∧bI K J H x v
 | [],_,i,x,h,e=>by simp at e
 | y :: xs,_,0,x,⟨v,us,e1,h,k⟩,e=>by subst e1;simp at e;subst e;exact ⟨v,rfl,h⟩
 | y :: xs,_,i + 1,x,⟨v,us,e1,h,k⟩,e=>by
  subst e1
  obtain ⟨w,h1,h2⟩:=aE.get (i:=i) (x:=x) k (by simpa using e)
  exact ⟨w,by simpa using h1,h2⟩
theorem aE.get':∀ {xs:List PV} {vs:List V} {i:Nat} {v:V},aE K J H xs vs→vs[i]?=some v→∃ x,xs[i]?=some x∧bI K J H x v
 | [],_,i,x,h,e=>by cases h;simp at e
 | y :: xs,_,0,x,⟨v,us,e1,h,k⟩,e=>by subst e1;simp at e;subst e;exact ⟨y,rfl,h⟩
 | y :: xs,_,i + 1,x,⟨v,us,e1,h,k⟩,e=>by
  subst e1
  obtain ⟨w,h1,h2⟩:=aE.get' (i:=i) (v:=x) k (by simpa using e)
  exact ⟨w,by simpa using h1,h2⟩
theorem aE.append:∀ {xs ys:List PV} {vs us:List V},aE K J H xs vs→aE K J H ys us→aE K J H (xs ++ ys) (vs ++ us)
 | [],_,_,_,h,k=>by cases h;exact k
 | x :: xs,ys,_,us,⟨v,ws,e1,h,h'⟩,k=>by subst e1;exact ⟨v,ws ++ us,rfl,h,aE.append h' k⟩
theorem aE.drop:∀ (n:Nat) {xs:List PV} {vs:List V},aE K J H xs vs→aE K J H (xs.drop n) (vs.drop n)
 | 0,_,_,h=>h
 | n + 1,[],_,h=>by cases h;rfl
 | n + 1,x :: xs,_,⟨v,ws,e1,h,h'⟩=>by subst e1;exact aE.drop n h'
theorem aE.take:∀ (n:Nat) {xs:List PV} {vs:List V},aE K J H xs vs→aE K J H (xs.take n) (vs.take n)
 | 0,_,_,h=>rfl
 | n + 1,[],_,h=>by cases h;rfl
 | n + 1,x :: xs,_,⟨v,ws,e1,h,h'⟩=>by subst e1;exact ⟨v,_,rfl,h,aE.take n h'⟩
theorem aE.set {x:PV} {v:V} (r:bI K J H x v):∀ (n:Nat) {xs:List PV} {vs:List V},aE K J H xs vs→aE K J H (xs.set n x) (vs.set n v)
 | n,[],_,h=>by cases h;rfl
 | 0,y :: xs,_,⟨w,ws,e1,h,h'⟩=>by subst e1;exact ⟨v,ws,rfl,r,h'⟩
 | n + 1,y :: xs,_,⟨w,ws,e1,h,h'⟩=>by subst e1;exact ⟨w,_,rfl,h,aE.set r n h'⟩
theorem iu.look {κ:Type} [BEq κ] [LawfulBEq κ] {f:κ}:∀ {fs:List (κ × PV)} {gs:List (κ × V)} {x:PV},iu K J H fs gs→fs.lookup f=some x→∃ v,gs.lookup f=some v∧bI K J H x v
 | [],_,_,_,e=>by cases e
 | (k,y) :: fs,[],x,h,e=>by cases h.1
 | (k,y) :: fs,(k',w) :: gs,x,h,e=>by
  obtain ⟨h1,v,us,h2,h3,h4⟩:=h
  simp only [List.map_cons,List.cons.injEq] at h1 h2
  obtain ⟨rfl,h1⟩:=h1
  obtain ⟨rfl,rfl⟩:=h2
  rw [List.lookup_cons] at e ⊢
  cases hk:f == k with
  | true=>rw [hk] at e;cases e;exact ⟨w,rfl,h3⟩
  | false=>rw [hk] at e;exact iu.look ⟨h1,h4⟩ e
theorem iu.none {κ:Type} [BEq κ] [LawfulBEq κ] {f:κ}:∀ {fs:List (κ × PV)} {gs:List (κ × V)},iu K J H fs gs→fs.lookup f=none→gs.lookup f=none
 | [],[],_,_=>rfl
 | [],_ :: _,h,e=>by cases h.1
 | (k,y) :: fs,[],h,e=>by cases h.1
 | (k,y) :: fs,(k',w) :: gs,h,e=>by
  obtain ⟨h1,v,us,h2,h3,h4⟩:=h
  simp only [List.map_cons,List.cons.injEq] at h1 h2
  obtain ⟨rfl,h1⟩:=h1
  obtain ⟨rfl,rfl⟩:=h2
  rw [List.lookup_cons] at e ⊢
  cases hk:f == k with
  | true=>rw [hk] at e;cases e
  | false=>rw [hk] at e;exact iu.none ⟨h1,h4⟩ e
end
section
variable {K:PySem.W.Frag} {J J':Hq} {H H':Hp} {p:Addr}
theorem AK {a p:Addr} {o:HQ} (r:Rep K J H) (h:J a=some o) (n:H p=none):a≠p:=by
 intro e;subst e
 have:=r _ _ h
 cases o with
 | lst xs=>obtain ⟨vs,h1,_⟩:=this;rw [n] at h1;cases h1
 | ins C fs=>obtain ⟨dx,gs,h1,_⟩:=this;rw [n] at h1;cases h1
 | dct kvs ep=>obtain ⟨gs,h1,_⟩:=this;rw [n] at h1;cases h1
 | tab=>have h1:H a=some (.ext (c_ a)):=this;rw [n] at h1;cases h1
theorem Rep.free (r:Rep K J H) (n:H p=none):J p=none:=by
 cases e:J p with
 | none=>rfl
 | some o=>exact absurd rfl (AK r e n)
theorem Ext.laid {o:HO} {u:HQ} (n:H p=none):Ext K J H (put J p u) (upd H p o):=by
 refine ⟨fun a vs h=>(aY.new n o).tup h,fun a o' z h _=>⟨?_,aY.new n o _ _ h⟩⟩
 have ne:a≠p:=by intro e;subst e;rw [n] at h;cases h
 rw [ar ne];exact z
theorem Rep.wX {J':Hq} {H':Hp} (e:Ext K J H J' H') (r:Rep K J H) (p:Addr) (q:∀ a,a≠p→J' a=J a) (s:∀ a o,a≠p→J a≠none→H a=some o→H' a=some o) (h:∀ u,J' p=some u→xh K J' H' p u):Rep K J' H':=fun a o z=>by
 by_cases ep:a=p
 ·subst ep;exact h o z
 ·rw [q a ep] at z
  have t:=r a o z
  have jn:J a≠none:=by rw [z];exact fun y=>nomatch y
  cases o with
  | lst xs=>obtain ⟨vs,h1,h2⟩:=t;exact ⟨vs,s _ _ ep jn h1,e.gf h2⟩
  | ins C fs=>obtain ⟨dx,gs,h1,h2⟩:=t;exact ⟨dx,gs,s _ _ ep jn h1,e.qX h2⟩
  | dct kvs eq=>obtain ⟨gs,h1,h2⟩:=t;exact ⟨gs,s _ _ ep jn h1,e.qX h2⟩
  | tab=>exact s _ _ ep jn (show H a=some (.ext (c_ a)) from t)
theorem Rep.x9 {xs:List PV} {vs:List V} (r:Rep K J H) (n:H p=none) (h:aE K J H xs vs):Rep K (put J p (.lst xs)) (upd H p (.lst vs)):=by
 have e:=Ext.laid (K:=K) (J:=J) (o:=.lst vs) (u:=.lst xs) n
 refine r.wX e p (fun a ne=>ar ne) (fun a o ne _ z=>by rw [aG ne];exact z) fun u z=>?_
 rw [av] at z;cases z
 exact ⟨vs,az,e.gf h⟩
theorem Ext.wrote {xs ys:List PV} {ws vs:List V} (h:J p=some (.lst xs)) (k:H p=some (.lst ws)):Ext K J H (put J p (.lst ys)) (upd H p (.lst vs)):=by
 have sm:∀ a u,(∀ l,u≠HO.lst l)∨a≠p→Rd H a u→Rd (upd H p (.lst vs)) a u:=fun a u d z=>by
  have ne:a≠p:=by
   rcases d with d | d
   ·intro e;subst e
    rcases z with z | ⟨o,z⟩
    ·rw [k] at z;cases z;exact d _ rfl
    ·rw [k] at z;cases z
   ·exact d
  rcases z with z | ⟨o,z⟩
  ·exact .inl (by rw [aG ne];exact z)
  ·exact .inr ⟨o,by rw [aG ne];exact z⟩
 refine ⟨fun a vs' z=>?_,fun a o z q _=>?_⟩
 ·rcases z with z | z
  ·exact .inl (sm a _ (.inl fun l e=>nomatch e) z)
  ·exact .inr z
 ·have ne:a≠p:=by intro e;subst e;rw [h] at z;cases z
  exact ⟨by rw [ar ne];exact z,by rw [aG ne];exact q⟩
theorem Rep.wrote {xs ys:List PV} {ws vs:List V} (r:Rep K J H) (h:J p=some (.lst xs)) (k:H p=some (.lst ws)) (q:aE K J H ys vs):Rep K (put J p (.lst ys)) (upd H p (.lst vs)):=by
 have e:=Ext.wrote (K:=K) (ys:=ys) (vs:=vs) h k
 refine r.wX e p (fun a ne=>ar ne) (fun a o ne _ z=>by rw [aG ne];exact z) fun u z=>?_
 rw [av] at z;cases z
 exact ⟨vs,az,e.gf q⟩
end
abbrev Sr:=List (Option PV)
abbrev cq:=Sr→Hq→(PV→Hq→Prop)→Prop
abbrev iy:=Sr→Hq→(Bool→Hq→Prop)→Prop
abbrev kQ:=Sr→Hq→(List PV→Hq→Prop)→Prop
structure En where
 nx:Sr→Hq→Prop
 rt:PV→Hq→Prop
 bk:Sr→Hq→Prop:=fun _ _=>False
 ct:Sr→Hq→Prop:=fun _ _=>False
abbrev fq:=En→Sr→Hq→Prop
structure iw (K:PySem.W.Frag) (J:Hq) (H:Hp) (τ:Sr) (σ:L2.St):Prop where
 len:τ.length=σ.length
 get:∀ (i:Nat) (x:PV),τ[i]?=some (some x)→∃ v,σ[i]?=some (some v)∧bI K J H x v
theorem iw.ext {K:PySem.W.Frag} {J J':Hq} {H H':Hp} {τ:Sr} {σ:L2.St} (r:iw K J H τ σ) (e:Ext K J H J' H'):iw K J' H' τ σ :=
 ⟨r.len,fun i x h=>let ⟨v,a,b⟩:=r.get i x h;⟨v,a,e.rep b⟩⟩
theorem iw.set {K:PySem.W.Frag} {J:Hq} {H:Hp} {τ:Sr} {σ:L2.St} (r:iw K J H τ σ) {x:PV} {v:V} (i:Nat) (h:bI K J H x v):iw K J H (τ.set i (some x)) (σ.set i (some v)):=by
 refine ⟨by rw [List.length_set,List.length_set,r.len],fun j y e=>?_⟩
 by_cases hj:i=j
 ·subst hj
  by_cases hl:i < τ.length
  ·rw [List.getElem?_set_self hl] at e
   cases e
   exact ⟨v,List.getElem?_set_self (by rw [← r.len];exact hl),h⟩
  ·rw [List.getElem?_eq_none (by rw [List.length_set];omega)] at e
   cases e
 ·rw [List.getElem?_set_ne hj] at e ⊢
  exact r.get j y e
abbrev G2:=Hq × Hp
structure pQ (K:PySem.W.Frag) (G:G2) (τ:Sr) (J:Hq) (σ:L2.St) (H:Hp):Prop where
 sl:iw K J H τ σ
 hp:Rep K J H
 ext:Ext K G.1 G.2 J H
section
variable (K:PySem.W.Frag) (G:G2)
def LE (t:cq):TE:=fun σ H Q=>∃ τ J Q2,pQ K G τ J σ H∧t τ J Q2∧∀ x J' v H',bI K J' H' x v→Rep K J' H'→Ext K J H J' H'→Q2 x J'→Q v H'
def LT (t:iy):TT:=fun σ H Q=>∃ τ J Q2,pQ K G τ J σ H∧t τ J Q2∧∀ b J' H',Rep K J' H'→Ext K J H J' H'→Q2 b J'→Q b H'
def LA (t:kQ):TA:=fun σ H Q=>∃ τ J Q2,pQ K G τ J σ H∧t τ J Q2∧∀ xs J' vs H',aE K J' H' xs vs→Rep K J' H'→Ext K J H J' H'→Q2 xs J'→Q vs H'
structure Goes (J:Hq) (H:Hp) (D2:En) (D:Ends):Prop where
 nx:∀ τ J' σ H',iw K J' H' τ σ→Rep K J' H'→Ext K J H J' H'→D2.nx τ J'→D.nx σ H'
 rt:∀ x J' v H',bI K J' H' x v→Rep K J' H'→Ext K J H J' H'→D2.rt x J'→D.rt v H'
 bk:∀ τ J' σ H',iw K J' H' τ σ→Rep K J' H'→Ext K J H J' H'→D2.bk τ J'→D.bk σ H'
 ct:∀ τ J' σ H',iw K J' H' τ σ→Rep K J' H'→Ext K J H J' H'→D2.ct τ J'→D.ct σ H'
def LS (t:fq):TS:=fun D σ H=>∃ τ J D2,pQ K G τ J σ H∧t D2 τ J∧Goes K J H D2 D
end
theorem Goes.ext {K:PySem.W.Frag} {J J':Hq} {H H':Hp} {D2:En} {D:Ends} (g:Goes K J H D2 D) (e:Ext K J H J' H'):Goes K J' H' D2 D :=
 ⟨fun τ J1 σ H1 a b c=>g.nx τ J1 σ H1 a b (e.trans c),fun x J1 v H1 a b c=>g.rt x J1 v H1 a b (e.trans c),fun τ J1 σ H1 a b c=>g.bk τ J1 σ H1 a b (e.trans c),fun τ J1 σ H1 a b c=>g.ct τ J1 σ H1 a b (e.trans c)⟩
theorem pQ.go {K:PySem.W.Frag} {G:G2} {τ:Sr} {J J':Hq} {σ:L2.St} {H H':Hp} (a:pQ K G τ J σ H) (r:Rep K J' H') (e:Ext K J H J' H'):pQ K G τ J' σ H':=⟨a.sl.ext e,r,a.ext.trans e⟩
structure RE (X:Cx) (G:G2) (e:Expr) (t:cq):Prop where
 run:L2.PE X e (LE X.K G t)
structure RT (X:Cx) (G:G2) (e:Expr) (t:iy):Prop where
 run:L2.PT X e (LT X.K G t)
structure RW (X:Cx) (G:G2) (e:Expr) (t:iy):Prop where
 run:L2.PW X e (LT X.K G t)
structure RA (X:Cx) (G:G2) (es:List Expr) (t:kQ):Prop where
 run:L2.PA X es (LA X.K G t)
structure RS (X:Cx) (G:G2) (st:Stmt) (t:fq):Prop where
 run:L2.PS X st (LS X.K G t)
structure RB (X:Cx) (G:G2) (st:List Stmt) (t:fq):Prop where
 run:L2.m_ X st (LS X.K G t)
theorem il {X:Cx} {e:Expr} {t t':TE} (h:L2.PE X e t) (k:∀ σ H Q,t' σ H Q→t σ H Q):L2.PE X e t':=fun pins s σ H Q I q=>h pins s σ H Q I (k _ _ _ q)
theorem GR {X:Cx} {e:Expr} {t t':TT} (h:L2.PT X e t) (k:∀ σ H Q,t' σ H Q→t σ H Q):L2.PT X e t':=fun pins s σ H Q I q=>h pins s σ H Q I (k _ _ _ q)
theorem IV {X:Cx} {e:Expr} {t t':TT} (h:L2.PW X e t) (k:∀ σ H Q,t' σ H Q→t σ H Q):L2.PW X e t':=fun wh pins s σ H Q I q=>h wh pins s σ H Q I (k _ _ _ q)
theorem HM {X:Cx} {e:List Expr} {t t':TA} (h:L2.PA X e t) (k:∀ σ H Q,t' σ H Q→t σ H Q):L2.PA X e t':=fun pos pins s σ H Q I q=>h pos pins s σ H Q I (k _ _ _ q)
theorem uz {X:Cx} {e:Stmt} {t t':TS} (h:L2.PS X e t) (k:∀ D σ H,t' D σ H→t D σ H):L2.PS X e t':=fun pins s σ H D I q=>h pins s σ H D I (k _ _ _ q)
theorem HN {X:Cx} {e:List Stmt} {t t':TS} (h:L2.m_ X e t) (k:∀ D σ H,t' D σ H→t D σ H):L2.m_ X e t':=fun pins s σ H D I q=>h pins s σ H D I (k _ _ _ q)
end Ov
namespace Ov
open PySem PySem.Spec PyProof.Rows
open L2 (V HO Hp Inv Cx VK XK TE TT TA TS TG lH TI TO ia Ends pU Loc Gl Rd RelV Vals eA rL b7 lE rK nY h_ R2 upd az aG cM fh Sp mD It aY cx ba Passes kO aA Meth Mk Binds aI bV aw cI eV)
section
variable {X:Cx} {G:G2} {a b c e o:Expr} {es rest:List Expr} {ta tb te tc to:cq} {tA tB':iy} {t:kQ} {pos px p p2 apos cpos:Pos} {x:Str} {i j:Nat}
def eL (i:Nat):cq:=fun τ J Q=>∃ x,τ[i]?=some (some x)∧Q x J
theorem rv (i:Nat) {x:Str} {pos:Pos} (hN:X.N[i]?=some x:=by rfl) (hv:pU X.env.scope x:=by first | exact Or.inl rfl | exact Or.inr (Or.inl rfl) | exact Or.inr (Or.inr rfl)) (hd:(x == ("__debug__":Str))=false:=by decide)
  (hcd:(x == ("__classdict__":Str))=false:=by decide):RE X G (.Name x pos) (eL i) :=
 ⟨il (L2.sR hN hv hd hcd) fun σ H Q ⟨τ,J,Q2,a2,⟨y,ey,q⟩,k⟩=>let ⟨v,e1,r⟩:=a2.sl.get i y ey;⟨v,e1,k y J v H r a2.hp .refl q⟩⟩
def rC (x:PV):cq:=fun _ J Q=>Q x J
theorem ag {i:Int} {j pos}:RE X G (.Constant (.int i) j pos) (rC (.int i)):=⟨il L2.aF fun σ H Q ⟨τ,J,Q2,a2,q,k⟩=>k (.int i) J _ H rfl a2.hp .refl q⟩
theorem f7 {b:Bool} {j pos}:RE X G (.Constant (.bool b) j pos) (rC (.bl b)):=⟨il L2.qO fun σ H Q ⟨τ,J,Q2,a2,q,k⟩=>k (.bl b) J _ H rfl a2.hp .refl q⟩
theorem fi {j pos}:RE X G (.Constant .none j pos) (rC .non):=⟨il L2.sO fun σ H Q ⟨τ,J,Q2,a2,q,k⟩=>k .non J _ H rfl a2.hp .refl q⟩
theorem bD {x:Str} {j pos}:RE X G (.Constant (.str x) j pos) (rC (.str x)):=⟨il L2.jW fun σ H Q ⟨τ,J,Q2,a2,q,k⟩=>k (.str x) J _ H rfl a2.hp .refl q⟩
theorem d7 {v:V} {u:Value} (y:PV) (hg:Gl X x) (hm:X.mg x=some u) (r:RelV v u) (hr:∀ J H,bI X.K J H y v) (hd:(x == ("__debug__":Str))=false:=by decide):RE X G (.Name x pos) (rC y) :=
 ⟨il (L2.kY hg hm r hd) fun σ H Q ⟨τ,J,Q2,a2,q,k⟩=>k y J v H (hr J H) a2.hp .refl q⟩
theorem l_ {n:String} (hg:Gl X x) (hm:X.mg x=none) (hv:bootBuiltins x=some (.type n)) (hn:x≠"__name__":=by decide) (hd:(x == ("__debug__":Str))=false:=by decide):RE X G (.Name x pos) (rC (.ty n)) :=
 ⟨il (L2.oR (v:=.ty n) hg hm hv rfl hn hd) fun σ H Q ⟨τ,J,Q2,a2,q,k⟩=>k (.ty n) J _ H rfl a2.hp .refl q⟩
abbrev iS:=PV→PV→Hq→(PV→Hq→Prop)→Prop
abbrev Ez:=PV→Hq→(PV→Hq→Prop)→Prop
abbrev tN:=List PV→Hq→(PV→Hq→Prop)→Prop
def Kn (K:PySem.W.Frag) (J:Hq) (H:Hp) (Q2:PV→Hq→Prop) (Q:VK):Prop:=∀ z J' u H',bI K J' H' z u→Rep K J' H'→Ext K J H J' H'→Q2 z J'→Q u H'
def LR (K:PySem.W.Frag) (r:R2) (q:iS):Prop:=∀ J H x y v w Q2 Q,bI K J H x v→bI K J H y w→Rep K J H→q x y J Q2→Kn K J H Q2 Q→r v w H Q
def Je (K:PySem.W.Frag) (r:V→Hp→VK→Prop) (q:Ez):Prop:=∀ J H x v Q2 Q,bI K J H x v→Rep K J H→q x J Q2→Kn K J H Q2 Q→r v H Q
def IB (K:PySem.W.Frag) (r:List V→Hp→VK→Prop) (q:tN):Prop:=∀ J H xs vs Q2 Q,aE K J H xs vs→Rep K J H→q xs J Q2→Kn K J H Q2 Q→r vs H Q
def jJ (X:Cx) (f:Value→Value→Sem Value) (q:iS):Prop:=∃ r,eA X f r∧LR X.K r q
def IE (X:Cx) (f:Value→Sem Value) (q:Ez):Prop:=∃ r,rL X f r∧Je X.K r q
def G1 (X:Cx) (q:iS):Prop:=∃ r,lE X r∧LR X.K r q
def CG (X:Cx) (f:Value) (q:tN):Prop:=∃ r,b7 X f r∧IB X.K r q
def j2 (q:iS) (ta tb:cq):cq:=fun τ J Q=>ta τ J fun x J1=>tb τ J1 fun y J2=>q x y J2 Q
def Ja (q:Ez) (ta:cq):cq:=fun τ J Q=>ta τ J fun x J1=>q x J1 Q
theorem kW {r:R2} {q:iS} (lr:LR X.K r q):∀ σ H Q,LE X.K G (j2 q ta tb) σ H Q→L2.zI r (LE X.K G ta) (LE X.K G tb) σ H Q:=fun σ H Q ⟨τ,J,Q2,a2,h,k⟩ =>
 ⟨τ,J,_,a2,h,fun x J1 v H1 rx r1 e1 q1=>⟨τ,J1,_,a2.go r1 e1,q1,fun y J2 w H2 ry r2 e2 q2 =>
  lr J2 H2 x y v w Q2 Q (e2.rep rx) ry r2 q2 fun z J' u H' rz rr ee qq=>k z J' u H' rz rr ((e1.trans e2).trans ee) qq⟩⟩
theorem aH {op:Operator} {q:iS} (ho:jJ X (binaryOp op) q) (ha:RE X G a ta) (hb:RE X G b tb):RE X G (.BinOp a op b pos) (j2 q ta tb):=by
 obtain ⟨r,h,lr⟩:=ho
 exact ⟨il (L2.aW h ha.run hb.run) (kW lr)⟩
theorem qW {op:UnaryOp} {q:Ez} (ho:IE X (unaryOp op) q) (ha:RE X G a ta):RE X G (.UnaryOp op a pos) (Ja q ta):=by
 obtain ⟨r,h,lr⟩:=ho
 exact ⟨il (L2.ux h ha.run) fun σ H Q ⟨τ,J,Q2,a2,h,k⟩=>⟨τ,J,_,a2,h,fun x J1 v H1 rx r1 e1 q1 =>
  lr J1 H1 x v Q2 Q rx r1 q1 fun z J' u H' rz rr ee qq=>k z J' u H' rz rr (e1.trans ee) qq⟩⟩
theorem aq {q:iS} (hr:G1 X q) (ha:RE X G a ta) (hb:RE X G b tb) (hs:cx b):RE X G (.Subscript a b pos) (j2 q ta tb):=by
 obtain ⟨r,h,lr⟩:=hr
 exact ⟨il (L2.bH h ha.run hb.run hs) (kW lr)⟩
theorem cK {op:CmpOp} {q:iS} (ho:jJ X (compareOp op) q) (ha:RE X G a ta) (hb:RE X G b tb) (hm:behindInMarks op b=false):RE X G (.Compare a [op] [b] pos) (j2 q ta tb):=by
 obtain ⟨r,h,lr⟩:=ho
 exact ⟨il (L2.kX h ha.run hb.run hm) (kW lr)⟩
def rB (t:cq):iy:=fun τ J Q=>t τ J fun x J1=>∃ k,x=.bl k∧Q k J1
theorem aD {op:CmpOp} {q:iS} (ho:jJ X (compareOp op) q) (ha:RE X G a ta) (hb:RE X G b tb) (hm:behindInMarks op b=false):RT X G (.Compare a [op] [b] pos) (rB (j2 q ta tb)):=by
 obtain ⟨r,h,lr⟩:=ho
 refine ⟨GR (L2.cA h ha.run hb.run hm) fun σ H Q ⟨τ,J,Q2,a2,h,k⟩=>?_⟩
 refine kW lr σ H _ ⟨τ,J,_,a2,h,fun z J' u H' rz rr ee qq=>?_⟩
 obtain ⟨b,rfl,q⟩:=qq
 exact ⟨b,rz,k b J' H' rr ee q⟩
theorem bM (h:RE X G e te) (he:∀ whole,isTrue e X.env whole=(do let v ← whole;standAt e.pos;holding [v] (truthy v)):=by intro _;rfl):RT X G e (rB te) :=
 ⟨GR (L2.sV h.run he) fun σ H Q ⟨τ,J,Q2,a2,h,k⟩=>⟨τ,J,_,a2,h,fun z J' u H' rz rr ee ⟨b,eb,q⟩=>by subst eb;exact ⟨b,rz,k b J' H' rr ee q⟩⟩⟩
def pO (J:Hq):PV→Option Bool
 | .non=>some false
 | .bl b=>some b
 | .int i=>some (i != 0)
 | .tup xs=>some (!xs.isEmpty)
 | .fl xs=>some (!xs.isEmpty)
 | .ref a=>match J a with
  | some (.lst xs)=>some (!xs.isEmpty)
  | some (.dct kvs _)=>some (!kvs.isEmpty)
  | _=>none
 | _=>none
theorem eX {α β:Type} {xs:List α} {ys:List β} (h:xs.length=ys.length):xs.isEmpty=ys.isEmpty:=by cases xs <;> cases ys <;> simp_all
theorem BS {K:PySem.W.Frag} {J:Hq} {H:Hp} {x:PV} {v:V} {k:Bool} (r:bI K J H x v) (hp:Rep K J H) (h:pO J x=some k):L2.CJ K v H k:=by
 cases x with
 | non=>cases r;cases h;rfl
 | bl b=>cases r;cases h;rfl
 | int i=>cases r;cases h;rfl
 | str s=>cases h
 | ty n=>cases h
 | tup xs=>obtain ⟨a,vs,rfl,h1,h2⟩:=r;cases h;exact .inr (.inl ⟨vs,h1,by rw [eX h2.length]⟩)
 | fl xs=>obtain ⟨a,vs,rfl,h1,h2⟩:=r;cases h;exact .inl ⟨vs,h1.sq,by rw [eX h2.length]⟩
 | ref a =>
  cases r
  unfold pO at h
  dsimp only at h
  cases e:J a with
  | none=>rw [e] at h;cases h
  | some o =>
   rw [e] at h
   have z:=hp a o e
   cases o with
   | lst xs=>obtain ⟨vs,h1,h2⟩:=z;cases h;exact .inl ⟨vs,.inl (.inl h1),by rw [eX h2.length]⟩
   | ins C fs=>cases h
   | tab=>cases h
   | dct kvs ep =>
    obtain ⟨gs,h1,h2⟩:=z;cases h
    refine .inr (.inr ⟨gs,ep,h1,?_⟩)
    have:=congrArg List.length h2.1
    simp only [List.length_map] at this
    rw [eX this]
def F8 (te:cq):iy:=fun τ J Q=>te τ J fun x J1=>∃ k,pO J1 x=some k∧Q k J1
theorem D0 (h:RE X G e te) (he:∀ whole,isTrue e X.env whole=(do let v ← whole;standAt e.pos;holding [v] (truthy v)):=by intro _;rfl):RT X G e (F8 te) :=
 ⟨GR (L2.yS h.run he) fun σ H Q ⟨τ,J,Q2,a2,h,k⟩=>⟨τ,J,_,a2,h,fun z J' u H' rz rr ee ⟨b,eb,q⟩=>⟨b,BS rz rr eb,k b J' H' rr ee q⟩⟩⟩
def DQ (t u:iy):iy:=fun τ J Q=>t τ J fun c J1=>if c=true then u τ J1 Q else Q false J1
def H_ (t u:iy):iy:=fun τ J Q=>t τ J fun c J1=>if c=true then Q true J1 else u τ J1 Q
def Bo (t:iy):iy:=fun τ J Q=>t τ J fun c J1=>Q (!c) J1
theorem c4 (ha:RT X G a tA):RT X G (.UnaryOp .Not a pos) (Bo tA):=⟨GR (L2.sU ha.run) fun σ H Q ⟨τ,J,Q2,a2,h,k⟩=>⟨τ,J,_,a2,h,fun b J' H' rr ee q=>k _ J' H' rr ee q⟩⟩
theorem dk (ha:RT X G a tA):RW X G (.BoolOp .And [a] pos) tA:=⟨L2.k4 ha.run⟩
theorem gF (ha:RT X G a tA):RW X G (.BoolOp .Or [a] pos) tA:=⟨L2.o4 ha.run⟩
theorem xo {σ:L2.St} {H:Hp} {Q:Bool→Hp→Prop}:LT X.K G (DQ tA tB') σ H Q→L2.zD (LT X.K G tA) (LT X.K G tB') σ H Q:=fun ⟨τ,J,Q2,a2,h,k⟩ =>
 ⟨τ,J,_,a2,h,fun b J' H' rr ee q=>by
  cases b with
  | true=>simp only [if_true] at q ⊢;exact ⟨τ,J',Q2,a2.go rr ee,q,fun b J2 H2 r2 e2 q2=>k b J2 H2 r2 (ee.trans e2) q2⟩
  | false=>simp only [Bool.false_eq_true,if_false] at q ⊢;exact k _ J' H' rr ee q⟩
theorem AY {σ:L2.St} {H:Hp} {Q:Bool→Hp→Prop}:LT X.K G (H_ tA tB') σ H Q→L2.Gq (LT X.K G tA) (LT X.K G tB') σ H Q:=fun ⟨τ,J,Q2,a2,h,k⟩ =>
 ⟨τ,J,_,a2,h,fun b J' H' rr ee q=>by
  cases b with
  | false=>simp only [Bool.false_eq_true,if_false] at q ⊢;exact ⟨τ,J',Q2,a2.go rr ee,q,fun b J2 H2 r2 e2 q2=>k b J2 H2 r2 (ee.trans e2) q2⟩
  | true=>simp only [if_true] at q ⊢;exact k _ J' H' rr ee q⟩
theorem d3 (ha:RT X G a tA) (hb:RW X G (.BoolOp .And (b :: rest) pos) tB'):RW X G (.BoolOp .And (a :: b :: rest) pos) (DQ tA tB'):=⟨IV (L2.oZ ha.run hb.run) fun σ H Q h=>xo h⟩
theorem kC (ha:RT X G a tA) (hb:RW X G (.BoolOp .Or (b :: rest) pos) tB'):RW X G (.BoolOp .Or (a :: b :: rest) pos) (H_ tA tB'):=⟨IV (L2.uC ha.run hb.run) fun σ H Q h=>AY h⟩
theorem dm (h:RW X G e tA):RT X G e tA:=⟨h.run.pt⟩
def Cp (ta tb:cq):cq:=fun τ J Q=>ta τ J fun x J1=>∃ c,x=.bl c∧if c=true then tb τ J1 Q else Q (.bl false) J1
def F3 (ta tb:cq):cq:=fun τ J Q=>ta τ J fun x J1=>∃ c,x=.bl c∧if c=true then Q (.bl true) J1 else tb τ J1 Q
def Ct (ta:cq):cq:=fun τ J Q=>ta τ J fun x J1=>∃ c,x=.bl c∧Q (.bl (!c)) J1
theorem o7 {op} (h:RE X G a ta):RE X G (.BoolOp op [a] pos) ta:=⟨L2.sQ h.run⟩
theorem s_ (ha:RE X G a ta) (hb:RE X G (.BoolOp .And (b :: rest) pos) tb):RE X G (.BoolOp .And (a :: b :: rest) pos) (Cp ta tb):=⟨il (L2.sM ha.run hb.run) fun σ H Q ⟨τ,J,Q2,a2,h,k⟩ =>
 ⟨τ,J,_,a2,h,fun x J' v H' rx rr ee ⟨c,ec,q⟩=>by
  subst ec
  refine ⟨c,rx,?_⟩
  cases c with
  | true=>simp only [if_true] at q ⊢;exact ⟨τ,J',Q2,a2.go rr ee,q,fun z J2 u H2 rz r2 e2 q2=>k z J2 u H2 rz r2 (ee.trans e2) q2⟩
  | false=>simp only [Bool.false_eq_true,if_false] at q ⊢;exact k (.bl false) J' _ H' rfl rr ee q⟩⟩
theorem Ga (ha:RE X G a ta) (hb:RE X G (.BoolOp .Or (b :: rest) pos) tb):RE X G (.BoolOp .Or (a :: b :: rest) pos) (F3 ta tb):=⟨il (L2.yO ha.run hb.run) fun σ H Q ⟨τ,J,Q2,a2,h,k⟩ =>
 ⟨τ,J,_,a2,h,fun x J' v H' rx rr ee ⟨c,ec,q⟩=>by
  subst ec
  refine ⟨c,rx,?_⟩
  cases c with
  | false=>simp only [Bool.false_eq_true,if_false] at q ⊢;exact ⟨τ,J',Q2,a2.go rr ee,q,fun z J2 u H2 rz r2 e2 q2=>k z J2 u H2 rz r2 (ee.trans e2) q2⟩
  | true=>simp only [if_true] at q ⊢;exact k (.bl true) J' _ H' rfl rr ee q⟩⟩
theorem DW (ha:RE X G a ta):RE X G (.UnaryOp .Not a pos) (Ct ta):=⟨il (L2.sP ha.run) fun σ H Q ⟨τ,J,Q2,a2,h,k⟩ =>
 ⟨τ,J,_,a2,h,fun x J' v H' rx rr ee ⟨c,ec,q⟩=>by subst ec;exact ⟨c,rx,k (.bl (!c)) J' _ H' rfl rr ee q⟩⟩⟩
def IZ (t:iy) (ta tb:cq):cq:=fun τ J Q=>t τ J fun c J1=>if c=true then ta τ J1 Q else tb τ J1 Q
theorem F' (hc:RT X G c tA) (ha:RE X G a ta) (hb:RE X G b tb):RE X G (.IfExp c a b pos) (IZ tA ta tb):=⟨il (L2.l6 hc.run ha.run hb.run) fun σ H Q ⟨τ,J,Q2,a2,h,k⟩ =>
 ⟨τ,J,_,a2,h,fun c J' H' rr ee q=>by
  cases c with
  | true=>simp only [if_true] at q ⊢;exact ⟨τ,J',Q2,a2.go rr ee,q,fun z J2 u H2 rz r2 e2 q2=>k z J2 u H2 rz r2 (ee.trans e2) q2⟩
  | false=>simp only [Bool.false_eq_true,if_false] at q ⊢;exact ⟨τ,J',Q2,a2.go rr ee,q,fun z J2 u H2 rz r2 e2 q2=>k z J2 u H2 rz r2 (ee.trans e2) q2⟩⟩⟩
def l9:kQ:=fun _ J Q=>Q [] J
def eZ (ta:cq) (tr:kQ):kQ:=fun τ J Q=>ta τ J fun x J1=>tr τ J1 fun xs J2=>Q (x :: xs) J2
theorem ah:RA X G [] l9:=⟨HM L2.a9 fun σ H Q ⟨τ,J,Q2,a2,h,k⟩=>k [] J [] H rfl a2.hp .refl h⟩
theorem af (ha:RE X G e te) (hr:RA X G es t) (hs:starEach (e :: es) X.env=(false,eval e X.env) :: starEach es X.env:=by rfl):RA X G (e :: es) (eZ te t) :=
 ⟨HM (L2.aL ha.run hr.run hs) fun σ H Q ⟨τ,J,Q2,a2,h,k⟩=>⟨τ,J,_,a2,h,fun x J' v H' rx rr ee q=>⟨τ,J',_,a2.go rr ee,q,fun xs J2 vs H2 rs r2 e2 q2=>k (x :: xs) J2 (v :: vs) H2 ⟨v,vs,rfl,e2.rep rx,rs⟩ r2 (ee.trans e2) q2⟩⟩⟩
def vP:V→PV
 | .non=>.non | .bl b=>.bl b | .int i=>.int i | .str x=>.str x | _=>.non
theorem ma {K:PySem.W.Frag} {J:Hq} {H:Hp}:∀ {es:List Expr} {vs:List V},es.map n9=vs.map some→aE K J H (vs.map vP) vs
 | [],[],_=>rfl
 | [],_ :: _,h=>by cases h
 | _ :: _,[],h=>by cases h
 | e :: es,v :: vs,h=>by
  rw [List.map_cons,List.map_cons] at h
  injection h with h1 h2
  refine ⟨v,vs,rfl,?_,ma h2⟩
  cases e with
  | Constant c j pos =>
   cases c with
   | int i=>cases h1;rfl
   | str x=>cases h1;rfl
   | bool b=>cases h1;rfl
   | _=>cases h1
  | _=>cases h1
theorem sZ {es:List Expr} (vs:List V) (h:es.map n9=vs.map some) (xs:List PV) (hx:vs.map vP=xs):RA X G es (fun _ J Q=>Q xs J) :=
 ⟨HM (l4 vs h) fun σ H Q ⟨τ,J,Q2,a2,q,k⟩=>k _ J _ H (by rw [← hx];exact ma h) a2.hp .refl q⟩
def F9 (t:kQ):cq:=fun τ J Q=>t τ J fun xs J1=>xs.length≤sizeLine∧Q (.tup xs) J1
theorem cv {x1} (h:RA X G es t):RE X G (.Tuple es x1 pos) (F9 t):=⟨il (L2.l7 h.run) fun σ H Q ⟨τ,J,Q2,a2,h,k⟩=>⟨τ,J,_,a2,h,fun xs J' vs H' rs rr ee ⟨hl,q⟩ =>
 ⟨by rw [← rs.length];exact hl,fun p hp=>by
  have sm:=aY.new hp (.tup vs)
  have e2:=Ext.same (K:=X.K) (J:=J') sm
  exact k (.tup xs) J' (.ref p) _ ⟨p,vs,rfl,.inl (.inl az),e2.gf rs⟩ (rr.same sm) (ee.trans e2) q⟩⟩⟩
def F2 (t:kQ):cq:=fun τ J Q=>t τ J fun xs J1=>xs.length≤sizeLine∧∀ p,J1 p=none→Q (.ref p) (put J1 p (.lst xs))
theorem j4 (h:RA X G es t):RE X G (.List es pos) (F2 t):=⟨il (L2.gx h.run) fun σ H Q ⟨τ,J,Q2,a2,h,k⟩=>⟨τ,J,_,a2,h,fun xs J' vs H' rs rr ee ⟨hl,q⟩ =>
 ⟨by rw [← rs.length];exact hl,fun p hp=>k (.ref p) _ (.ref p) _ rfl (rr.x9 hp rs) (ee.trans (.laid hp)) (q p (rr.free hp))⟩⟩⟩
def IY (t:kQ):cq:=fun τ J Q=>t τ J fun xs J1=>xs.length≤sizeLine∧Q (.fl xs) J1
theorem sG {K:PySem.W.Frag} {J:Hq} {H:Hp} {xs:List PV} {vs:List V} {p:Addr} (rr:Rep K J H) (rs:aE K J H xs vs) (hp:H p=none):bI K J (upd H p (.lst vs)) (.fl xs) (.ref p)∧Rep K J (upd H p (.lst vs))∧Ext K J H J (upd H p (.lst vs)):=by
 have sm:=aY.new hp (.lst vs)
 have e2:=Ext.same (K:=K) (J:=J) sm
 exact ⟨⟨p,vs,rfl,.inl ⟨rr.free hp,.inl az⟩,e2.gf rs⟩,rr.same sm,e2⟩
theorem uI (h:RA X G es t):RE X G (.List es pos) (IY t):=⟨il (L2.gx h.run) fun σ H Q ⟨τ,J,Q2,a2,h,k⟩=>⟨τ,J,_,a2,h,fun xs J' vs H' rs rr ee ⟨hl,q⟩ =>
 ⟨by rw [← rs.length];exact hl,fun p hp=>let ⟨x1,x2,x3⟩:=sG rr rs hp;k (.fl xs) _ (.ref p) _ x1 x2 (ee.trans x3) q⟩⟩⟩
abbrev Ei:=Sr→Hq→(Option Int→Hq→Prop)→Prop
def LO (K:PySem.W.Frag) (G:G2) (t:Ei):TO:=fun σ H Q=>∃ τ J Q2,pQ K G τ J σ H∧t τ J Q2∧∀ b J' H',Rep K J' H'→Ext K J H J' H'→Q2 b J'→Q b H'
structure RO (X:Cx) (G:G2) (e:Option Expr) (t:Ei):Prop where
 run:L2.PO X e (LO X.K G t)
theorem IT {X:Cx} {e:Option Expr} {t t':TO} (h:L2.PO X e t) (k:∀ σ H Q,t' σ H Q→t σ H Q):L2.PO X e t':=fun pins s σ H Q I q=>h pins s σ H Q I (k _ _ _ q)
def uH:Ei:=fun _ J Q=>Q none J
def Cu (t:cq):Ei:=fun τ J Q=>t τ J fun x J1=>∃ i,x=.int i∧Q (some i) J1
theorem k7:RO X G none uH:=⟨IT L2.kZ fun σ H Q ⟨τ,J,Q2,a2,h,k⟩=>k none J H a2.hp .refl h⟩
theorem k8 (h:RE X G e te):RO X G (some e) (Cu te):=⟨IT (L2.g6 h.run) fun σ H Q ⟨τ,J,Q2,a2,h,k⟩=>⟨τ,J,_,a2,h,fun x J' v H' rx rr ee ⟨i,ei,q⟩=>by subst ei;exact ⟨i,rx,k _ J' H' rr ee q⟩⟩⟩
abbrev vD:=PV→Option Int→Option Int→Hq→(PV→Hq→Prop)→Prop
def G5 (X:Cx) (q:vD):Prop:=∃ r,rK X r∧∀ J H x lo hi v Q2 Q,bI X.K J H x v→Rep X.K J H→q x lo hi J Q2→Kn X.K J H Q2 Q→r v lo hi H Q
def I_ (q:vD) (te:cq) (tl th:Ei):cq:=fun τ J Q=>te τ J fun x J1=>tl τ J1 fun l J2=>th τ J2 fun u J3=>q x l u J3 Q
theorem jq {lo hi:Option Expr} {tl th:Ei} {q:vD} (hr:G5 X q) (he:RE X G e te) (hl:RO X G lo tl) (hu:RO X G hi th):RE X G (.Subscript e (.Slice lo hi none p2) pos) (I_ q te tl th):=by
 obtain ⟨r,h,lr⟩:=hr
 exact ⟨il (L2.gy h he.run hl.run hu.run) fun σ H Q ⟨τ,J,Q2,a2,h,k⟩=>⟨τ,J,_,a2,h,fun x J' v H' rx rr ee q1=>⟨τ,J',_,a2.go rr ee,q1,fun l J2 H2 r2 e2 q2 =>
  ⟨τ,J2,_,a2.go r2 (ee.trans e2),q2,fun u J3 H3 r3 e3 q3=>lr J3 H3 x l u v Q2 Q ((e2.trans e3).rep rx) r3 q3 fun z J4 w H4 rz r4 e4 q4=>k z J4 w H4 rz r4 (((ee.trans e2).trans e3).trans e4) q4⟩⟩⟩⟩
def GS (q:tN) (t:kQ):cq:=fun τ J Q=>t τ J fun xs J1=>q xs J1 Q
theorem tR {r:List V→Hp→VK→Prop} {q:tN} (lr:IB X.K r q):∀ σ H Q,LE X.K G (GS q t) σ H Q→L2.CA r (LA X.K G t) σ H Q:=fun σ H Q ⟨τ,J,Q2,a2,h,k⟩ =>
 ⟨τ,J,_,a2,h,fun xs J1 vs H1 rs r1 e1 q1=>lr J1 H1 xs vs Q2 Q rs r1 q1 fun z J' u H' rz rr ee qq=>k z J' u H' rz rr (e1.trans ee) qq⟩
theorem aM {id:String} {q:tN} (hc:CG X (.builtin id) q) (hg:Gl X x) (hm:X.mg x=none) (hv:bootBuiltins x=some (.builtin id)) (ha:RA X G (e :: es) t) (hn:x≠"__name__":=by decide) (hdb:(x == ("__debug__":Str))=false:=by decide)
  (he:starEach (e :: es) X.env=(false,eval e X.env) :: starEach es X.env:=by rfl) (hpl:(backTo pos (starEach es X.env)).any (·.1)=false:=by rfl):RE X G (.Call (.Name x p) (e :: es) [] pos) (GS q t):=by
 obtain ⟨r,h,lr⟩:=hc
 exact ⟨il (L2.cQ h hg hm hv ha.run hn hdb he hpl) (tR lr)⟩
theorem j3 {T:String} {q:tN} (hc:CG X (.type T) q) (hg:Gl X x) (hm:X.mg x=none) (hv:bootBuiltins x=some (.type T)) (ha:RA X G (e :: es) t) (hn:x≠"__name__":=by decide) (hdb:(x == ("__debug__":Str))=false:=by decide)
  (he:starEach (e :: es) X.env=(false,eval e X.env) :: starEach es X.env:=by rfl) (hpl:(backTo pos (starEach es X.env)).any (·.1)=false:=by rfl):RE X G (.Call (.Name x p) (e :: es) [] pos) (GS q t):=by
 obtain ⟨r,h,lr⟩:=hc
 exact ⟨il (L2.jV h hg hm hv ha.run hn hdb he hpl) (tR lr)⟩
abbrev w9:=PV→List PV→Hq→(PV→Hq→Prop)→Prop
def CI (X:Cx) (T id:String) (q:w9):Prop:=∃ r,nY X id r∧∀ J H x xs v vs Q2 Q,bI X.K J H x v→aE X.K J H xs vs→Rep X.K J H→q x xs J Q2→Kn X.K J H Q2 Q→r v vs H Q
def Ew (T:String) (J:Hq):PV→Prop
 | .str _=>T="str"
 | .fl _=>T="list"
 | .ref a=>(T="list"∧∃ xs,J a=some (.lst xs))∨(T="dict"∧∃ kvs ep,J a=some (.dct kvs ep))
 | _=>False
theorem vw {K:PySem.W.Frag} {T:String} {J:Hq} {H:Hp} {x:PV} {v:V} (r:bI K J H x v) (hp:Rep K J H) (h:Ew T J x):L2.GZ K T v H:=by
 cases x with
 | str s=>cases r;exact h
 | fl xs=>obtain ⟨a,vs,rfl,h1,h2⟩:=r;exact .inl ⟨h,vs,h1.sq⟩
 | ref a =>
  cases r
  rcases h with ⟨h,xs,e⟩ | ⟨h,kvs,ep,e⟩
  ·obtain ⟨vs,h1,_⟩:=hp _ _ e;exact .inl ⟨h,vs,.inl (.inl h1)⟩
  ·obtain ⟨gs,h1,_⟩:=hp _ _ e;exact .inr (.inr (.inl ⟨h,.inr ⟨gs,ep,h1⟩⟩))
 | _=>cases h
def HW (T:String) (q:w9) (to:cq) (t:kQ):cq:=fun τ J Q=>to τ J fun x J1=>Ew T J1 x∧t τ J1 fun xs J2=>q x xs J2 Q
def FU (T:String) (q:w9) (to:cq):cq:=fun τ J Q=>to τ J fun x J1=>Ew T J1 x∧q x [] J1 Q
theorem kB {name:Str} {T id:String} {q:w9} (pa:PlainAttrs T) (slot:Slot T name id) (hty:typeOf (.builtin id)=pure (.type "method_descriptor")) (hm:CI X T id q) (ho:RE X G o to) (ha:RA X G (e :: es) t)
  (hbase:attributeBase o name X.env (eval o X.env)=eval o X.env:=by rfl)
  (hfew:((backTo cpos (starEach (e :: es) X.env)).all (fun x=>!x.1) && (backToKw cpos (keywordEach [] X.env)).all (fun x=>x.1.isSome)
   && decide ((e :: es).length + ([]:List Keyword).length + (if ([]:List Keyword).isEmpty then 0 else 1) < 30))=true:=by rfl)
  (hline:(apos.endLine == cpos.line)=true:=by rfl) (hs:starEach (e :: es) X.env=(false,eval e X.env) :: starEach es X.env:=by rfl) (hplain:(backTo cpos (starEach es X.env)).any (·.1)=false:=by rfl) :
  RE X G (.Call (.Attribute o name apos) (e :: es) [] cpos) (HW T q to t):=by
 obtain ⟨r,h,lr⟩:=hm
 exact ⟨il (L2.l5 pa slot hty h ho.run ha.run hbase hfew hline hs hplain) fun σ H Q ⟨τ,J,Q2,a2,h,k⟩=>⟨τ,J,_,a2,h,fun x J1 v H1 rx r1 e1 ⟨ty,q1⟩=>⟨vw rx r1 ty,τ,J1,_,a2.go r1 e1,q1,fun xs J2 vs H2 rs r2 e2 q2 =>
  lr J2 H2 x xs v vs Q2 Q (e2.rep rx) rs r2 q2 fun z J' u H' rz rr ee qq=>k z J' u H' rz rr ((e1.trans e2).trans ee) qq⟩⟩⟩
theorem DV {name:Str} {T id:String} {q:w9} (pa:PlainAttrs T) (slot:Slot T name id) (hty:typeOf (.builtin id)=pure (.type "method_descriptor")) (hm:CI X T id q) (ho:RE X G o to)
  (hbase:attributeBase o name X.env (eval o X.env)=eval o X.env:=by rfl) (hline:(apos.endLine == cpos.line)=true:=by rfl):RE X G (.Call (.Attribute o name apos) [] [] cpos) (FU T q to):=by
 obtain ⟨r,h,lr⟩:=hm
 exact ⟨il (L2.DF pa slot hty h ho.run hbase hline) fun σ H Q ⟨τ,J,Q2,a2,h,k⟩=>⟨τ,J,_,a2,h,fun x J1 v H1 rx r1 e1 ⟨ty,q1⟩=>⟨vw rx r1 ty,
  lr J1 H1 x [] v [] Q2 Q rx rfl r1 q1 fun z J' u H' rz rr ee qq=>k z J' u H' rz rr (e1.trans ee) qq⟩⟩⟩
end
end Ov
namespace Ov
open PySem PySem.Spec PyProof.Rows
open L2 (V HO Hp Inv Cx VK XK TE TT TA TS TG lH TI TO ia Ends pU Loc Gl Rd RelV Vals eA rL b7 lE rK nY h_ R2 upd az aG cM fh Sp mD It aY cx ba Passes kO aA Meth Mk Binds aI bV aw cI eV dH)
abbrev cm:=List PV→Hq→(PV→Hq→Prop)→(Addr→Hq→Prop)→Prop
def Eh (K:PySem.W.Frag) (J:Hq) (H:Hp) (E2:Addr→Hq→Prop) (E:XK):Prop:=∀ c J' H',Rep K J' H'→Ext K J H J' H'→E2 c J'→E (.ref c) none H'
def dz (K:PySem.W.Frag) (sp:cm):Sp:=fun vs H Q E=>∃ xs J Q2 E2,aE K J H xs vs∧Rep K J H∧sp xs J Q2 E2∧Kn K J H Q2 Q∧Eh K J H E2 E
theorem Eh.ext {K:PySem.W.Frag} {J J':Hq} {H H':Hp} {E2:Addr→Hq→Prop} {E:XK} (k:Eh K J H E2 E) (e:Ext K J H J' H'):Eh K J' H' E2 E:=fun c J1 H1 r x q=>k c J1 H1 r (e.trans x) q
theorem _root_.L2.aI.Jj {P:Program} {w:World} {K:PySem.W.Frag} {mg:Str→Option Value} {base:Heap} {k:Nat} {f:Addr} {fd:FuncData} {ps:List Str} {sp:Sp} (F:aI P w K mg base L2.lD k f fd ps sp):aI P w K mg base (cS P w) k f fd ps sp :=
 ⟨F.len,fun A outer s H args us vs Q E hr he hb hv hs=>codeAny_mono (F.run A outer s H args us vs Q E hr he hb hv hs) fun r s' q=>by
  cases r with
  | error e=>exact False.elim q
  | ok fl=>cases fl <;> exact q⟩
theorem _root_.L2.aI.GD {P:Program} {w:World} {K:PySem.W.Frag} {mg:Str→Option Value} {base:Heap} {k:Nat} {f:Addr} {fd:FuncData} {ps:List Str} {sp:Sp} (F:aI P w K mg base (cS P w) k f fd ps sp):aI P w K mg base L2.lD k f fd ps (fun vs H Q _=>sp vs H Q L2.E0) :=
 ⟨fun vs H Q E q=>F.len vs H Q _ q,fun A outer s H args us vs Q E hr he hb hv hs=>codeAny_mono (F.run A outer s H args us vs Q _ hr he hb hv hs) fun r s' q=>by
  cases r with
  | error e=>obtain ⟨_,_,_,_,_,z⟩:=q;exact z.elim
  | ok fl=>cases fl <;> exact q⟩
def a7 (P:Program) (w:World) (K:PySem.W.Frag) (mg:Str→Option Value) (base:Heap) (k:Nat) (x:Str) (ps:List Str) (sp:cm):Prop:=CH P w K mg base k x ps (dz K sp)
theorem a7.imp {P:Program} {w:World} {K:PySem.W.Frag} {mg:Str→Option Value} {base:Heap} {k:Nat} {x:Str} {ps:List Str} {sp sp':cm} (C:a7 P w K mg base k x ps sp) (h:∀ xs J Q E,sp' xs J Q E→sp xs J Q E):a7 P w K mg base k x ps sp':=by
 obtain ⟨f,fd,F,r⟩:=C
 exact ⟨f,fd,F.imp fun vs H Q E ⟨xs,J,Q2,E2,a,b,c,d⟩=>⟨xs,J,Q2,E2,a,b,h _ _ _ _ c,d⟩,r⟩
theorem _root_.Ov.mE.lift {P:Program} {w:World} {K:PySem.W.Frag} {mg:Str→Option Value} {base:Heap} {k:Nat} {x:Str} {ps:List Str} {sp:Sp} (C:mE P w K mg base k x ps sp) {sp':cm}
  (h:∀ xs J vs H Q2 E2 Q E,aE K J H xs vs→Rep K J H→sp' xs J Q2 E2→Kn K J H Q2 Q→sp vs H Q E):a7 P w K mg base k x ps sp':=by
 obtain ⟨f,fd,F,r⟩:=C
 exact ⟨f,fd,(F.Jj).imp fun vs H Q E ⟨xs,J,Q2,E2,a,b,c,d,_⟩=>h xs J vs H Q2 E2 Q E a b c d,r⟩
section
variable {X:Cx} {G:G2} {a b c e o value:Expr} {es rest:List Expr} {ta tb te tc to tv:cq} {tA tB':iy} {t:kQ} {pos px p p2 apos cpos pos':Pos} {x:Str} {i j:Nat} {E:XK} {E2:Addr→Hq→Prop}
structure zP (X:Cx) (G:G2) (E2:Addr→Hq→Prop) (E:XK):Prop where
 pass:Passes (cS X.prog X.w) X E
 kn:Eh X.K G.1 G.2 E2 E
def nL (sp:cm) (E2:Addr→Hq→Prop) (t:kQ):cq:=fun τ J Q=>t τ J fun xs J1=>sp xs J1 Q E2
theorem aR {k k':Nat} {ps:List Str} {sp:cm} (C:a7 X.prog X.w X.K X.mg X.base k x ps sp) (B:zP X G E2 E) (hr:ba k' X.A) (hk:k≤k') (hg:Gl X x) (ha:RA X G (e :: es) t)
  (hdb:(x == ("__debug__":Str))=false:=by decide) (he:starEach (e :: es) X.env=(false,eval e X.env) :: starEach es X.env:=by rfl) (hpl:(backTo pos (starEach es X.env)).any (·.1)=false:=by rfl) :
  RE X G (.Call (.Name x p) (e :: es) [] pos) (nL sp E2 t) :=
 ⟨il (A2 C B.pass hr hk hg ha.run hdb he hpl) fun σ H Q ⟨τ,J,Q2,a2,h,k⟩=>⟨τ,J,_,a2,h,fun xs J1 vs H1 rs r1 e1 q1=>by
  simp only [List.append_nil]
  exact ⟨xs,J1,Q2,E2,rs,r1,q1,fun z J' u H' rz rr ee qq=>k z J' u H' rz rr (e1.trans ee) qq,B.kn.ext (a2.ext.trans e1)⟩⟩⟩
def FV (C:Addr) (ta:cq) (f:Str):cq:=fun τ J Q=>ta τ J fun x J1=>∃ a fs v,x=.ref a∧J1 a=some (.ins C fs)∧fs.lookup f=some v∧Q v J1
theorem aS {C:Addr} {f:Str} (cl:kO X.K C) (na:aA X.K C f) (he:RE X G e ta) (hb:attributeBase e f X.env (eval e X.env)=eval e X.env:=by rfl):RE X G (.Attribute e f pos) (FV C ta f) :=
 ⟨il (L2.DH he.run hb) fun σ H Q ⟨τ,J,Q2,a2,h,k⟩=>⟨τ,J,_,a2,h,fun x J1 v H1 rx r1 e1 ⟨a,fs,y,ex,ja,lk,q⟩=>by
  subst ex;cases rx
  obtain ⟨dx,gs,ha,rf⟩:=r1 _ _ ja
  obtain ⟨w,lw,rw'⟩:=rf.look lk
  exact ⟨a,C,dx,gs,w,rfl,ha,cl,na,lw,k y J1 w H1 rw' r1 e1 q⟩⟩⟩
structure cX (P:Program) (w:World) (K:PySem.W.Frag) (mg:Str→Option Value) (base:Heap) (C:Addr) (k:Nat) (m:Str) (ps:List Str) (sp:cm):Prop where
 cl:kO K C
 ex:∃ f fd,Meth K C m f∧aI P w K mg base (cS P w) k f fd ps (dz K sp)∧Binds K fd ps []
theorem cX.imp {P:Program} {w:World} {K:PySem.W.Frag} {mg:Str→Option Value} {base:Heap} {C:Addr} {k:Nat} {m:Str} {ps:List Str} {sp sp':cm} (M:cX P w K mg base C k m ps sp) (h:∀ xs J Q E,sp' xs J Q E→sp xs J Q E):cX P w K mg base C k m ps sp':=by
 obtain ⟨cl,f,fd,hm,F,r⟩:=M
 exact ⟨cl,f,fd,hm,F.imp fun vs H Q E ⟨xs,J,Q2,E2,a,b,c,d⟩=>⟨xs,J,Q2,E2,a,b,h _ _ _ _ c,d⟩,r⟩
def y3 (C:Addr) (m:Str) (sp:cm) (E2:Addr→Hq→Prop) (ta:cq) (t:kQ):cq:=fun τ J Q=>ta τ J fun x J1=>∃ a fs,x=.ref a∧J1 a=some (.ins C fs)∧fs.lookup m=none∧t τ J1 fun xs J2=>sp (x :: xs) J2 Q E2
theorem qy {C:Addr} {m:Str} {sp:cm} (B:zP X G E2 E):∀ σ H Q,LE X.K G (y3 C m sp E2 to t) σ H Q→L2.zH C m (dz X.K sp) [] E (LE X.K G to) (LA X.K G t) σ H Q:=fun σ H Q ⟨τ,J,Q2,a2,h,k⟩ =>
 ⟨τ,J,_,a2,h,fun x J1 v H1 rx r1 e1 ⟨a,fs,ex,ja,lk,q⟩=>by
  subst ex;cases rx
  obtain ⟨dx,gs,ha,rf⟩:=r1 _ _ ja
  refine ⟨a,dx,gs,rfl,ha,rf.none lk,τ,J1,_,a2.go r1 e1,q,fun xs J2 vs H2 rs r2 e2 q2=>?_⟩
  simp only [List.append_nil]
  exact ⟨.ref a :: xs,J2,Q2,E2,⟨.ref a,vs,rfl,rfl,rs⟩,r2,q2,fun z J' u H' rz rr ee qq=>k z J' u H' rz rr ((e1.trans e2).trans ee) qq,B.kn.ext ((a2.ext.trans e1).trans e2)⟩⟩
theorem bx {C:Addr} {m:Str} {k k':Nat} {ps:List Str} {sp:cm} {pl:Sem Bool} (M:cX X.prog X.w X.K X.mg X.base C k m ps sp) (B:zP X G E2 E) (hr:ba k' X.A) (hk:k≤k') (ho:RE X G o to) (ha:RA X G (e :: es) t)
  (hst:starEach (e :: es) X.env=(false,eval e X.env) :: starEach es X.env:=by rfl) (hpl:(backTo pos (starEach es X.env)).any (·.1)=false:=by rfl)
  (ht:eval (.Call (.Attribute o m apos) (e :: es) [] pos) X.env=(do
   let ov ← eval o X.env
   standAt apos.atName
   let (f,first) ← holding [ov] (getMethod ov m pl)
   callWith pos f first (backTo pos (starEach (e :: es) X.env)) (backToKw pos (keywordEach [] X.env))):=by rfl) :
  RE X G (.Call (.Attribute o m apos) (e :: es) [] pos) (y3 C m sp E2 to t):=by
 obtain ⟨cl,f,fd,hm,F,b⟩:=M
 exact ⟨il (L2.A5 (pl:=pl) ho.run cl hm F (hr.mono hk) b .nil B.pass ha.run hst hpl ht) (qy B)⟩
theorem fA {C:Addr} {m:Str} {k k':Nat} {ps:List Str} {sp:cm} {pl:Sem Bool} (M:cX X.prog X.w X.K X.mg X.base C k m ps sp) (B:zP X G E2 E) (hr:ba k' X.A) (hk:k≤k') (ho:RE X G o to)
  (ht:eval (.Call (.Attribute o m apos) [] [] pos) X.env=(do
   let ov ← eval o X.env
   standAt apos.atName
   let (f,first) ← holding [ov] (getMethod ov m pl)
   callWith pos f first (backTo pos (starEach [] X.env)) (backToKw pos (keywordEach [] X.env))):=by rfl) :
  RE X G (.Call (.Attribute o m apos) [] [] pos) (y3 C m sp E2 to l9):=by
 obtain ⟨cl,f,fd,hm,F,b⟩:=M
 refine ⟨il (L2.yN (pl:=pl) ho.run cl hm F (hr.mono hk) b .nil B.pass ht) fun σ H Q h=>?_⟩
 have z:=qy B σ H Q h
 obtain ⟨τ,J,Q2,a2,h1,k1⟩:=z
 refine ⟨τ,J,Q2,a2,h1,fun x J1 v H1 rx r1 e1 q1=>?_⟩
 obtain ⟨a,dx,fs,h2,h3,h4,τ',J',Q',a2',h5,k5⟩:=k1 x J1 v H1 rx r1 e1 q1
 exact ⟨a,dx,fs,h2,h3,h4,k5 [] J' [] H1 rfl a2'.hp .refl h5⟩
structure vC (P:Program) (w:World) (K:PySem.W.Frag) (mg:Str→Option Value) (base:Heap) (C:Addr) (k:Nat) (x:Str) (ps:List Str) (sp:cm):Prop where
 m:mg x=some (.ref C)
 ex:∃ f fd,Mk K C f∧aI P w K mg base (cS P w) k f fd ps (dz K sp)∧Binds K fd ps []
def Bn (C:Addr) (sp:cm) (E2:Addr→Hq→Prop) (t:kQ):cq:=fun τ J Q=>t τ J fun xs J1=>∀ a,J1 a=none→sp (.ref a :: xs) (put J1 a (.ins C [])) (fun v J2=>v=.non∧Q (.ref a) J2) E2
theorem qr {C:Addr} {sp:cm} (B:zP X G E2 E):∀ σ H Q,LE X.K G (Bn C sp E2 t) σ H Q→L2.zG C (dz X.K sp) [] E (LA X.K G t) σ H Q:=fun σ H Q ⟨τ,J,Q2,a2,h,k⟩ =>
 ⟨τ,J,_,a2,h,fun xs J1 vs H1 rs r1 e1 q1 x dx hx hdx ne=>by
  have s1:=aY.new hdx (.own x)
  have hx':upd H1 dx (.own x) x=none:=by rw [aG (Ne.symm ne)];exact hx
  have r2:=r1.same s1
  have e2:Ext X.K J1 H1 (put J1 x (.ins C [])) (upd (upd H1 dx (.own x)) x (.ins C dx [])):=(Ext.same s1).trans (.laid hx')
  have r3:Rep X.K (put J1 x (.ins C [])) (upd (upd H1 dx (.own x)) x (.ins C dx [])):=r2.wX (.laid hx') x (fun a ne=>ar ne) (fun a o ne _ z=>by rw [aG ne];exact z) fun u z=>by
   rw [av] at z;cases z
   exact ⟨dx,[],az,rfl,rfl⟩
  simp only [List.append_nil]
  refine ⟨.ref x :: xs,_,_,E2,⟨.ref x,vs,rfl,rfl,e2.gf rs⟩,r3,q1 x (r1.free hx),fun z J' u H' rz rr ee ⟨ez,qq⟩=>?_,B.kn.ext ((a2.ext.trans e1).trans e2)⟩
  subst ez
  exact ⟨rz,k (.ref x) J' (.ref x) H' rfl rr ((e1.trans e2).trans ee) qq⟩⟩
theorem Bs {C:Addr} {k k':Nat} {ps:List Str} {sp:cm} (M:vC X.prog X.w X.K X.mg X.base C k x ps sp) (B:zP X G E2 E) (hr:ba k' X.A) (hk:k + 1≤k') (hg:Gl X x) (ha:RA X G (e :: es) t)
  (hdb:(x == ("__debug__":Str))=false:=by decide) (he:starEach (e :: es) X.env=(false,eval e X.env) :: starEach es X.env:=by rfl) (hpl:(backTo pos (starEach es X.env)).any (·.1)=false:=by rfl) :
  RE X G (.Call (.Name x p) (e :: es) [] pos) (Bn C sp E2 t):=by
 obtain ⟨hm,f,fd,mk,F,b⟩:=M
 exact ⟨il (L2.A4 mk F (hr.mono hk) hg hm b .nil B.pass ha.run hdb he hpl) (qr B)⟩
theorem qV {C:Addr} {k k':Nat} {ps:List Str} {sp:cm} (M:vC X.prog X.w X.K X.mg X.base C k x ps sp) (B:zP X G E2 E) (hr:ba k' X.A) (hk:k + 1≤k') (hg:Gl X x)
  (hdb:(x == ("__debug__":Str))=false:=by decide):RE X G (.Call (.Name x p) [] [] pos) (Bn C sp E2 l9):=by
 obtain ⟨hm,f,fd,mk,F,b⟩:=M
 refine ⟨il (L2.yM mk F (hr.mono hk) hg hm b .nil B.pass hdb) fun σ H Q h=>?_⟩
 obtain ⟨τ,J,Q2,a2,h1,k1⟩:=qr (t:=l9) B σ H Q h
 exact k1 [] J [] H rfl a2.hp .refl h1
end
section
variable {X:Cx} {G:G2} {st:Stmt} {rest:List Stmt} {t u:fq} {e tg o value:Expr} {es:List Expr} {te ta tv:cq} {tc:iy} {pos pos':Pos}
def gC:fq:=fun D τ J=>D.nx τ J
def bK (t u:fq):fq:=fun D τ J=>t { D with nx:=u D } τ J
theorem aJ:RB X G [] gC:=⟨HN L2.d6 fun D σ H ⟨τ,J,D2,a2,h,g⟩=>g.nx τ J σ H a2.sl a2.hp .refl h⟩
theorem ai (h1:RS X G st t) (h2:RB X G rest u):RB X G (st :: rest) (bK t u):=⟨HN (L2.aO h1.run h2.run) fun D σ H ⟨τ,J,D2,a2,h,g⟩=>⟨τ,J,{ D2 with nx:=u D2 },a2,h,
 { nx:=fun τ' J' σ' H' rs rr ee q=>⟨τ',J',D2,⟨rs,rr,a2.ext.trans ee⟩,q,g.ext ee⟩,rt:=g.rt,bk:=g.bk,ct:=g.ct }⟩⟩
theorem ak (h1:RS X G st t):RB X G [st] t:=⟨L2.a_ h1.run⟩
def y0 (t u:fq):fq:=fun D τ J=>∃ M:Sr→Hq→Prop,t { D with nx:=M } τ J∧∀ τ' J',M τ' J'→u D τ' J'
theorem fL (h1:RS X G st t) (h2:RB X G rest u):RB X G (st :: rest) (y0 t u):=⟨HN (L2.aO h1.run h2.run) fun D σ H ⟨τ,J,D2,a2,⟨M,h,hm⟩,g⟩=>⟨τ,J,{ D2 with nx:=M },a2,h,
 { nx:=fun τ' J' σ' H' rs rr ee q=>⟨τ',J',D2,⟨rs,rr,a2.ext.trans ee⟩,hm _ _ q,g.ext ee⟩,rt:=g.rt,bk:=g.bk,ct:=g.ct }⟩⟩
def HX:fq:=fun D τ J=>D.bk τ J
def HY:fq:=fun D τ J=>D.ct τ J
def y2 (te:cq):fq:=fun D τ J=>te τ J fun _ J1=>D.nx τ J1
theorem bj (he:RE X G e te) (hs:swapsWith e none pos.line X.env=pure false:=by rfl):RS X G (.Expr e pos) (y2 te):=⟨uz (L2.g7 he.run hs) fun D σ H ⟨τ,J,D2,a2,h,g⟩ =>
 ⟨τ,J,_,a2,h,fun x J' v H' rx rr ee q=>g.nx τ J' σ H' (a2.sl.ext ee) rr ee q⟩⟩
def Bp (te:cq):fq:=fun D τ J=>te τ J D.rt
theorem aB (he:RE X G e te):RS X G (.Return (some e) pos) (Bp te):=⟨uz (L2.cJ he.run) fun D σ H ⟨τ,J,D2,a2,h,g⟩=>⟨τ,J,_,a2,h,fun x J' v H' rx rr ee q=>g.rt x J' v H' rx rr ee q⟩⟩
def Cv:fq:=fun D _ J=>D.rt .non J
theorem Bv:RS X G (.Return none pos) Cv:=⟨uz L2.oX fun D σ H ⟨τ,J,D2,a2,h,g⟩=>g.rt .non J .non H rfl a2.hp .refl h⟩
def jm (c:iy) (t u:fq):fq:=fun D τ J=>c τ J fun b J1=>if b=true then t D τ J1 else u D τ J1
theorem aU {c:Expr} {a b:List Stmt} (hc:RT X G c tc) (ha:RB X G a t) (hb:RB X G b u):RS X G (.If c a b pos) (jm tc t u):=⟨uz (L2.jl hc.run ha.run hb.run) fun D σ H ⟨τ,J,D2,a2,h,g⟩ =>
 ⟨τ,J,_,a2,h,fun c J' H' rr ee q=>by
  cases c with
  | true=>simp only [if_true] at q ⊢;exact ⟨τ,J',D2,a2.go rr ee,q,g.ext ee⟩
  | false=>simp only [Bool.false_eq_true,if_false] at q ⊢;exact ⟨τ,J',D2,a2.go rr ee,q,g.ext ee⟩⟩⟩
abbrev rS:=PV→Sr→Hq→(Sr→Hq→Prop)→Prop
abbrev pT:=List PV→Sr→Hq→(Sr→Hq→Prop)→Prop
def LG (K:PySem.W.Frag) (G:G2) (t:rS):TG:=fun v σ H Q=>∃ x τ J Q2,bI K J H x v∧pQ K G τ J σ H∧t x τ J Q2∧∀ τ' J' σ' H',iw K J' H' τ' σ'→Rep K J' H'→Ext K J H J' H'→Q2 τ' J'→Q σ' H'
def Jd (K:PySem.W.Frag) (G:G2) (t:pT):lH:=fun vs σ H Q=>∃ xs τ J Q2,aE K J H xs vs∧pQ K G τ J σ H∧t xs τ J Q2∧∀ τ' J' σ' H',iw K J' H' τ' σ'→Rep K J' H'→Ext K J H J' H'→Q2 τ' J'→Q σ' H'
structure RG (X:Cx) (G:G2) (e:Expr) (t:rS):Prop where
 run:L2.PG X e (LG X.K G t)
structure GH (X:Cx) (G:G2) (es:List Expr) (t:pT):Prop where
 run:L2.BZ X es (Jd X.K G t)
theorem HP {X:Cx} {e:Expr} {t t':TG} (h:L2.PG X e t) (k:∀ v σ H Q,t' v σ H Q→t v σ H Q):L2.PG X e t':=fun pins s σ H v u Q I r q=>h pins s σ H v u Q I r (k _ _ _ _ q)
theorem FA {X:Cx} {e:List Expr} {t t':lH} (h:L2.BZ X e t) (k:∀ v σ H Q,t' v σ H Q→t v σ H Q):L2.BZ X e t':=fun pins s σ H v u Q I r q=>h pins s σ H v u Q I r (k _ _ _ _ q)
def C5 (i:Nat):rS:=fun x τ J Q=>Q (τ.set i (some x)) J
theorem bZ {i:Nat} {x:Str} (hN:X.N.Nodup) (hi:X.N[i]?=some x) (hx:Loc X.env.scope x) (hf:X.fn x=true∨X.env.scope.names.lookup x=some .local:=by first | exact .inl rfl | exact .inr rfl | assumption):RG X G (.Name x pos) (C5 i) :=
 ⟨HP (L2.gZ hN hi hx hf) fun v σ H Q ⟨x,τ,J,Q2,rx,a2,q,k⟩=>k _ J _ H (a2.sl.set i rx) a2.hp .refl q⟩
def IG:pT:=fun vs τ J Q=>vs=[]∧Q τ J
def IF (t:rS) (u:pT):pT:=fun vs τ J Q=>∃ v r,vs=v :: r∧t v τ J fun τ' J'=>u r τ' J' Q
theorem o9:GH X G [] IG:=⟨FA L2.oT fun vs σ H Q ⟨xs,τ,J,Q2,rs,a2,⟨e,q⟩,k⟩=>by subst e;exact ⟨rs,k τ J σ H a2.sl a2.hp .refl q⟩⟩
theorem eO {e:Expr} {es:List Expr} {t:rS} {u:pT} (h1:RG X G e t) (h2:GH X G es u)
  (hs:(assignEach (e :: es) X.env).map (·.2)=assign e X.env :: (assignEach es X.env).map (·.2):=by rfl):GH X G (e :: es) (IF t u):=⟨FA (L2.l8 h1.run h2.run hs) fun vs σ H Q ⟨xs,τ,J,Q2,rs,a2,⟨y,r,e,q⟩,k⟩=>by
 subst e
 obtain ⟨v,us,rfl,rv,ru⟩:=rs
 exact ⟨v,us,rfl,y,τ,J,_,rv,a2,q,fun τ' J' σ' H' rs' rr ee q'=>⟨r,τ',J',Q2,ee.gf ru,⟨rs',rr,a2.ext.trans ee⟩,q',fun τ2 J2 σ2 H2 rs2 rr2 ee2 q2=>k τ2 J2 σ2 H2 rs2 rr2 (ee.trans ee2) q2⟩⟩⟩
def IH (n:Nat) (t:pT):rS:=fun x τ J Q=>∃ xs,x=.tup xs∧xs.length=n∧t xs τ J Q
theorem tj {k:Nat} {t:pT} {n:Nat} (hc:X.calm=true) (h:GH X G es t)
  (hn:(assignEach es X.env).length=n:=by rfl) (hst:(assignEach es X.env).findIdx? (·.1)=none:=by rfl):RG X G (.Tuple es k pos) (IH n t):=⟨HP (L2.sS hc h.run hn hst) fun v σ H Q ⟨x,τ,J,Q2,rx,a2,⟨xs,e,l,q⟩,k⟩=>by
 subst e
 obtain ⟨a,vs,rfl,h1,h2⟩:=rx
 exact ⟨a,vs,rfl,h1,by rw [← h2.length];exact l,xs,τ,J,Q2,h2,a2,q,k⟩⟩
def qT (te:cq) (g:rS):fq:=fun D τ J=>te τ J fun x J1=>g x τ J1 D.nx
theorem tm {tg e:Expr} {g:rS} (he:RE X G e te) (hg:RG X G tg g) (hs:swapsWithSole [tg] e pos.line X.env=pure false:=by rfl) (hw:swappedStores [tg] e X.env=pure none:=by rfl)
  (h1:(assignEach [tg] X.env).map (·.2)=[assign tg X.env]:=by rfl):RS X G (.Assign [tg] e pos) (qT te g):=⟨uz (L2.oW he.run hg.run hs hw h1) fun D σ H ⟨τ,J,D2,a2,h,g⟩ =>
 ⟨τ,J,_,a2,h,fun x J' v H' rx rr ee q=>⟨x,τ,J',_,rx,a2.go rr ee,q,fun τ' J2 σ' H2 rs r2 e2 q2=>g.nx τ' J2 σ' H2 rs r2 (ee.trans e2) q2⟩⟩⟩
theorem aK {i:Nat} {x:Str} {pos':Pos} (hN:X.N.Nodup) (hi:X.N[i]?=some x) (hx:Loc X.env.scope x) (he:RE X G e te) (hs:swapsWith e (some (.Name x pos')) pos.line X.env=pure false:=by rfl) (hf:X.fn x=true∨X.env.scope.names.lookup x=some .local:=by first | exact .inl rfl | exact .inr rfl | assumption) :
  RS X G (.Assign [.Name x pos'] e pos) (qT te (C5 i)):=⟨uz (L2.bY hN hi hx he.run hs hf) fun D σ H ⟨τ,J,D2,a2,h,g⟩ =>
 ⟨τ,J,_,a2,h,fun x J' v H' rx rr ee q=>g.nx _ J' _ H' ((a2.sl.ext ee).set i rx) rr ee q⟩⟩
def F4 (i j:Nat) (ta:kQ):fq:=fun D τ J=>ta τ J fun vs J1=>∃ v w,vs=[v,w]∧D.nx ((τ.set i (some v)).set j (some w)) J1
theorem DZ {i j:Nat} {x y:Str} {a b:Expr} {ta:kQ} {px py pt:Pos} {kt k2 pt2} (hc:X.calm=true) (hN:X.N.Nodup) (hi:X.N[i]?=some x) (hj:X.N[j]?=some y) (hij:i≠j)
  (hx:X.env.scope.names.lookup x=some .local) (hy:X.env.scope.names.lookup y=some .local) (ha:RA X G [a,b] ta)
  (hw:swappedStores [.Tuple [.Name x px,.Name y py] kt pt] (.Tuple [a,b] k2 pt2) X.env=pure (some [x,y]))
  (hs:swapsWithSole [.Tuple [.Name x px,.Name y py] kt pt] (.Tuple [a,b] k2 pt2) pos.line X.env=pure false:=by rfl) :
  RS X G (.Assign [.Tuple [.Name x px,.Name y py] kt pt] (.Tuple [a,b] k2 pt2) pos) (F4 i j ta):=⟨uz (L2.jY hc hN hi hj hij hx hy ha.run hw hs) fun D σ H ⟨τ,J,D2,a2,h,g⟩ =>
 ⟨τ,J,_,a2,h,fun xs J' vs H' rs rr ee ⟨v,w,e,q⟩=>by
  subst e
  obtain ⟨v',us,rfl,rv,w',us',rfl,rw',e'⟩:=rs
  cases e'
  exact ⟨v',w',rfl,g.nx _ J' _ H' (((a2.sl.ext ee).set i rv).set j rw') rr ee q⟩⟩⟩
def j1 (f:Str) (v:PV):List (Str × PV)→List (Str × PV)
 | []=>[(f,v)]
 | (g,w) :: r=>if g=f then (g,v) :: r else (g,w) :: j1 f v r
theorem qS {K:PySem.W.Frag} {J:Hq} {H:Hp} {f:Str} {y:PV} {v:V} (r:bI K J H y v):∀ {fs:List (Str × PV)} {gs:List (Str × V)},iu K J H fs gs→iu K J H (j1 f y fs) (dH f v gs)
 | [],[],_=>⟨rfl,v,[],rfl,r,rfl⟩
 | [],_ :: _,h=>by cases h.1
 | _ :: _,[],h=>by cases h.1
 | (k,y') :: fs,(k',w) :: gs,h=>by
  obtain ⟨h1,v',us,h2,h3,h4⟩:=h
  simp only [List.map_cons,List.cons.injEq] at h1 h2
  obtain ⟨rfl,h1⟩:=h1
  obtain ⟨rfl,rfl⟩:=h2
  unfold j1 L2.dH
  by_cases hk:k=f
  ·rw [if_pos hk,if_pos hk]
   exact ⟨by simp only [List.map_cons,h1],v,_,rfl,r,h4⟩
  ·rw [if_neg hk,if_neg hk]
   obtain ⟨z1,z2⟩:=qS (f:=f) r (⟨h1,h4⟩:iu K J H fs gs)
   exact ⟨by simp only [List.map_cons,z1],w,_,rfl,h3,z2⟩
def Cq (C:Addr) (ta tv:cq) (f:Str):fq:=fun D τ J=>tv τ J fun y J1=>ta τ J1 fun x J2=>∃ a fs,x=.ref a∧J2 a=some (.ins C fs)∧fs.length < 1000∧D.nx τ (put J2 a (.ins C (j1 f y fs)))
theorem Ext.Eg {K:PySem.W.Frag} {J:Hq} {H:Hp} {p C dx:Addr} {fs gs:List (Str × PV)} {fs' gs':List (Str × V)} (h:J p=some (.ins C fs)) (k:H p=some (.ins C dx fs')):Ext K J H (put J p (.ins C gs)) (upd H p (.ins C dx gs')):=by
 have sm:∀ a u,a≠p→Rd H a u→Rd (upd H p (.ins C dx gs')) a u:=fun a u ne z=>by
  rcases z with z | ⟨o,z⟩
  ·exact .inl (by rw [aG ne];exact z)
  ·exact .inr ⟨o,by rw [aG ne];exact z⟩
 have nn:∀ a u,(∀ c d l,u≠HO.ins c d l)→Rd H a u→a≠p:=fun a u d z e=>by
  subst e
  rcases z with z | ⟨o,z⟩
  ·rw [k] at z;cases z;exact d _ _ _ rfl
  ·rw [k] at z;cases z
 refine ⟨fun a vs' z=>?_,fun a o z q _=>?_⟩
 ·rcases z with z | z
  ·exact .inl (sm a _ (nn a (.tup vs') (fun _ _ _ e=>nomatch e) z) z)
  ·exact .inr z
 ·have ne:a≠p:=by intro e;subst e;rw [h] at z;cases z
  exact ⟨by rw [ar ne];exact z,by rw [aG ne];exact q⟩
theorem fj {C:Addr} {f:Str} (cl:kO X.K C) (na:aA X.K C f) (ha:RE X G o ta) (hv:RE X G value tv) (hs:swapsWith value (some (.Attribute o f pos')) pos.line X.env=pure false:=by rfl):RS X G (.Assign [.Attribute o f pos'] value pos) (Cq C ta tv f) :=
 ⟨uz (L2.DJ ha.run hv.run hs) fun D σ H ⟨τ,J,D2,a2,h,g⟩=>⟨τ,J,_,a2,h,fun y J1 v H1 ry r1 e1 q1=>⟨τ,J1,_,a2.go r1 e1,q1,fun x J2 w H2 rx r2 e2 ⟨a,fs,ex,ja,hl,q2⟩=>by
  subst ex;cases rx
  obtain ⟨dx,gs,h2,rf⟩:=r2 _ _ ja
  have ll:gs.length=fs.length:=by have:=congrArg List.length rf.1;simpa using this.symm
  have e3:=Ext.Eg (K:=X.K) (gs:=j1 f y fs) (gs':=dH f v gs) ja h2
  refine ⟨a,C,dx,gs,rfl,h2,cl,na,by omega,g.nx τ _ σ _ (((a2.sl.ext e1).ext e2).ext e3) ?_ ((e1.trans e2).trans e3) q2⟩
  refine r2.wX e3 a (fun b ne=>ar ne) (fun b o ne _ z=>by rw [aG ne];exact z) fun u z=>?_
  rw [av] at z;cases z
  exact ⟨dx,_,az,e3.qX (qS (e2.rep ry) rf)⟩⟩⟩⟩
def DU (c:iy) (tb:fq):fq:=fun D τ J=>∃ W:Nat→Sr→Hq→Prop,(∃ m,W m τ J)∧∀ m τ J,W m τ J →
 c τ J fun b J1=>if b=true then ∃ N:Sr→Hq→Prop,(∀ τ' J',N τ' J'→∃ m',m' < m∧W m' τ' J')∧tb { D with nx:=N,ct:=N,bk:=D.nx } τ J1 else D.nx τ J1
theorem ju {c:Expr} {body:List Stmt} {tb:fq} (hp:PassesOwn (model X.prog X.w) X.A X.env X.xe) (hc:RT X G c tc) (hb:RB X G body tb):RS X G (.While c body [] pos) (DU tc tb):=⟨uz (L2.gA hp hc.run hb.run) fun D σ H ⟨τ,J,D2,a2,⟨W,⟨m0,w0⟩,h⟩,g⟩=>by
 refine ⟨fun m σ' H'=>∃ τ' J',pQ X.K G τ' J' σ' H'∧Ext X.K J H J' H'∧W m τ' J',⟨m0,τ,J,a2,.refl,w0⟩,fun m σ1 H1 ⟨τ1,J1,a1,e1,w1⟩=>?_⟩
 refine ⟨τ1,J1,_,a1,h m τ1 J1 w1,fun b J2 H2 r2 e2 q=>?_⟩
 cases b with
 | false=>simp only [Bool.false_eq_true,if_false] at q ⊢;exact g.nx τ1 J2 σ1 H2 (a1.sl.ext e2) r2 (e1.trans e2) q
 | true =>
  simp only [if_true] at q ⊢
  obtain ⟨N,hN,q⟩:=q
  refine ⟨fun σ' H'=>∃ τ' J',pQ X.K G τ' J' σ' H'∧Ext X.K J H J' H'∧N τ' J',fun σ' H' ⟨τ',J',a',e',n'⟩=>let ⟨m',lt,w'⟩:=hN τ' J' n';⟨m',lt,τ',J',a',e',w'⟩,τ1,J2,{ D2 with nx:=N,ct:=N,bk:=D2.nx },a1.go r2 e2,q,?_⟩
  have ge:=g.ext (e1.trans e2)
  exact { nx:=fun τ' J' σ' H' rs rr ee q=>⟨τ',J',⟨rs,rr,(a1.ext.trans e2).trans ee⟩,(e1.trans e2).trans ee,q⟩,rt:=ge.rt,bk:=ge.nx,ct:=fun τ' J' σ' H' rs rr ee q=>⟨τ',J',⟨rs,rr,(a1.ext.trans e2).trans ee⟩,(e1.trans e2).trans ee,q⟩ }⟩
structure rQ where
 xs:List PV
 ok:Hq→Prop
structure m9 (K:PySem.W.Frag) (it:rQ) (I:It) (J:Hq) (H:Hp):Prop where
 go:∀ J' H',Ext K J H J' H'→Rep K J' H'→it.ok J'→∀ i,i < it.xs.length→I.go i H'
 yl:∀ J' H',Ext K J H J' H'→Rep K J' H'→it.ok J'→∀ i,i < it.xs.length→∀ v H2,I.yld i H' v H2→∃ x,it.xs[i]?=some x∧bI K J' H2 x v∧Rep K J' H2∧Ext K J' H' J' H2
 stop:∀ J' H',Ext K J H J' H'→Rep K J' H'→it.ok J'→I.stop it.xs.length H'
abbrev nZ:=Sr→Hq→(rQ→Hq→Prop)→Prop
def LI (K:PySem.W.Frag) (G:G2) (t:nZ):TI:=fun σ H R=>∃ τ J R2,pQ K G τ J σ H∧t τ J R2∧∀ it J' I H',m9 K it I J' H'→Rep K J' H'→Ext K J H J' H'→R2 it J'→R I H'
structure RI (X:Cx) (G:G2) (tg e:Expr) (t:nZ):Prop where
 run:L2.PI X tg e (LI X.K G t)
theorem GQ {X:Cx} {tg e:Expr} {t t':TI} (h:L2.PI X tg e t) (k:∀ σ H Q,t' σ H Q→t σ H Q):L2.PI X tg e t':=fun pins s σ H Q I q=>h pins s σ H Q I (k _ _ _ q)
def FW (wi:nZ) (g:rS) (tb:fq):fq:=fun D τ J=>wi τ J fun it J1=>∃ Pv:Nat→Sr→Hq→Prop,Pv 0 τ J1∧(∀ i τ J,Pv i τ J→it.ok J) ∧
 (∀ i x τ J,it.xs[i]?=some x→Pv i τ J→g x τ J fun τ2 J2=>tb { D with nx:=Pv (i + 1),ct:=Pv (i + 1),bk:=D.nx } τ2 J2)∧∀ τ J,Pv it.xs.length τ J→D.nx τ J
theorem fN {iter:Expr} {body:List Stmt} {wi:nZ} {g:rS} {tb:fq} {pos:Pos} (hp:PassesOwn (model X.prog X.w) X.A X.env X.xe) (hc:X.calm=true) (hi:RI X G tg iter wi) (hg:RG X G tg g) (hb:RB X G body tb)
  (hs:∀ x,foldedSetIterable iter X.env x=pure x:=by intro _;rfl):RS X G (.For tg iter body [] pos) (FW wi g tb):=⟨uz (L2.jX hp hc hi.run hg.run hb.run hs) fun D σ H ⟨τ,J,D2,a2,h,g⟩=>by
 refine ⟨τ,J,_,a2,h,fun it J1 I H1 ir r1 e1 ⟨Pv,p0,pok,step,fin⟩=>?_⟩
 refine ⟨fun i m σ' H'=>m=it.xs.length - i∧i≤it.xs.length∧∃ τ' J',pQ X.K G τ' J' σ' H'∧Ext X.K J1 H1 J' H'∧Pv i τ' J',⟨_,rfl,Nat.zero_le _,τ,J1,a2.go r1 e1,.refl,p0⟩,?_⟩
 rintro i m σ2 H2 ⟨rfl,hil,τ2,J2,a3,e3,p3⟩
 by_cases hlt:i < it.xs.length
 ·refine .inr ⟨ir.go J2 H2 e3 a3.hp (pok _ _ _ p3) i hlt,fun σ' H'=>∃ τ' J',pQ X.K G τ' J' σ' H'∧Ext X.K J1 H1 J' H'∧Pv (i + 1) τ' J',fun σ' H' z=>⟨_,by omega,rfl,hlt,z⟩,fun v H4 y=>?_⟩
  obtain ⟨x,ex,rx,r4,e4⟩:=ir.yl J2 H2 e3 a3.hp (pok _ _ _ p3) i hlt v H4 y
  refine ⟨x,τ2,J2,_,rx,a3.go r4 e4,step i x τ2 J2 ex p3,fun τ5 J5 σ5 H5 rs5 r5 e5 q5=>?_⟩
  have ae:=(a3.ext.trans e4).trans e5
  have ge:=g.ext (((e1.trans e3).trans e4).trans e5)
  refine ⟨τ5,J5,{ D2 with nx:=Pv (i + 1),ct:=Pv (i + 1),bk:=D2.nx },⟨rs5,r5,ae⟩,q5,?_⟩
  exact { nx:=fun τ' J' σ' H' rs rr ee q=>⟨τ',J',⟨rs,rr,ae.trans ee⟩,((e3.trans e4).trans e5).trans ee,q⟩,rt:=ge.rt,bk:=ge.nx,ct:=fun τ' J' σ' H' rs rr ee q=>⟨τ',J',⟨rs,rr,ae.trans ee⟩,((e3.trans e4).trans e5).trans ee,q⟩ }
 ·have ei:i=it.xs.length:=by omega
  subst ei
  exact .inl ⟨ir.stop J2 H2 e3 a3.hp (pok _ _ _ p3),g.nx τ2 J2 σ2 H2 a3.sl a3.hp (e1.trans e3) (fin _ _ p3)⟩⟩
def GN (J:Hq):PV→Option rQ
 | .fl xs=>some ⟨xs,fun _=>True⟩
 | .ref a=>match J a with
  | some (.lst xs)=>some ⟨xs,fun J'=>J' a=some (.lst xs)⟩
  | _=>none
 | _=>none
def IK (te:cq):nZ:=fun τ J R=>te τ J fun x J1=>∃ it,GN J1 x=some it∧R it J1
theorem m9.list {K:PySem.W.Frag} {it:rQ} {a:Addr} {J:Hq} {H:Hp} (h:∀ J' H',Ext K J H J' H'→Rep K J' H'→it.ok J'→∃ vs,cM K H' a vs∧aE K J' H' it.xs vs):m9 K it (L2.zW K a) J H where
 go:=fun J' H' e r o i hi=>by
  obtain ⟨vs,s,rs⟩:=h J' H' e r o
  exact ⟨vs,vs[i]'(by rw [← rs.length];exact hi),s,by simp⟩
 yl:=fun J' H' e r o i hi v H2 y=>by
  obtain ⟨vs,s,rs⟩:=h J' H' e r o
  obtain ⟨e1,y⟩:=y
  subst e1
  obtain ⟨x,ex,rx⟩:=rs.get' (y vs s)
  exact ⟨x,ex,rx,r,.refl⟩
 stop:=fun J' H' e r o=>by
  obtain ⟨vs,s,rs⟩:=h J' H' e r o
  exact ⟨vs,s,by rw [rs.length];exact Nat.le_refl _⟩
theorem g8 {l:Expr} {tl:cq} (hl:RE X G l tl):RI X G tg l (IK tl):=⟨GQ (L2.jk hl.run) fun σ H R ⟨τ,J,R2,a2,h,k⟩=>⟨τ,J,_,a2,h,fun x J1 v H1 rx r1 e1 ⟨it,ei,q⟩=>by
 cases x with
 | fl xs =>
  obtain ⟨a,vs,rfl,h1,h2⟩:=rx
  cases ei
  refine ⟨a,rfl,⟨vs,h1.sq⟩,k _ J1 _ H1 (.list fun J' H' e r _=>⟨vs,(e.flat h1).sq,e.gf h2⟩) r1 e1 q⟩
 | ref a =>
  cases rx
  unfold GN at ei
  dsimp only at ei
  cases ej:J1 a with
  | none=>rw [ej] at ei;cases ei
  | some o =>
   rw [ej] at ei
   cases o with
   | lst xs =>
    cases ei
    obtain ⟨vs,h1,h2⟩:=r1 _ _ ej
    refine ⟨a,rfl,⟨vs,.inl (.inl h1)⟩,k _ J1 _ H1 (.list fun J' H' e r o=>?_) r1 e1 q⟩
    obtain ⟨vs',h1',h2'⟩:=r _ _ o
    exact ⟨vs',.inl (.inl h1'),h2'⟩
   | _=>cases ei
 | _=>cases ei⟩⟩
def Jl (te:cq):nZ:=fun τ J R=>te τ J fun x J1=>∃ xs,x=.tup xs∧R ⟨xs,fun _=>True⟩ J1
def oh (lo:Int) (n:Nat):List PV:=(List.range n).map fun (i:Nat)=>PV.int (lo + (i:Int))
theorem i9 (lo:Int) (n:Nat):(oh lo n).length=n:=by simp [oh]
theorem qh (lo:Int) (n i:Nat) (x:PV):(oh lo n)[i]?=some x↔i < n∧x=.int (lo + i):=by
 unfold oh
 rw [List.getElem?_map]
 by_cases h:i < n
 ·rw [List.getElem?_range h];simp [h,eq_comm]
 ·rw [List.getElem?_eq_none (by simpa using h)];simp [h]
theorem m9.Et {K:PySem.W.Frag} {J:Hq} {H:Hp} (lo:Int) (n:Nat):m9 K ⟨oh lo n,fun _=>True⟩ (L2.xg lo n) J H where
 go:=fun J' H' e r o i hi=>by
  show i < n
  simpa [i9] using hi
 yl:=fun J' H' e r o i hi v H2 y=>by
  obtain ⟨e1,y⟩:=y
  subst e1 y
  exact ⟨.int (lo + i),(qh lo n i _).mpr ⟨by simpa [i9] using hi,rfl⟩,rfl,r,.refl⟩
 stop:=fun J' H' e r o=>by
  show n≤(oh lo n).length
  rw [i9];exact Nat.le_refl _
def IL (ta:kQ):nZ:=fun τ J R=>ta τ J fun vs J1=>∃ j:Int,vs=[.int j]∧-(2 ^ 62)≤j∧j < 2 ^ 62∧R ⟨oh 0 j.toNat,fun _=>True⟩ J1
def Jk (ta:kQ):nZ:=fun τ J R=>ta τ J fun vs J1=>∃ i j:Int,vs=[.int i,.int j]∧(-(2 ^ 62)≤i∧i < 2 ^ 62∧-(2 ^ 62)≤j∧j < 2 ^ 62)∧R ⟨oh i (j - i).toNat,fun _=>True⟩ J1
theorem nN {a:Expr} {ta:kQ} {p pos:Pos} (hg:Gl X "range") (hm:X.mg "range"=none) (ha:RA X G [a] ta) (hs:starEach [a] X.env=[(false,eval a X.env)]:=by rfl):RI X G tg (.Call (.Name "range" p) [a] [] pos) (IL ta) :=
 ⟨GQ (L2.eu hg hm ha.run hs) fun σ H R ⟨τ,J,R2,a2,h,k⟩=>⟨τ,J,_,a2,h,fun xs J1 vs H1 rs r1 e1 ⟨j,ej,l1,l2,q⟩=>by
  subst ej
  obtain ⟨v,us,rfl,rv,e'⟩:=rs
  cases rv;cases e'
  exact ⟨j,rfl,l1,l2,k _ J1 _ H1 (.Et 0 _) r1 e1 q⟩⟩⟩
def eK (C:Addr) (E2:Addr→Hq→Prop) (t:kQ):fq:=fun _ τ J=>t τ J fun xs J1=>xs.length≤sizeLine∧E2 C J1
theorem dj {E:XK} {E2:Addr→Hq→Prop} {C:Addr} {x:Str} {t:kQ} {np cpos:Pos} (O:Own X.K X.mg x C) (hc:X.calm=true) (hx:Throws X E) (kn:Eh X.K G.1 G.2 E2 E) (hg:Gl X x) (ha:RA X G (e :: es) t)
  (hd:(x == ("__debug__":Str))=false:=by decide) (he:starEach (e :: es) X.env=(false,eval e X.env) :: starEach es X.env:=by rfl) (hpl:(backTo cpos (starEach es X.env)).any (·.1)=false:=by rfl) :
  RS X G (.Raise (some (.Call (.Name x np) (e :: es) [] cpos)) none pos) (eK C E2 t):=⟨uz (wH O hc hx hg ha.run hd he hpl) fun D σ H ⟨τ,J,D2,a2,h,g⟩ =>
 ⟨τ,J,_,a2,h,fun xs J1 vs H1 rs r1 e1 ⟨hl,q⟩=>⟨by rw [← rs.length];exact hl,kn C J1 H1 r1 (a2.ext.trans e1) q⟩⟩⟩
end
section
variable {P:Program} {w:World} {K:PySem.W.Frag} {mg:Str→Option Value} {base:Heap}
def tH (N:List Str) (xs:List PV):Sr:=xs.map some ++ List.replicate (N.length - xs.length) none
theorem zy {J:Hq} {H:Hp} {N:List Str} {xs:List PV} {vs:List V} (r:aE K J H xs vs):iw K J H (tH N xs) (L2.start N vs):=by
 refine ⟨by simp [tH,L2.start,r.length],fun i x e=>?_⟩
 unfold tH at e
 unfold L2.start
 by_cases hi:i < xs.length
 ·rw [List.getElem?_append_left (by simpa using hi),List.getElem?_map] at e
  cases ex:xs[i]? with
  | none=>rw [ex] at e;cases e
  | some y =>
   rw [ex] at e
   cases e
   obtain ⟨v,h1,h2⟩:=r.get ex
   exact ⟨v,by rw [List.getElem?_append_left (by rw [List.length_map,← r.length];exact hi),List.getElem?_map,h1];rfl,h2⟩
 ·rw [List.getElem?_append_right (by simpa using hi)] at e
  have:=List.mem_of_getElem? e
  rw [List.mem_replicate] at this
  cases this.2
theorem IS {x qual:Str} {st:Stmt} {f:Addr} {fd:FuncData} {N ps:List Str} {k:Nat} {sp:cm} (F:bV K x qual st f fd) (S:aw N ps (L2.aj st)) (len:∀ xs J Q E,sp xs J Q E→xs.length=ps.length)
  (hbody:∀ (cdv:Value) (A:Around) (outer:List Env) (s:Shared) (H:Hp) (E:XK) (G:G2) (xs:List PV) (J:Hq) (Q:PV→Hq→Prop) (E2:Addr→Hq→Prop),ba k (A.deeper (envOfC qual (L2.aj st) s.heap.objs.size f cdv))→sp xs J Q E2 →
   zP (w_ P w K mg base N qual (L2.aj st) f cdv A outer s H E) G E2 E →
   ∃ t,RB (w_ P w K mg base N qual (L2.aj st) f cdv A outer s H E) G (L2.bC st) t∧t { nx:=fun _ J'=>Q .non J',rt:=Q } (tH N xs) J):aI P w K mg base (cS P w) (k + 1) f fd ps (dz K sp):=by
 refine Js F S (fun vs H Q E ⟨xs,J,Q2,E2,a,_,b,_⟩=>by rw [← a.length];exact len _ _ _ _ b) fun cdv A outer s H vs Q E hr ⟨xs,J,Q2,E2,rs,rr,hs,kn,ke⟩=>?_
 obtain ⟨t,hb,q⟩:=hbody cdv A outer s H E (J,H) xs J Q2 E2 hr hs ⟨rY,ke⟩
 refine ⟨_,⟨hb.run⟩,tH N xs,J,_,⟨zy rs,rr,.refl⟩,q,?_⟩
 exact { nx:=fun τ J' σ H' _ r e q=>kn .non J' .non H' rfl r e q,rt:=fun x J' v H' rx r e q=>kn x J' v H' rx r e q,bk:=fun _ _ _ _ _ _ _ q=>q.elim,ct:=fun _ _ _ _ _ _ _ q=>q.elim }
theorem _root_.Ov.Def.eW {x:Str} {st:Stmt} {k:Nat} {ps:List Str} {sp:cm} (D:Def K mg x st)
  (h:∀ f fd,bV K x x st f fd→aI P w K mg base (cS P w) k f fd ps (dz K sp))
  (hb:∀ (kV doc pm:Value) (an:Option Addr) (cdv ct:Value) (us:List Value),us.length=ps.length→bindArgs (PySem.W.fnOf x x (L2.cb st) (L2.bC st) (L2.aj st) .none kV doc pm an cdv ct) ⟨us,[]⟩=pure (ps.zip us)) :
  a7 P w K mg base k x ps sp:=D.G_ h hb
end
section
variable {X:Cx} {K:PySem.W.Frag}
def Bj (g:Int→Int→PV):iS:=fun x y J Q=>∃ i j,x=.int i∧y=.int j∧Q (g i j) J
def qI (C:Int→Int→Prop) (g:Int→Int→PV):iS:=fun x y J Q=>∃ i j,x=.int i∧y=.int j∧C i j∧Q (g i j) J
theorem nH {g:Int→Int→V} {g':Int→Int→PV} (hg:∀ J H i j,bI K J H (g' i j) (g i j)):LR K (L2.zS g) (Bj g'):=fun J H x y v w Q2 Q rx ry r ⟨i,j,ex,ey,q⟩ k=>by
 subst ex ey;exact ⟨i,j,rx,ry,k _ J _ H (hg _ _ _ _) r .refl q⟩
theorem Dq {C:Int→Int→Prop} {g:Int→Int→V} {g':Int→Int→PV} (hg:∀ J H i j,bI K J H (g' i j) (g i j)):LR K (L2.rI C g) (qI C g'):=fun J H x y v w Q2 Q rx ry r ⟨i,j,ex,ey,c,q⟩ k=>by
 subst ex ey;exact ⟨i,j,rx,ry,c,k _ J _ H (hg _ _ _ _) r .refl q⟩
theorem dh:jJ X (binaryOp .Add) (Bj fun i j=>.int (i + j)):=⟨_,L2.fK,nH fun _ _ _ _=>rfl⟩
theorem dG:jJ X (binaryOp .Sub) (Bj fun i j=>.int (i - j)):=⟨_,L2.sJ,nH fun _ _ _ _=>rfl⟩
theorem bA:jJ X (binaryOp .Mult) (qI CM fun i j=>.int (i * j)):=⟨_,bT,Dq fun _ _ _ _=>rfl⟩
theorem jh:jJ X (binaryOp .FloorDiv) (qI CQ fun i j=>.int (i.fdiv j)):=⟨_,eI,Dq fun _ _ _ _=>rfl⟩
theorem dF:jJ X (binaryOp .Mod) (qI (fun _ j=>0 < j) fun i j=>.int (i % j)):=⟨_,L2.eJ,Dq fun _ _ _ _=>rfl⟩
theorem fv:jJ X (compareOp .Lt) (Bj fun i j=>.bl (decide (i < j))):=⟨_,L2.uu,nH fun _ _ _ _=>rfl⟩
theorem yC:jJ X (compareOp .LtE) (Bj fun i j=>.bl (decide (i≤j))):=⟨_,L2.Cg,nH fun _ _ _ _=>rfl⟩
theorem ik:jJ X (compareOp .Gt) (Bj fun i j=>.bl (decide (j < i))):=⟨_,L2.Ce,nH fun _ _ _ _=>rfl⟩
theorem yB:jJ X (compareOp .GtE) (Bj fun i j=>.bl (decide (j≤i))):=⟨_,L2.Cd,nH fun _ _ _ _=>rfl⟩
def qU (g:Int→PV):Ez:=fun x J Q=>∃ i,x=.int i∧Q (g i) J
theorem mC:IE X (unaryOp .USub) (qU fun i=>.int (-i)):=⟨_,L2.zM,fun J H x v Q2 Q rx r ⟨i,ex,q⟩ k=>by subst ex;exact ⟨i,rx,k (.int (-i)) J _ H rfl r .refl q⟩⟩
def FN:iS:=fun x y J Q=>∃ i j,x=.str i∧y=.str j∧Q (.bl (decide (i.cps.toList < j.cps.toList))) J
theorem sL:jJ X (compareOp .Lt) FN:=⟨_,L2.wz,fun J H x y v w Q2 Q rx ry r ⟨i,j,ex,ey,q⟩ k=>by subst ex ey;exact ⟨i,j,rx,ry,k (.bl _) J _ H rfl r .refl q⟩⟩
def xV:PV→Bool
 | .non=>true
 | _=>false
theorem ug {J:Hq} {H:Hp} {x:PV} {v:V} (r:bI K J H x v):decide (v=.non)=xV x:=by
 cases x with
 | non=>cases r;rfl
 | tup xs=>obtain ⟨a,vs,rfl,_⟩:=r;rfl
 | fl xs=>obtain ⟨a,vs,rfl,_⟩:=r;rfl
 | _=>cases r;rfl
def IW:iS:=fun x y J Q=>y=.non∧Q (.bl (xV x)) J
def yX:iS:=fun x y J Q=>y=.non∧Q (.bl (!xV x)) J
theorem qG:jJ X (compareOp .Is) IW:=⟨_,L2.DB,fun J H x y v w Q2 Q rx ry r ⟨ey,q⟩ k=>by subst ey;cases ry;exact ⟨rfl,by rw [ug rx];exact k (.bl _) J _ H rfl r .refl q⟩⟩
theorem qH:jJ X (compareOp .IsNot) yX:=⟨_,L2.AW,fun J H x y v w Q2 Q rx ry r ⟨ey,q⟩ k=>by subst ey;cases ry;exact ⟨rfl,by rw [ug rx];exact k (.bl _) J _ H rfl r .refl q⟩⟩
mutual
def fz:PV→Py
 | .non=>.non | .bl b=>.bl b | .int i=>.int i | .str x=>.str x | .ref _=>.non | .ty _=>.non | .tup xs=>.tup (gB xs) | .fl xs=>.lst (gB xs)
def gB:List PV→List Py
 | []=>[]
 | x :: xs=>fz x :: gB xs
end
mutual
def j0:PV→Bool
 | .ref _=>false | .ty _=>false | .tup xs=>iH xs | .fl xs=>iH xs | _=>true
def iH:List PV→Bool
 | []=>true
 | x :: xs=>j0 x && iH xs
end
mutual
theorem n6 {J:Hq} {H:Hp}:∀ {x:PV} {v:V},j0 x=true→bI K J H x v→At K H (fz x) v
 | .non,_,_,h=>h
 | .bl _,_,_,h=>h
 | .int _,_,_,h=>h
 | .str _,_,_,h=>h
 | .tup xs,_,p,⟨a,vs,e,h,k⟩=>⟨a,vs,e,h,lJ (by simpa [j0] using p) k⟩
 | .fl xs,_,p,⟨a,vs,e,h,k⟩=>⟨a,vs,e,h.sq,lJ (by simpa [j0] using p) k⟩
theorem lJ {J:Hq} {H:Hp}:∀ {xs:List PV} {vs:List V},iH xs=true→aE K J H xs vs→mG K H (gB xs) vs
 | [],_,_,h=>h
 | x :: xs,_,p,⟨v,us,e,h,k⟩=>by
  have p':j0 x=true∧iH xs=true:=by simpa [iH] using p
  exact ⟨v,us,e,n6 p'.1 h,lJ p'.2 k⟩
end
def eqQ (x y:PV):Bool:=gS (fz x) (fz y)
def CP (x:PV):Prop:=j0 x=true∧dep (fz x)≤60
def wJ (f:Bool→Bool):iS:=fun x y J Q=>CP x∧j0 y=true∧Q (.bl (f (eqQ x y))) J
theorem B_ (f:Bool→Bool):LR K (rP K f) (wJ f):=fun J H x y v w Q2 Q rx ry r ⟨⟨px,d⟩,py,q⟩ k=>⟨fz x,fz y,n6 px rx,n6 py ry,d,k (.bl _) J _ H rfl r .refl q⟩
theorem cH (hu:X.A.units + 61 < cLine):jJ X (compareOp .Eq) (wJ id):=⟨_,Dz hu,B_ id⟩
theorem ji (hu:X.A.units + 61 < cLine):jJ X (compareOp .NotEq) (wJ not):=⟨_,DC hu,B_ not⟩
def dJ (J:Hq):PV→PV→Option PV
 | .tup xs,.int i=>cI xs i
 | .fl xs,.int i=>cI xs i
 | .ref a,.int i=>match J a with
  | some (.lst xs)=>cI xs i
  | _=>none
 | _,_=>none
theorem aE.cI {J:Hq} {H:Hp} {xs:List PV} {vs:List V} {i:Int} {x:PV} (r:aE K J H xs vs) (h:L2.cI xs i=some x):∃ v,L2.cI vs i=some v∧bI K J H x v:=by
 unfold L2.cI at h ⊢
 rw [← r.length]
 cases e:L2.xa xs.length i with
 | none=>rw [e] at h;cases h
 | some j =>
  rw [e] at h
  obtain ⟨v,h1,h2⟩:=r.get h
  exact ⟨v,h1,h2⟩
def uE:iS:=fun x y J Q=>∃ v,dJ J x y=some v∧Q v J
theorem au:G1 X uE:=⟨_,L2.oj.or L2.bX,fun J H x y v w Q2 Q rx ry r ⟨z,ez,q⟩ k=>by
 cases y with
 | int i =>
  cases ry
  cases x with
  | tup xs =>
   obtain ⟨a,vs,rfl,h1,h2⟩:=rx
   obtain ⟨u,e1,e2⟩:=h2.cI (show L2.cI xs i=some z from ez)
   exact .inr ⟨a,vs,i,u,rfl,rfl,h1,e1,k z J u H e2 r .refl q⟩
  | fl xs =>
   obtain ⟨a,vs,rfl,h1,h2⟩:=rx
   obtain ⟨u,e1,e2⟩:=h2.cI (show L2.cI xs i=some z from ez)
   exact .inl ⟨a,vs,i,u,rfl,rfl,h1.sq,e1,k z J u H e2 r .refl q⟩
  | ref a =>
   cases rx
   unfold dJ at ez
   dsimp only at ez
   cases ej:J a with
   | none=>rw [ej] at ez;cases ez
   | some o =>
    rw [ej] at ez
    cases o with
    | lst xs =>
     obtain ⟨vs,h1,h2⟩:=r _ _ ej
     obtain ⟨u,e1,e2⟩:=h2.cI (show L2.cI xs i=some z from ez)
     exact .inl ⟨a,vs,i,u,rfl,rfl,.inl (.inl h1),e1,k z J u H e2 r .refl q⟩
    | _=>cases ez
  | _=>cases ez
 | _=>cases x <;> cases ez⟩
def kG (xs:List PV) (lo hi:Option Int):List PV:=(xs.drop (HT.c9 xs.length 0 lo)).take (HT.c9 xs.length xs.length hi - HT.c9 xs.length 0 lo)
theorem tT {J:Hq} {H:Hp} {xs:List PV} {vs:List V} {lo hi:Option Int} (r:aE K J H xs vs):aE K J H (kG xs lo hi) (L2.lK vs lo hi):=by
 unfold kG L2.lK
 rw [← r.length]
 exact (r.drop _).take _
def FR:vD:=fun x lo hi J Q=>∃ xs,x=.tup xs∧¬ (HT.c9 xs.length 0 lo=0∧HT.c9 xs.length xs.length hi=xs.length)∧Q (.tup (kG xs lo hi)) J
theorem tG:G5 X FR:=⟨_,L2.D6,fun J H x lo hi v Q2 Q rx r ⟨xs,ex,hn,q⟩ k=>by
 subst ex
 obtain ⟨a,vs,rfl,h1,h2⟩:=rx
 refine ⟨a,vs,rfl,h1,by rw [← h2.length];exact hn,fun p hp=>?_⟩
 have sm:=aY.new hp (.tup (L2.lK vs lo hi))
 have e2:=Ext.same (K:=X.K) (J:=J) sm
 exact k (.tup (kG xs lo hi)) J (.ref p) _ ⟨p,_,rfl,.inl (.inl az),e2.gf (tT h2)⟩ (r.same sm) e2 q⟩
def kT (J:Hq):PV→Option (List PV)
 | .fl xs=>some xs
 | .ref a=>match J a with
  | some (.lst xs)=>some xs
  | _=>none
 | _=>none
theorem oz {J:Hq} {H:Hp} {x:PV} {v:V} {xs:List PV} (rx:bI K J H x v) (r:Rep K J H) (h:kT J x=some xs):∃ a vs,v=.ref a∧cM K H a vs∧aE K J H xs vs:=by
 cases x with
 | fl ys=>obtain ⟨a,vs,rfl,h1,h2⟩:=rx;cases h;exact ⟨a,vs,rfl,h1.sq,h2⟩
 | ref a =>
  cases rx
  unfold kT at h
  dsimp only at h
  cases ej:J a with
  | none=>rw [ej] at h;cases h
  | some o =>
   rw [ej] at h
   cases o with
   | lst ys=>cases h;obtain ⟨vs,h1,h2⟩:=r _ _ ej;exact ⟨a,vs,rfl,.inl (.inl h1),h2⟩
   | _=>cases h
 | _=>cases h
def FQ:vD:=fun x lo hi J Q=>∃ xs,kT J x=some xs∧Q (.fl (kG xs lo hi)) J
theorem Gf:G5 X FQ:=⟨_,L2.pF,fun J H x lo hi v Q2 Q rx r ⟨xs,ex,q⟩ k=>by
 obtain ⟨a,vs,rfl,h1,h2⟩:=oz rx r ex
 refine ⟨a,vs,rfl,h1,fun p hp=>?_⟩
 obtain ⟨x1,x2,x3⟩:=sG r (tT (lo:=lo) (hi:=hi) h2) hp
 exact k _ J _ _ x1 x2 x3 q⟩
def HV:vD:=fun x lo hi J Q=>∃ xs,kT J x=some xs∧∀ p,J p=none→Q (.ref p) (put J p (.lst (kG xs lo hi)))
def FF:tN:=fun xs J Q=>∃ i,xs=[.int i]∧Q (.int (if i < 0 then -i else i)) J
theorem rX:CG X (.builtin "abs") FF:=⟨_,L2.iX,fun J H xs vs Q2 Q rs r ⟨i,ex,q⟩ k=>by
 subst ex;obtain ⟨v,us,rfl,rv,e⟩:=rs;cases rv;cases e
 exact ⟨i,rfl,k (.int _) J _ H rfl r .refl q⟩⟩
def ql (J:Hq):PV→Option Nat
 | .tup xs=>some xs.length
 | x=>(kT J x).map List.length
def FK:tN:=fun xs J Q=>∃ x n,xs=[x]∧ql J x=some n∧Q (.int n) J
theorem bQ:CG X (.builtin "len") FK:=⟨_,L2.fF,fun J H xs vs Q2 Q rs r ⟨x,n,ex,en,q⟩ k=>by
 subst ex;obtain ⟨v,us,rfl,rv,e⟩:=rs;cases e
 have go:∀ ys,kT J x=some ys→ys.length=n→∃ p ws,([v]:List V)=[.ref p]∧(cM X.K H p ws∨fh X.K H p ws)∧Q (.int ws.length) H:=fun ys h1 h2=>by
  obtain ⟨a,ws,rfl,h3,h4⟩:=oz rv r h1
  exact ⟨a,ws,rfl,.inl h3,by rw [← h4.length,h2];exact k (.int _) J _ H rfl r .refl q⟩
 cases x with
 | tup ys =>
  obtain ⟨a,ws,rfl,h1,h2⟩:=rv
  cases en
  exact ⟨a,ws,rfl,.inr h1,by rw [← h2.length];exact k (.int _) J _ H rfl r .refl q⟩
 | fl ys=>cases en;exact go _ rfl rfl
 | ref a =>
  unfold ql at en
  cases el:kT J (.ref a) with
  | none=>simp [el] at en
  | some ys=>simp [el] at en;exact go _ el en
 | _=>cases en⟩
def vt (J:Hq):PV→Option String
 | .non=>some "NoneType" | .bl _=>some "bool" | .int _=>some "int" | .str _=>some "str" | .tup _=>some "tuple" | .fl _=>some "list"
 | .ref a=>match J a with
  | some (.lst _)=>some "list"
  | some (.dct _ _)=>some "dict"
  | _=>none
 | _=>none
def iP (t n:String):Option Bool :=
 if n∈["int","bool","str","tuple","list"] then some (t == n || (t == "bool" && n == "int")) else none
theorem Av (K:PySem.W.Frag) {t n:String} {b:Bool} (ht:t∈["NoneType","bool","int","str","tuple","list","dict"]) (h:iP t n=some b):PySem.W.kitOne K (.type t) (.type n)=some b:=by
 unfold iP at h
 by_cases hn:n∈["int","bool","str","tuple","list"]
 ·rw [if_pos hn] at h
  simp only [List.mem_cons,List.not_mem_nil,or_false] at ht hn
  rcases ht with rfl | rfl | rfl | rfl | rfl | rfl | rfl <;> rcases hn with rfl | rfl | rfl | rfl | rfl <;> cases h <;> with_unfolding_all rfl
 ·rw [if_neg hn] at h;cases h
theorem BU {J:Hq} {x:PV} {t:String} (h:vt J x=some t):t∈["NoneType","bool","int","str","tuple","list","dict"]:=by
 cases x with
 | ref a =>
  unfold vt at h
  dsimp only at h
  cases ej:J a with
  | none=>rw [ej] at h;cases h
  | some o=>rw [ej] at h;cases o <;> cases h <;> simp
 | ty n=>cases h
 | _=>cases h;simp
def FI:tN:=fun xs J Q=>∃ x n t b,xs=[x,.ty n]∧vt J x=some t∧iP t n=some b∧Q (.bl b) J
theorem vG:b7 X (.builtin "isinstance") (fun xs H Q=>∃ x n t b,xs=[x,.ty n]∧(eV X.K H x (.type t)∨(t="tuple"∧∃ a vs,x=.ref a∧fh X.K H a vs)∨(t="list"∧∃ a vs,x=.ref a∧cM X.K H a vs))∧PySem.W.kitOne X.K (.type t) (.type n)=some b∧Q (.bl b) H):=by
 intro pins s σ H xs us Q I r h
 obtain ⟨x,n,t,b,rfl,ty,e,q⟩:=h
 obtain ⟨u,w',rfl,rx,ry⟩:=L2.vals2 r
 cases (show w'=Value.type n from ry)
 rcases ty with ty | ⟨rfl,a,vs,rfl,hs⟩ | ⟨rfl,a,vs,rfl,hs⟩
 ·exact L2.vR I rx ty e fun tk=>⟨.bl b,H,I.tok _,rfl,q⟩
 ·cases rx
  obtain ⟨its,_,⟨o,h1,h2,_⟩,_⟩:=I.tuple hs
  exact PySem.W.kia_one PySem.W.kitx_tuple I.i_ ⟨o,h1,h2⟩ e (fun z=>nomatch z) fun tk=>⟨.bl b,H,I.tok _,rfl,q⟩
 ·cases rx
  obtain ⟨its,_,⟨o,_,h1,h2,_⟩,_⟩:=I.list hs
  exact PySem.W.kia_one PySem.W.kitx_list I.i_ ⟨o,h1,h2⟩ e (fun z=>nomatch z) fun tk=>⟨.bl b,H,I.tok _,rfl,q⟩
theorem iB:CG X (.builtin "isinstance") FI:=⟨_,vG,fun J H xs vs Q2 Q rs r ⟨x,n,t,b,ex,et,es,q⟩ k=>by
 subst ex
 obtain ⟨v,us,rfl,rv,w,us',rfl,rw',e⟩:=rs
 cases rw';cases e
 refine ⟨v,n,t,b,rfl,?_,Av X.K (BU et) es,k (.bl _) J _ H rfl r .refl q⟩
 cases x with
 | non=>cases rv;cases et;exact .inl .non
 | bl i=>cases rv;cases et;exact .inl (.bl i)
 | int i=>cases rv;cases et;exact .inl (.int i)
 | str i=>cases rv;cases et;exact .inl (.str i)
 | tup xs=>obtain ⟨a,ws,rfl,h1,_⟩:=rv;cases et;exact .inr (.inl ⟨rfl,a,ws,rfl,h1⟩)
 | fl xs =>
  obtain ⟨a,ws,rfl,h1,_⟩:=rv;cases et
  exact .inr (.inr ⟨rfl,a,ws,rfl,h1.sq⟩)
 | ty n=>cases et
 | ref a =>
  cases rv
  unfold vt at et
  dsimp only at et
  cases ej:J a with
  | none=>rw [ej] at et;cases et
  | some o =>
   rw [ej] at et
   have z:=r _ _ ej
   cases o with
   | lst xs=>obtain ⟨ws,h1,_⟩:=z;cases et;exact .inl (.lst h1)
   | dct kvs ep=>obtain ⟨gs,h1,_⟩:=z;cases et;exact .inl (.dE h1)
   | tab=>cases et
   | ins C fs=>cases et⟩
def DM:tN:=fun xs J Q=>∃ x ys,xs=[x]∧kT J x=some ys∧Q (.fl ys) J
def yW:tN:=fun xs J Q=>∃ x ys,xs=[x]∧kT J x=some ys∧∀ p,J p=none→Q (.ref p) (put J p (.lst ys))
theorem xu:CG X (.type "list") yW:=⟨_,L2.n8,fun J H xs vs Q2 Q rs r ⟨x,ys,ex,el,q⟩ k=>by
 subst ex;obtain ⟨v,us,rfl,rv,e⟩:=rs;cases e
 obtain ⟨a,ws,rfl,h3,h4⟩:=oz rv r el
 exact ⟨a,ws,rfl,.inl h3,fun p hp=>k (.ref p) _ _ _ rfl (r.x9 hp h4) (.laid hp) (q p (r.free hp))⟩⟩
def HU:tN:=fun xs J Q=>∃ i j,xs=[.int i,.int j]∧Q (.int (if j > i then j else i)) J
def o5:w9:=fun x xs J Q=>∃ a ys y,x=.ref a∧xs=[y]∧J a=some (.lst ys)∧ys.length < sizeLine∧Q .non (put J a (.lst (ys ++ [y])))
theorem jS:CI X "list" "list.append" o5:=⟨_,L2.er,fun J H x xs v vs Q2 Q rx rs r ⟨a,ys,y,ex,exs,ja,hl,q⟩ k=>by
 subst ex exs;cases rx;obtain ⟨w,us,rfl,rw',e⟩:=rs;cases e
 obtain ⟨ws,h1,h2⟩:=r _ _ ja
 exact ⟨a,ws,w,rfl,rfl,h1,by rw [← h2.length];exact hl,k .non _ _ _ rfl (r.wrote (ys:=ys ++ [y]) ja h1 (h2.append (show aE X.K J H [y] [w] from ⟨w,[],rfl,rw',rfl⟩))) (.wrote ja h1) q⟩⟩
def FO:w9:=fun x xs J Q=>∃ a ys y,x=.ref a∧xs=[]∧J a=some (.lst ys)∧ys[ys.length - 1]?=some y∧Q y (put J a (.lst ys.dropLast))
theorem aE.dropLast {J:Hq} {H:Hp} {xs:List PV} {vs:List V} (r:aE K J H xs vs):aE K J H xs.dropLast vs.dropLast:=by
 rw [List.dropLast_eq_take,List.dropLast_eq_take,← r.length]
 exact r.take _
theorem Du:CI X "list" "list.pop" FO:=⟨_,L2.Dv,fun J H x xs v vs Q2 Q rx rs r ⟨a,ys,y,ex,exs,ja,hy,q⟩ k=>by
 subst ex exs;cases rx;cases rs
 obtain ⟨ws,h1,h2⟩:=r _ _ ja
 obtain ⟨w,e1,e2⟩:=h2.get hy
 have ex:=Ext.wrote (K:=X.K) (ys:=ys.dropLast) (vs:=ws.dropLast) ja h1
 exact ⟨a,ws,w,rfl,rfl,h1,by rw [← h2.length];exact e1,k y _ w _ (ex.rep e2) (r.wrote ja h1 h2.dropLast) ex q⟩⟩
def DL:w9:=fun x xs J Q=>∃ a ys,x=.ref a∧xs=[]∧J a=some (.lst ys)∧Q .non (put J a (.lst []))
def Bl:V→List V→Hp→VK→Prop:=fun x vs H Q=>∃ l xs i y,x=.ref l∧vs=[.int (i:Nat),y]∧H l=some (.lst xs)∧i≤xs.length∧xs.length < sizeLine∧i < 2 ^ 62∧Q .non (upd H l (.lst (xs.take i ++ y :: xs.drop i)))
theorem sh (its:List Value) (i:Nat) (u:Value) (h:i≤its.length):((its.toArray.extract 0 (min ((i:Int)).toNat its.toArray.size)).push u ++ its.toArray.extract (min ((i:Int)).toNat its.toArray.size))=(its.take i ++ u :: its.drop i).toArray:=by
 have e:min ((i:Int)).toNat its.toArray.size=i:=by simp;omega
 rw [e]
 apply Array.ext'
 simp
 exact List.take_of_length_le (by simp)
theorem wd:nY X "list.insert" Bl:=by
 intro pins s σ H x vs v us Q I rx rv h
 obtain ⟨l,xs,i,y,rfl,rfl,hH,hi,hz,hb,q⟩:=h
 cases rx
 obtain ⟨u,w,rfl,ru,rw'⟩:=L2.vals2 rv
 obtain ⟨t,rfl⟩:=ru
 obtain ⟨z,its,n,r,hl,e⟩:=I.AA hH
 have h63:((i:Nat):Int) < 2 ^ 63:=by
  have:((i:Nat):Int) < ((2 ^ 62:Nat):Int):=Int.ofNat_lt.mpr hb
  exact Int.lt_trans this (by decide)
 have hf:Builtin.List.listFitsIndex ((i:Nat):Int)=true:=fitsIndex_both (Int.le_trans (by decide) (Int.natCast_nonneg i)) h63
 have hs:its.toArray.size≤sizeLine:=by rw [List.size_toArray,← hl];exact z
 have hn:¬(!Builtin.List.listFitsIndex ((i:Nat):Int))=true:=by rw [hf];exact fun z=>nomatch z
 have hneg:¬ (((i:Nat):Int) < 0):=by omega
 have hins:=sh its i w (by omega)
 clear hb h63 hf
 generalize ((i:Nat):Int)=ii at *
 have mm:=PySem.AutoSeq1.list_insert_list_int_val_1 l its.toArray n ii t w hn hs
 refine call_meets PySem.F.slot_list_insert ⟨_,e,rfl⟩ PySem.F.entry_list_insert (PySem.F.args_list_insert_3 _ _ _) mm ⟨e,?_⟩
 refine ⟨.non,_,I.Az (its':=its.take i ++ w :: its.drop i) hH e ?_ ((r.take i).append (.cons rw' (r.drop i))) ?_,rfl,q⟩
 ·simp only [if_neg hneg]
  exact hins
 ·rw [List.length_append,List.length_cons,List.length_take,List.length_drop];omega
def uD:w9:=fun x xs J Q=>∃ a ys i y,x=.ref a∧xs=[.int (i:Nat),y]∧J a=some (.lst ys)∧i≤ys.length∧ys.length < sizeLine∧i < 2 ^ 62∧Q .non (put J a (.lst (ys.take i ++ y :: ys.drop i)))
theorem jT:CI X "list" "list.insert" uD:=⟨_,wd,fun J H x xs v vs Q2 Q rx rs r ⟨a,ys,i,y,ex,exs,ja,hi,hl,hb,q⟩ k=>by
 subst ex exs;cases rx;obtain ⟨w0,us,rfl,rw0,w,us',rfl,rw',e⟩:=rs;cases e;cases rw0
 obtain ⟨ws,h1,h2⟩:=r _ _ ja
 exact ⟨a,ws,i,w,rfl,rfl,h1,by rw [← h2.length];exact hi,by rw [← h2.length];exact hl,hb,k .non _ _ _ rfl (r.wrote (ys:=ys.take i ++ y :: ys.drop i) ja h1 ((h2.take i).append (show aE X.K J H (y :: ys.drop i) (w :: ws.drop i) from ⟨w,_,rfl,rw',h2.drop i⟩))) (.wrote ja h1) q⟩⟩
end
def kM (ks:List (Str × Nat)) (τ:Sr):Sr:=ks.map fun p=>(τ[p.2]?).getD none
theorem uO {K:PySem.W.Frag} {J:Hq} {H:Hp} {τ:Sr} {σ:L2.St} (r:iw K J H τ σ) {x:PV} {v:V} (rx:bI K J H x v) (ks:List (Str × Nat)):iw K J H (some x :: kM ks τ) (some v :: cn ks σ):=by
 refine ⟨by simp [kM,cn],fun i y e=>?_⟩
 cases i with
 | zero=>rw [List.getElem?_cons_zero] at e ⊢;cases e;exact ⟨v,rfl,rx⟩
 | succ i =>
  rw [List.getElem?_cons_succ] at e ⊢
  unfold kM at e
  unfold cn
  rw [List.getElem?_map] at e ⊢
  cases ep:ks[i]? with
  | none=>rw [ep] at e;cases e
  | some p =>
   rw [ep] at e
   have e':(τ[p.2]?).getD none=some y:=Option.some.inj e
   have e2:τ[p.2]?=some (some y):=by
    cases q:τ[p.2]? with
    | none=>rw [q] at e';cases e'
    | some w=>rw [q] at e';exact congrArg some e'
   obtain ⟨v',h1,h2⟩:=r.get _ _ e2
   exact ⟨v',by show some ((σ[p.2]?).getD none)=_;rw [h1];rfl,h2⟩
def Sub (J J':Hq):Prop:=∀ a o,J a=some o→J' a=some o
theorem Sub.refl (J:Hq):Sub J J:=fun _ _ h=>h
theorem Sub.put {J:Hq} {D:Addr} {o:HQ} (h:J D=none):Sub J (put J D o):=fun a u e=>by
 have ne:a≠D:=by intro z;subst z;rw [h] at e;cases e
 rw [ar ne];exact e
def G3 (it:rQ) (J1:Hq) (ks:List (Str × Nat)) (τ:Sr) (tc:iy) (te:cq) (c:PV→Bool) (g:PV→PV):Prop:=it.xs.length < sizeLine∧∀ J',Sub J1 J'→it.ok J' ∧
 ∀ x∈it.xs,tc (some x :: kM ks τ) J' (fun b J2=>b=c x∧J2=J')∧(c x=true→te (some x :: kM ks τ) J' fun y J2=>y=g x∧J2=J')
def DR (wi:nZ) (ks:List (Str × Nat)) (tc:iy) (te:cq):cq:=fun τ J Q=>wi τ J fun it J1=>∃ (c:PV→Bool) (g:PV→PV),G3 it J1 ks τ tc te c g∧Q (.fl ((it.xs.filter c).map g)) J1
def DS (wi:nZ) (ks:List (Str × Nat)) (tc:iy) (te:cq):cq:=fun τ J Q=>wi τ J fun it J1=>∃ (c:PV→Bool) (g:PV→PV),G3 it J1 ks τ tc te c g∧∀ p,J1 p=none→Q (.ref p) (put J1 p (.lst ((it.xs.filter c).map g)))
def Cy:iy:=fun _ J Q=>Q true J
section
variable {X:Cx} {G:G2}
theorem kF {α:Type} (c:α→Bool) {xs:List α} {i:Nat} {x:α} (h:xs[i]?=some x):(xs.take (i + 1)).filter c=(xs.take i).filter c ++ (if c x=true then [x] else []):=by
 rw [List.take_add_one,h,List.filter_append]
 congr 1
 simp only [Option.toList_some,List.filter_cons,List.filter_nil]
theorem um {K:PySem.W.Frag} {ks:List (Str × Nat)} {tc:iy} {te:cq} {σ:L2.St} {H:Hp} {Q:VK} {τ:Sr} {J:Hq} (a2:pQ K G τ J σ H) {it:rQ} {J1:Hq} {I:It} {H1:Hp} (ir:m9 K it I J1 H1) (r1:Rep K J1 H1) (e1:Ext K J H J1 H1) {c:PV→Bool} {g:PV→PV}
  (w:G3 it J1 ks τ tc te c g)
  (q:∀ D H2,H1 D=none→J1 D=none→Rep K (put J1 D (.lst ((it.xs.filter c).map g))) H2→Ext K J1 H1 (put J1 D (.lst ((it.xs.filter c).map g))) H2→Q (.ref D) H2) :
  ∀ D,H1 D=none→∃ W:Nat→Nat→Hp→Prop,(∃ m,W 0 m (upd H1 D (.lst [])))∧∀ i m H2,W i m H2→(I.stop i H2∧Q (.ref D) H2) ∨
   (I.go i H2∧∀ v H3,I.yld i H2 v H3→LT K G tc (some v :: cn ks σ) H3 fun b H4=>if b=true then LE K G te (some v :: cn ks σ) H4 fun y H5=>∃ ys,H5 D=some (.lst ys)∧ys.length < sizeLine∧∃ m',m' < m∧W (i + 1) m' (upd H5 D (.lst (ys ++ [y]))) else ∃ m',m' < m∧W (i + 1) m' H4):=by
 intro D hD
 obtain ⟨hlen,w⟩:=w
 have jD:J1 D=none:=r1.free hD
 refine ⟨fun i m H2=>m=it.xs.length - i∧i≤it.xs.length∧Rep K (put J1 D (.lst (((it.xs.take i).filter c).map g))) H2∧Ext K J1 H1 (put J1 D (.lst (((it.xs.take i).filter c).map g))) H2,⟨_,rfl,Nat.zero_le _,r1.x9 (xs:=[]) (vs:=[]) hD rfl,.laid hD⟩,?_⟩
 rintro i m H2 ⟨rfl,hi,r2,e2⟩
 obtain ⟨ok,ww⟩:=w _ (Sub.put (o:=.lst (((it.xs.take i).filter c).map g)) jD)
 by_cases hlt:i < it.xs.length
 ·refine .inr ⟨ir.go _ H2 e2 r2 ok i hlt,fun v H3 y=>?_⟩
  obtain ⟨x,ex,rx,r3,e3⟩:=ir.yl _ H2 e2 r2 ok i hlt v H3 y
  obtain ⟨hc,he⟩:=ww x (List.mem_of_getElem? ex)
  have a3:pQ K G (some x :: kM ks τ) _ (some v :: cn ks σ) H3:=⟨uO (a2.sl.ext ((e1.trans e2).trans e3)) rx ks,r3,((a2.ext.trans e1).trans e2).trans e3⟩
  refine ⟨_,_,_,a3,hc,fun b J4 H4 r4 e4 ⟨eb,ej⟩=>?_⟩
  subst ej
  cases hb:c x with
  | false =>
   rw [eb,hb]
   simp only [Bool.false_eq_true,if_false]
   refine ⟨_,by omega,rfl,hlt,?_⟩
   rw [kF c ex,hb]
   simp only [Bool.false_eq_true,if_false,List.append_nil]
   exact ⟨r4,(e2.trans e3).trans e4⟩
  | true =>
   rw [eb,hb]
   simp only [if_true]
   refine ⟨_,_,_,a3.go r4 e4,he hb,fun z J5 u H5 rz r5 e5 ⟨ez,ej⟩=>?_⟩
   subst ej ez
   obtain ⟨ys,h5,ry⟩:=r5 D _ av
   have ll:ys.length≤i:=by
    rw [← ry.length,List.length_map]
    exact Nat.le_trans (List.length_filter_le _ _) (by rw [List.length_take];omega)
   have r6:=r5.wrote (ys:=((it.xs.take i).filter c).map g ++ [g x]) (vs:=ys ++ [u]) av h5 (ry.append (show aE K _ H5 [g x] [u] from ⟨u,[],rfl,rz,rfl⟩))
   have e6:=Ext.wrote (K:=K) (ys:=((it.xs.take i).filter c).map g ++ [g x]) (vs:=ys ++ [u]) (J:=put J1 D (.lst (((it.xs.take i).filter c).map g))) av h5
   rw [dM] at r6 e6
   refine ⟨ys,h5,by omega,_,by omega,rfl,hlt,?_⟩
   rw [kF c ex,hb,if_pos rfl,List.map_append]
   exact ⟨r6,(((e2.trans e3).trans e4).trans e5).trans e6⟩
 ·have ei:i=it.xs.length:=by omega
  subst ei
  rw [List.take_length] at r2 e2 ok
  exact .inl ⟨ir.stop _ H2 e2 r2 ok,q D H2 hD jD r2 e2⟩
theorem freeze {K:PySem.W.Frag} {J1:Hq} {H2:Hp} {D:Addr} {xs:List PV} (jD:J1 D=none) (r:Rep K (put J1 D (.lst xs)) H2):bI K J1 H2 (.fl xs) (.ref D)∧Rep K J1 H2∧Ext K (put J1 D (.lst xs)) H2 J1 H2:=by
 obtain ⟨ys,h,ry⟩:=r D _ av
 have less:∀ a,J1 a=put J1 D (.lst xs) a∨J1 a=none:=fun a=>by
  by_cases e:a=D
  ·subst e;exact .inr jD
  ·rw [ar e];exact .inl rfl
 have e:=Ext.less (K:=K) (H:=H2) less
 exact ⟨⟨D,ys,rfl,.inl ⟨jD,.inl h⟩,e.gf ry⟩,r.less less,e⟩
theorem yb {wi:nZ} {ks:List (Str × Nat)} {tc:iy} {te:cq}:∀ σ H Q,LE X.K G (DR wi ks tc te) σ H Q→D' (LI X.K G wi) ks (LT X.K G tc) (LE X.K G te) σ H Q:=fun σ H Q ⟨τ,J,Q2,a2,h,k⟩ =>
 ⟨τ,J,_,a2,h,fun it J1 I H1 ir r1 e1 ⟨c,g,w,q⟩=>um (Q:=Q) a2 ir r1 e1 w fun D H2 hD jD r2 e2=>let ⟨x1,x2,x3⟩:=freeze jD r2;k _ J1 _ H2 x1 x2 ((e1.trans e2).trans x3) q⟩
theorem yc {wi:nZ} {ks:List (Str × Nat)} {tc:iy} {te:cq}:∀ σ H Q,LE X.K G (DS wi ks tc te) σ H Q→D' (LI X.K G wi) ks (LT X.K G tc) (LE X.K G te) σ H Q:=fun σ H Q ⟨τ,J,Q2,a2,h,k⟩ =>
 ⟨τ,J,_,a2,h,fun it J1 I H1 ir r1 e1 ⟨c,g,w,q⟩=>um (Q:=Q) a2 ir r1 e1 w fun D H2 hD jD r2 e2=>k (.ref D) _ _ H2 rfl r2 (e1.trans e2) (q D jD)⟩
variable {elt iter cnd:Expr} {x y:Str} {px py:Pos} {sc:Scope} {pos spos:Pos} {wi:nZ} {te:cq} {tc:iy} {i:Nat}
theorem qi {t:cq} {u:TE} (h:∀ σ H Q,LE X.K G t σ H Q→u σ H Q):∀ D σ H,LS X.K G (qT t (C5 i)) D σ H→u σ H fun v H1=>D.nx (σ.set i (some v)) H1:=fun D σ H ⟨τ,J,D2,a2,q,g⟩ =>
 h σ H _ ⟨τ,J,_,a2,q,fun x J' v H' rx rr ee q=>g.nx _ J' _ H' ((a2.sl.ext ee).set i rx) rr ee q⟩
theorem DY (osc:Scope) (N:List Str) (ks:List (Str × Nat)) (hc:X.calm=true) (ho:X.env.scope=osc) (hN:X.N=N) (hnd:X.N.Nodup) (hy:X.N[i]?=some y) (hl:Loc X.env.scope y) (hi:RI X G (.Name x px) iter wi) (he:∀ cl C s₀ H₀ fp pins,RE (dR X sc cl C x ks s₀ H₀ fp pins) G elt te) (hcn:∀ cl C s₀ H₀ fp pins,RT (dR X sc cl C x ks s₀ H₀ fp pins) G cnd tc)
  (ok:b9 sc osc N x ks:=by decide +kernel) (hs:∀ x,foldedSetIterable iter X.env x=pure x:=by intro _;rfl) (hsw:swapsWith (.ListComp elt [⟨.Name x px,iter,[cnd],0⟩] sc pos) (some (.Name y py)) spos.line X.env=pure true:=by rfl) (hf:X.fn y=true∨X.env.scope.names.lookup y=some .local:=by first | exact .inl rfl | exact .inr rfl | assumption) :
  RS X G (.Assign [.Name y py] (.ListComp elt [⟨.Name x px,iter,[cnd],0⟩] sc pos) spos) (qT (DR wi ks tc te) (C5 i)) :=
 ⟨uz (yR osc N ks hc ho hN hnd hy hl hi.run (fun cl C s₀ H₀ fp pins=>(he cl C s₀ H₀ fp pins).run) (fun cl C s₀ H₀ fp pins=>(hcn cl C s₀ H₀ fp pins).run) ok hs hsw hf) (qi yb)⟩
theorem Bu (osc:Scope) (N:List Str) (ks:List (Str × Nat)) (hc:X.calm=true) (ho:X.env.scope=osc) (hN:X.N=N) (hnd:X.N.Nodup) (hy:X.N[i]?=some y) (hl:Loc X.env.scope y) (hi:RI X G (.Name x px) iter wi) (he:∀ cl C s₀ H₀ fp pins,RE (dR X sc cl C x ks s₀ H₀ fp pins) G elt te) (hcn:∀ cl C s₀ H₀ fp pins,RT (dR X sc cl C x ks s₀ H₀ fp pins) G cnd tc)
  (ok:b9 sc osc N x ks:=by decide +kernel) (hs:∀ x,foldedSetIterable iter X.env x=pure x:=by intro _;rfl) (hsw:swapsWith (.ListComp elt [⟨.Name x px,iter,[cnd],0⟩] sc pos) (some (.Name y py)) spos.line X.env=pure true:=by rfl) (hf:X.fn y=true∨X.env.scope.names.lookup y=some .local:=by first | exact .inl rfl | exact .inr rfl | assumption) :
  RS X G (.Assign [.Name y py] (.ListComp elt [⟨.Name x px,iter,[cnd],0⟩] sc pos) spos) (qT (DS wi ks tc te) (C5 i)) :=
 ⟨uz (yR osc N ks hc ho hN hnd hy hl hi.run (fun cl C s₀ H₀ fp pins=>(he cl C s₀ H₀ fp pins).run) (fun cl C s₀ H₀ fp pins=>(hcn cl C s₀ H₀ fp pins).run) ok hs hsw hf) (qi yc)⟩
end
end Ov
namespace Ov
open PySem PySem.Spec PyProof.Rows
section
open HT (lexLt)
def iF:List Str→List Str→Bool
 | [],[]=>false
 | [],_ :: _=>true
 | _ :: _,[]=>false
 | x :: xs,y :: ys=>if x=y then iF xs ys else decide (x.cps.toList < y.cps.toList)
theorem jR (x y:Str) (xs ys:List Str):iF (x :: xs) (y :: ys)=if x=y then iF xs ys else decide (x.cps.toList < y.cps.toList):=rfl
theorem jc:iF [] []=false:=rfl
theorem mP (y:Str) (ys:List Str):iF [] (y :: ys)=true:=rfl
theorem mO (x:Str) (xs:List Str):iF (x :: xs) []=false:=rfl
theorem xC (A:Around) (s:Shared) (a:Str) (t:Tok) (c:Str) (u:Tok):∃ e,SeqAt.EqAt A s (.str a t) (.str c u) e∧(e=true↔a=c) :=
 ⟨(a == c),SeqAt.EqAt.str_str a t c u,by simp⟩
theorem y8 (A:Around) (s:Shared) (a:Str) (t:Tok) (c:Str) (u:Tok) (prog:Program) (w:World) (E:Value→Shared→Prop) (Q:Value→Shared→Prop) (h:Q (.bool (decide (a.cps.toList < c.cps.toList))) s) :
  wpAny (model prog w) A (richCompare .Lt (.str a t) (.str c u)) Q E s :=
 (PyProof.Rows.lt_str h:wpAny (model prog w) A (compareOp .Lt (.str a t) (.str c u)) Q E s)
open PySem.SeqAt
open PySem.AutoSeq1 (wpAny_loadPart')
open PySem.MeetsSeq PySem.MeetsSeq2 PySem.MeetsSeq3
theorem m7 (l b:Addr) (items items2:Array Value) (n n2:Nat) (dd dd2:Option Addr) (sl sl2:Array (Option Value)) (ns ms:List Str) (hi:StrsAre items.toList ns) (hj:StrsAre items2.toList ms) :
  Meets (Builtin.«tuple.__lt__» ⟨[.ref l,.ref b],[]⟩)
   (fun _ R s=>s.heap.get? l=some { cls:=.type "tuple",dict:=dd,data:=.seq items n,slots:=sl }∧s.heap.get? b=some { cls:=.type "tuple",dict:=dd2,data:=.seq items2 n2,slots:=sl2 } ∧
    R (.ok (.ret (.bool (iF ns ms)))) s) :=
 .of_wp fun prog w A R s h=>by
  obtain ⟨hp,g,d,tk,os⟩:=s;obtain ⟨hl,hb,h⟩:=h
  have f2:=AutoSeq1.sub_tuple_tuple
  have z1:items.size=ns.length:=by rw [← hi.length];simp
  have z2:items2.size=ms.length:=by rw [← hj.length];simp
  wp_walk using wpAny_loadPart' hl,wpAny_loadPart' hb,wpAny_forIn_list _ (fun rest b s'=>b.1=none∧s'=⟨hp,g,d,tk,os⟩∧∃ (vs ws:List Value) (ns' ms':List Str),rest=vs.zip ws ∧
   StrsAre vs ns'∧StrsAre ws ms'∧ns'.length + items2.size=ms'.length + items.size∧R (.ok (.ret (.bool (iF ns' ms')))) ⟨hp,g,d,tk,os⟩) _
  case turn =>
   rintro ⟨y,x⟩ rest b s' ⟨hb',rfl,vs,ws,ns',ms',hz,hvi,hwi,hlen,hR⟩
   cases hvi with
   | nil=>rw [List.zip_nil_left] at hz;cases hz
   | cons a t hvi' =>
    cases hwi with
    | nil=>rw [List.zip_nil_right] at hz;cases hz
    | cons c u hwi' =>
     rw [List.zip_cons_cons] at hz
     injection hz with hyx hrest
     injection hyx with hy hx
     subst hy hx
     rw [jR] at hR
     simp only [List.length_cons] at hlen
     obtain ⟨e,he,hiff⟩:=xC A.in1 ⟨hp,g,d,tk,os⟩ a t c u
     refine wpAny_bind (he prog w _ _ ?_)
     cases e with
     | true =>
      rw [if_pos (hiff.mp rfl)] at hR
      wp_walk
      exact ⟨rfl,rfl,_,_,_,_,hrest,hvi',hwi',by omega,hR⟩
     | false =>
      rw [if_neg (fun q=>absurd (hiff.mpr q) Bool.false_ne_true)] at hR
      have hri:=y8 A.in1 ⟨hp,g,d,tk,os⟩ a t c u prog w
      wp_walk using hri
      exact ⟨_,rfl,by simpa using hR⟩
  case fin =>
   rintro ⟨b1,b2⟩ s' ⟨hb',rfl,vs,ws,ns',ms',hz,hvi,hwi,hlen,hR⟩
   simp only at hb'
   subst hb'
   have hv:iF ns' ms'=decide (items.size < items2.size):=by
    cases hvi with
    | nil =>
     cases hwi with
     | nil =>
      simp only [List.length_nil] at hlen
      rw [jc]
      exact (decide_eq_false (by omega)).symm
     | cons c u hw =>
      simp only [List.length_nil,List.length_cons] at hlen
      rw [mP]
      exact (decide_eq_true (by omega)).symm
    | cons a t hv =>
     cases hwi with
     | nil =>
      simp only [List.length_nil,List.length_cons] at hlen
      rw [mO]
      exact (decide_eq_false (by omega)).symm
     | cons c u hw =>
      rw [List.zip_cons_cons] at hz
      cases hz
   rw [hv] at hR
   wp_walk
   exact ⟨_,rfl,by simpa [Builtin.Tuple.tupleCompareSizes] using hR⟩
  case h =>
   exact ⟨rfl,rfl,items.toList,items2.toList,ns,ms,rfl,hi,hj,by omega,h⟩
section
variable {prog:Program} {w:World} {A:Around} {E:Value→Shared→Prop} {s:Shared}
theorem sy {l b:Addr} {items items2:Array Value} {ns ms:List Str} {Q:Value→Shared→Prop} (hl:IsTup s.heap l items) (hb:IsTup s.heap b items2) (hi:StrsAre items.toList ns) (hj:StrsAre items2.toList ms)
  (hu:A.units < cLine) (h:Q (.bool (iF ns ms)) s):wpAny (model prog w) A (compareOp .Lt (.ref l) (.ref b)) Q E s:=by
 obtain ⟨⟨cls,dd,data,sl⟩,ho,hc,n,hd⟩:=id hl
 obtain ⟨⟨cls2,dd2,data2,sl2⟩,ho2,hc2,n2,hd2⟩:=id hb
 simp only at hc hd hc2 hd2
 subst hc hd hc2 hd2
 exact richCompare_meets_room (op:=.Lt) ⟨_,ho,rfl⟩ ⟨_,ho2,rfl⟩ PySem.F.slot_tuple_lt PySem.F.entry_tuple_lt (PySem.F.args_tuple_lt_2 _ _) (m7 l b items items2 n n2 dd dd2 sl sl2 ns ms hi hj)
  ⟨ho,ho2,show Value.bool (iF ns ms)≠Value.notImplemented∧Q (.bool (iF ns ms)) s from ⟨(fun x=>nomatch x),h⟩⟩ hu
end
end
open L2 (V HO Hp Inv Cx VK XK TE TT TA TS TG lH TI TO ia Ends pU Loc Gl Rd RelV Vals eA rL b7 lE rK nY h_ R2 upd az aG cM fh Sp mD It aY cx ba Passes kO aA Meth Mk Binds aI bV aw cI eV dH)
section
variable {X:Cx} {K:PySem.W.Frag}
theorem AV (hu:X.A.units < cLine):eA X (compareOp .Lt) (fun x y H Q=>∃ a b ns ms,x=.ref a∧y=.ref b∧fh X.K H a (ns.map V.str)∧fh X.K H b (ms.map V.str)∧Q (.bl (iF ns ms)) H):=by
 intro pins s σ H x y v u Q I rx ry h
 obtain ⟨a,b,ns,ms,rfl,rfl,ha,hb,q⟩:=h
 cases rx;cases ry
 obtain ⟨is,r1,t1,_⟩:=I.tuple ha
 obtain ⟨js,r2,t2,_⟩:=I.tuple hb
 exact sy t1 t2 (by simpa using fU r1) (by simpa using fU r2) hu ⟨.bl _,H,I,rfl,q⟩
theorem my {J:Hq} {H:Hp}:∀ {ns:List Str} {vs:List V},aE K J H (ns.map PV.str) vs→vs=ns.map V.str
 | [],_,h=>h
 | n :: ns,_,⟨v,us,e,h,k⟩=>by subst e;cases h;rw [my k];rfl
def Cm:iS:=fun x y J Q=>∃ ns ms,x=.tup (ns.map .str)∧y=.tup (ms.map .str)∧Q (.bl (iF ns ms)) J
theorem AX (hu:X.A.units < cLine):jJ X (compareOp .Lt) Cm:=⟨_,AV hu,fun J H x y v w Q2 Q rx ry r ⟨ns,ms,ex,ey,q⟩ k=>by
 subst ex ey
 obtain ⟨a,vs,rfl,h1,h2⟩:=rx
 obtain ⟨b,ws,rfl,h3,h4⟩:=ry
 cases my h2;cases my h4
 exact ⟨a,b,ns,ms,rfl,rfl,h1,h3,k (.bl _) J _ H rfl r .refl q⟩⟩
def FG:iS:=fun x y J Q=>∃ xs ys,kT J x=some xs∧kT J y=some ys∧xs.length + ys.length≤sizeLine∧Q (.fl (xs ++ ys)) J
end
def bL (K:PySem.W.Frag) (C:Addr) (m qual:Str) (st:Stmt):Prop:=∃ f fd,Meth K C m f∧bV K m qual st f fd
structure du (K:PySem.W.Frag) (mg:Str→Option Value) (x:Str) (C:Addr):Prop where
 cl:kO K C
 m:mg x=some (.ref C)
 mkz:PySem.W.makesIn K C=true
 kp:PySem.W.keepIn K (.ref C)=true
theorem bt {K:PySem.W.Frag} {C f:Addr} {m qual:Str} {st:Stmt} {od an:Option Addr} {sl:Array (Option Value)} {oc kV dc pm cd ct:Value} (a:PySem.W.findIn K (.ref C) m=some (some (.ref f))) (i:PySem.W.isFn K (.ref f)=true)
  (l:K.lookup f=some ⟨oc,od,.func (PySem.W.fnOf m qual (L2.cb st) (L2.bC st) (L2.aj st) .none kV dc pm an cd ct),sl⟩) (c:PySem.W.codeIn K cd qual=true) (k:PySem.W.keepIn K (.ref f)=true):bL K C m qual st :=
 ⟨f,_,⟨a,i,k⟩,L2.sd l c k⟩
theorem om {K:PySem.W.Frag} {h:Heap} {mg:Str→Option Value} {x:Str} {C:Addr} (X:K.In h) (G:h.Ns mainGlobals mg) (aC:PySem.W.nsIn K mainGlobals x=some (some (.ref C)))
  (pg:PySem.W.plainGet K C Str.empty=true) (hd:PySem.W.hasDictIn K C=true) (po:PySem.W.plainOver K C=true) (sa:PySem.W.findIn K (.ref C) "__setattr__"=some (some (.builtin "object.__setattr__"))) (mk:PySem.W.makesIn K C=true) (kc:PySem.W.keepIn K (.ref C)=true):du K mg x C :=
 ⟨⟨pg,hd,po,sa⟩,PySem.W.mg_of X G aC,mk,kc⟩
section
variable {P:Program} {w:World} {K:PySem.W.Frag} {mg:Str→Option Value} {base:Heap}
theorem bL.qx {C:Addr} {m qual:Str} {st:Stmt} {k:Nat} {ps:List Str} {sp:cm} (D:bL K C m qual st) (cl:kO K C) (h:∀ f fd,bV K m qual st f fd→aI P w K mg base (cS P w) k f fd ps (dz K sp))
  (hb:∀ (kV doc pm:Value) (an:Option Addr) (cdv ct:Value) (us:List Value),us.length=ps.length→bindArgs (PySem.W.fnOf m qual (L2.cb st) (L2.bC st) (L2.aj st) .none kV doc pm an cdv ct) ⟨us,[]⟩=pure (ps.zip us)):cX P w K mg base C k m ps sp:=by
 obtain ⟨f,fd,hm,F⟩:=D
 exact ⟨cl,f,fd,hm,h f fd F,F.binds hb⟩
theorem bL.HE {x:Str} {C:Addr} {qual:Str} {st:Stmt} {k:Nat} {ps:List Str} {sp:cm} (D:bL K C "__init__" qual st) (kd:du K mg x C) (h:∀ f fd,bV K "__init__" qual st f fd→aI P w K mg base (cS P w) k f fd ps (dz K sp))
  (hb:∀ (kV doc pm:Value) (an:Option Addr) (cdv ct:Value) (us:List Value),us.length=ps.length→bindArgs (PySem.W.fnOf "__init__" qual (L2.cb st) (L2.bC st) (L2.aj st) .none kV doc pm an cdv ct) ⟨us,[]⟩=pure (ps.zip us)):vC P w K mg base C k x ps sp:=by
 obtain ⟨f,fd,hm,F⟩:=D
 exact ⟨kd.m,f,fd,⟨kd.mkz,hm.at_,hm.fn,kd.kp⟩,h f fd F,F.binds hb⟩
end
theorem Aa {F:List Value→Prop} (h:∀ a,F [a]):∀ us:List Value,us.length=1→F us
 | [a],_=>h a
theorem iz {F:List Value→Prop} (h:∀ a b,F [a,b]):∀ us:List Value,us.length=2→F us
 | [a,b],_=>h a b
theorem Ej {F:List Value→Prop} (h:∀ a b c,F [a,b,c]):∀ us:List Value,us.length=3→F us
 | [a,b,c],_=>h a b c
theorem GJ {F:List Value→Prop} (h:∀ a b c d,F [a,b,c,d]):∀ us:List Value,us.length=4→F us
 | [a,b,c,d],_=>h a b c d
theorem Jf {F:List Value→Prop} (h:∀ a b c d e,F [a,b,c,d,e]):∀ us:List Value,us.length=5→F us
 | [a,b,c,d,e],_=>h a b c d e
theorem Jg {F:List Value→Prop} (h:∀ a b c d e f,F [a,b,c,d,e,f]):∀ us:List Value,us.length=6→F us
 | [a,b,c,d,e,f],_=>h a b c d e f
end Ov
namespace Ov
open PySem PySem.Spec PyProof.Rows
open L2 (V HO Hp Inv Cx VK XK Rd cM fh Sp aY ba Passes aI bV aw cI upd az aG)
def fr (q:Rat):PV:=.tup [.int q.num,.int (q.den:Int)]
theorem C3 (a b:Rat):(fr a=fr b)=(a=b):=by
 apply propext
 constructor
 ·intro h
  unfold fr at h
  simp only [PV.tup.injEq,List.cons.injEq,PV.int.injEq,and_true] at h
  exact Rat.ext h.1 (by have:=h.2;omega)
 ·intro h;rw [h]
theorem B1 (a:Rat):fr a=.tup [.int a.num,.int (a.den:Int)]:=rfl
theorem C9 (J:Hq) (q:Rat):dJ J (fr q) (.int 0)=some (.int q.num):=cO _ _
theorem C_ (J:Hq) (q:Rat):dJ J (fr q) (.int 1)=some (.int (q.den:Int)):=d5 _ _ _
theorem GB (J:Hq) (q:Rat):vt J (fr q)=some "tuple":=rfl
theorem Dj (J:Hq) (q:Rat):ql J (fr q)=some 2:=rfl
theorem sX (q:Rat):j0 (fr q)=true:=by simp [fr,j0,iH]
theorem oi (q:Rat):xV (fr q)=false:=rfl
theorem CZ (q:Rat):dep (fz (fr q))=1:=by simp [fr,fz,gB,dep,dw]
theorem ER (q:Rat):CP (fr q)=True:=eq_true ⟨sX q,by rw [CZ];decide⟩
theorem CS (i:Int):CP (.int i)=True:=eq_true ⟨by simp [j0],by simp [fz,dep]⟩
theorem CU (i:Str):CP (.str i)=True:=eq_true ⟨by simp [j0],by simp [fz,dep]⟩
theorem EO (i:Bool):CP (.bl i)=True:=eq_true ⟨by simp [j0],by simp [fz,dep]⟩
theorem CT:CP .non=True:=eq_true ⟨by simp [j0],by simp [fz,dep]⟩
theorem Bf (i:Int):j0 (.int i)=true:=by simp [j0]
theorem uB (i:Str):j0 (.str i)=true:=by simp [j0]
theorem DK (i:Bool):j0 (.bl i)=true:=by simp [j0]
theorem Bg:j0 .non=true:=by simp [j0]
theorem Bh (xs:List PV):j0 (.tup xs)=iH xs:=by simp [j0]
theorem wI (x:PV) (xs:List PV):iH (x :: xs)=(j0 x && iH xs):=by simp [iH]
theorem yU:iH []=true:=by simp [iH]
theorem eq_int (a b:Int):eqQ (.int a) (.int b)=decide (a=b):=by unfold eqQ fz gS;rw [Bool.beq_eq_decide_eq]
theorem eq_str (a b:Str):eqQ (.str a) (.str b)=decide (a=b):=by
 unfold eqQ fz gS
 cases h:a == b with
 | true=>simp at h;simp [h]
 | false=>simp at h;simp [h]
theorem ET (a b:Bool):eqQ (.bl a) (.bl b)=decide (a=b):=by unfold eqQ fz gS;rw [Bool.beq_eq_decide_eq]
def rZ (xs ys:List PV):Bool:=gm (gB xs) (gB ys)
theorem oe (xs ys:List PV):eqQ (.tup xs) (.tup ys)=rZ xs ys:=by unfold eqQ fz gS rZ;rfl
theorem cP (x y:PV) (xs ys:List PV):rZ (x :: xs) (y :: ys)=(eqQ x y && rZ xs ys):=by unfold rZ eqQ;simp [gB,gm]
theorem kR:rZ [] []=true:=by unfold rZ;simp [gB,gm]
theorem eq_self (x:PV):eqQ x x=true:=p9 _
theorem tX (a b:Rat):eqQ (fr a) (fr b)=decide (a=b):=by
 rw [B1,B1,oe,cP,cP,kR,eq_int,eq_int,Bool.and_true,← Bool.decide_and]
 exact decide_eq_decide.mpr (by rw [Br])
theorem Jv (a b c:PV):kG [a,b,c] (some 1) none=[b,c]:=rfl
theorem ty_int (b:Bool):(iP "int" "int"=some b)=(b=true):=by cases b <;> simp [iP]
theorem ty_bool (b:Bool):(iP "int" "bool"=some b)=(b=false):=by cases b <;> simp [iP]
theorem GA (b:Bool):(iP "bool" "bool"=some b)=(b=true):=by cases b <;> simp [iP]
theorem ty_str (b:Bool):(iP "str" "str"=some b)=(b=true):=by cases b <;> simp [iP]
theorem Ee (b:Bool):(iP "tuple" "tuple"=some b)=(b=true):=by cases b <;> simp [iP]
theorem ty_list (b:Bool):(iP "list" "list"=some b)=(b=true):=by cases b <;> simp [iP]
theorem cT {n:Nat} (h:n≤1000):n≤sizeLine:=Nat.le_of_lt (L2.aX h)
theorem B9:(0≤sizeLine)=True:=eq_true (Nat.zero_le _)
theorem Fc:(1≤sizeLine)=True:=eq_true (cT (by decide))
theorem Fd:(2≤sizeLine)=True:=eq_true (cT (by decide))
theorem Fe:(3≤sizeLine)=True:=eq_true (cT (by decide))
theorem Ff:(4≤sizeLine)=True:=eq_true (cT (by decide))
section
variable (J:Hq) (xs:List PV) (a:Addr) (i:Int) (b:Bool) (z:Str) (T:String)
theorem Hs:dJ J (.tup xs) (.int i)=cI xs i:=rfl
theorem Hr:dJ J (.fl xs) (.int i)=cI xs i:=rfl
theorem E7:dJ J (.ref a) (.int i)=(match J a with | some (.lst xs)=>cI xs i | _=>none):=rfl
theorem HC:kT J (.fl xs)=some xs:=rfl
theorem HD:kT J (.ref a)=(match J a with | some (.lst xs)=>some xs | _=>none):=rfl
theorem Fb:ql J (.tup xs)=some xs.length:=rfl
theorem E_:ql J (.fl xs)=some xs.length:=rfl
theorem B7:ql J (.ref a)=(match J a with | some (.lst xs)=>some xs | _=>none).map List.length:=rfl
theorem Iu:vt J .non=some "NoneType":=rfl
theorem Gz:vt J (.bl b)=some "bool":=rfl
theorem Ir:vt J (.int i)=some "int":=rfl
theorem Iv:vt J (.str z)=some "str":=rfl
theorem Iw:vt J (.tup xs)=some "tuple":=rfl
theorem Iq:vt J (.fl xs)=some "list":=rfl
theorem GC:vt J (.ref a)=(match J a with | some (.lst _)=>some "list" | some (.dct _ _)=>some "dict" | _=>none):=rfl
theorem Gw:pO J .non=some false:=rfl
theorem CB:pO J (.bl b)=some b:=rfl
theorem Gv:pO J (.int i)=some (i != 0):=rfl
theorem Gy:pO J (.tup xs)=some (!xs.isEmpty):=rfl
theorem Gu:pO J (.fl xs)=some (!xs.isEmpty):=rfl
theorem Gx:pO J (.ref a)=(match J a with | some (.lst xs)=>some (!xs.isEmpty) | some (.dct kvs _)=>some (!kvs.isEmpty) | _=>none):=rfl
theorem Hn:GN J (.fl xs)=some ⟨xs,fun _=>True⟩:=rfl
theorem Ho:GN J (.ref a)=(match J a with | some (.lst xs)=>some ⟨xs,fun J'=>J' a=some (.lst xs)⟩ | _=>none):=rfl
theorem EZ:xV .non=true:=rfl
theorem Hh:xV (.bl b)=false:=rfl
theorem Hj:xV (.int i)=false:=rfl
theorem Hl:xV (.str z)=false:=rfl
theorem Hm:xV (.tup xs)=false:=rfl
theorem Hi:xV (.fl xs)=false:=rfl
theorem Hk:xV (.ref a)=false:=rfl
theorem Il:Ew T J (.fl xs)=(T="list"):=rfl
theorem Io:Ew T J (.str z)=(T="str"):=rfl
theorem Im:Ew T J (.ref a)=((T="list"∧∃ xs,J a=some (.lst xs))∨(T="dict"∧∃ kvs ep,J a=some (.dct kvs ep))):=rfl
end
def Fo (it:rQ) (g:rS) (tb:fq) (D:En) (τ:Sr) (J1:Hq):Prop:=∃ Pv:Nat→Sr→Hq→Prop,Pv 0 τ J1∧(∀ i τ J,Pv i τ J→it.ok J) ∧
 (∀ i x τ J,it.xs[i]?=some x→Pv i τ J→g x τ J fun τ2 J2=>tb { D with nx:=Pv (i + 1),ct:=Pv (i + 1),bk:=D.nx } τ2 J2)∧∀ τ J,Pv it.xs.length τ J→D.nx τ J
theorem Bk (wi:nZ) (g:rS) (tb:fq) (D:En) (τ:Sr) (J:Hq):FW wi g tb D τ J=wi τ J fun it J1=>Fo it g tb D τ J1:=rfl
theorem t4 {lo:Int} {n:Nat} {g:rS} {tb:fq} {D:En} {τ:Sr} {J1:Hq} (Pv:Nat→Sr→Hq→Prop) (h0:Pv 0 τ J1)
  (hs:∀ (i:Nat) τ J,i < n→Pv i τ J→g (.int (lo + (i:Int))) τ J fun τ2 J2=>tb { D with nx:=Pv (i + 1),ct:=Pv (i + 1),bk:=D.nx } τ2 J2) (hd:∀ τ J,Pv n τ J→D.nx τ J):Fo ⟨oh lo n,fun _=>True⟩ g tb D τ J1 :=
 ⟨Pv,h0,fun _ _ _ _=>trivial,fun i x τ J e p=>by obtain ⟨a,b⟩:=(qh lo n i x).mp e;subst b;exact hs i τ J a p,fun τ J p=>hd τ J (by simpa [i9] using p)⟩
structure bR (mg:Str→Option Value):Prop extends w8 mg where
 str:mg "str"=none
 dict:mg "dict"=none
 max:mg "max"=none
 zip:mg "zip"=none
 enumerate:mg "enumerate"=none
def mJ (J' J:Hq):Prop:=∀ a,J' a=J a∨J' a=none
def Fg (Q:PV→Hq→Prop) (v:PV) (J:Hq):Prop:=∃ x J',mJ J' J∧(x=v∨∃ a xs,v=.ref a∧x=.fl xs∧J a=some (.lst xs)∧J' a=none)∧Q x J'
theorem Fg.same {Q:PV→Hq→Prop} {v:PV} {J:Hq} (h:Q v J):Fg Q v J:=⟨v,J,fun _=>.inl rfl,.inl rfl,h⟩
theorem Fg.less {Q:PV→Hq→Prop} {v:PV} {J J':Hq} (l:mJ J' J) (h:Q v J'):Fg Q v J:=⟨v,J',l,.inl rfl,h⟩
theorem Fg.mF {Q:PV→Hq→Prop} {a:Addr} {xs:List PV} {J J':Hq} (l:mJ J' J) (ha:J a=some (.lst xs)) (hn:J' a=none) (h:Q (.fl xs) J'):Fg Q (.ref a) J:=⟨.fl xs,J',l,.inr ⟨a,xs,rfl,rfl,ha,hn⟩,h⟩
section
variable {P:Program} {w:World} {K:PySem.W.Frag} {mg:Str→Option Value} {base:Heap}
theorem Fg.kn {J:Hq} {H:Hp} {Q2:PV→Hq→Prop} {Q:VK} (k:Kn K J H Q2 Q):Kn K J H (Fg Q2) Q:=fun z J1 u H1 rz r1 e1 ⟨x,J',l,hx,q⟩=>by
 have el:=Ext.less (K:=K) (H:=H1) l
 rcases hx with rfl | ⟨a,xs,rfl,rfl,ha,hn⟩
 ·exact k x J' u H1 (el.rep rz) (r1.less l) (e1.trans el) q
 ·cases rz
  obtain ⟨vs,h1,h2⟩:=r1 _ _ ha
  exact k (.fl xs) J' _ H1 ⟨a,vs,rfl,.inl ⟨hn,.inl h1⟩,el.gf h2⟩ (r1.less l) (e1.trans el) q
theorem HL {x qual:Str} {st:Stmt} {f:Addr} {fd:FuncData} {N ps:List Str} {k:Nat} {sp:cm} (F:bV K x qual st f fd) (S:aw N ps (L2.aj st)) (len:∀ xs J Q E,sp xs J Q E→xs.length=ps.length)
  (hbody:∀ (cdv:Value) (A:Around) (outer:List Env) (s:Shared) (H:Hp) (E:XK) (G:G2) (xs:List PV) (J:Hq) (Q:PV→Hq→Prop) (E2:Addr→Hq→Prop),ba k (A.deeper (envOfC qual (L2.aj st) s.heap.objs.size f cdv))→sp xs J Q E2 →
   zP (w_ P w K mg base N qual (L2.aj st) f cdv A outer s H E) G E2 E →
   ∃ t,RB (w_ P w K mg base N qual (L2.aj st) f cdv A outer s H E) G (L2.bC st) t∧t { nx:=fun _ J'=>Fg Q .non J',rt:=Fg Q } (tH N xs) J):aI P w K mg base (cS P w) (k + 1) f fd ps (dz K sp):=by
 have:=IS (sp:=fun xs J Q E=>∃ Q0,Q=Fg Q0∧sp xs J Q0 E) F S (fun xs J Q E ⟨Q0,_,h⟩=>len xs J Q0 E h) (fun cdv A outer s H E G xs J Q E2 hr ⟨Q0,eq,h⟩ B=>by subst eq;exact hbody cdv A outer s H E G xs J Q0 E2 hr h B)
 exact this.imp fun vs H Q E ⟨xs,J,Q2,E2,a,b,c,d,e⟩=>⟨xs,J,Fg Q2,E2,a,b,⟨Q2,rfl,c⟩,Fg.kn d,e⟩
end
theorem Ha {X:Cx} {G:G2}:zP X G (fun _ _=>False) L2.E0:=⟨fun _ _ _ _ _ _ _ ⟨_,_,_,_,_,z⟩=>z.elim,fun _ _ _ _ _ z=>z.elim⟩
theorem j5 {K:PySem.W.Frag} {J:Hq} {H:Hp}:∀ ns:List Int,aE K J H (ns.map PV.int) (ns.map V.int)
 | []=>rfl
 | n :: ns=>⟨_,_,rfl,rfl,j5 ns⟩
end Ov
namespace Ov
open PySem PySem.Spec PyProof.Rows L2
theorem EF {α:Type} (a b c d e:α) (xs:List α):cI (a :: b :: c :: d :: e :: xs) 4=some e:=a8 (j:=4) rfl
theorem EG {α:Type} (a b c d e f:α) (xs:List α):cI (a :: b :: c :: d :: e :: f :: xs) 5=some f:=a8 (j:=5) rfl
theorem EH {α:Type} (a b c d e f g:α) (xs:List α):cI (a :: b :: c :: d :: e :: f :: g :: xs) 6=some g:=a8 (j:=6) rfl
theorem EI {α:Type} (a b c d e f g h:α) (xs:List α):cI (a :: b :: c :: d :: e :: f :: g :: h :: xs) 7=some h:=a8 (j:=7) rfl
theorem EJ {α:Type} (a b c d e f g h i:α) (xs:List α):cI (a :: b :: c :: d :: e :: f :: g :: h :: i :: xs) 8=some i:=a8 (j:=8) rfl
theorem EK {α:Type} (a b c d e f g h i j:α) (xs:List α):cI (a :: b :: c :: d :: e :: f :: g :: h :: i :: j :: xs) 9=some j:=a8 (j:=9) rfl
theorem CL {α:Type} (a b c d e f g h i j k:α) (xs:List α):cI (a :: b :: c :: d :: e :: f :: g :: h :: i :: j :: k :: xs) 10=some k:=a8 (j:=10) rfl
theorem CN {α:Type} (a b c d e f g h i j k l:α) (xs:List α):cI (a :: b :: c :: d :: e :: f :: g :: h :: i :: j :: k :: l :: xs) 11=some l:=a8 (j:=11) rfl
theorem Fh:(5≤sizeLine)=True:=eq_true (cT (by decide))
theorem Fi:(6≤sizeLine)=True:=eq_true (cT (by decide))
theorem Fj:(7≤sizeLine)=True:=eq_true (cT (by decide))
theorem Fl:(8≤sizeLine)=True:=eq_true (cT (by decide))
theorem Fm:(9≤sizeLine)=True:=eq_true (cT (by decide))
theorem Dk:(10≤sizeLine)=True:=eq_true (cT (by decide))
theorem Dl:(11≤sizeLine)=True:=eq_true (cT (by decide))
theorem Dm:(12≤sizeLine)=True:=eq_true (cT (by decide))
theorem mi {ss:List Int} (h:ss.all (fun s=>decide (0 < s) && decide (s < 2 ^ 63))=true):∀ s∈ss,0 < s∧Bd 9000 s:=fun s hs=>by
 have:=List.all_eq_true.mp h s hs
 rw [Bool.and_eq_true,decide_eq_true_eq,decide_eq_true_eq] at this
 exact ⟨this.1,(Bd.small (by omega) (by omega)).mono (by decide)⟩
theorem Sz.div {n:Nat} {t b:Int} (ht:Bd n t) (hb:Bd n b) (h:b≠0):Sz n (Rat.divInt t b):=⟨ht.le (uq t b),hb.le (oa h)⟩
end Ov
namespace Ov
open PySem PySem.Spec PyProof.Rows
open L2 (V HO Hp Inv Cx VK XK TE TT TA TS TG lH TI TO ia Ends pU Loc Gl Rd RelV Vals eA rL b7 lE rK nY h_ R2 upd az aG cM fh Sp mD It aY cx ba Passes kO aA Meth Mk Binds aI bV aw cI eV dH)
section
variable {X:Cx} {G:G2}
abbrev vE:=PV→PV→PV→Hq→(Hq→Prop)→Prop
def G6 (X:Cx) (q:vE):Prop:=∃ r,h_ X r∧∀ J H o i y ov iv u R2 R,bI X.K J H o ov→bI X.K J H i iv→bI X.K J H y u→Rep X.K J H→q o i y J R2→(∀ J' H',Rep X.K J' H'→Ext X.K J H J' H'→R2 J'→R H')→r ov iv u H R
def He (to ti:cq) (t:vE):rS:=fun y τ J R=>to τ J fun o J1=>ti τ J1 fun i J2=>t o i y J2 fun J3=>R τ J3
theorem DX {o i:Expr} {to ti:cq} {t:vE} {pos:Pos} (hs:G6 X t) (ho:RE X G o to) (hi:RE X G i ti)
  (ha:∀ v,assign (.Subscript o i pos) X.env v=(do
   let ov ← holding [v] (eval o X.env)
   let iv ← holding [v,ov] (eval i X.env)
   standAt pos
   holding [v,ov,iv] (setItem ov iv v)
   release [v,ov,iv] []):=by intro _;rfl):RG X G (.Subscript o i pos) (He to ti t):=by
 obtain ⟨r,hr,lf⟩:=hs
 exact ⟨HP (L2.oS ho.run hi.run hr ha) fun v σ H Q ⟨y,τ,J,Q2,ry,a2,h,k⟩ =>
  ⟨τ,J,_,a2,h,fun x J1 ov H1 rx r1 e1 h1=>⟨τ,J1,_,a2.go r1 e1,h1,fun z J2 iv H2 rz r2 e2 h2 =>
   lf J2 H2 x z y ov iv v _ _ (e2.rep rx) rz (e2.rep (e1.rep ry)) r2 h2 fun J3 H3 r3 e3 q=>k τ J3 σ H3 ((((a2.sl.ext e1).ext e2).ext e3)) r3 ((e1.trans e2).trans e3) q⟩⟩⟩
def FP:vE:=fun o i y J R=>∃ p xs k j,o=.ref p∧i=.int k∧J p=some (.lst xs)∧L2.xa xs.length k=some j∧R (put J p (.lst (xs.set j y)))
theorem pd {o i e:Expr} {to ti te:cq} {t:vE} {pos pos':Pos} (hs:G6 X t) (ho:RE X G o to) (hi:RE X G i ti) (he:RE X G e te)
  (ha:∀ v,assign (.Subscript o i pos') X.env v=(do
   let ov ← holding [v] (eval o X.env)
   let iv ← holding [v,ov] (eval i X.env)
   standAt pos'
   holding [v,ov,iv] (setItem ov iv v)
   release [v,ov,iv] []):=by intro _;rfl)
  (hq:swapsWithSole [.Subscript o i pos'] e pos.line X.env=pure false:=by rfl) (hw:swappedStores [.Subscript o i pos'] e X.env=pure none:=by rfl)
  (h1:(assignEach [.Subscript o i pos'] X.env).map (·.2)=[assign (.Subscript o i pos') X.env]:=by rfl):RS X G (.Assign [.Subscript o i pos'] e pos) (qT te (He to ti t)):=tm he (DX hs ho hi ha) hq hw h1
def Iy (X:Cx) (op:Operator) (q:iS):Prop:=∃ r,L2.G4 X op r∧LR X.K r q
def FT (i:Nat) (te:cq) (q:iS):fq:=fun D τ J=>∃ x,τ[i]?=some (some x)∧te τ J fun y J1=>q x y J1 fun z J2=>D.nx (τ.set i (some z)) J2
theorem za {i:Nat} {x:Str} {e:Expr} {te:cq} {op:Operator} {q:iS} {pos pos':Pos} (hN:X.N.Nodup) (hi:X.N[i]?=some x) (hx:Loc X.env.scope x) (he:RE X G e te) (ho:Iy X op q) (hf:X.fn x=true∨X.env.scope.names.lookup x=some .local:=by first | exact .inl rfl | exact .inr rfl | assumption) :
  RS X G (.AugAssign (.Name x pos') op e pos) (FT i te q):=by
 obtain ⟨r,hr,lf⟩:=ho
 exact ⟨uz (L2.DI hN hi hx he.run hr hf) fun D σ H ⟨τ,J,D2,a2,⟨x,hx,h⟩,g⟩=>by
  obtain ⟨v,h1,h2⟩:=a2.sl.get _ _ hx
  exact ⟨v,h1,τ,J,_,a2,h,fun y J1 u H1 ry r1 e1 q1=>lf J1 H1 x y v u _ _ (e1.rep h2) ry r1 q1 fun z J2 u2 H2 rz r2 e2 q2=>g.nx _ J2 _ H2 (((a2.sl.ext e1).ext e2).set i rz) r2 (e1.trans e2) q2⟩⟩
theorem xT:Iy X .Sub (Bj fun i j=>.int (i - j)):=⟨_,L2.C8,fun J H x y v w Q2 Q rx ry r ⟨i,j,ex,ey,q⟩ k=>by
 subst ex ey;cases rx;cases ry;exact ⟨i,j,rfl,rfl,k (.int _) J _ H rfl r .refl q⟩⟩
end
theorem iE {xs:List PV} {ok:Hq→Prop} {g:rS} {tb:fq} {D:En} {τ:Sr} {J1:Hq} (Pv:Nat→Sr→Hq→Prop) (h0:Pv 0 τ J1) (hk:∀ i τ J,Pv i τ J→ok J)
  (hs:∀ (i:Nat) x τ J,xs[i]?=some x→Pv i τ J→g x τ J fun τ2 J2=>tb { D with nx:=Pv (i + 1),ct:=Pv (i + 1),bk:=D.nx } τ2 J2) (hd:∀ τ J,Pv xs.length τ J→D.nx τ J):Fo ⟨xs,ok⟩ g tb D τ J1:=⟨Pv,h0,hk,hs,hd⟩
theorem tP {α:Type} (xs:List α) (x:α):cI (xs ++ [x]) (-1)=some x:=by
 unfold L2.cI L2.xa
 rw [if_neg (by decide),if_pos (by simp;omega)]
 have e:(-1 + ((xs ++ [x]).length:Int)).toNat=xs.length:=by simp only [List.length_append,List.length_cons,List.length_nil];omega
 rw [e]
 simp
theorem gw {K:PySem.W.Frag} {h:Heap} {mg:Str→Option Value} {x:Str} {C:Addr} (X:K.In h) (G:h.Ns mainGlobals mg) (a:PySem.W.nsIn K mainGlobals x=some (some (.ref C))) (b:(PySem.W.excIn K C G9 "ValueError.__new__" && zO K C)=true):Own K mg x C :=
 ⟨PySem.W.mg_of X G a,(Bool.and_eq_true_iff.mp b).1,BX (Bool.and_eq_true_iff.mp b).2⟩
theorem je {J:Hq} {x:PV} {ys:List PV} (h:kT J x=some ys):x=.fl ys∨∃ a,x=.ref a∧J a=some (.lst ys):=by
 cases x with
 | fl xs=>cases h;exact .inl rfl
 | ref a =>
  right
  refine ⟨a,rfl,?_⟩
  unfold kT at h
  simp only at h
  split at h
  ·rename_i e;cases h;exact e
  ·cases h
 | _=>cases h
theorem Fq {J:Hq} {x:PV} {ys:List PV} (h:kT J x=some ys):vt J x=some "list":=by
 rcases je h with rfl | ⟨a,rfl,ha⟩
 ·rfl
 ·rw [GC,ha]
theorem yg {J:Hq} {x:PV} {ys:List PV} (h:kT J x=some ys):ql J x=some ys.length:=by
 rcases je h with rfl | ⟨a,rfl,ha⟩
 ·rfl
 ·rw [B7,ha];rfl
theorem B' {J:Hq} {x:PV} {ys:List PV} (h:kT J x=some ys) (i:Int):dJ J x (.int i)=cI ys i:=by
 rcases je h with rfl | ⟨a,rfl,ha⟩
 ·rfl
 ·rw [E7,ha]
def C1 (j:Nat):List PV:=.bl true :: (List.range 10).map fun k=>.bl (decide (j=k))
def Ic (c:Nat→Addr) (N n:Nat) (t:(Addr→Hq→Prop)→fq):fq:=fun D τ J =>
 t (fun a J'=>∃ j,j < 10∧a=c j∧D.nx ((List.replicate N none).set n (some (.fl (C1 j)))) J') D τ J
section
variable {X:Cx} {G:G2}
end
theorem D3 {a b:fq} {D:En} {τ:Sr} {J:Hq} (h:a { D with nx:=fun τ' J'=>b D τ' J' } τ J):bK a b D τ J:=h
def Eu (J:Hq):PV→Option (List PV)
 | .tup xs=>some xs
 | .fl xs=>some xs
 | .ref a=>match J a with
  | some (.lst xs)=>some xs
  | _=>none
 | _=>none
theorem zw {K:PySem.W.Frag} {J:Hq} {H:Hp} {y:PV} {u:V} {xs:List PV} (h:Eu J y=some xs) (r:bI K J H y u) (rr:Rep K J H):∃ p vs,u=.ref p∧(cM K H p vs∨fh K H p vs)∧aE K J H xs vs:=by
 cases y with
 | tup ys=>cases h;obtain ⟨a,vs,rfl,h1,h2⟩:=r;exact ⟨a,vs,rfl,.inr h1,h2⟩
 | fl ys=>cases h;obtain ⟨a,vs,rfl,h1,h2⟩:=r;exact ⟨a,vs,rfl,.inl h1.sq,h2⟩
 | ref a =>
  cases r
  unfold Eu at h
  simp only at h
  split at h
  ·rename_i e;cases h
   obtain ⟨vs,h1,h2⟩:=rr _ _ e
   exact ⟨a,vs,rfl,.inl (cM.of h1),h2⟩
  ·cases h
 | _=>cases h
theorem fM {K:PySem.W.Frag} {J:Hq} {H:Hp}:∀ {ns:List Str} {vs:List V},aE K J H (ns.map PV.str) vs→vs=ns.map V.str
 | [],_,h=>h
 | n :: ns,_,⟨v,us,e,h,k⟩=>by subst e;cases h;rw [fM k];rfl
theorem jt {K:PySem.W.Frag} {J:Hq} {H:Hp}:∀ {ns:List Int} {vs:List V},aE K J H (ns.map PV.int) vs→vs=ns.map V.int
 | [],_,h=>h
 | n :: ns,_,⟨v,us,e,h,k⟩=>by subst e;cases h;rw [jt k];rfl
theorem tQ {α:Type} [BEq α] [LawfulBEq α] [DecidableEq α] (x y:α):(x == y)=decide (x=y):=by by_cases h:x=y <;> simp [h]
theorem Aq (s:Str) (ss:List Str):L2.Eo (.str s) (ss.map V.str)=decide (s∈ss):=by
 unfold L2.Eo
 induction ss with
 | nil=>rfl
 | cons x ss ih =>
  rw [List.map_cons,List.any_cons,ih,show L2.zQ (.str x) (.str s)=(x == s) from rfl,tQ]
  by_cases h:x=s
  ·subst h;simp
  ·simp [h,show ¬ s=x from fun e=>h e.symm]
theorem Ap (s:Int) (ss:List Int):L2.Eo (.int s) (ss.map V.int)=decide (s∈ss):=by
 unfold L2.Eo
 induction ss with
 | nil=>rfl
 | cons x ss ih =>
  rw [List.map_cons,List.any_cons,ih,show L2.zQ (.int x) (.int s)=(x == s) from rfl,tQ]
  by_cases h:x=s
  ·subst h;simp
  ·simp [h,show ¬ s=x from fun e=>h e.symm]
section
variable {X:Cx} {G:G2}
def FH (f:Bool→Bool):iS:=fun x y J Q=>∃ (s:Str) (ss:List Str),x=.str s∧Eu J y=some (ss.map .str)∧Q (.bl (f (decide (s∈ss)))) J
def HS (f:Bool→Bool):iS:=fun x y J Q=>∃ (s:Int) (ss:List Int),x=.int s∧Eu J y=some (ss.map .int)∧Q (.bl (f (decide (s∈ss)))) J
theorem vK (ss:List Str):(ss.map V.str).all L2.fZ=true:=by simp [L2.fZ]
theorem vJ (ss:List Int):(ss.map V.int).all L2.fZ=true:=by simp [L2.fZ]
theorem uv:jJ X (compareOp .NotIn) (FH not):=⟨_,L2.oO,fun J H x y v w Q2 Q rx ry r ⟨s,ss,ex,hy,q⟩ k=>by
 subst ex;cases rx
 obtain ⟨p,vs,rfl,hq,h2⟩:=zw hy ry r
 cases fM h2
 exact ⟨p,_,rfl,hq,rfl,vK ss,k (.bl _) J _ H (by rw [if_pos rfl,Aq];rfl) r .refl q⟩⟩
theorem DE:jJ X (compareOp .In) (HS id):=⟨_,L2.wy,fun J H x y v w Q2 Q rx ry r ⟨s,ss,ex,hy,q⟩ k=>by
 subst ex;cases rx
 obtain ⟨p,vs,rfl,hq,h2⟩:=zw hy ry r
 cases jt h2
 exact ⟨p,_,rfl,hq,rfl,vJ ss,k (.bl _) J _ H (by rw [if_neg (by decide),Ap];rfl) r .refl q⟩⟩
end
end Ov
namespace L2
open PySem PySem.Spec PyProof.Rows
section
variable {X:Cx} {tg:Expr}
end
end L2
namespace Ov
open PySem PySem.Spec PyProof.Rows
open L2 (V HO Hp Inv Cx VK XK TE TT TA TS TG lH TI TO ia Ends pU Loc Gl Rd RelV Vals eA rL b7 lE rK nY h_ R2 upd az aG cM fh Sp mD It aY cx ba Passes kO aA Meth Mk Binds aI bV aw cI eV dH)
section
variable {X:Cx} {G:G2} {tg:Expr}
theorem yh {K:PySem.W.Frag} {J:Hq} {H:Hp} {y:PV} {u:V} {xs:List PV} (h:kT J y=some xs) (r:bI K J H y u) (rr:Rep K J H):∃ p vs,u=.ref p∧cM K H p vs∧aE K J H xs vs:=by
 rcases je h with rfl | ⟨a,rfl,ha⟩
 ·obtain ⟨a,vs,rfl,h1,h2⟩:=r;exact ⟨a,vs,rfl,h1.sq,h2⟩
 ·cases r
  obtain ⟨vs,h1,h2⟩:=rr _ _ ha
  exact ⟨a,vs,rfl,cM.of h1,h2⟩
theorem aE.flat {K:PySem.W.Frag} {J:Hq} {H:Hp} {xs:List PV} {vs:List V} (r:aE K J H xs vs):∀ k:Nat,aE K J H (List.replicate k xs).flatten (List.replicate k vs).flatten
 | 0=>rfl
 | k + 1=>by rw [List.replicate_succ,List.replicate_succ,List.flatten_cons,List.flatten_cons];exact r.append (aE.flat r k)
end
end Ov
namespace L2
open PySem PySem.Spec PyProof.Rows
section
variable {X:Cx} {pins:List (Addr × Obj)} {σ:St} {H:Hp} {s:Shared} {h':Heap}
theorem Inv.vq {t':Nat} {ch:List Addr} (I:Inv X pins σ H s) (k:∀ b o,b ∉ ch→s.heap.get? b=some o→h'.get? b=some o) (hf:∀ b∈ch,f9 X pins H b):Inv X pins σ H { s with heap:=h',toks:=t' }:=by
 have nit:∀ b u,H b=some u→b ∉ ch:=fun b u e z=>by rw [(hf b z).1] at e;cases e
 refine I.step (g':=s.gens) (d':=s.drawn) (ch:=ch) (fun b hb=>?_) (fun b o _ _ hc e _=>k b o hc e) (fun b o _ _ hc e _=>⟨o.slots,k b o hc e⟩) (fun _ _ _ _ n=>n)
  (fun b o hc e=>⟨o,k b o hc e⟩) (fun _ _ e=>e) (fun _ _ _ e=>e) (fun b ps e=>⟨#[],by rw [e];simp⟩) (fun m hm=>?_) (fun b u e=>?_) I.bare
 ·obtain ⟨f0,f1,f2,f3,f4,f5⟩:=hf b hb
  exact ⟨f3,f1,f4,f5⟩
 ·obtain ⟨o,es,ep,ho,r⟩:=hm
  exact ⟨o,es,ep,k _ o (fun z=>(hf _ z).2.1 rfl) ho,r⟩
 ·refine (I.hok b u e).ig (fun c v hc q=>k c v ?_ q) (fun _ q=>q) fun _ _ q=>q
  rcases hc with z | z
  ·rw [z];exact nit b u e
  ·exact nit c _ z
end
section
variable {X:Cx}
end
end L2
namespace Ov
open PySem PySem.Spec PyProof.Rows
open L2 (V HO Hp Inv Cx VK XK TE TT TA TS TG lH TI TO ia Ends pU Loc Gl Rd RelV Vals eA rL b7 lE rK nY h_ R2 upd az aG cM fh Sp mD It aY cx ba Passes kO aA Meth Mk Binds aI bV aw cI eV dH)
section
variable {X:Cx} {G:G2}
end
end Ov
namespace L2
open PySem PySem.Spec PyProof.Rows
section
variable {α β:Type}
def iR (kvs:List (Str × α)) (k:Str):Option α:=(kvs.find? fun kv=>decide (kv.1=k)).map (·.2)
def oY (kvs:List (Str × α)) (k:Str) (v:α):List (Str × α):=if kvs.any (fun kv=>decide (kv.1=k)) then kvs.map (fun kv=>if kv.1=k then (kv.1,v) else kv) else kvs ++ [(k,v)]
def xB (kvs:List (Str × α)) (k:Str):List (Str × α):=kvs.filter fun kv=>decide (kv.1≠k)
theorem jI (p:Str × α) (r:List (Str × α)) (k:Str):iR (p :: r) k=if p.1=k then some p.2 else iR r k:=by
 unfold iR
 rw [List.find?_cons]
 by_cases h:p.1=k <;> simp [h]
theorem uA (kvs:List (Str × α)) (k:Str) (v:α):(oY kvs k v).length≤kvs.length + 1:=by
 unfold oY;split <;> simp
theorem Ag (kvs:List (Str × α)) (k:Str):(xB kvs k).length≤kvs.length:=List.length_filter_le _ _
abbrev kP (R:α→β→Prop):List (Str × α)→List (Str × β)→Prop:=Paired fun p q=>p.1=q.1∧R p.2 q.2
variable {R:α→β→Prop}
theorem kP.va {kvs:List (Str × α)} {vs:List (Str × β)} (h:kP R kvs vs) (k:Str):(∀ x,iR kvs k=some x→∃ y,iR vs k=some y∧R x y)∧(iR kvs k).isSome=(iR vs k).isSome:=by
 induction h with
 | nil=>exact ⟨fun x e=>by simp [iR] at e,rfl⟩
 | @cons p q kvs vs r _ ih =>
  rw [jI,jI,← r.1]
  by_cases e:p.1=k
  ·rw [if_pos e,if_pos e];exact ⟨fun x z=>by cases z;exact ⟨_,rfl,r.2⟩,rfl⟩
  ·rw [if_neg e,if_neg e];exact ih
theorem kP.any {kvs:List (Str × α)} {vs:List (Str × β)} (h:kP R kvs vs) (k:Str):(kvs.any fun kv=>decide (kv.1=k))=vs.any fun kv=>decide (kv.1=k):=by
 induction h with
 | nil=>rfl
 | cons r _ ih=>rw [List.any_cons,List.any_cons,ih,r.1]
theorem kP.snoc {kvs:List (Str × α)} {vs:List (Str × β)} (h:kP R kvs vs) {k:Str} {x:α} {y:β} (r:R x y):kP R (kvs ++ [(k,x)]) (vs ++ [(k,y)]):=by
 induction h with
 | nil=>exact .cons ⟨rfl,r⟩ .nil
 | cons q _ ih=>exact .cons q ih
theorem kP.pu {kvs:List (Str × α)} {vs:List (Str × β)} (h:kP R kvs vs) {k:Str} {x:α} {y:β} (r:R x y):kP R (oY kvs k x) (oY vs k y):=by
 unfold oY
 rw [h.any k]
 split
 ·rename_i hany;clear hany
  induction h with
  | nil=>exact .nil
  | @cons p q kvs vs z _ ih =>
   rw [List.map_cons,List.map_cons]
   refine .cons ?_ ih
   by_cases e:p.1=k
   ·rw [if_pos e,if_pos (z.1 ▸ e)];exact ⟨z.1,r⟩
   ·rw [if_neg e,if_neg (z.1 ▸ e)];exact z
 ·exact h.snoc r
theorem kP.dr {kvs:List (Str × α)} {vs:List (Str × β)} (h:kP R kvs vs) (k:Str):kP R (xB kvs k) (xB vs k):=by
 unfold xB
 induction h with
 | nil=>exact .nil
 | @cons p q kvs vs z _ ih =>
  rw [List.filter_cons,List.filter_cons,z.1]
  split
  ·exact .cons z ih
  ·exact ih
theorem kP.len {kvs:List (Str × α)} {vs:List (Str × β)} (h:kP R kvs vs):kvs.length=vs.length:=Paired.length h
theorem kP.keys {kvs:List (Str × α)} {vs:List (Str × β)} (h:kP R kvs vs):kvs.map (·.1)=vs.map (·.1):=by
 induction h with
 | nil=>rfl
 | cons r _ ih=>rw [List.map_cons,List.map_cons,ih,r.1]
end
theorem wY (vs:List (Str × Value)) (k:Str):valueAt vs k=iR vs k:=rfl
theorem str_is {P:Program} {w:World} {k:Str} {u:Value} (r:RelV (.str k) u):(PySem.strKind P w).is k u=true:=by
 obtain ⟨t,rfl⟩:=r
 simp [PySem.strKind,Value.isStrOf]
theorem xX {P:Program} {w:World} {k:Str} {u:Value} (h:(PySem.strKind P w).is k u=true):RelV (.str k) u:=Value.isStrOf_shape h
section
variable {X:Cx} {pins:List (Addr × Obj)} {σ:St} {H:Hp} {s:Shared} {a:Addr} {A:Around} {E:Value→Shared→Prop} {kvs:List (Str × V)} {ep:Nat}
theorem i4 (I:Inv X pins σ H s) (e:H a=some (.dE kvs ep)):kvs.length≤sizeLine∧(a == sysModules)=false∧∃ vs,kP RelV kvs vs∧s.heap.DictAt (PySem.strKind X.prog X.w) a vs ep:=I.hok a _ e
theorem lL {h':Heap} {t':Nat} {kvs':List (Str × V)} {vs':List (Str × Value)} (I:Inv X pins σ H s) (e:H a=some (.dE kvs ep)) (hs:Heap.SameBut a s.heap h') (hz:kvs'.length≤sizeLine) (hd:(a == sysModules)=false) (rel:kP RelV kvs' vs') (dd:h'.DictOf (PySem.strKind X.prog X.w) a vs') :
  ∃ ep',Inv X pins σ (upd H a (.dE kvs' ep')) { s with heap:=h',toks:=t' }:=by
 obtain ⟨ep',da⟩:=dd.dictAt
 refine ⟨ep',I.write (x:=a) (e:=a) (by rw [e];exact True.intro) (.inl rfl) (fun b q hb z=>(hs.2 b hb).trans z) (let ⟨q,_,_,hq,_⟩:=dd;⟨q,hq⟩) ⟨hz,hd,vs',rel,da⟩⟩
theorem Inv.EM (I:Inv X pins σ H s):sysModules < s.heap.objs.size:=by
 have h:mainGlobals < s.heap.objs.size:=(I.mod.glob.keeps I.bk).lt
 exact Nat.lt_trans (by decide) h
end
theorem vS {P:Program} {w:World} {kvs:List (Str × V)} {vs:List (Str × Value)} (rel:kP RelV kvs vs):∀ {us:List Value},us.length=kvs.length→(∀ (j:Nat) (v:Value),us[j]?=some v→∃ k x,vs[j]?=some (k,x)∧(PySem.strKind P w).is k v=true)→Vals (kvs.map fun kv=>V.str kv.1) us:=by
 induction rel with
 | nil =>
  intro us hlen _
  cases us with
  | nil=>exact .nil
  | cons _ _=>cases hlen
 | @cons p q kvs vs z _ ih =>
  intro us hlen hget
  cases us with
  | nil=>cases hlen
  | cons u us =>
   rw [List.map_cons]
   refine .cons ?_ (ih (by simpa using hlen) fun j v e=>?_)
   ·obtain ⟨k,x,e1,e2⟩:=hget 0 u rfl
    rw [List.getElem?_cons_zero] at e1
    cases e1
    rw [z.1];exact xX e2
   ·obtain ⟨k,x,e1,e2⟩:=hget (j + 1) v (by rw [List.getElem?_cons_succ];exact e)
    rw [List.getElem?_cons_succ] at e1
    exact ⟨k,x,e1,e2⟩
def H0:R2:=fun x y H Q=>∃ a kvs ep k v,x=.ref a∧y=.str k∧H a=some (.dE kvs ep)∧iR kvs k=some v∧Q v H
def FX (f:Bool→Bool):R2:=fun x y H Q=>∃ a kvs ep k,x=.str k∧y=.ref a∧H a=some (.dE kvs ep)∧Q (.bl (f (iR kvs k).isSome)) H
def DT:List V→Hp→VK→Prop:=fun xs H Q=>∃ a kvs ep,xs=[.ref a]∧H a=some (.dE kvs ep)∧∀ p,H p=none→Q (.ref p) (upd H p (.lst (kvs.map fun kv=>.str kv.1)))
def F5:V→List V→Hp→VK→Prop:=fun x xs H Q=>∃ a kvs ep k v,x=.ref a∧xs=[.str k]∧H a=some (.dE kvs ep)∧iR kvs k=some v∧∀ ep',Q v (upd H a (.dE (xB kvs k) ep'))
def F6:ia:=fun o i v H Q=>∃ a kvs ep k,o=.ref a∧i=.str k∧H a=some (.dE kvs ep)∧kvs.length < sizeLine∧∀ ep',Q (upd H a (.dE (oY kvs k v) ep'))
def Gp:TE:=fun _ H Q=>∀ p,H p=none→∀ ep,Q (.ref p) (upd H p (.dE [] ep))
section
variable {X:Cx}
theorem E1:lE X H0:=by
 intro value slice pins s σ H x y v u Q I rx ry q hs
 obtain ⟨a,kvs,ep,k,z,rfl,rfl,hp,hz,q⟩:=q
 cases rx
 obtain ⟨_,hd,vs,rel,da⟩:=i4 I hp
 have hT:s.TypeIs (.ref a) "dict":=da.dictOf.typeIs
 obtain ⟨w',hw,rw'⟩:=(rel.va k).1 z hz
 unfold subscriptTail
 refine wpAny_bind ?_
 rw [getitemInPython_of_ne hT.not_modules]
 refine wpAny_bind (wpAny_specialOf hT PySem.F.slot_dict_getitem.lookup ?_)
 have fin:wpAny (model X.prog X.w) X.A (subscripted slice false (.ref a) u) (fun r s₃=>wpAny (model X.prog X.w) X.A (letTemporaryGo value (.ref a) r >>= fun _=>pure r) (EP X pins σ Q) X.xe s₃) X.xe s:=by
  rw [hs]
  exact wpAny_operating (wpAny_getItem_of (str_is ry) da.dictOf.mapOf hw (wpAny_bind (wpAny_letTemporaryGo (wpAny_pure ⟨z,H,I.tok _,rw',q⟩))))
 first
  | exact wpAny_pure (wpAny_bind fin)
  | exact wpAny_bind (wpAny_pure (wpAny_bind fin))
  | exact wpAny_bind fin
theorem DA:eA X (compareOp .In) (FX id):=by
 intro pins s σ H x y v u Q I rx ry ⟨a,kvs,ep,k,ex,ey,hp,q⟩
 subst ex ey
 cases ry
 obtain ⟨_,hd,vs,rel,da⟩:=i4 I hp
 refine wpAny_in_of (str_is rx) hd da.dictOf.mapOf ?_
 exact ⟨.bl _,H,I.tok _,by rw [wY,← (rel.va k).2];rfl,q⟩
theorem pZ (hc:X.calm=true):b7 X (.type "list") DT:=by
 intro pins s σ H xs us Q I r ⟨a,kvs,ep,ex,hp,q⟩
 subst ex
 obtain ⟨u,rfl,ru⟩:=vals1 r
 cases ru
 obtain ⟨hz,hd,vs,rel,da⟩:=i4 I hp
 have hl:=rel.len
 refine PySem.W.kdl_call (PySem.W.kdl_dict (knd:=PySem.strKind X.prog X.w) (kvs:=vs) (ep:=ep) hd) (I.ok.hd hc) da (by rw [← hl];exact hz) fun h' tk acc c hk hS hacc=>?_
 have hkeys:Vals (kvs.map fun kv=>V.str kv.1) acc.toList:=by
  have hlen:acc.toList.length=kvs.length:=by rw [Array.length_toList,hacc.1,hl]
  have hget:∀ j v,acc.toList[j]?=some v→∃ k x,vs[j]?=some (k,x)∧(PySem.strKind X.prog X.w).is k v=true:=fun j v e=>hacc.2 j v (by rw [← Array.getElem?_toList];exact e)
  exact vS rel hlen hget
 have I2:Inv X pins σ (upd H s.heap.objs.size (.lst (kvs.map fun kv=>V.str kv.1))) { s with heap:=h',toks:=tk } :=
  I.laid (t':=tk) hk (Nat.le_refl _) (show b_ X.prog X.w _ _ _ (.lst _) from ⟨by rw [List.length_map];exact hz,acc.toList,c,hkeys,by rw [Array.toArray_toList];exact hS⟩)
 exact ⟨.ref s.heap.objs.size,_,I2,rfl,q _ (I.hok.fresh (Nat.le_refl _))⟩
theorem AI:nY X "dict.pop" F5:=by
 intro pins s σ H x xs v us Q I rx r ⟨a,kvs,ep,k,z,ex,exs,hp,hv,q⟩
 subst ex exs
 cases rx
 obtain ⟨u,rfl,ru⟩:=vals1 r
 obtain ⟨hz,hd,vs,rel,da⟩:=i4 I hp
 obtain ⟨w',hw,rw'⟩:=(rel.va k).1 z hv
 have hpart:(keyPart u).isSome=true:=by obtain ⟨t,q⟩:=(show ∃ t,u=Value.str k t from ru);subst q;rfl
 refine call_meetsIn PySem.F.slot_dict_pop da.dictOf.typeIs PySem.F.entry_dict_pop (PySem.F.args_dict_pop_2 _ _) (meets_dict_pop_there (PySem.strKind X.prog X.w) a (str_is ru) [] (.inl rfl) hpart)
  ⟨vs,w',da.dictOf,by rw [← rel.len];exact hz,hw,fun h' dd' hs=>?_⟩
 obtain ⟨ep',I2⟩:=lL (t':=s.toks + 1) I hp hs (Nat.le_trans (Ag kvs k) hz) hd (rel.dr k) dd'
 exact ⟨z,_,I2,rw',q ep'⟩
theorem D5:h_ X F6:=by
 intro pins s σ H o i v ov iv u Q I ro ri rv ⟨a,kvs,ep,k,eo,ei,hp,hl,q⟩
 subst eo ei
 cases ro
 obtain ⟨hz,hd,vs,rel,da⟩:=i4 I hp
 refine wpAny_setItem_pairs (hsz:=by rw [← rel.len];exact hz) (str_is ri) da.dictOf fun h' dd' hs=>?_
 obtain ⟨ep',I2⟩:=lL (t':=s.toks + 1) I hp hs (show (oY kvs k v).length≤sizeLine from Nat.le_trans (uA kvs k v) hl) hd (rel.pu rv) dd'
 exact ⟨_,I2,q ep'⟩
theorem A6 {pos:Pos}:PE X (.Dict [] [] pos) Gp:=fun pins s σ H Q I h=>by
 have hd:(s.heap.push { cls:=.type "dict",data:=.dict #[] }).DictOf (PySem.strKind X.prog X.w) s.heap.objs.size []:=Heap.DictOf.new s.heap
 obtain ⟨ep,da⟩:=hd.dictAt
 exact wpAny_Dict_empty ⟨.ref s.heap.objs.size,_,I.laid (a:=s.heap.objs.size) (o:=.dE [] ep) (t':=s.toks) (fun _ _ q=>Heap.get?_push_of_some _ q) (Nat.le_refl _)
  ⟨Nat.zero_le _,beq_eq_false_iff_ne.mpr (Ne.symm (Nat.ne_of_lt I.EM)),[],.nil,da⟩,rfl,h _ (I.hok.fresh (Nat.le_refl _)) ep⟩
end
def Iz (a:Addr) (ks:List Str) (ep:Nat):It :=
 ⟨fun i H=>(∃ kvs,H a=some (.dE kvs ep)∧kvs.map (·.1)=ks)∧i < ks.length,
  fun i H z H'=>H'=H∧∃ k,ks[i]?=some k∧z=.str k,
  fun i H=>(∃ kvs,H a=some (.dE kvs ep)∧kvs.map (·.1)=ks)∧ks.length≤i⟩
theorem wU {P:Program} {w:World} {K:PySem.W.Frag} {tg:Expr} (a it:Addr) (ks:List Str) (ep:Nat):Turn P w K tg (Iz a ks ep) [it] it (fun i h=>h.IsKeyIter it a i ks.length ep) where
 mem:=by simp
 obj:=fun i h st b hb=>by
  have e:b=it:=by simpa using hb
  subst e
  obtain ⟨o,e,c,d⟩:=st
  exact ⟨o,e,fun v z=>by rw [d] at z;cases z⟩
 keep:=fun i h h' st k=>st.at fun o e=>k it (by simp) o e
 item:=by
  intro X hP hw hK hc i pins s σ H E I hf st hg
  subst hP hw hK
  obtain ⟨⟨kvs,hp,hks⟩,hi⟩:=hg
  obtain ⟨hz,hd,vs,rel,da⟩:=i4 I hp
  have hl:ks.length=vs.length:=by rw [← hks,List.length_map];exact rel.len
  obtain ⟨f0,f1,f2,f3,f4,f5⟩:=hf it (by simp)
  obtain ⟨⟨k,x⟩,hx⟩:∃ p,vs[i]?=some p:=⟨vs[i]'(by omega),List.getElem?_eq_getElem (by omega)⟩
  have hk:ks[i]?=some k:=by rw [← hks,rel.keys,List.getElem?_map,hx];rfl
  refine wpAny_pyNext_dict_item (by rw [← hl];exact st) da hx fun key h' hkey st' sb=>?_
  rw [← hl] at st'
  have I1:Inv X pins σ H { s with heap:=h' }:=I.turned (t':=s.toks) (fun b o hb e=>(sb.2 b hb).trans e) f0 f1 f3 f4 f5
  obtain ⟨o,e,c,d⟩:=id st'
  exact ⟨key,rfl,xN (s:={ s with heap:=h' }) e c d (by decide) ⟨.str k,H,I1,xX hkey,⟨rfl,k,hk,rfl⟩,st',fun b hb=>(hf b hb).1⟩⟩
 done:=by
  intro X hP hw hK hc i pins s σ H E I hf st hg
  subst hP hw hK
  obtain ⟨⟨kvs,hp,hks⟩,hi⟩:=hg
  obtain ⟨hz,hd,vs,rel,da⟩:=i4 I hp
  have hl:ks.length=vs.length:=by rw [← hks,List.length_map];exact rel.len
  obtain ⟨f0,f1,f2,f3,f4,f5⟩:=hf it (by simp)
  refine wpAny_pyNext_dict_end (I.ok.hd hc) (by rw [← hl];exact st) da (by rw [List.getElem?_eq_none_iff];omega) fun h' hk=>⟨rfl,I.turned (t':=s.toks) (fun b o hb e=>hk b o hb e) f0 f1 f3 f4 f5⟩
 self:=fun _ _ _ _ _ st h=>wpAny_pyIter_keyiter st h
def EX (td:TE):TI:=fun σ H R=>td σ H fun x H1=>∃ a kvs ep,x=.ref a∧H1 a=some (.dE kvs ep)∧R (Iz a (kvs.map (·.1)) ep) H1
theorem A7 {X:Cx} {tg l:Expr} {tl:TE} (hl:PE X l tl):PI X tg l (EX tl):=by
 intro pins s σ H R I h
 refine bE (hl pins s σ H _ I h) fun v s1 ⟨x,H1,I1,r1,q1⟩=>?_
 obtain ⟨a,kvs,ep,e,hp,q⟩:=q1
 subst e
 cases r1
 obtain ⟨hz,hd,vs,rel,da⟩:=i4 I1 hp
 refine wpAny_pyIter_dict hd da ?_
 refine ⟨s1.heap.objs.size,[s1.heap.objs.size],_,_,H1,rfl,I1.kept (t':=s1.toks) fun b o e=>Heap.get?_push_of_some _ e,wU a _ (kvs.map (·.1)) ep,⟨_,Heap.get?_push_size _ rfl,rfl,by rw [List.length_map,rel.len];rfl⟩,fun b hb=>?_,q⟩
 have e:b=s1.heap.objs.size:=by simpa using hb
 subst e
 exact I1.Ai (Nat.le_refl _) (I1.hok.fresh (Nat.le_refl _))
end L2
namespace Ov
open PySem PySem.Spec PyProof.Rows L2
def Ey (X:Cx) (ifs:List Expr) (t:TT):Prop :=
 ∀ (pins:List (Addr × Obj)) (s:Shared) (σ:L2.St) (H:Hp) (Q:Bool→Hp→Prop),Inv X pins σ H s→t σ H Q →
  wpAny (model X.prog X.w) X.A (forIn ifs true fun c r=>if r=true then do let ok ← isTrue c X.env (eval c X.env);pure (ForInStep.yield ok) else pure (ForInStep.yield r)) (TP X pins σ Q) X.xe s
theorem Be {X:Cx}:Ey X [] (fun _ H Q=>Q true H):=fun pins s σ H Q I h=>by rw [List.forIn_nil];exact wpAny_pure ⟨H,I,h⟩
section
variable {prog:Program} {w:World} {A:Around} {R:Result→Shared→Prop} {s:Shared}
theorem sv {kx vx iter:Expr} {ifs:List Expr} {x:Str} {px:Pos} {sc:Scope} {pos:Pos} {it:Value} {D:Addr} {env:Env} (I:Nat→Shared→Prop)
  (turn:∀ n s,I n s→wpAny (model prog w) A (pyNext it) (fun r s₁=>match r with
   | none=>R (.ok .next) s₁
   | some v=>wpAny (model prog w) A (letOwnedTupleGo (.Name x px) it v) (fun _ s₂=>wpAny (model prog w) A (assign (.Name x px) env v) (fun _ s₃=>wpAny (model prog w) A (forIn ifs true fun c r=>if r=true then do let ok ← isTrue c env (eval c env);pure (ForInStep.yield ok) else pure (ForInStep.yield r)) (fun ok s₃=>if ok=true then wpAny (model prog w) A (eval kx env) (fun kv s₄ =>
     wpAny (model prog w) A (eval vx env) (fun vv s₅=>wpAny (model prog w) A (dictSet D kv vv) (fun _ s₅=>∃ m,m < n∧I m s₅) (fun _ _=>False) s₅) (fun _ _=>False) s₄) (fun _ _=>False) s₃ else ∃ m,m < n∧I m s₃) (fun _ _=>False) s₃) (fun _ _=>False) s₂) (fun _ _=>False) s₁) (fun _ _=>False) s)
  (n:Nat) (h:I n s):codeAny (model prog w) A (.compLoop (.DictComp kx vx [⟨.Name x px,iter,ifs,0⟩] sc pos) 0 it (.ref D) env) R s:=by
 refine codeAny_loop rfl I (fun n s hI=>?_) n h
 show wpAny _ _ ((compTurn (.DictComp kx vx [⟨.Name x px,iter,ifs,0⟩] sc pos) 0 it (.ref D) env).onRaise (fun x=>do noteFrame x env;theTreesLotGoes x)) _ _ s
 refine wpAny_noted ?_
 rw [compTurn_dict]
 have no:∀ (e:Value) (s':Shared),False→notedBy (model prog w) A env (fun e s'=>R (.error e) s') e s':=fun _ _ z=>z.elim
 refine wpAny_bind (wpAny_standAt (wpAny_bind (wpAny_mono (turn n s hI) (fun r s₁ h₁=>?_) no)))
 cases r with
 | none=>exact wpAny_pure h₁
 | some v =>
  refine wpAny_bind (wpAny_mono h₁ (fun _ s₂ h₂=>?_) no)
  refine wpAny_bind (wpAny_mono h₂ (fun _ s₃ h₃=>wpAny_bind (wpAny_mono h₃ (fun ok s₃' h₃'=>?_) no)) no)
  cases ok with
  | false=>exact wpAny_pure ⟨rfl,h₃'⟩
  | true =>
   exact wpAny_bind (wpAny_bind (wpAny_mono h₃' (fun kv s₄ h₄=>wpAny_bind (wpAny_holding (wpAny_mono h₄ (fun vv s₅ h₅=>wpAny_bind (wpAny_standAt (wpAny_holding (wpAny_mono h₅ (fun _ s₆ h₆=>wpAny_pure ⟨rfl,h₆⟩) no)))) no))) no))
end
def Jb (wi:TI) (ks:List (Str × Nat)) (tc:TT) (tk te:TE):TE:=fun σ H Q=>wi σ H fun J H1=>∀ D,H1 D=none→∀ ep,∃ W:Nat→Nat→Hp→Prop,(∃ m,W 0 m (upd H1 D (.dE [] ep))) ∧
 ∀ i m H2,W i m H2→(J.stop i H2∧Q (.ref D) H2)∨(J.go i H2∧∀ v H3,J.yld i H2 v H3→tc (some v :: cn ks σ) H3 fun b H4=>if b=true then tk (some v :: cn ks σ) H4 fun y H5=>te (some v :: cn ks σ) H5 fun z H6=>∃ kvs ep k,y=.str k∧H6 D=some (.dE kvs ep)∧kvs.length < sizeLine∧∃ m',m' < m∧∀ ep',W (i + 1) m' (upd H6 D (.dE (L2.oY kvs k z) ep')) else ∃ m',m' < m∧W (i + 1) m' H4)
section
variable {X:Cx}
theorem wK {kx vx iter:Expr} {ifs:List Expr} {x:Str} {px:Pos} {sc:Scope} {pos:Pos} {tk te:TE} {tc:TT} {ks:List (Str × Nat)} {cl:List (Str × Addr)} {pins:List (Addr × Obj)} {σ:L2.St} {H:Hp} {s:Shared} {it:Addr} {fp:List Addr} {tn:Nat→Heap→Prop} {J:It} {Q:VK}
  {RR:Value→Addr→Result→Shared→Prop} {E:Value→Shared→Prop}
  (hc:X.calm=true) (ok:b9 sc X.env.scope X.N x ks) (h1:∀ y c,cl.lookup y=some c→X.env.cells.lookup y=some c) (h2:∀ y∈sc.names,y.2=.free→∃ c,cl.lookup y.1=some c)
  (hk:∀ cl C s₀ H₀ fp pins,PE (dR X sc cl C x ks s₀ H₀ fp pins) kx tk) (he:∀ cl C s₀ H₀ fp pins,PE (dR X sc cl C x ks s₀ H₀ fp pins) vx te) (hcn:∀ cl C s₀ H₀ fp pins,Ey (dR X sc cl C x ks s₀ H₀ fp pins) ifs tc)
  (I:Inv X pins σ H s) (T:Turn X.prog X.w X.K (.Name x px) J fp it tn) (st:tn 0 s.heap) (f:∀ b∈fp,f9 X pins H b)
  (hw:∀ D,H D=none→∀ ep,∃ W:Nat→Nat→Hp→Prop,(∃ m,W 0 m (upd H D (.dE [] ep)))∧∀ i m H2,W i m H2→(J.stop i H2∧Q (.ref D) H2) ∨
   (J.go i H2∧∀ v H3,J.yld i H2 v H3→tc (some v :: cn ks σ) H3 fun b H4=>if b=true then tk (some v :: cn ks σ) H4 fun y H5=>te (some v :: cn ks σ) H5 fun z H6=>∃ kvs ep k,y=.str k∧H6 D=some (.dE kvs ep)∧kvs.length < sizeLine∧∃ m',m' < m∧∀ ep',W (i + 1) m' (upd H6 D (.dE (L2.oY kvs k z) ep')) else ∃ m',m' < m∧W (i + 1) m' H4))
  (hR:∀ (D C:Addr) (s':Shared) (H':Hp) (m:Str→Option Value),Inv X pins σ H' s'→Q (.ref D) H'→s'.heap.Ns C m→H' C=none→C≠X.env.locals→X.s₀.heap.objs.size≤C→(∀ y c,X.env.cells.lookup y=some c→c≠C)→(∀ p∈X.pn ++ pins,p.1≠C)→RR (.ref D) C (.ok .next) s') :
  wpAny (model X.prog X.w) X.A newDict (fun acc s₃=>wpAny (model X.prog X.w) X.A (newFunctionEnv sc X.env.globals cl [] X.env.qual none .none (some X.env)) (fun cenv s₄ =>
   codeAny (model X.prog X.w) X.A (.compStart (.DictComp kx vx [⟨.Name x px,iter,ifs,0⟩] sc pos) 0 (.ref it) acc { cenv with scope:=relabel sc X.env }) (RR acc cenv.locals) s₄) E s₃) E s:=by
 have okk:=ok
 obtain ⟨kd,nc,lx,ll,fr,kk,nd⟩:=okk
 have hD0:H s.heap.objs.size=none:=I.hok.fresh (Nat.le_refl _)
 have hdd:(s.heap.push { cls:=.type "dict",dict:=none,data:=.dict #[] }).DictOf (PySem.strKind X.prog X.w) s.heap.objs.size []:=Heap.DictOf.new s.heap
 obtain ⟨ep0,da⟩:=hdd.dictAt
 obtain ⟨W,⟨m0,w0⟩,turn⟩:=hw s.heap.objs.size hD0 ep0
 refine wpAny_newObj_type ?_
 have I3:Inv X pins σ (upd H s.heap.objs.size (.dE [] ep0)) { s with heap:=s.heap.push { cls:=.type "dict",dict:=none,data:=.dict #[] } } :=
  I.laid (t':=s.toks) (fun b u e=>Heap.get?_push_of_some _ e) (Nat.le_refl _) ⟨Nat.zero_le _,beq_eq_false_iff_ne.mpr (Ne.symm (Nat.ne_of_lt I.EM)),[],.nil,da⟩
 have st3:tn 0 (s.heap.push { cls:=.type "dict",dict:=none,data:=.dict #[] }):=T.keep 0 _ _ st fun b hb o e=>Heap.get?_push_of_some _ e
 clear da hdd
 generalize hD:s.heap.objs.size=D at *
 generalize hH:upd H D (.dE [] ep0)=H3 at *
 generalize hs3:({ s with heap:=s.heap.push { cls:=.type "dict",dict:=none,data:=.dict #[] } }:Shared)=s3 at *
 have e3:s.heap.push { cls:=.type "dict",dict:=none,data:=.dict #[] }=s3.heap:=by rw [← hs3]
 rw [e3] at st3
 have fD:∀ b∈fp,b≠D:=fun b hb z=>by
  obtain ⟨o,ho,_⟩:=T.obj 0 _ st b hb
  have:=Heap.lt_size ho
  rw [z,← hD] at this
  exact Nat.lt_irrefl _ this
 have f3:∀ b∈fp,f9 X pins H3 b:=fun b hb=>⟨by rw [← hH,aG (fD b hb)];exact (f b hb).1,(f b hb).2⟩
 have g3:∀ b∈fp,∃ o,s3.heap.get? b=some o:=fun b hb=>by
  obtain ⟨o,ho,_⟩:=T.obj 0 _ st3 b hb
  exact ⟨o,ho⟩
 refine wpAny_newFunctionEnv nc (by intro y hy;simp at hy) (fun h₁ hns hsb=>?_) kd
 have kp:∀ b o,s3.heap.get? b=some o→h₁.get? b=some o:=fun b o e=>hsb.extBut b o (Nat.ne_of_lt (Heap.lt_size e)) (Heap.get?_push_of_some _ e)
 have J0:=lT (fp:=fp) (cl:=cl) (t':=s3.toks + ([]:List (Str × Value)).length) I3 ok h1 h2 (fun b hb=>⟨f3 b hb,g3 b hb⟩) hns kp
 have st4:tn 0 h₁:=T.keep 0 _ _ st3 fun b hb o e=>kp b o e
 have ltC:∀ b o,s3.heap.get? b=some o→b≠s3.heap.objs.size:=fun b o e=>Nat.ne_of_lt (Heap.lt_size e)
 have cC:∀ y c,X.env.cells.lookup y=some c→c≠s3.heap.objs.size:=fun y c e=>by
  obtain ⟨v,o,ho,_⟩:=I3.cell y c e
  exact ltC c o ho
 have pC:∀ p∈X.pn ++ pins,p.1≠s3.heap.objs.size:=fun p hp=>ltC _ _ (I3.pin p hp).1
 have lC:s3.heap.objs.size≠X.env.locals:=Nat.ne_of_gt I3.lt
 have fX:∀ {H':Hp},(∀ b∈fp,H' b=none)→∀ b∈fp,f9 (dR X sc cl s3.heap.objs.size x ks s3 H3 fp pins) [] H' b:=fun hn b hb=>by
  obtain ⟨o,ho⟩:=g3 b hb
  obtain ⟨_,q1,q2,q3,q4,q5⟩:=f b hb
  refine ⟨hn b hb,ltC b o ho,fun z=>?_,.inl hb,fun y c e=>q4 y c (h1 y c e),fun p hp=>q5 p (by simpa [dR] using hp)⟩
  rcases List.mem_cons.mp (I3.iO b z) with e | e
  ·exact q1 e
  ·exact q2 e
 have back:∀ {o:Option V} {H':Hp} {s':Shared},Inv (dR X sc cl s3.heap.objs.size x ks s3 H3 fp pins) [] (o :: cn ks σ) H' s'→Inv X pins σ H' s':=fun {o H' s'} J=>by
  obtain ⟨hh,g,d,t,os'⟩:=s'
  obtain rfl:os'=s3.os:=J.os
  exact I3.call (h':=hh) (g':=g) (d':=d) (t':=t) (ch:=fp) J.base J.hok J.bare fun b hb=>⟨(f b hb).2.2.2.1,(f b hb).2.1,(f b hb).2.2.2.2.1,(f b hb).2.2.2.2.2⟩
 have lookX:(relabel sc X.env).names.lookup x=some .local:=lookup_relabel_local lx
 have loop:∀ s',(∃ (i:Nat) (o:Option V) (H':Hp),Inv (dR X sc cl s3.heap.objs.size x ks s3 H3 fp pins) [] (o :: cn ks σ) H' s'∧tn i s'.heap∧(∀ b∈fp,H' b=none)∧W i m0 H') →
   codeAny (model X.prog X.w) X.A (.compLoop (.DictComp kx vx [⟨.Name x px,iter,ifs,0⟩] sc pos) 0 (.ref it) (.ref D) (compEnvC sc cl s3.heap.objs.size X.env)) (RR (.ref D) s3.heap.objs.size) s':=by
  intro s' hs'
  refine sv (fun n s'=>∃ (i:Nat) (o:Option V) (H':Hp),Inv (dR X sc cl s3.heap.objs.size x ks s3 H3 fp pins) [] (o :: cn ks σ) H' s'∧tn i s'.heap∧(∀ b∈fp,H' b=none)∧W i n H') ?_ m0 hs'
  rintro n s5 ⟨i,o,H5,J5,t5,n5,w5⟩
  rcases turn i n H5 w5 with ⟨stop,hq⟩ | ⟨go,step⟩
  ·refine bE (T.done (dR X sc cl s3.heap.objs.size x ks s3 H3 fp pins) rfl rfl rfl hc i [] s5 _ H5 _ J5 (fX n5) t5 stop) fun r s6 ⟨hr,J6⟩=>?_
   subst hr
   obtain ⟨m,hm,_⟩:=J6.loc
   exact hR D _ s6 H5 m (back J6) hq hm J6.free lC I3.sz cC pC
  ·refine bE (T.item (dR X sc cl s3.heap.objs.size x ks s3 H3 fp pins) rfl rfl rfl hc i [] s5 _ H5 _ J5 (fX n5) t5 go) fun r s6 ⟨u,hr,h6⟩=>?_
   subst hr
   refine bE h6 fun _ s7 ⟨v,H7,J7,r7,y7,t7,n7⟩=>?_
   have J7':=J7.pinned (fX n7) (T.obj _ _ t7)
   refine wpAny_assign_Name (dY (X:=dR X sc cl s3.heap.objs.size x ks s3 H3 fp pins) (i:=0) J7' nd rfl (.inl lookX) r7 (fun s8 J8=>?_) (.inr lookX))
   refine bE (hcn cl s3.heap.objs.size s3 H3 fp pins _ s8 _ H7 _ J8 (step v H7 y7)) fun ok s8' ⟨H8,J8',q8⟩=>?_
   cases ok with
   | false =>
    simp only [Bool.false_eq_true,if_false] at q8 ⊢
    obtain ⟨m',hm,w'⟩:=q8
    refine ⟨m',hm,i + 1,_,_,J8'.dZ,?_,?_,w'⟩
    ·exact T.keep _ _ _ t7 fun b hb o e=>(J8'.pin (b,o) (List.mem_append_right _ (List.mem_append_right _ (bz hb e)))).1
    ·intro b hb
     obtain ⟨o,e,d⟩:=T.obj _ _ t7 b hb
     exact (J8'.pin (b,o) (List.mem_append_right _ (List.mem_append_right _ (bz hb e)))).2.1
   | true =>
    simp only [if_true] at q8 ⊢
    refine bE (hk cl s3.heap.objs.size s3 H3 fp pins _ s8' _ H8 _ J8' q8) fun ky s8'' ⟨vk,H8',J8'',rk,q8'⟩=>?_
    refine bE (he cl s3.heap.objs.size s3 H3 fp pins _ s8'' _ H8' _ J8'' q8') fun y s9 ⟨vy,H9,J9,r9,kvs,ep,k,ek,hys,hz,m',hm,w'⟩=>?_
    subst ek
    obtain ⟨hz',hd',vs,rel,da⟩:=i4 J9 hys
    refine wpAny_dictSet_pairs (hsz:=by rw [← rel.len];exact hz') (str_is rk) da.dictOf fun h' dd' hsb=>?_
    obtain ⟨ep',J10⟩:=lL (t':=s9.toks + 1) J9 hys hsb (show (L2.oY kvs k vy).length≤sizeLine from Nat.le_trans (uA kvs k vy) hz) hd' (rel.pu r9) dd'
    refine ⟨m',hm,i + 1,_,_,J10.dZ,?_,?_,w' ep'⟩
    ·exact T.keep _ _ _ t7 fun b hb o e=>(J10.pin (b,o) (List.mem_append_right _ (List.mem_append_right _ (bz hb e)))).1
    ·intro b hb
     obtain ⟨o,e,d⟩:=T.obj _ _ t7 b hb
     exact (J10.pin (b,o) (List.mem_append_right _ (List.mem_append_right _ (bz hb e)))).2.1
 have l0:=loop _ ⟨0,none,H3,J0,st4,fun b hb=>(f3 b hb).1,w0⟩
 exact codeAny_compStart_dict l0 (T.self _ 0 _ _ _ st4 l0)
theorem Fy {kx vx iter:Expr} {ifs:List Expr} {x:Str} {px:Pos} {sc:Scope} {pos:Pos} {wi:TI} {tk te:TE} {tc:TT} (osc:Scope) (N:List Str) (ks:List (Str × Nat)) (hc:X.calm=true) (ho:X.env.scope=osc) (hN:X.N=N) (hi:PI X (.Name x px) iter wi)
  (hk:∀ cl C s₀ H₀ fp pins,PE (dR X sc cl C x ks s₀ H₀ fp pins) kx tk) (he:∀ cl C s₀ H₀ fp pins,PE (dR X sc cl C x ks s₀ H₀ fp pins) vx te) (hcn:∀ cl C s₀ H₀ fp pins,Ey (dR X sc cl C x ks s₀ H₀ fp pins) ifs tc) (ok:b9 sc osc N x ks:=by decide +kernel) (hs:∀ x,foldedSetIterable iter X.env x=pure x:=by intro _;rfl) :
  PE X (.DictComp kx vx [⟨.Name x px,iter,ifs,0⟩] sc pos) (Jb wi ks tc tk te):=by
 intro pins s σ H Q I hw
 obtain ⟨cl,hcl,h1,h2⟩:=fG (jj ok I ho)
 have ok':b9 sc X.env.scope X.N x ks:=by rw [ho,hN];exact ok
 rw [arm_eval_DictComp]
 refine wpAny_comprehension_free (use:=none) rfl hs hcl ok.1 ok.2.2.2.1 (bE (hi pins s σ H _ I hw) fun v s1 h3=>bE h3 fun itv s2 h4=>?_)
 obtain ⟨it,fp,tn,J,H2,rfl,I2,T,st2,f2,hR⟩:=h4
 refine wK (RR:=fun acc C=>compPost (model X.prog X.w) X.A X.xe none (EP X pins σ Q) acc C) hc ok' h1 h2 hk he hcn I2 T st2 f2 hR ?_
 intro D C s' H' m J' q hn hC cl' cs cc cp
 refine ⟨m,hn,fun h' hsb=>⟨.ref D,H',?_,rfl,q⟩⟩
 exact J'.turned (t':=s'.toks) (it:=C) (fun b o ne e=>hsb.extBut b o ne e) hC cl' (.inr cs) cc cp
end
end Ov
namespace Ov
open PySem PySem.Spec PyProof.Rows
open L2 (V HO Hp Inv Cx VK XK TE TT TA TS TG lH TI TO ia Ends pU Loc Gl Rd RelV Vals eA rL b7 lE rK nY h_ R2 upd az aG cM fh Sp mD It aY cx ba Passes kO aA Meth Mk Binds aI bV aw cI eV dH iR oY xB kP)
section
variable {K:PySem.W.Frag} {J:Hq} {H:Hp}
theorem di:∀ {kvs:List (Str × PV)} {gs:List (Str × V)},iu K J H kvs gs→kP (bI K J H) kvs gs
 | [],[],_=>.nil
 | [],_ :: _,h=>by cases h.1
 | _ :: _,[],h=>by cases h.1
 | (k,y) :: fs,(k',w) :: gs,h=>by
  obtain ⟨h1,v',us,h2,h3,h4⟩:=h
  simp only [List.map_cons,List.cons.injEq] at h1 h2
  obtain ⟨rfl,h1⟩:=h1
  obtain ⟨rfl,rfl⟩:=h2
  exact .cons ⟨rfl,h3⟩ (di ⟨h1,h4⟩)
theorem qQ:∀ {kvs:List (Str × PV)} {gs:List (Str × V)},kP (bI K J H) kvs gs→iu K J H kvs gs
 | _,_,.nil=>⟨rfl,rfl⟩
 | _,_,.cons (a:=p) (b:=q) r t=>by
  obtain ⟨h1,h2⟩:=qQ t
  exact ⟨by rw [List.map_cons,List.map_cons,h1,r.1],q.2,_,rfl,r.2,h2⟩
theorem Ext.gK {p:Addr} {kvs kvs':List (Str × PV)} {gs gs':List (Str × V)} {ep ep':Nat} (h:J p=some (.dct kvs ep)) (k:H p=some (.dE gs ep)):Ext K J H (put J p (.dct kvs' ep')) (upd H p (.dE gs' ep')):=by
 have sm:∀ a u,a≠p→Rd H a u→Rd (upd H p (.dE gs' ep')) a u:=fun a u ne z=>by
  rcases z with z | ⟨o,z⟩
  ·exact .inl (by rw [aG ne];exact z)
  ·exact .inr ⟨o,by rw [aG ne];exact z⟩
 refine ⟨fun a vs' z=>?_,fun a o z q _=>?_⟩
 ·rcases z with z | z
  ·have ne:a≠p:=by
    intro e;subst e
    rcases z with z | ⟨o,z⟩
    ·rw [k] at z;cases z
    ·rw [k] at z;cases z
   exact .inl (sm a _ ne z)
  ·exact .inr z
 ·have ne:a≠p:=by intro e;subst e;rw [h] at z;cases z
  exact ⟨by rw [ar ne];exact z,by rw [aG ne];exact q⟩
theorem Rep.gK {p:Addr} {kvs kvs':List (Str × PV)} {gs gs':List (Str × V)} {ep ep':Nat} (r:Rep K J H) (h:J p=some (.dct kvs ep)) (k:H p=some (.dE gs ep)) (q:kP (bI K J H) kvs' gs'):Rep K (put J p (.dct kvs' ep')) (upd H p (.dE gs' ep')):=by
 have e:=Ext.gK (K:=K) (kvs':=kvs') (gs':=gs') (ep':=ep') h k
 refine r.wX e p (fun a ne=>ar ne) (fun a o ne _ z=>by rw [aG ne];exact z) fun u z=>?_
 rw [av] at z;cases z
 exact ⟨gs',az,e.qX (qQ q)⟩
theorem Rep.B5 {p:Addr} {ep:Nat} (r:Rep K J H) (n:H p=none):Rep K (put J p (.dct [] ep)) (upd H p (.dE [] ep)):=by
 have e:=Ext.laid (K:=K) (J:=J) (o:=.dE [] ep) (u:=.dct [] ep) n
 refine r.wX e p (fun a ne=>ar ne) (fun a o ne _ z=>by rw [aG ne];exact z) fun u z=>?_
 rw [av] at z;cases z
 exact ⟨[],az,⟨rfl,rfl⟩⟩
end
def FJ:iS:=fun x y J Q=>∃ a kvs ep k v,x=.ref a∧y=.str k∧J a=some (.dct kvs ep)∧iR kvs k=some v∧Q v J
def DN (f:Bool→Bool):iS:=fun x y J Q=>∃ a kvs ep k,x=.str k∧y=.ref a∧J a=some (.dct kvs ep)∧Q (.bl (f (iR kvs k).isSome)) J
def FL:tN:=fun xs J Q=>∃ a kvs ep,xs=[.ref a]∧J a=some (.dct kvs ep)∧Q (.int kvs.length) J
def yY:tN:=fun xs J Q=>∃ a kvs ep,xs=[.ref a]∧J a=some (.dct kvs ep)∧Q (.fl (kvs.map fun kv=>.str kv.1)) J
def Cn:w9:=fun x xs J Q=>∃ a kvs ep k v,x=.ref a∧xs=[.str k]∧J a=some (.dct kvs ep)∧iR kvs k=some v∧∀ ep',Q v (put J a (.dct (xB kvs k) ep'))
def Co:vE:=fun o i y J R=>∃ a kvs ep k,o=.ref a∧i=.str k∧J a=some (.dct kvs ep)∧kvs.length < sizeLine∧∀ ep',R (put J a (.dct (oY kvs k y) ep'))
def Cs:cq:=fun _ J Q=>∀ p,J p=none→∀ ep,Q (.ref p) (put J p (.dct [] ep))
def II (te:cq):nZ:=fun τ J R=>te τ J fun x J1=>∃ a kvs ep,x=.ref a∧J1 a=some (.dct kvs ep)∧R ⟨kvs.map fun kv=>.str kv.1,fun J'=>J' a=some (.dct kvs ep)⟩ J1
section
variable {X:Cx} {G:G2}
theorem dD:G1 X FJ:=⟨_,L2.E1,fun J H x y v w Q2 Q rx ry r ⟨a,kvs,ep,k,z,ex,ey,ja,hz,q⟩ kn=>by
 subst ex ey
 cases rx;cases ry
 obtain ⟨gs,h1,h2⟩:=r _ _ ja
 obtain ⟨u,hu,ru⟩:=((di h2).va k).1 z hz
 exact ⟨a,gs,ep,k,u,rfl,rfl,h1,hu,kn z J u H ru r .refl q⟩⟩
theorem Dr (f:Bool→Bool):LR X.K (L2.FX f) (DN f):=fun J H x y v w Q2 Q rx ry r ⟨a,kvs,ep,k,ex,ey,ja,q⟩ kn=>by
 subst ex ey
 cases rx;cases ry
 obtain ⟨gs,h1,h2⟩:=r _ _ ja
 exact ⟨a,gs,ep,k,rfl,rfl,h1,by rw [← ((di h2).va k).2];exact kn (.bl _) J _ H rfl r .refl q⟩
theorem DD:jJ X (compareOp .In) (DN id):=⟨_,L2.DA,Dr id⟩
theorem j6 {K:PySem.W.Frag} {J:Hq} {H:Hp}:∀ {ks:List Str},aE K J H (ks.map PV.str) (ks.map V.str)
 | []=>rfl
 | k :: ks=>⟨_,_,rfl,rfl,j6 (ks:=ks)⟩
theorem p6 (hc:X.calm=true):CG X (.type "list") yY:=⟨_,L2.pZ hc,fun J H xs vs Q2 Q rs r ⟨a,kvs,ep,ex,ja,q⟩ k=>by
 subst ex;obtain ⟨v,us,rfl,rv,e⟩:=rs;cases e;cases rv
 obtain ⟨gs,h1,h2⟩:=r _ _ ja
 refine ⟨a,gs,ep,rfl,h1,fun p hp=>?_⟩
 have hk:aE X.K J H (kvs.map fun kv=>PV.str kv.1) (gs.map fun kv=>V.str kv.1):=by
  have:=(di h2).keys
  rw [show (kvs.map fun kv=>PV.str kv.1)=(kvs.map (·.1)).map PV.str by rw [List.map_map];rfl,show (gs.map fun kv=>V.str kv.1)=(gs.map (·.1)).map V.str by rw [List.map_map];rfl,this]
  exact j6
 obtain ⟨x1,x2,x3⟩:=sG r hk hp
 exact k _ J _ _ x1 x2 x3 q⟩
theorem AG:CI X "dict" "dict.pop" Cn:=⟨_,L2.AI,fun J H x xs v vs Q2 Q rx rs r ⟨a,kvs,ep,k,z,ex,exs,ja,hz,q⟩ kn=>by
 subst ex exs;cases rx
 obtain ⟨u,us,rfl,ru,e⟩:=rs;cases e;cases ru
 obtain ⟨gs,h1,h2⟩:=r _ _ ja
 have pk:=di h2
 obtain ⟨y,hy,ry⟩:=(pk.va k).1 z hz
 refine ⟨a,gs,ep,k,y,rfl,rfl,h1,hy,fun ep'=>?_⟩
 have e2:=Ext.gK (K:=X.K) (kvs':=xB kvs k) (gs':=xB gs k) (ep':=ep') ja h1
 exact kn z _ y _ (e2.rep ry) (r.gK ja h1 (pk.dr k)) e2 (q ep')⟩
theorem lA:G6 X Co:=⟨_,L2.D5,fun J H o i y ov iv u R2 R ro ri ry r ⟨a,kvs,ep,k,eo,ei,ja,hl,q⟩ kk=>by
 subst eo ei;cases ro;cases ri
 obtain ⟨gs,h1,h2⟩:=r _ _ ja
 have pk:=di h2
 refine ⟨a,gs,ep,k,rfl,rfl,h1,by rw [← pk.len];exact hl,fun ep'=>?_⟩
 exact kk _ _ (r.gK ja h1 (pk.pu ry)) (Ext.gK (K:=X.K) ja h1) (q ep')⟩
theorem uJ {pos:Pos}:RE X G (.Dict [] [] pos) Cs:=⟨il L2.A6 fun σ H Q ⟨τ,J,Q2,a2,q,k⟩ p hp ep=>k (.ref p) _ _ _ rfl (a2.hp.B5 hp) (.laid hp) (q p (a2.hp.free hp) ep)⟩
theorem o_ {tg l:Expr} {tl:cq} (hl:RE X G l tl):RI X G tg l (II tl):=⟨GQ (L2.A7 hl.run) fun σ H R ⟨τ,J,R2,a2,h,k⟩=>⟨τ,J,_,a2,h,fun x J1 v H1 rx r1 e1 ⟨a,kvs,ep,ex,ja,q⟩=>by
 subst ex;cases rx
 obtain ⟨gs,h1,h2⟩:=r1 _ _ ja
 have pk:=di h2
 have hl':=pk.len
 refine ⟨a,gs,ep,rfl,h1,k _ J1 _ H1 ?_ r1 e1 q⟩
 have hks:=pk.keys
 have key:∀ J' H',Rep X.K J' H'→J' a=some (.dct kvs ep)→∃ gs',H' a=some (.dE gs' ep)∧gs'.map (·.1)=gs.map (·.1):=fun J' H' r o=>by
  obtain ⟨gs',h1',h2'⟩:=r _ _ o
  exact ⟨gs',h1',by rw [← (di h2').keys,hks]⟩
 exact {
  go:=fun J' H' e r o i hi=>⟨key J' H' r o,by rw [List.length_map] at hi ⊢;omega⟩
  yl:=fun J' H' e r o i hi v H2 y=>by
   obtain ⟨rfl,k,hk,rfl⟩:=y
   rw [← hks,List.getElem?_map] at hk
   obtain ⟨kv,hkv,rfl⟩:=Option.map_eq_some_iff.mp hk
   exact ⟨.str kv.1,by rw [List.getElem?_map,hkv];rfl,rfl,r,.refl⟩
  stop:=fun J' H' e r o=>⟨key J' H' r o,by rw [List.length_map,List.length_map];omega⟩ }⟩⟩
def HZ (wi:nZ) (ks:List (Str × Nat)) (tc:iy) (tk te:cq):cq:=fun τ J Q=>wi τ J fun it J1=>∀ D,J1 D=none→∀ ep,∃ W:Nat→Hq→Prop,W 0 (put J1 D (.dct [] ep))∧(∀ i J2,W i J2→it.ok J2) ∧
 (∀ i x J2,it.xs[i]?=some x→W i J2→tc (some x :: kM ks τ) J2 fun b J3=>if b=true then tk (some x :: kM ks τ) J3 fun y J4=>te (some x :: kM ks τ) J4 fun z J5 =>
  ∃ kvs ep k,y=.str k∧J5 D=some (.dct kvs ep)∧kvs.length < sizeLine∧∀ ep',W (i + 1) (put J5 D (.dct (oY kvs k z) ep')) else W (i + 1) J3)∧∀ J2,W it.xs.length J2→Q (.ref D) J2
theorem Ad {wi:nZ} {ks:List (Str × Nat)} {tc:iy} {tk te:cq}:∀ σ H Q,LE X.K G (HZ wi ks tc tk te) σ H Q→Jb (LI X.K G wi) ks (LT X.K G tc) (LE X.K G tk) (LE X.K G te) σ H Q:=fun σ H Q ⟨τ,J,Q2,a2,h,k⟩ =>
 ⟨τ,J,_,a2,h,fun it J1 I H1 ir r1 e1 w D hD ep=>by
  obtain ⟨W,w0,wok,step,fin⟩:=w D (r1.free hD) ep
  refine ⟨fun i m H2=>m=it.xs.length - i∧i≤it.xs.length∧∃ J2,Rep X.K J2 H2∧Ext X.K J1 H1 J2 H2∧W i J2,⟨_,rfl,Nat.zero_le _,_,r1.B5 hD,.laid hD,w0⟩,?_⟩
  rintro i m H2 ⟨rfl,hi,J2,r2,e2,w2⟩
  by_cases hlt:i < it.xs.length
  ·refine .inr ⟨ir.go J2 H2 e2 r2 (wok i J2 w2) i hlt,fun v H3 y=>?_⟩
   obtain ⟨x,ex,rx,r3,e3⟩:=ir.yl J2 H2 e2 r2 (wok i J2 w2) i hlt v H3 y
   have a3:pQ X.K G (some x :: kM ks τ) J2 (some v :: cn ks σ) H3:=⟨uO (a2.sl.ext ((e1.trans e2).trans e3)) rx ks,r3,((a2.ext.trans e1).trans e2).trans e3⟩
   refine ⟨_,_,_,a3,step i x J2 ex w2,fun b J4 H4 r4 e4 q=>?_⟩
   cases b with
   | false =>
    simp only [Bool.false_eq_true,if_false] at q ⊢
    exact ⟨_,by omega,rfl,hlt,J4,r4,(e2.trans e3).trans e4,q⟩
   | true =>
    simp only [if_true] at q ⊢
    refine ⟨_,_,_,a3.go r4 e4,q,fun yk J5 u H5 rk r5 e5 q5=>?_⟩
    refine ⟨_,_,_,(a3.go r4 e4).go r5 e5,q5,fun z J6 vz H6 rz r6 e6 ⟨kvs,ep2,kk,ek,jD,hl,q6⟩=>?_⟩
    subst ek
    cases rk
    obtain ⟨gs,h1,h2⟩:=r6 _ _ jD
    have pk:=di h2
    refine ⟨gs,ep2,kk,rfl,h1,by rw [← pk.len];exact hl,it.xs.length - (i + 1),by omega,fun ep'=>⟨rfl,hlt,_,r6.gK jD h1 (pk.pu rz),?_,q6 ep'⟩⟩
    exact ((((e2.trans e3).trans e4).trans e5).trans e6).trans (Ext.gK (K:=X.K) jD h1)
  ·have ei:i=it.xs.length:=by omega
   subst ei
   exact .inl ⟨ir.stop J2 H2 e2 r2 (wok _ J2 w2),k (.ref D) J2 _ H2 rfl r2 (e1.trans e2) (fin J2 w2)⟩⟩
theorem HR {X:Cx} {ifs:List Expr} {t t':TT} (h:Ey X ifs t) (k:∀ σ H Q,t' σ H Q→t σ H Q):Ey X ifs t':=fun pins s σ H Q I q=>h pins s σ H Q I (k _ _ _ q)
variable {kx vx iter cnd:Expr} {x y:Str} {px py:Pos} {sc:Scope} {pos spos:Pos} {wi:nZ} {tk te:cq} {tc:iy} {i:Nat}
theorem F_ (osc:Scope) (N:List Str) (ks:List (Str × Nat)) (hc:X.calm=true) (ho:X.env.scope=osc) (hN:X.N=N) (hi:RI X G (.Name x px) iter wi) (hk:∀ cl C s₀ H₀ fp pins,RE (dR X sc cl C x ks s₀ H₀ fp pins) G kx tk) (he:∀ cl C s₀ H₀ fp pins,RE (dR X sc cl C x ks s₀ H₀ fp pins) G vx te)
  (ok:b9 sc osc N x ks:=by decide +kernel) (hs:∀ x,foldedSetIterable iter X.env x=pure x:=by intro _;rfl):RE X G (.DictComp kx vx [⟨.Name x px,iter,[],0⟩] sc pos) (HZ wi ks Cy tk te) :=
 ⟨il (Fy osc N ks hc ho hN hi.run (fun cl C s₀ H₀ fp pins=>(hk cl C s₀ H₀ fp pins).run) (fun cl C s₀ H₀ fp pins=>(he cl C s₀ H₀ fp pins).run) (fun cl C s₀ H₀ fp pins=>HR Be fun σ H Q ⟨τ,J,Q2,a2,q,k⟩=>k true J H a2.hp .refl q) ok hs) Ad⟩
end
def tE (tabs:List Addr):cm:=fun xs J Q _=>∃ ns:List Int,xs=[.fl (ns.map .int)]∧ns.length≤63∧(∀ T∈tabs,J T=some .tab)∧(∀ a,a ∉ tabs→J a=none)∧∀ J',(∀ T∈tabs,J' T=some .tab)→Q (.bl true) J'
def zq (tabs:List Addr) (K:PySem.W.Frag):Sp:=fun vs H Q _=>∃ (a:Addr) (ns:List Int),vs=[.ref a]∧cM K H a (ns.map V.int)∧ns.length≤63∧(∀ T∈tabs,H T=some (.ext (c_ T))) ∧
 (∀ b,H b≠none→b=a∨b∈tabs)∧(∀ u,H a=some u→∃ o xs,u=.mF o (.lst xs))∧∀ H',aY H H'→Q (.bl true) H'
theorem vV {P:Program} {w:World} {K:PySem.W.Frag} {mg:Str→Option Value} {base:Heap} {k:Nat} {f:Addr} {fd:FuncData} {ps:List Str} {tabs:List Addr} (F:aI P w K mg base (cS P w) k f fd ps (dz K (tE tabs))) :
  aI P w K mg base L2.lD k f fd ps (zq tabs K) :=
 F.GD.imp fun vs H Q E ⟨a,ns,e,hS,hl,hT,hA,hK,q⟩=>by
  subst e
  classical
  have na:∀ u,H a=some u→a ∉ tabs:=fun u hu hm=>by
   obtain ⟨o,xs,rfl⟩:=hK u hu
   rw [hT a hm] at hu;cases hu
  refine ⟨[.fl (ns.map .int)],fun b=>if b∈tabs then some .tab else none,fun x J'=>x=.bl true∧∀ T∈tabs,J' T=some .tab,fun _ _=>False,⟨.ref a,[],rfl,⟨a,ns.map V.int,rfl,?_,j5 ns⟩,rfl⟩,?_,⟨ns,rfl,hl,fun T hT=>if_pos hT,fun b hb=>if_neg hb,fun J' h=>⟨rfl,h⟩⟩,?_,?_⟩
  ·rcases hS with h | h
   ·refine .inl ⟨?_,h⟩
    have:a ∉ tabs:=by
     rcases h with h | ⟨o,h⟩
     ·exact na _ h
     ·exact na _ h
    exact if_neg this
   ·exact .inr h
  ·intro b o z
   by_cases hb:b∈tabs
   ·have z':=(if_pos hb).symm.trans z
    cases z'
    exact hT b hb
   ·have z':=(if_neg hb).symm.trans z
    cases z'
  ·rintro z J' u H' rz rr ee ⟨rfl,ht⟩
   cases rz
   refine q H' fun b o hb=>?_
   rcases hA b (by rw [hb];simp) with rfl | hm
   ·obtain ⟨ob,xs,rfl⟩:=hK o hb
    exact (ee.ll b _ (if_neg (na _ hb)) hb (.inr ⟨_,_,rfl⟩)).2
   ·have:=hT b hm
    rw [hb] at this;cases this
    exact rr b _ (ht b hm)
  ·intro _ _ _ _ _ z;exact z.elim
end Ov
namespace L2
open PySem PySem.Spec PyProof.Rows
def Hg (k:Str):Value→Bool
 | .str y _=>y.cps.toList == k.cps.toList
 | _=>false
theorem w6 {ss:List Str} {us:List Value} (r:Vals (ss.map V.str) us):us.length=ss.length∧∀ (j:Nat) (u:Value),us[j]?=some u→∃ y t,ss[j]?=some y∧u=.str y t:=by
 induction ss generalizing us with
 | nil=>cases r;exact ⟨rfl,fun j u e=>by simp at e⟩
 | cons y ss ih =>
  rw [List.map_cons] at r
  cases r with
  | cons ru rr =>
   obtain ⟨t,rfl⟩:=ru
   obtain ⟨h1,h2⟩:=ih rr
   refine ⟨by simp [h1],fun j u e=>?_⟩
   cases j with
   | zero=>cases e;exact ⟨y,t,rfl,rfl⟩
   | succ j=>exact h2 j u (by simpa using e)
theorem nv {α β:Type} (f:α→β):∀ (l:List α) (j:Nat),(l.eraseIdx j).map f=(l.map f).eraseIdx j
 | [],_=>rfl
 | _ :: _,0=>rfl
 | x :: l,j + 1=>by simp only [List.eraseIdx_cons_succ,List.map_cons,nv f l j]
section
variable {X:Cx}
def y4:V→List V→Hp→VK→Prop:=fun x vs H Q=>∃ (l:Addr) (ss:List Str) (k:Str) (j:Nat),x=.ref l∧vs=[.str k]∧H l=some (.lst (ss.map V.str))∧ss[j]?=some k∧(∀ m:Nat,m < j→ss[m]?≠some k)∧Q .non (upd H l (.lst ((ss.eraseIdx j).map V.str)))
theorem sE:nY X "list.remove" y4:=by
 intro pins s σ H x vs v us Q I rx rv h
 obtain ⟨l,ss,k,j,rfl,rfl,hH,hj,hno,q⟩:=h
 cases rx
 obtain ⟨u,rfl,ru⟩:=rv.one
 obtain ⟨t,rfl⟩:=ru
 obtain ⟨z,its,n,r,hl,e⟩:=I.AA hH
 obtain ⟨h1,h2⟩:=w6 r
 obtain ⟨hjl,hje⟩:=List.getElem?_eq_some_iff.mp hj
 have hz:ss.length≤sizeLine:=by simpa using z
 have at_:∀ (m:Nat) (hm:m < its.toArray.size),Hg k its.toArray[m]=decide (ss[m]?=some k):=fun m hm=>by
  obtain ⟨y,t',hy,hu⟩:=h2 m its[m] (List.getElem?_eq_getElem (by simpa using hm))
  show Hg k its[m]=_
  rw [hu,hy]
  show (y.cps.toList == k.cps.toList)=_
  by_cases hk:y=k
  ·subst hk;simp
  ·have:(y.cps.toList == k.cps.toList)=false:=by
    rw [beq_eq_false_iff_ne]
    intro z
    exact hk (by cases y;cases k;simp at z;rw [z])
   rw [this];symm;exact decide_eq_false fun z=>hk (Option.some.inj z)
 refine call_meets PySem.F.slot_list_remove ⟨_,e,rfl⟩ PySem.F.entry_list_remove (PySem.F.args_list_remove_2 _ _)
  (MeetsSeq.list_remove l its.toArray n (.str k t) (Hg k) (fun y hy=>?_) j (by simpa using (show j < its.length by omega)) ?_ (fun m hm hlt=>?_) (by rw [List.size_toArray];omega)) ⟨e,?_⟩
 ·obtain ⟨m,hm⟩:=List.mem_iff_getElem?.mp (show y∈its by simpa using hy)
  obtain ⟨y',t',_,rfl⟩:=h2 m y hm
  exact SeqRoads2.EqGives.str _ _ _ _
 ·rw [at_];exact decide_eq_true hj
 ·rw [at_];exact decide_eq_false (hno m hlt)
 ·refine ⟨.non,_,I.Az (its':=its.eraseIdx j) hH e (by rw [List.eraseIdxIfInBounds_toArray]) ?_ ?_,rfl,q⟩
  ·rw [nv];exact r.eraseIdx j
  ·rw [List.length_map];exact Nat.le_trans (List.length_eraseIdx_le _ _) hz
end
end L2
namespace Ov
open PySem PySem.Spec PyProof.Rows
open L2 (V HO Hp Inv Cx VK XK TE TT TA TS TG lH TI TO ia Ends pU Loc Gl Rd RelV Vals eA rL b7 lE rK nY h_ R2 upd az aG cM fh Sp mD It aY cx ba Passes kO aA Meth Mk Binds aI bV aw cI eV dH)
section
variable {X:Cx} {G:G2}
def DO:w9:=fun x xs J Q=>∃ (a:Addr) (ss:List Str) (k:Str) (j:Nat),x=.ref a∧xs=[.str k]∧J a=some (.lst (ss.map .str))∧ss[j]?=some k∧(∀ m:Nat,m < j→ss[m]?≠some k)∧Q (.int (j:Nat)) J
def uF:w9:=fun x xs J Q=>∃ (a:Addr) (ss:List Str) (k:Str) (j:Nat),x=.ref a∧xs=[.str k]∧J a=some (.lst (ss.map .str))∧ss[j]?=some k∧(∀ m:Nat,m < j→ss[m]?≠some k)∧Q .non (put J a (.lst ((ss.eraseIdx j).map .str)))
theorem wc:CI X "list" "list.remove" uF:=⟨_,L2.sE,fun J H x xs v vs Q2 Q rx rs r ⟨a,ss,k,j,ex,exs,ja,hj,hno,q⟩ kn=>by
 subst ex exs;cases rx
 obtain ⟨w,us,rfl,rw',e⟩:=rs;cases e;cases rw'
 obtain ⟨ws,h1,h2⟩:=r _ _ ja
 cases fM h2
 exact ⟨a,ss,k,j,rfl,rfl,h1,hj,hno,kn .non _ _ _ rfl (r.wrote (ys:=(ss.eraseIdx j).map .str) ja h1 j6) (.wrote ja h1) q⟩⟩
variable {a b c:Expr} {ta tb tc:cq} {pos:Pos}
def o6 (q q':iS) (ta tb tc:cq):cq:=fun τ J Q=>ta τ J fun x J1=>tb τ J1 fun y J2=>q x y J2 fun z J3=>∃ k,z=.bl k∧(if k=true then tc τ J3 fun w J4=>q' y w J4 Q else Q (.bl false) J3)
theorem rW {r r':R2} {q q':iS} (lr:LR X.K r q) (lr':LR X.K r' q'):∀ σ H Q,LE X.K G (o6 q q' ta tb tc) σ H Q→L2.zE r r' (LE X.K G ta) (LE X.K G tb) (LE X.K G tc) σ H Q:=fun σ H Q ⟨τ,J,Q2,a2,hh,k⟩=>⟨τ,J,_,a2,hh,fun x J1 v H1 rx r1 e1 q1=>⟨τ,J1,_,a2.go r1 e1,q1,fun y J2 w H2 ry r2 e2 q2 =>
  lr J2 H2 x y v w _ _ (e2.rep rx) ry r2 q2 fun z J3 u H3 rz r3 e3 ⟨kk,ez,q3⟩=>by
   subst ez;cases rz
   refine ⟨kk,rfl,?_⟩
   cases kk with
   | false=>simp only [Bool.false_eq_true,if_false] at q3 ⊢;exact k (.bl false) J3 _ H3 rfl r3 ((e1.trans e2).trans e3) q3
   | true =>
    simp only [if_true] at q3 ⊢
    exact ⟨τ,J3,_,((a2.go r1 e1).go r2 e2).go r3 e3,q3,fun w2 J4 u4 H4 r4 rr4 e4 q4=>lr' J4 H4 y w2 w u4 Q2 Q ((e3.trans e4).rep ry) r4 rr4 q4 fun z' J' u' H' rz' rr' ee' qq=>k z' J' u' H' rz' rr' ((((e1.trans e2).trans e3).trans e4).trans ee') qq⟩⟩⟩
theorem y_ {op op':CmpOp} {q q':iS} (ho:jJ X (compareOp op) q) (ho':jJ X (compareOp op') q') (ha:RE X G a ta) (hb:RE X G b tb) (hc:RE X G c tc) (hm:lastMarks [op,op'] [b,c]=false:=by with_unfolding_all rfl) :
  RE X G (.Compare a [op,op'] [b,c] pos) (o6 q q' ta tb tc):=by
 obtain ⟨r,h,lr⟩:=ho
 obtain ⟨r',h',lr'⟩:=ho'
 exact ⟨il (L2.yL h h' ha.run hb.run hc.run hm) (rW lr lr')⟩
end
end Ov
namespace L2
open PySem PySem.Spec PyProof.Rows
def IA (K:PySem.W.Frag) (a:Addr):It :=
 ⟨fun i H=>∃ xs x,cM K H a xs∧xs[i]?=some x,
  fun i H z H'=>∃ T x,H T=none∧z=.ref T∧H'=upd H T (.tup [.int (i:Nat),x])∧(∀ xs,cM K H a xs→xs[i]?=some x),
  fun i H=>∃ xs,cM K H a xs∧xs.length≤i⟩
theorem wV {P:Program} {w:World} {K:PySem.W.Frag} {elts:List Expr} {x1} {pos:Pos} {e it l:Addr} (ne:e≠it) :
  Turn P w K (.Tuple elts x1 pos) (IA K l) [e,it] e (fun i h=>(∃ old,IsEnum h e it (i:Int) old)∧h.IsListIter it l i) where
 mem:=by simp
 obj:=fun i h ⟨⟨old,he⟩,h1⟩ c hc=>by
  simp only [List.mem_cons,List.not_mem_nil,or_false] at hc
  rcases hc with rfl | rfl
  ·exact ⟨_,he,fun v z=>by cases z⟩
  ·obtain ⟨o,e,c,d⟩:=h1;exact ⟨o,e,fun v z=>by rw [d] at z;cases z⟩
 keep:=fun i h h' ⟨⟨old,he⟩,h1⟩ k=>⟨⟨old,k e (by simp) _ he⟩,h1.at fun o q=>k it (by simp) o q⟩
 item:=by
  intro X hP hw hK hc i pins s σ H E I hf st hg
  subst hP hw hK
  obtain ⟨⟨old,he⟩,h1⟩:=st
  obtain ⟨xs,x,hqx,hx⟩:=hg
  obtain ⟨its,rv,p,hzx⟩:=I.list hqx
  obtain ⟨u,hu,rx⟩:=rv.get hx
  refine wpAny_pyNext_enum_item he h1 p.isList (x:=u) (by simpa using hu) ne fun h' a1 a3 a5 a6 hk=>?_
  refine ⟨_,rfl,wpAny_letOwnedTupleGo_enum a1 fun h'' hz' hs'=>?_⟩
  have hT:H s.heap.objs.size=none:=I.hok.fresh (Nat.le_refl _)
  have lt:∀ {c o},s.heap.get? c=some o→c≠s.heap.objs.size:=fun e=>Nat.ne_of_lt (Heap.lt_size e)
  have I0:Inv X pins σ (upd H s.heap.objs.size (.tup [.int (i:Nat),x])) { s with heap:=s.heap.push { cls:=.type "tuple",data:=.seq #[.int i s.toks,u] },toks:=s.toks + 1 }:=I.laid (t':=s.toks + 1) (fun b u e=>Heap.get?_push_of_some _ e) (Nat.le_refl _) ⟨by simp [sizeLine],[.int i s.toks,u],.cons ⟨_,rfl⟩ (.cons rx .nil),⟨_,Heap.get?_push_size _ rfl,rfl,_,rfl⟩⟩
  have fpn:∀ b∈[e,it],b≠s.heap.objs.size:=fun b hb=>by
   simp only [List.mem_cons,List.not_mem_nil,or_false] at hb
   rcases hb with rfl | rfl
   ·exact lt he
   ·obtain ⟨o,e,_⟩:=h1;exact lt e
  have fpu:∀ b∈[e,it],f9 X pins (upd H s.heap.objs.size (.tup [.int (i:Nat),x])) b:=fun b hb=>⟨by rw [aG (fpn b hb)];exact (hf b hb).1,(hf b hb).2⟩
  have I1:Inv X pins σ (upd H s.heap.objs.size (.tup [.int (i:Nat),x])) { s with heap:=h'',toks:=s.toks + 1 }:=Inv.vq (s:={ s with heap:=s.heap.push { cls:=.type "tuple",data:=.seq #[.int i s.toks,u] },toks:=s.toks + 1 }) (t':=s.toks + 1) (ch:=[e,it]) I0 (fun b o hb eb=>by
   simp only [List.mem_cons,List.not_mem_nil,or_false,not_or] at hb
   rcases Heap.get?_push_cases eb with ⟨rfl,rfl⟩ | e'
   ·exact hs'.extBut _ _ hb.1 a5
   ·exact hs'.extBut _ _ hb.1 (hk b o hb.1 hb.2 e')) fpu
  refine ⟨.ref s.heap.objs.size,_,I1,rfl,⟨_,x,hT,rfl,rfl,fun zs hq=>by rw [I.lX hq hqx];exact hx⟩,⟨⟨_,by rw [Int.natCast_add];exact hz'⟩,a3.extBut hs'.extBut (Ne.symm ne)⟩,fun b hb=>(fpu b hb).1⟩
 done:=by
  intro X hP hw hK hc i pins s σ H E I hf st hg
  subst hP hw hK
  obtain ⟨⟨old,he⟩,h1⟩:=st
  obtain ⟨xs,hqx,hl⟩:=hg
  obtain ⟨its,rv,p,hzx⟩:=I.list hqx
  have e1:=rv.length
  refine wpAny_pyNext_enum_end (I.ok.hd hc) he h1 p.isList (by rw [List.getElem?_toArray,List.getElem?_eq_none_iff];omega) fun h' hk=>⟨rfl,I.vq (t':=s.toks) (ch:=[e,it]) (fun b o hb e=>?_) hf⟩
  simp only [List.mem_cons,List.not_mem_nil,or_false,not_or] at hb
  exact hk b o hb.2 e
 self:=fun _ _ _ _ _ st h=>let ⟨⟨_,he⟩,_⟩:=st;wpAny_pyIter_enum he h
def EY (K:PySem.W.Frag) (ta:TA):TI:=fun σ H R=>ta σ H fun vs H1=>∃ a xs,vs=[.ref a]∧cM K H1 a xs∧R (IA K a) H1
section
variable {X:Cx}
theorem A8 {l:Expr} {elts:List Expr} {x1} {tp:Pos} {ta:TA} {p pos:Pos} (hg:Gl X "enumerate") (hm:X.mg "enumerate"=none) (ha:PA X [l] ta) (hs:starEach [l] X.env=(false,eval l X.env) :: starEach [] X.env:=by rfl) (hp:(backTo pos (starEach [] X.env)).any (·.1)=false:=by rfl):PI X (.Tuple elts x1 tp) (.Call (.Name "enumerate" p) [l] [] pos) (EY X.K ta):=by
 intro pins s σ H R I h
 refine Call_ (jP I hg hm PyProof.Rows.Boot.«enumerate» (PyProof.Rows.callWith_type1 (bE (ha pos pins s σ H _ I h) fun us s1 ⟨vs,H1,I1,r1,q1⟩=>?_) hs hp))
 obtain ⟨a,xs,e,hqa,q⟩:=q1
 subst e
 cases r1 with
 | cons r rr =>
  cases rr
  cases r
  obtain ⟨its,rv,pl,hz⟩:=I1.list hqa
  refine call_enumerate_list pl.isList ?_
  intro h' b1 b2 b6 hk
  refine wpAny_pyIter_enum b1 ?_
  have ne:s1.heap.objs.size + 1≠s1.heap.objs.size:=Nat.succ_ne_self _
  refine ⟨_,_,_,_,H1,rfl,I1.kept (t':=s1.toks) hk,wV ne,⟨⟨_,b1⟩,b2⟩,fun c hc=>?_,q⟩
  have hc':s1.heap.objs.size≤c:=by
   simp only [List.mem_cons,List.not_mem_nil,or_false] at hc
   show @LE.le Nat _ _ _
   rcases hc with rfl | rfl
   ·exact Nat.le_add_right _ _
   ·exact Nat.le_refl _
  exact I1.Ai hc' (I1.hok.fresh hc')
end
end L2
namespace Ov
open PySem PySem.Spec PyProof.Rows
open L2 (V HO Hp Inv Cx VK XK TE TT TA TS TG lH TI TO ia Ends pU Loc Gl Rd RelV Vals eA rL b7 lE rK nY h_ R2 upd az aG cM fh Sp mD It aY cx ba Passes kO aA Meth Mk Binds aI bV aw cI eV dH)
def p8 (xs:List PV):List PV:=(List.range xs.length).zipWith (fun i x=>PV.tup [.int ((i:Nat):Int),x]) xs
theorem gR (xs:List PV):(p8 xs).length=xs.length:=by unfold p8;simp
theorem nu (xs:List PV) (i:Nat) (x:PV) (h:xs[i]?=some x):(p8 xs)[i]?=some (.tup [.int (i:Int),x]):=by
 unfold p8
 obtain ⟨hi,e⟩:=List.getElem?_eq_some_iff.mp h
 rw [List.getElem?_zipWith,List.getElem?_range hi,h]
section
variable {X:Cx} {G:G2}
def IJ (ta:kQ):nZ:=fun τ J R=>ta τ J fun vs J1=>∃ x xs,vs=[x]∧kT J1 x=some xs∧R ⟨p8 xs,fun J'=>kT J' x=some xs⟩ J1
theorem Bt {l:Expr} {elts:List Expr} {x1} {tp:Pos} {ta:kQ} {p pos:Pos} (hg:Gl X "enumerate") (hm:X.mg "enumerate"=none) (ha:RA X G [l] ta) (hs:starEach [l] X.env=(false,eval l X.env) :: starEach [] X.env:=by rfl) (hp:(backTo pos (starEach [] X.env)).any (·.1)=false:=by rfl) :
  RI X G (.Tuple elts x1 tp) (.Call (.Name "enumerate" p) [l] [] pos) (IJ ta):=⟨GQ (L2.A8 hg hm ha.run hs hp) fun σ H R ⟨τ,J,R2,a2,h,k⟩=>⟨τ,J,_,a2,h,fun vs J1 us H1 rs r1 e1 ⟨x,xs,ev,hx,q⟩=>by
 subst ev
 obtain ⟨v,us',rfl,rv,e'⟩:=rs
 cases e'
 obtain ⟨a,ws,rfl,h1,h2⟩:=yh hx rv r1
 refine ⟨a,ws,rfl,h1,k _ J1 _ H1 ?_ r1 e1 q⟩
 have at_:∀ J' H',Ext X.K J1 H1 J' H'→Rep X.K J' H'→kT J' x=some xs→∃ vs,cM X.K H' a vs∧aE X.K J' H' xs vs:=fun J' H' e r o=>by
  obtain ⟨c,vs,eb,g1,g2⟩:=yh o (e.rep rv) r
  cases eb
  exact ⟨vs,g1,g2⟩
 exact {
  go:=fun J' H' e r o i hi=>by
   obtain ⟨vs,s,rs⟩:=at_ J' H' e r o
   rw [gR] at hi
   exact ⟨vs,vs[i]'(by rw [← rs.length];exact hi),s,by simp⟩
  yl:=fun J' H' e r o i hi v H2 y=>by
   obtain ⟨vs,s,rs⟩:=at_ J' H' e r o
   obtain ⟨T,z,hT,rfl,rfl,y1⟩:=y
   obtain ⟨c,ec,rc⟩:=rs.get' (y1 vs s)
   have sm:=aY.new hT (.tup [.int (i:Nat),z])
   have e2:=Ext.same (K:=X.K) (J:=J') sm
   refine ⟨.tup [.int (i:Int),c],nu _ _ _ ec,⟨T,[.int (i:Nat),z],rfl,.inl (.inl az),e2.gf ⟨.int (i:Nat),_,rfl,rfl,z,_,rfl,rc,rfl⟩⟩,r.same sm,e2⟩
  stop:=fun J' H' e r o=>by
   obtain ⟨vs,s,rs⟩:=at_ J' H' e r o
   exact ⟨vs,s,by rw [gR,← rs.length];exact Nat.le_refl _⟩ }⟩⟩
end
section
variable {X:Cx} {pins:List (Addr × Obj)} {σ:L2.St} {H:Hp} {s:Shared}
open Classical in
def eT (K:PySem.W.Frag) (H:Hp) (zs:List Py) (y:Py) (u:Value):Bool:=decide (∃ z∈zs,∃ v,RelV v u∧At K H z v∧gS z y=true)
end
section
variable {X:Cx} {G:G2}
end
end Ov
namespace Ov
open PySem
structure ay where
 m:Rat
 h:Str
 f:Str
 deriving DecidableEq
def slt (a b:Str):Prop:=a.cps.toList < b.cps.toList
instance (a b:Str):Decidable (slt a b):=inferInstanceAs (Decidable (a.cps.toList < b.cps.toList))
def ay.lt (a b:ay):Bool:=if a.m=b.m then (if a.h=b.h then decide (slt a.f b.f) else decide (slt a.h b.h)) else decide (a.m < b.m)
theorem jC (a:Str):¬ slt a a:=List.lt_irrefl _
theorem ka {a b c:Str} (h:slt a b) (k:slt b c):slt a c:=List.lt_trans h k
theorem yo:∀ (a b:List Nat),a≠b→a < b∨b < a
 | [],[],h=>absurd rfl h
 | [],_ :: _,_=>.inl (List.nil_lt_cons _ _)
 | _ :: _,[],_=>.inr (List.nil_lt_cons _ _)
 | x :: a,y :: b,h=>by
  rcases Nat.lt_trichotomy x y with z | z | z
  ·exact .inl (List.cons_lt_cons_iff.mpr (.inl z))
  ·subst z
   rcases yo a b (fun e=>h (by rw [e])) with q | q
   ·exact .inl (List.cons_lt_cons_iff.mpr (.inr ⟨rfl,q⟩))
   ·exact .inr (List.cons_lt_cons_iff.mpr (.inr ⟨rfl,q⟩))
  ·exact .inr (List.cons_lt_cons_iff.mpr (.inl z))
theorem pH {a b:Str} (h:a≠b):slt a b∨slt b a:=by
 have ne:a.cps.toList≠b.cps.toList:=fun e=>h (by cases a;cases b;simp at e;rw [e])
 exact yo _ _ ne
theorem D7 {a b:Str} (h:slt a b):a≠b:=fun e=>by subst e;exact jC _ h
theorem ay.lt_iff (a b:ay):a.lt b=true↔a.m < b.m∨(a.m=b.m∧(slt a.h b.h∨(a.h=b.h∧slt a.f b.f))):=by
 unfold ay.lt
 by_cases e:a.m=b.m
 ·rw [if_pos e]
  have n:¬ a.m < b.m:=by rw [e];exact Rat.lt_irrefl
  by_cases k:a.h=b.h
  ·rw [if_pos k]
   have n2:¬ slt a.h b.h:=fun z=>D7 z k
   simp [e,k,n,n2]
   try (intro z;first | exact absurd z Rat.lt_irrefl | exact absurd z (jC _))
  ·rw [if_neg k]
   simp [e,k]
   try (intro z;exact absurd z Rat.lt_irrefl)
 ·rw [if_neg e]
  simp [e]
theorem ay.Dt (a:ay):a.lt a=false:=by
 cases h:a.lt a with
 | false=>rfl
 | true =>
  rcases (ay.lt_iff a a).mp h with h | ⟨_,h | ⟨_,h⟩⟩
  ·exact absurd h Rat.lt_irrefl
  ·exact absurd h (jC _)
  ·exact absurd h (jC _)
theorem nO {a b c:Rat} (h:a < b) (k:b < c):a < c:=by grind
theorem ay.lt_trans {a b c:ay} (h:a.lt b=true) (k:b.lt c=true):a.lt c=true:=by
 rw [ay.lt_iff] at *
 rcases h with h | ⟨e,h⟩ <;> rcases k with k | ⟨e',k⟩
 ·exact .inl (nO h k)
 ·exact .inl (e' ▸ h)
 ·exact .inl (e ▸ k)
 ·refine .inr ⟨e.trans e',?_⟩
  rcases h with h | ⟨z,h⟩ <;> rcases k with k | ⟨z',k⟩
  ·exact .inl (ka h k)
  ·exact .inl (z' ▸ h)
  ·exact .inl (z ▸ k)
  ·exact .inr ⟨z.trans z',ka h k⟩
theorem ay.yi {a b:ay} (h:a≠b):a.lt b=true∨b.lt a=true:=by
 rw [ay.lt_iff,ay.lt_iff]
 by_cases e:a.m=b.m
 ·by_cases z:a.h=b.h
  ·have:a.f≠b.f:=fun q=>h (by cases a;cases b;simp_all)
   rcases pH this with q | q
   ·exact .inl (.inr ⟨e,.inr ⟨z,q⟩⟩)
   ·exact .inr (.inr ⟨e.symm,.inr ⟨z.symm,q⟩⟩)
  ·rcases pH z with q | q
   ·exact .inl (.inr ⟨e,.inl q⟩)
   ·exact .inr (.inr ⟨e.symm,.inl q⟩)
 ·rcases (by grind:a.m < b.m∨b.m < a.m) with q | q
  ·exact .inl (.inl q)
  ·exact .inr (.inl q)
def f_ (l:List ay):Prop:=l.Pairwise fun a b=>a.lt b=true
def gq (b:ay) (l:List ay):List ay:=l.filter (fun x=>x.lt b) ++ b :: l.filter (fun x=>!x.lt b)
def nQ (h f:Str) (x:ay):Bool:=decide (x.h=h∧x.f=f)
def cf (h f:Str) (l:List ay):List ay:=l.filter fun x=>!nQ h f x
theorem nt {h f:Str} {l:List ay} (s:f_ l):f_ (cf h f l):=s.filter _
theorem qd {b:ay} {l:List ay} (s:f_ l) (n:∀ x∈l,x≠b):f_ (gq b l):=by
 unfold gq f_
 rw [List.pairwise_append]
 refine ⟨s.filter _,?_,?_⟩
 ·rw [List.pairwise_cons]
  refine ⟨fun y hy=>?_,s.filter _⟩
  rw [List.mem_filter] at hy
  rcases ay.yi (n y hy.1) with q | q
  ·simp [q] at hy
  ·exact q
 ·intro x hx y hy
  rw [List.mem_filter] at hx
  rcases List.mem_cons.mp hy with rfl | hy
  ·exact hx.2
  ·rw [List.mem_filter] at hy
   rcases ay.yi (n y hy.1) with q | q
   ·simp [q] at hy
   ·exact ay.lt_trans hx.2 q
theorem Ah {h f:Str} {l:List ay} {m:Rat}:∀ x∈cf h f l,x≠⟨m,h,f⟩:=fun x hx e=>by
 subst e
 unfold cf at hx
 rw [List.mem_filter] at hx
 simp [nQ] at hx
theorem nK (p:ay→Bool):∀ {l:List ay} {i:Nat},i≤l.length→(∀ (j:Nat) x,j < i→l[j]?=some x→p x=true)→(∀ (j:Nat) x,i≤j→l[j]?=some x→p x=false)→l.take i ++ l.drop i=l∧l.filter p=l.take i∧l.filter (fun x=>!p x)=l.drop i
 | l,0,_,_,h=>by
  refine ⟨by simp,?_,?_⟩
  ·rw [List.take_zero]
   apply List.filter_eq_nil_iff.mpr
   intro x hx
   obtain ⟨j,hj⟩:=List.mem_iff_getElem?.mp hx
   rw [h j x (Nat.zero_le _) hj];simp
  ·rw [List.drop_zero]
   apply List.filter_eq_self.mpr
   intro x hx
   obtain ⟨j,hj⟩:=List.mem_iff_getElem?.mp hx
   rw [h j x (Nat.zero_le _) hj];rfl
 | [],i + 1,hi,_,_=>by simp at hi
 | x :: l,i + 1,hi,h1,h2=>by
  obtain ⟨a,b,c⟩:=nK p (l:=l) (i:=i) (by simpa using hi) (fun j y hj e=>h1 (j + 1) y (by omega) (by simpa using e)) (fun j y hj e=>h2 (j + 1) y (by omega) (by simpa using e))
  have hx:p x=true:=h1 0 x (by omega) rfl
  refine ⟨by simp,?_,?_⟩
  ·rw [List.filter_cons,hx];simp [b]
  ·rw [List.filter_cons,hx];simp [c]
theorem ue {b:ay} {l:List ay} {i:Nat} (hi:i≤l.length) (h1:∀ (j:Nat) x,j < i→l[j]?=some x→x.lt b=true) (h2:∀ (j:Nat) x,i≤j→l[j]?=some x→x.lt b=false):l.take i ++ b :: l.drop i=gq b l:=by
 obtain ⟨_,e1,e2⟩:=nK (fun x=>x.lt b) hi h1 h2
 unfold gq
 rw [e1,e2]
theorem vf {l:List ay} {b x y:ay} {i j:Nat} (s:f_ l) (hx:l[i]?=some x) (hy:l[j]?=some y) (h:j≤i) (k:x.lt b=true):y.lt b=true:=by
 rcases Nat.lt_or_eq_of_le h with h | h
 ·obtain ⟨hi,ei⟩:=List.getElem?_eq_some_iff.mp hx
  obtain ⟨hj,ej⟩:=List.getElem?_eq_some_iff.mp hy
  have:=List.pairwise_iff_getElem.mp s j i hj hi h
  rw [ei,ej] at this
  exact ay.lt_trans this k
 ·subst h;rw [hx] at hy;cases hy;exact k
theorem rF {l:List ay} {b x y:ay} {i j:Nat} (s:f_ l) (hx:l[i]?=some x) (hy:l[j]?=some y) (h:i≤j) (k:x.lt b=false):y.lt b=false:=by
 cases q:y.lt b with
 | false=>rfl
 | true=>rw [vf s hy hx h q] at k;cases k
theorem xQ {b x:ay} {l:List ay} (h:x∈gq b l):x=b∨x∈l:=by
 unfold gq at h
 rcases List.mem_append.mp h with h | h
 ·exact .inr (List.mem_filter.mp h).1
 ·rcases List.mem_cons.mp h with h | h
  ·exact .inl h
  ·exact .inr (List.mem_filter.mp h).1
theorem i5 (p:ay→Bool):∀ l:List ay,(l.filter p).length + (l.filter fun x=>!p x).length=l.length
 | []=>rfl
 | x :: l=>by
  have:=i5 p l
  cases h:p x <;> simp [h] <;> omega
theorem lQ (b:ay) (l:List ay):(gq b l).length=l.length + 1:=by
 unfold gq
 rw [List.length_append,List.length_cons]
 have:=i5 (fun x=>x.lt b) l
 omega
theorem jM (h f:Str) (l:List ay):(cf h f l).length≤l.length:=List.length_filter_le _ _
structure aP where
 m:Rat
 p:Rat
 v:Int
 deriving DecidableEq
def aP.at (l:aP) (t:Rat):Rat:=l.p + (t - l.m) * l.v
def turned (rows:List aP) (t:Rat) (v:Int):List aP :=
 match rows.getLast? with
 | none=>[]
 | some l =>
  let rest:=if l.m=t then rows.dropLast else rows
  if rest.getLast?.map aP.v=some v then rest else rest ++ [⟨t,l.at t,v⟩]
theorem fg (ls:List aP) (l:aP) (t:Rat) (v:Int):turned (ls ++ [l]) t v =
  if l.m=t then (if ls.getLast?.map aP.v=some v then ls else ls ++ [⟨t,l.at t,v⟩]) else (if l.v=v then ls ++ [l] else ls ++ [l] ++ [⟨t,l.at t,v⟩]):=by
 unfold turned
 simp only [List.getLast?_concat,List.dropLast_concat]
 split
 ·rfl
 ·simp only [List.getLast?_concat,Option.map_some,Option.some.injEq]
theorem kj {rows:List aP} {t:Rat} {v:Int} (h:rows≠[]):turned rows t v≠[]:=by
 obtain ⟨ls,l,rfl⟩:∃ ls l,rows=ls ++ [l]:=⟨rows.dropLast,rows.getLast h,(List.dropLast_concat_getLast h).symm⟩
 rw [fg]
 split
 ·split
  ·rename_i e
   intro z;subst z;cases e
  ·simp
 ·split <;> simp
theorem mB {rows:List aP} {t:Rat} {v:Int} {x:aP} (h:x∈turned rows t v):x∈rows∨∃ l∈rows,x=⟨t,l.at t,v⟩:=by
 by_cases e:rows=[]
 ·subst e;cases h
 obtain ⟨ls,l,rfl⟩:∃ ls l,rows=ls ++ [l]:=⟨rows.dropLast,rows.getLast e,(List.dropLast_concat_getLast e).symm⟩
 rw [fg] at h
 have key:∀ {y:List aP},(∀ z∈y,z∈ls ++ [l])→x∈y ++ [⟨t,l.at t,v⟩]→x∈ls ++ [l]∨∃ l'∈ls ++ [l],x=⟨t,l'.at t,v⟩:=fun hy hx=>by
  rcases List.mem_append.mp hx with h | h
  ·exact .inl (hy _ h)
  ·exact .inr ⟨l,by simp,by simpa using h⟩
 split at h
 ·split at h
  ·exact .inl (List.mem_append.mpr (.inl h))
  ·exact key (fun z hz=>List.mem_append.mpr (.inl hz)) h
 ·split at h
  ·exact .inl h
  ·exact key (fun z hz=>hz) h
theorem fV (rows:List aP) (t:Rat) (v:Int):(turned rows t v).length≤rows.length + 1:=by
 by_cases e:rows=[]
 ·subst e;simp [turned]
 obtain ⟨ls,l,rfl⟩:∃ ls l,rows=ls ++ [l]:=⟨rows.dropLast,rows.getLast e,(List.dropLast_concat_getLast e).symm⟩
 rw [fg]
 split <;> split <;> simp <;> omega
def qk (rows:List aP) (t:Rat):Option aP:=(rows.filter fun l=>decide (l.m≤t)).getLast?
def lb (ms:List Rat) (t:Rat):Nat→Nat
 | 0=>0
 | k + 1=>if ms.getD k 0≤t then k + 1 else lb ms t k
theorem B6 (ms:List Rat) (t:Rat):∀ k,lb ms t k≤k
 | 0=>Nat.le_refl _
 | k + 1=>by unfold lb;split;exact Nat.le_refl _;exact Nat.le_succ_of_le (B6 ms t k)
theorem ya {ms:List Rat} {t:Rat} {j:Nat} (h:ms.getD j 0≤t):∀ {k},j < k→0 < lb ms t k
 | 0,hk=>absurd hk (Nat.not_lt_zero _)
 | k + 1,hk=>by
  unfold lb
  split
  ·exact Nat.succ_pos _
  ·rename_i c
   exact ya h (by rcases Nat.lt_succ_iff_lt_or_eq.mp hk with e | e;exact e;subst e;exact absurd h c)
theorem uk (t:Rat) (rows:List aP):∀ k,k≤rows.length→((rows.take k).filter fun l=>decide (l.m≤t)).getLast?=if lb (rows.map aP.m) t k=0 then none else rows[lb (rows.map aP.m) t k - 1]?
 | 0,_=>rfl
 | k + 1,hk=>by
  have hk':k < rows.length:=by omega
  have e:rows.take (k + 1)=rows.take k ++ [rows[k]]:=by rw [List.take_add_one,List.getElem?_eq_getElem hk'];rfl
  have em:(rows.map aP.m).getD k 0=rows[k].m:=by simp [List.getD,hk']
  rw [e,List.filter_append]
  unfold lb
  rw [em]
  by_cases c:rows[k].m≤t
  ·rw [if_pos c,List.filter_cons,if_pos (decide_eq_true c),List.filter_nil,List.getLast?_concat,if_neg (Nat.succ_ne_zero _),Nat.add_sub_cancel,List.getElem?_eq_getElem hk']
  ·rw [if_neg c,List.filter_cons,if_neg (by simp [c]),List.filter_nil,List.append_nil]
   exact uk t rows k (by omega)
theorem ye (rows:List aP) (t:Rat):qk rows t=if lb (rows.map aP.m) t rows.length=0 then none else rows[lb (rows.map aP.m) t rows.length - 1]?:=by
 have:=uk t rows rows.length (Nat.le_refl _)
 rw [List.take_length] at this
 exact this
def GK (g:Option Rat) (t:Rat):Bool:=match g with | none=>true | some q=>decide (t < q)
def there (rows:List aP) (g:Option Rat) (t:Rat):Bool :=
 match rows.head? with
 | none=>false
 | some l=>!decide (t < l.m) && GK g t
theorem zK {rows:List aP} {g:Option Rat} {t:Rat} (h:there rows g t=true):∃ l,qk rows t=some l∧l∈rows∧l.m≤t∧0 < lb (rows.map aP.m) t rows.length∧rows[lb (rows.map aP.m) t rows.length - 1]?=some l:=by
 cases rows with
 | nil=>cases h
 | cons l0 ls =>
  have h0:l0.m≤t:=by
   unfold there at h
   simp only [List.head?_cons,Bool.and_eq_true,Bool.not_eq_true',decide_eq_false_iff_not] at h
   exact Rat.not_lt.mp h.1
  have hp:0 < lb ((l0 :: ls).map aP.m) t (l0 :: ls).length:=ya (j:=0) (by simpa using h0) (by simp)
  have hle:=B6 ((l0 :: ls).map aP.m) t (l0 :: ls).length
  have hx:=ye (l0 :: ls) t
  rw [if_neg (by omega)] at hx
  obtain ⟨l,hl⟩:∃ l,(l0 :: ls)[lb ((l0 :: ls).map aP.m) t (l0 :: ls).length - 1]?=some l:=⟨_,List.getElem?_eq_getElem (by omega)⟩
  rw [hl] at hx
  have hm:=List.mem_of_getLast? hx
  rw [List.mem_filter] at hm
  exact ⟨l,hx,hm.1,of_decide_eq_true hm.2,hp,hl⟩
def Sc (D A:Nat) (q:Rat):Prop:=∃ a:Int,q * (D:Rat)=(a:Rat)∧a.natAbs≤A
theorem Sc.mono {D A B:Nat} {q:Rat} (h:Sc D A q) (k:A≤B):Sc D B q:=let ⟨a,e,l⟩:=h;⟨a,e,Nat.le_trans l k⟩
theorem Fu {D:Nat} (h:0 < D):(D:Rat)≠0:=by
 intro e
 have:D=0:=by exact_mod_cast e
 omega
theorem Sc.sz {D A n:Nat} {q:Rat} (h:Sc D A q) (hD:0 < D) (h1:D < 2 ^ n) (h2:A < 2 ^ n):Sz n q:=by
 obtain ⟨a,e,l⟩:=h
 have nz:=Fu hD
 have:q=Rat.divInt a (D:Int):=by
  rw [Rat.divInt_eq_div,← e]
  have:((D:Int):Rat)=(D:Rat):=rfl
  rw [this]
  generalize (D:Rat)=d at nz ⊢
  grind
 rw [this]
 exact Sz.div ⟨Nat.lt_of_le_of_lt l h2⟩ ⟨by simpa using h1⟩ (by omega)
theorem Sc.add {D A B:Nat} {p q:Rat} (h:Sc D A p) (k:Sc D B q):Sc D (A + B) (p + q):=by
 obtain ⟨a,e,l⟩:=h
 obtain ⟨b,f,m⟩:=k
 refine ⟨a + b,?_,by omega⟩
 rw [Rat.intCast_add,← e,← f]
 grind
theorem Sc.sub {D A B:Nat} {p q:Rat} (h:Sc D A p) (k:Sc D B q):Sc D (A + B) (p - q):=by
 obtain ⟨a,e,l⟩:=h
 obtain ⟨b,f,m⟩:=k
 refine ⟨a - b,?_,by omega⟩
 rw [Rat.intCast_sub,← e,← f]
 grind
theorem Sc.mul {D A B:Nat} {p:Rat} {v:Int} (h:Sc D A p) (k:v.natAbs≤B):Sc D (A * B) (p * v):=by
 obtain ⟨a,e,l⟩:=h
 refine ⟨a * v,?_,?_⟩
 ·rw [Rat.intCast_mul,← e]
  grind
 ·rw [Int.natAbs_mul];exact Nat.mul_le_mul l k
theorem Sc.scale {D A E:Nat} {p:Rat} (h:Sc D A p):Sc (E * D) (E * A) p:=by
 obtain ⟨a,e,l⟩:=h
 refine ⟨E * a,?_,?_⟩
 ·rw [Rat.intCast_mul,← e]
  have h1:((E * D:Nat):Rat)=(E:Rat) * (D:Rat):=Rat.natCast_mul ..
  have h2:((E:Int):Rat)=(E:Rat):=rfl
  rw [h1,h2]
  grind
 ·rw [Int.natAbs_mul];exact Nat.mul_le_mul (by simp) l
theorem Sc.HK {D A:Nat} {t:Int} {b:Nat} (hb:0 < b) (hd:b ∣ D) (hA:t.natAbs * (D / b)≤A):Sc D A (Rat.divInt t b):=by
 obtain ⟨c,rfl⟩:=hd
 rw [Nat.mul_div_cancel_left _ hb] at hA
 refine ⟨t * c,?_,by rw [Int.natAbs_mul];simpa using hA⟩
 have nb:=Fu hb
 have e1:((b:Int):Rat)=(b:Rat):=rfl
 have e2:((c:Int):Rat)=(c:Rat):=rfl
 rw [Rat.divInt_eq_div,Rat.intCast_mul,e1,e2,Rat.natCast_mul]
 generalize (b:Rat)=b at nb ⊢
 grind
def fC:Nat:=9690712164777231700912800
theorem Jn:∀ b:Nat,1≤b→b≤60→b ∣ fC:=by
 intro b h1 h2
 have:∀ b:Fin 61,1≤b.val→b.val ∣ fC:=by decide
 exact this ⟨b,by omega⟩ h1
theorem ot:0 < fC:=by decide
def MM:Nat:=2097152 * fC
structure zY (D k:Nat) (l:aP):Prop where
 m:Sc fC MM l.m
 p:Sc (D * fC) (fC * 2 ^ 101 + k * (2000 * (D * MM))) l.p
 v:l.v.natAbs≤1000
theorem zY.mono {D k j:Nat} {l:aP} (h:zY D k l) (e:k≤j):zY D j l:=⟨h.m,h.p.mono (Nat.add_le_add_left (Nat.mul_le_mul_right _ e) _),h.v⟩
theorem zY.at {D k:Nat} {l:aP} {t:Rat} (h:zY D k l) (ht:Sc fC MM t):Sc (D * fC) (fC * 2 ^ 101 + (k + 1) * (2000 * (D * MM))) (l.at t):=by
 have h1:Sc (D * fC) (D * (MM + MM)) (t - l.m):=(ht.sub h.m).scale
 have h2:=h1.mul h.v
 exact (h.p.add h2).mono (by
  have e:(k + 1) * (2000 * (D * MM))=k * (2000 * (D * MM)) + 2000 * (D * MM):=Nat.succ_mul ..
  rw [e,Nat.mul_add D]
  generalize D * MM=x
  generalize k * (2000 * x)=y
  omega)
theorem zY.turn {D k:Nat} {l:aP} {t:Rat} {v:Int} (h:zY D k l) (ht:Sc fC MM t) (hv:v.natAbs≤1000):zY D (k + 1) ⟨t,l.at t,v⟩:=⟨ht,h.at ht,hv⟩
theorem Ft:MM < 2 ^ 106:=by decide
theorem uo {q:Rat} (h:Sc fC MM q):Sz 106 q:=h.sz ot (by decide) Ft
structure Gd (D k:Nat) (rows:List aP):Prop where
 ne:rows≠[]
 ok:∀ l∈rows,zY D k l
 len:rows.length≤k + 1
theorem Gd.turn {D k:Nat} {rows:List aP} {t:Rat} {v:Int} (h:Gd D k rows) (ht:Sc fC MM t) (hv:v.natAbs≤1000):Gd D (k + 1) (turned rows t v) :=
 ⟨kj h.ne,fun x hx=>by
  rcases mB hx with h1 | ⟨l,h1,rfl⟩
  ·exact (h.ok x h1).mono (Nat.le_succ _)
  ·exact (h.ok l h1).turn ht hv,Nat.le_trans (fV _ _ _) (Nat.succ_le_succ h.len)⟩
def Later (c q:Rat):Prop:=q=c∨∃ u s:Nat,1≤u∧u≤60∧1≤s∧s≤500 * u∧q=Rat.divInt ((c.num * u).fdiv c.den + s) u
theorem Later.le {c q:Rat} (h:Later c q):c≤q:=by
 rcases h with rfl | ⟨u,s,h1,h2,h3,h4,rfl⟩
 ·exact Rat.le_refl
 have hf:c.num * u < ((c.num * u).fdiv c.den + 1) * c.den:=by
  rw [Int.fdiv_eq_ediv_of_nonneg _ (by omega)]
  exact Int.lt_ediv_add_one_mul_self (c.num * u) (eD c)
 generalize (c.num * u).fdiv c.den=F at hf ⊢
 have h5:c.num * u≤(F + s) * c.den:=by
  have:(F + 1) * c.den≤(F + s) * c.den:=Int.mul_le_mul_of_nonneg_right (by omega) (by omega)
  omega
 have hu:(0:Rat) < (u:Rat):=by exact_mod_cast (show 0 < u by omega)
 have hd:(0:Rat) < ((c.den:Int):Rat):=by exact_mod_cast eD c
 refine Rat.not_lt.mp fun hlt=>?_
 rw [Rat.divInt_eq_div] at hlt
 have e1:((u:Int):Rat)=(u:Rat):=rfl
 rw [e1,Rat.div_lt_iff hu] at hlt
 have h6:=Rat.mul_lt_mul_of_pos_right hlt hd
 have e2:c * (u:Rat) * ((c.den:Int):Rat)=((c.num * u:Int):Rat):=by
  rw [Rat.intCast_mul,cast_eq c,e1];grind
 rw [e2,← Rat.intCast_mul] at h6
 have h7:(F + s) * c.den < c.num * u:=by exact_mod_cast h6
 omega
section
variable {α:Type} {lt:α→α→Bool}
def lR (lt:α→α→Bool) (b:α) (l:List α):List α:=l.filter (fun x=>lt x b) ++ b :: l.filter (fun x=>!lt x b)
def mL (lt:α→α→Bool) (l:List α):Prop:=l.Pairwise fun a b=>lt a b=true
theorem yJ (p:α→Bool):∀ {l:List α} {i:Nat},i≤l.length→(∀ (j:Nat) x,j < i→l[j]?=some x→p x=true)→(∀ (j:Nat) x,i≤j→l[j]?=some x→p x=false)→l.filter p=l.take i∧l.filter (fun x=>!p x)=l.drop i
 | l,0,_,_,h=>by
  refine ⟨?_,?_⟩
  ·rw [List.take_zero]
   apply List.filter_eq_nil_iff.mpr
   intro x hx
   obtain ⟨j,hj⟩:=List.mem_iff_getElem?.mp hx
   rw [h j x (Nat.zero_le _) hj];simp
  ·rw [List.drop_zero]
   apply List.filter_eq_self.mpr
   intro x hx
   obtain ⟨j,hj⟩:=List.mem_iff_getElem?.mp hx
   rw [h j x (Nat.zero_le _) hj];rfl
 | [],i + 1,hi,_,_=>by simp at hi
 | x :: l,i + 1,hi,h1,h2=>by
  obtain ⟨b,c⟩:=yJ p (l:=l) (i:=i) (by simpa using hi) (fun j y hj e=>h1 (j + 1) y (by omega) (by simpa using e)) (fun j y hj e=>h2 (j + 1) y (by omega) (by simpa using e))
  have hx:p x=true:=h1 0 x (by omega) rfl
  refine ⟨?_,?_⟩
  ·rw [List.filter_cons,hx];simp [b]
  ·rw [List.filter_cons,hx];simp [c]
theorem Ar {b:α} {l:List α} {i:Nat} (hi:i≤l.length) (h1:∀ (j:Nat) x,j < i→l[j]?=some x→lt x b=true) (h2:∀ (j:Nat) x,i≤j→l[j]?=some x→lt x b=false):l.take i ++ b :: l.drop i=lR lt b l:=by
 obtain ⟨e1,e2⟩:=yJ (fun x=>lt x b) hi h1 h2
 unfold lR
 rw [e1,e2]
theorem qg {b x:α} {l:List α}:x∈lR lt b l↔x=b∨x∈l:=by
 unfold lR
 rw [List.mem_append,List.mem_cons,List.mem_filter,List.mem_filter]
 constructor
 ·rintro (h | h | h)
  ·exact .inr h.1
  ·exact .inl h
  ·exact .inr h.1
 ·rintro (h | h)
  ·exact .inr (.inl h)
  ·cases e:lt x b
   ·exact .inr (.inr ⟨h,by simp⟩)
   ·exact .inl ⟨h,rfl⟩
theorem xR (b:α) (l:List α):(lR lt b l).length=l.length + 1:=by
 unfold lR
 rw [List.length_append,List.length_cons]
 have:∀ l:List α,(l.filter fun x=>lt x b).length + (l.filter fun x=>!lt x b).length=l.length:=by
  intro l
  induction l with
  | nil=>rfl
  | cons x l ih=>cases h:lt x b <;> simp [h] <;> omega
 have:=this l
 omega
theorem xS (tr:∀ {a b c},lt a b=true→lt b c=true→lt a c=true) {b:α} {l:List α} (s:mL lt l) (Gs:∀ x∈l,lt x b=true∨lt b x=true):mL lt (lR lt b l):=by
 unfold lR mL
 rw [List.pairwise_append]
 refine ⟨s.filter _,?_,?_⟩
 ·rw [List.pairwise_cons]
  refine ⟨fun y hy=>?_,s.filter _⟩
  rw [List.mem_filter] at hy
  rcases Gs y hy.1 with q | q
  ·simp [q] at hy
  ·exact q
 ·intro x hx y hy
  rw [List.mem_filter] at hx
  rcases List.mem_cons.mp hy with rfl | hy
  ·exact hx.2
  ·rw [List.mem_filter] at hy
   rcases Gs y hy.1 with q | q
   ·simp [q] at hy
   ·exact tr hx.2 q
theorem zx (tr:∀ {a b c},lt a b=true→lt b c=true→lt a c=true) {l:List α} {b x y:α} {i j:Nat} (s:mL lt l) (hx:l[i]?=some x) (hy:l[j]?=some y) (h:j≤i) (k:lt x b=true):lt y b=true:=by
 rcases Nat.lt_or_eq_of_le h with h | h
 ·obtain ⟨hi,ei⟩:=List.getElem?_eq_some_iff.mp hx
  obtain ⟨hj,ej⟩:=List.getElem?_eq_some_iff.mp hy
  have:=List.pairwise_iff_getElem.mp s j i hj hi h
  rw [ei,ej] at this
  exact tr this k
 ·subst h;rw [hx] at hy;cases hy;exact k
theorem jF (zR:∀ a,lt a a=false) (tr:∀ {a b c},lt a b=true→lt b c=true→lt a c=true):∀ {l k:List α},mL lt l→mL lt k→(∀ x,x∈l↔x∈k)→l=k
 | [],[],_,_,_=>rfl
 | [],y :: k,_,_,h=>by have:=(h y).mpr List.mem_cons_self;cases this
 | x :: l,[],_,_,h=>by have:=(h x).mp List.mem_cons_self;cases this
 | x :: l,y :: k,hl,hk,h=>by
  obtain ⟨a1,a2⟩:=List.pairwise_cons.mp hl
  obtain ⟨b1,b2⟩:=List.pairwise_cons.mp hk
  have exy:x=y:=by
   rcases List.mem_cons.mp ((h x).mp List.mem_cons_self) with e | e
   ·exact e
   ·rcases List.mem_cons.mp ((h y).mpr List.mem_cons_self) with e' | e'
    ·exact e'.symm
    ·have:=tr (a1 y e') (b1 x e)
     rw [zR] at this;cases this
  subst exy
  rw [jF zR tr a2 b2 fun z=>?_]
  constructor
  ·intro hz
   rcases List.mem_cons.mp ((h z).mp (List.mem_cons_of_mem _ hz)) with e | e
   ·have:=a1 z hz;rw [e,zR] at this;cases this
   ·exact e
  ·intro hz
   rcases List.mem_cons.mp ((h z).mpr (List.mem_cons_of_mem _ hz)) with e | e
   ·have:=b1 z hz;rw [e,zR] at this;cases this
   ·exact e
end
structure Ky where
 p:Rat
 v:Int
 n:Str
 deriving DecidableEq
def Ky.lt (a b:Ky):Bool:=if a.p=b.p then (if a.v=b.v then decide (slt a.n b.n) else decide (a.v < b.v)) else decide (a.p < b.p)
theorem Ky.lt_iff (a b:Ky):a.lt b=true↔a.p < b.p∨(a.p=b.p∧(a.v < b.v∨(a.v=b.v∧slt a.n b.n))):=by
 unfold Ky.lt
 by_cases e:a.p=b.p
 ·rw [if_pos e]
  have n:¬ a.p < b.p:=by rw [e];exact Rat.lt_irrefl
  by_cases k:a.v=b.v
  ·rw [if_pos k,decide_eq_true_eq]
   have n2:¬ a.v < b.v:=by omega
   exact ⟨fun h=>.inr ⟨e,.inr ⟨k,h⟩⟩,fun h=>by
    rcases h with h | ⟨_,h | h⟩
    ·exact absurd h n
    ·exact absurd h n2
    ·exact h.2⟩
  ·rw [if_neg k,decide_eq_true_eq]
   exact ⟨fun h=>.inr ⟨e,.inl h⟩,fun h=>by
    rcases h with h | ⟨_,h | h⟩
    ·exact absurd h n
    ·exact h
    ·exact absurd h.1 k⟩
 ·rw [if_neg e,decide_eq_true_eq]
  exact ⟨.inl,fun h=>by
   rcases h with h | h
   ·exact h
   ·exact absurd h.1 e⟩
theorem Ky.zR (a:Ky):a.lt a=false:=by
 cases h:a.lt a with
 | false=>rfl
 | true =>
  rcases (Ky.lt_iff a a).mp h with h | ⟨_,h | ⟨_,h⟩⟩
  ·exact absurd h Rat.lt_irrefl
  ·omega
  ·exact absurd h (jC _)
theorem Ky.tr {a b c:Ky} (h:a.lt b=true) (k:b.lt c=true):a.lt c=true:=by
 rw [Ky.lt_iff] at *
 rcases h with h | ⟨e,h⟩ <;> rcases k with k | ⟨e',k⟩
 ·exact .inl (nO h k)
 ·exact .inl (e' ▸ h)
 ·exact .inl (e ▸ k)
 ·refine .inr ⟨e.trans e',?_⟩
  rcases h with h | ⟨z,h⟩ <;> rcases k with k | ⟨z',k⟩
  ·exact .inl (by omega)
  ·exact .inl (by omega)
  ·exact .inl (by omega)
  ·exact .inr ⟨z.trans z',ka h k⟩
theorem Ky.Gs {a b:Ky} (h:a.n≠b.n):a.lt b=true∨b.lt a=true:=by
 rw [Ky.lt_iff,Ky.lt_iff]
 by_cases e:a.p=b.p
 ·by_cases z:a.v=b.v
  ·rcases pH h with q | q
   ·exact .inl (.inr ⟨e,.inr ⟨z,q⟩⟩)
   ·exact .inr (.inr ⟨e.symm,.inr ⟨z.symm,q⟩⟩)
  ·rcases (by omega:a.v < b.v∨b.v < a.v) with q | q
   ·exact .inl (.inr ⟨e,.inl q⟩)
   ·exact .inr (.inr ⟨e.symm,.inl q⟩)
 ·rcases (by grind:a.p < b.p∨b.p < a.p) with q | q
  ·exact .inl (.inl q)
  ·exact .inr (.inl q)
theorem Ky.EE {a b:Ky} (h:a.lt b=true):b.lt a=false:=by
 cases k:b.lt a with
 | false=>rfl
 | true=>have:=Ky.tr h k;rw [Ky.zR] at this;cases this
def dy (ks:List Ky):List Ky:=ks.foldl (fun acc x=>lR Ky.lt x acc) []
theorem gW (ks:List Ky) (x:Ky):dy (ks ++ [x])=lR Ky.lt x (dy ks):=by unfold dy;rw [List.foldl_append];rfl
theorem snoc_ind {α:Type} {p:List α→Prop} (h0:p []) (h1:∀ l x,p l→p (l ++ [x])) (l:List α):p l:=by
 have:∀ l:List α,p l.reverse:=by
  intro l
  induction l with
  | nil=>exact h0
  | cons x l ih=>rw [List.reverse_cons];exact h1 _ _ ih
 have:=this l.reverse
 rwa [List.reverse_reverse] at this
theorem fJ {α:Type} {l:List α} {x:α} (h:(l ++ [x]).Nodup):l.Nodup∧x ∉ l:=by
 rw [List.nodup_append] at h
 exact ⟨h.1,fun hm=>h.2.2 x hm x (by simp) rfl⟩
theorem bq:∀ (ks:List Ky) (x:Ky),x∈dy ks↔x∈ks:=by
 intro ks
 refine snoc_ind (p:=fun ks=>∀ x:Ky,x∈dy ks↔x∈ks) (fun x=>by simp [dy]) (fun ks y ih x=>?_) ks
 rw [gW,qg,ih,List.mem_append,List.mem_singleton]
 exact Or.comm
theorem dW {ks:List Ky} (h:(ks.map Ky.n).Nodup):mL Ky.lt (dy ks):=by
 revert h
 refine snoc_ind (p:=fun ks=>(ks.map Ky.n).Nodup→mL Ky.lt (dy ks)) (fun _=>List.Pairwise.nil) (fun ks y ih h=>?_) ks
 ·rw [List.map_append,List.map_cons,List.map_nil] at h
  obtain ⟨h1,h2⟩:=fJ h
  rw [gW]
  refine xS (lt:=Ky.lt) Ky.tr (ih h1) fun x hx=>Ky.Gs fun e=>h2 ?_
  rw [← e]
  exact List.mem_map_of_mem ((bq ks x).mp hx)
theorem qK (ks:List Ky):(dy ks).length=ks.length:=by
 refine snoc_ind (p:=fun ks=>(dy ks).length=ks.length) rfl (fun ks y ih=>?_) ks
 rw [gW,xR,ih,List.length_append];rfl
theorem yF {ks js:List Ky} (h:(ks.map Ky.n).Nodup) (k:(js.map Ky.n).Nodup) (e:∀ x,x∈ks↔x∈js):dy ks=dy js :=
 jF (lt:=Ky.lt) Ky.zR Ky.tr (dW h) (dW k) fun x=>by rw [bq,bq];exact e x
def key (t:Rat) (x:Str × aP):Ky:=⟨x.2.at t,x.2.v,x.1⟩
def cZ (t:Rat) (fs:List (Str × aP)):List Str:=(dy (fs.map (key t))).map Ky.n
theorem c8 (t:Rat) (fs:List (Str × aP)):(fs.map (key t)).map Ky.n=fs.map (·.1):=by rw [List.map_map];rfl
theorem qN {t:Rat} {fs:List (Str × aP)} {n:Str}:n∈cZ t fs↔n∈fs.map (·.1):=by
 rw [← c8 t fs]
 unfold cZ
 rw [List.mem_map,List.mem_map]
 exact ⟨fun ⟨x,h,e⟩=>⟨x,(bq _ _).mp h,e⟩,fun ⟨x,h,e⟩=>⟨x,(bq _ _).mpr h,e⟩⟩
theorem qM (t:Rat) (fs:List (Str × aP)):(cZ t fs).length=fs.length:=by unfold cZ;rw [List.length_map,qK,List.length_map]
theorem nV {l:List Ky} (s:mL Ky.lt l) (h:∀ x∈l,∀ y∈l,x.n=y.n→x=y):(l.map Ky.n).Nodup:=by
 refine List.pairwise_map.mpr (s.imp_of_mem fun {a b} ha hb hab e=>?_)
 have:=h a ha b hb e
 subst this
 rw [Ky.zR] at hab;cases hab
theorem jg {ks:List Ky} (h:(ks.map Ky.n).Nodup):∀ x∈ks,∀ y∈ks,x.n=y.n→x=y:=by
 intro x hx y hy e
 obtain ⟨i,hi,rfl⟩:=List.getElem_of_mem hx
 obtain ⟨j,hj,rfl⟩:=List.getElem_of_mem hy
 have:=(List.getElem_inj (xs:=ks.map Ky.n) (i:=i) (j:=j) (h₀:=by simpa using hi) (h₁:=by simpa using hj) h).mp (by rw [List.getElem_map,List.getElem_map];exact e)
 subst this;rfl
theorem l3 {t:Rat} {fs:List (Str × aP)} (h:(fs.map (·.1)).Nodup):(cZ t fs).Nodup:=by
 rw [← c8 t fs] at h
 exact nV (dW h) fun x hx y hy e=>jg h x ((bq _ _).mp hx) y ((bq _ _).mp hy) e
theorem yG {t:Rat} {fs gs:List (Str × aP)} (h:(fs.map (·.1)).Nodup) (k:(gs.map (·.1)).Nodup) (e:∀ x,x∈fs.map (key t)↔x∈gs.map (key t)):cZ t fs=cZ t gs:=by
 unfold cZ
 rw [yF (by rw [c8];exact h) (by rw [c8];exact k) e]
theorem gJ {α β:Type} {fs:List (Str × α)} {f:α→β} (h:(fs.map (·.1)).Nodup) {n:Str} {l:α} (hm:(n,l)∈fs):L2.iR (fs.map fun x=>(x.1,f x.2)) n=some (f l):=by
 induction fs with
 | nil=>cases hm
 | cons x fs ih =>
  rw [List.map_cons,List.nodup_cons] at h
  rw [List.map_cons,L2.jI]
  rcases List.mem_cons.mp hm with e | e
  ·subst e;rw [if_pos rfl]
  ·have ne:x.1≠n:=fun z=>h.1 (by rw [z];exact List.mem_map_of_mem (f:=fun x:Str × α=>x.1) e)
   rw [if_neg ne];exact ih h.2 e
theorem pP {α β:Type} {fs:List (Str × α)} {f:α→β} (h:(fs.map (·.1)).Nodup) {n:Str} (hm:n∈fs.map (·.1)):∃ l,(n,l)∈fs∧L2.iR (fs.map fun x=>(x.1,f x.2)) n=some (f l):=by
 obtain ⟨⟨m,l⟩,hx,rfl⟩:=List.mem_map.mp hm
 exact ⟨l,hx,gJ h hx⟩
theorem BW {α β:Type} {fs:List (Str × α)} {f:α→β} {n:Str} (hm:n ∉ fs.map (·.1)):L2.iR (fs.map fun x=>(x.1,f x.2)) n=none:=by
 induction fs with
 | nil=>rfl
 | cons x fs ih =>
  rw [List.map_cons,L2.jI]
  rw [List.map_cons,List.mem_cons,not_or] at hm
  rw [if_neg (fun e=>hm.1 e.symm)];exact ih hm.2
theorem wZ {α β:Type} {fs:List (Str × α)} {f:α→β} {n:Str} (h:(fs.map (·.1)).Nodup):(L2.iR (fs.map fun x=>(x.1,f x.2)) n).isSome=decide (n∈fs.map (·.1)):=by
 by_cases hm:n∈fs.map (·.1)
 ·obtain ⟨l,_,e⟩:=pP (f:=f) h hm
  rw [e,decide_eq_true hm];rfl
 ·rw [BW hm,decide_eq_false hm];rfl
theorem sW {α β:Type} {fs:List (Str × α)} {f:α→β} {n:Str} {l:α} (hm:n ∉ fs.map (·.1)):L2.oY (fs.map fun x=>(x.1,f x.2)) n (f l)=(fs ++ [(n,l)]).map fun x=>(x.1,f x.2):=by
 unfold L2.oY
 rw [if_neg,List.map_append]
 ·rfl
 ·intro h
  rw [List.any_eq_true] at h
  obtain ⟨y,hy,e⟩:=h
  obtain ⟨x,hx,rfl⟩:=List.mem_map.mp hy
  exact hm (by rw [← of_decide_eq_true e];exact List.mem_map_of_mem (f:=fun x:Str × α=>x.1) hx)
def PP:Nat:=1000000 * fC + 1000 * MM
structure mH (l:aP):Prop where
 m0:0≤l.m
 m:Sc fC MM l.m
 p:∃ a:Int,l.p * (fC:Rat)=(a:Rat)
 b0:-(1000000 + 1000 * l.m)≤l.p
 b1:l.p≤1000000 + 1000 * l.m
 v:l.v.natAbs≤1000
theorem E8:(0:Rat) < (fC:Rat):=by
 have:((0:Nat):Rat) < ((fC:Nat):Rat):=Rat.natCast_lt_natCast.mpr ot
 simpa using this
theorem mH.sc {l:aP} (h:mH l):Sc fC PP l.p:=by
 obtain ⟨a,ha⟩:=h.p
 obtain ⟨k,hk,hk1⟩:=h.m
 have hL:=E8
 have b0:=h.b0
 have b1:=h.b1
 have e1:(a:Rat)≤(((1000000 * fC + 1000 * k:Int)):Rat):=by
  rw [← ha,Rat.intCast_add,Rat.intCast_mul,Rat.intCast_mul,← hk]
  have:l.p * (fC:Rat)≤(1000000 + 1000 * l.m) * (fC:Rat):=Rat.mul_le_mul_of_nonneg_right b1 (Rat.le_of_lt hL)
  have e:(((fC:Nat):Int):Rat)=(fC:Rat):=rfl
  rw [e]
  grind
 have e2:(((-(1000000 * fC + 1000 * k):Int)):Rat)≤(a:Rat):=by
  rw [← ha,Rat.intCast_neg,Rat.intCast_add,Rat.intCast_mul,Rat.intCast_mul,← hk]
  have:-(1000000 + 1000 * l.m) * (fC:Rat)≤l.p * (fC:Rat):=Rat.mul_le_mul_of_nonneg_right b0 (Rat.le_of_lt hL)
  have e:(((fC:Nat):Int):Rat)=(fC:Rat):=rfl
  rw [e]
  grind
 have e1:=Rat.intCast_le_intCast.mp e1
 have e2:=Rat.intCast_le_intCast.mp e2
 refine ⟨a,ha,?_⟩
 unfold PP
 have:(k:Int)≤MM:=by omega
 have:-(MM:Int)≤k:=by omega
 omega
theorem FD:PP < 2 ^ 120:=by decide
theorem mH.IU {l:aP} (h:mH l):Sz 120 l.p:=h.sc.sz ot (by decide) FD
theorem mH.IM {l:aP} (h:mH l):Sz 120 l.m:=(uo h.m).mono (by decide)
theorem mH.at {l:aP} {t:Rat} {v:Int} (h:mH l) (h0:l.m≤t) (ht:Sc fC MM t) (hv:v.natAbs≤1000):mH ⟨t,l.at t,v⟩:=by
 have hm:=h.m0
 have t0:0≤t:=Rat.le_trans hm h0
 have d0:0≤t - l.m:=by grind
 have v1:(l.v:Rat)≤1000:=by
  have:((l.v:Int):Rat)≤((1000:Int):Rat):=Rat.intCast_le_intCast.mpr (by have:=h.v;omega)
  exact this
 have v2:-1000≤(l.v:Rat):=by
  have:((-1000:Int):Rat)≤((l.v:Int):Rat):=Rat.intCast_le_intCast.mpr (by have:=h.v;omega)
  exact this
 have m1:(t - l.m) * (l.v:Rat)≤(t - l.m) * 1000:=Rat.mul_le_mul_of_nonneg_left v1 d0
 have m2:(t - l.m) * (-1000)≤(t - l.m) * (l.v:Rat):=Rat.mul_le_mul_of_nonneg_left v2 d0
 have b0:=h.b0
 have b1:=h.b1
 refine ⟨t0,ht,?_,?_,?_,hv⟩
 ·obtain ⟨a,ha⟩:=h.p
  obtain ⟨k,hk,_⟩:=h.m
  obtain ⟨j,hj,_⟩:=ht
  refine ⟨a + (j - k) * l.v,?_⟩
  unfold aP.at
  dsimp only
  rw [Rat.intCast_add,Rat.intCast_mul,Rat.intCast_sub,← ha,← hk,← hj]
  grind
 ·show -(1000000 + 1000 * t)≤l.p + (t - l.m) * (l.v:Rat)
  grind
 ·show l.p + (t - l.m) * (l.v:Rat)≤1000000 + 1000 * t
  grind
theorem mH.new {t:Rat} {p v:Int} (t0:0≤t) (ht:Sc fC MM t) (hp:p.natAbs≤1000000) (hv:v.natAbs≤1000):mH ⟨t,(p:Rat),v⟩:=by
 have p1:(p:Rat)≤1000000:=by
  have:((p:Int):Rat)≤((1000000:Int):Rat):=Rat.intCast_le_intCast.mpr (by omega)
  exact this
 have p2:-1000000≤(p:Rat):=by
  have:((-1000000:Int):Rat)≤((p:Int):Rat):=Rat.intCast_le_intCast.mpr (by omega)
  exact this
 refine ⟨t0,ht,⟨p * fC,by rw [Rat.intCast_mul];rfl⟩,?_,?_,hv⟩
 ·show -(1000000 + 1000 * t)≤(p:Rat)
  grind
 ·show (p:Rat)≤1000000 + 1000 * t
  grind
def vF (b:ay) (l:List ay):List ay:=if b∈l then l else gq b l
theorem nE {b x:ay} {l:List ay}:x∈gq b l↔x=b∨x∈l:=qg (lt:=ay.lt)
theorem xi {b x:ay} {l:List ay}:x∈vF b l↔x=b∨x∈l:=by
 unfold vF
 split
 ·rename_i h
  exact ⟨.inr,fun z=>by rcases z with rfl | z;exact h;exact z⟩
 ·exact nE
theorem xj {b:ay} {l:List ay} (s:f_ l):f_ (vF b l):=by
 unfold vF
 split
 ·exact s
 ·rename_i h
  exact qd s fun x hx e=>h (e ▸ hx)
def oP (bs:List ay):List ay:=bs.foldl (fun acc b=>vF b acc) []
theorem nJ (bs:List ay) (b:ay):oP (bs ++ [b])=vF b (oP bs):=by unfold oP;rw [List.foldl_append];rfl
theorem yD (bs:List ay) (x:ay):x∈oP bs↔x∈bs:=by
 refine snoc_ind (p:=fun bs=>∀ x:ay,x∈oP bs↔x∈bs) (fun x=>by simp [oP]) (fun bs y ih x=>?_) bs x
 rw [nJ,xi,ih,List.mem_append,List.mem_singleton]
 exact Or.comm
theorem yE (bs:List ay):f_ (oP bs):=by
 refine snoc_ind (p:=fun bs=>f_ (oP bs)) List.Pairwise.nil (fun bs y ih=>?_) bs
 rw [nJ];exact xj ih
theorem mx {l k:List ay} (h:f_ l) (h':f_ k) (e:∀ x,x∈l↔x∈k):l=k:=jF (lt:=ay.lt) ay.Dt ay.lt_trans h h' e
def dg (t:Rat) (a b:Ky):Rat:=t + (b.p - a.p) / ((a.v - b.v:Int):Rat)
def fY (t:Rat) (a b:Ky):ay:=⟨dg t a b,a.n,b.n⟩
def fw (t:Rat) (ks:List Ky) (m:Rat):List ay:=oP (((ks.flatMap fun a=>ks.map fun b=>(a,b)).filter fun p=>decide (p.2.v < p.1.v∧p.1.p < p.2.p∧dg t p.1 p.2≤m)).map fun p=>fY t p.1 p.2)
theorem gX {t m:Rat} {ks:List Ky} {x:ay}:x∈fw t ks m↔∃ a∈ks,∃ b∈ks,b.v < a.v∧a.p < b.p∧dg t a b≤m∧x=fY t a b:=by
 unfold fw
 rw [yD,List.mem_map]
 constructor
 ·rintro ⟨⟨a,b⟩,h,rfl⟩
  rw [List.mem_filter,List.mem_flatMap] at h
  obtain ⟨⟨c,hc,h1⟩,h2⟩:=h
  obtain ⟨d,hd,e⟩:=List.mem_map.mp h1
  cases e
  have h2:=of_decide_eq_true h2
  exact ⟨_,hc,_,hd,h2.1,h2.2.1,h2.2.2,rfl⟩
 ·rintro ⟨a,ha,b,hb,h1,h2,h3,rfl⟩
  exact ⟨(a,b),List.mem_filter.mpr ⟨List.mem_flatMap.mpr ⟨a,ha,List.mem_map.mpr ⟨b,hb,rfl⟩⟩,decide_eq_true ⟨h1,h2,h3⟩⟩,rfl⟩
theorem gY (t m:Rat) (ks:List Ky):f_ (fw t ks m):=yE _
theorem wA {t m:Rat} {ks js:List Ky} (e:∀ x,x∈ks↔x∈js):fw t ks m=fw t js m :=
 mx (gY _ _ _) (gY _ _ _) fun x=>by
  rw [gX,gX]
  constructor
  ·rintro ⟨a,ha,b,hb,r⟩;exact ⟨a,(e a).mp ha,b,(e b).mp hb,r⟩
  ·rintro ⟨a,ha,b,hb,r⟩;exact ⟨a,(e a).mpr ha,b,(e b).mpr hb,r⟩
def jf (l l':aP):Rat:=(l'.at 0 - l.at 0) / ((l.v - l'.v:Int):Rat)
theorem zA {a b:Int} (h:a≠b):((a - b:Int):Rat)≠0:=by
 intro e
 have:(a - b:Int)=0:=by exact_mod_cast (show ((a - b:Int):Rat)=((0:Int):Rat) from e)
 omega
theorem kU {t:Rat} {n n':Str} {l l':aP} (h:l.v≠l'.v):jf l l'=dg t (key t (n,l)) (key t (n',l')):=by
 have k:=zA h
 unfold jf dg key aP.at
 dsimp only
 rw [Rat.intCast_sub] at *
 grind
theorem y9 {a b:Rat} (ha:0 < a) (hb:0 < b):0 < a / b:=by
 have e:a / b * b=a:=by grind
 rcases Rat.le_total (a:=a / b) (b:=0) with h | h
 ·have:=Rat.mul_le_mul_of_nonneg_right h (Rat.le_of_lt hb)
  rw [e,Rat.zero_mul] at this
  exact absurd ha (Rat.not_lt.mpr this)
 ·rcases (by grind:a / b=0∨0 < a / b) with h | h
  ·rw [h,Rat.zero_mul] at e;rw [← e] at ha;exact absurd ha Rat.lt_irrefl
  ·exact h
def AD (t:Rat) (l l':aP):Option Rat:=if l.v≠l'.v∧t < jf l l' then some (jf l l') else none
theorem AE {t:Rat} {n n':Str} {l l':aP} (h:(key t (n,l)).lt (key t (n',l'))=true):(l.v≠l'.v∧t < jf l l')↔(l'.v < l.v∧l.at t < l'.at t):=by
 rw [Ky.lt_iff] at h
 unfold key at h
 dsimp only at h
 constructor
 ·rintro ⟨h1,h2⟩
  rw [kU (t:=t) (n:=n) (n':=n') h1] at h2
  unfold dg key at h2
  dsimp only at h2
  have k:=zA h1
  have h3:0 < (l'.at t - l.at t) / ((l.v - l'.v:Int):Rat):=by grind
  have hp:l.at t≠l'.at t:=by
   intro e
   rw [e] at h3
   have:(l'.at t - l'.at t) / ((l.v - l'.v:Int):Rat)=0:=by grind
   rw [this] at h3
   exact absurd h3 Rat.lt_irrefl
  have hlt:l.at t < l'.at t:=by
   rcases h with h | ⟨h,_⟩
   ·exact h
   ·exact absurd h hp
  refine ⟨?_,hlt⟩
  rcases (by omega:l'.v < l.v∨l.v < l'.v) with q | q
  ·exact q
  ·exfalso
   have hn:((l.v - l'.v:Int):Rat) < 0:=by
    have:((l.v - l'.v:Int):Rat) < ((0:Int):Rat):=Rat.intCast_lt_intCast.mpr (by omega)
    exact this
   have hd:0 < l'.at t - l.at t:=by grind
   have e:(l'.at t - l.at t) / ((l.v - l'.v:Int):Rat) * ((l.v - l'.v:Int):Rat)=l'.at t - l.at t:=by grind
   generalize (l'.at t - l.at t) / ((l.v - l'.v:Int):Rat)=z at h3 e
   have:z * ((l.v - l'.v:Int):Rat) < 0:=by
    have:=Rat.mul_lt_mul_of_pos_left hn h3
    rwa [Rat.mul_zero] at this
   grind
 ·rintro ⟨h1,h2⟩
  have hne:l.v≠l'.v:=by omega
  refine ⟨hne,?_⟩
  rw [kU (t:=t) (n:=n) (n':=n') hne]
  unfold dg key
  dsimp only
  have hpos:0 < ((l.v - l'.v:Int):Rat):=by
   have:((0:Int):Rat) < ((l.v - l'.v:Int):Rat):=Rat.intCast_lt_intCast.mpr (by omega)
   exact this
  have hd:0 < l'.at t - l.at t:=by grind
  have:0 < (l'.at t - l.at t) / ((l.v - l'.v:Int):Rat):=y9 hd hpos
  grind
end Ov
namespace Ov
def ie (t:Rat) (c:Ky × Ky→Bool) (rows:List ay) (p:Ky × Ky):List ay:=if c p=true then gq (fY t p.1 p.2) (cf p.1.n p.2.n rows) else rows
def bp (t:Rat) (c:Ky × Ky→Bool) (ps:List (Ky × Ky)):List ay:=ps.foldl (ie t c) []
theorem dC (t:Rat) (c:Ky × Ky→Bool) (ps:List (Ky × Ky)) (p:Ky × Ky):bp t c (ps ++ [p])=ie t c (bp t c ps) p:=by unfold bp;rw [List.foldl_append];rfl
theorem gT (t:Rat) (c:Ky × Ky→Bool) (ps:List (Ky × Ky)):f_ (bp t c ps):=by
 refine snoc_ind (p:=fun ps=>f_ (bp t c ps)) List.Pairwise.nil (fun l x ih=>?_) ps
 rw [dC]
 unfold ie
 split
 ·exact qd (nt ih) Ah
 ·exact ih
theorem vL (t:Rat) (c:Ky × Ky→Bool) (ps:List (Ky × Ky)):(bp t c ps).length≤ps.length:=by
 refine snoc_ind (p:=fun ps=>(bp t c ps).length≤ps.length) (Nat.le_refl _) (fun l x ih=>?_) ps
 rw [dC,List.length_append]
 unfold ie
 split
 ·rw [lQ]
  have:=jM x.1.n x.2.n (bp t c l)
  simp only [List.length_cons,List.length_nil];omega
 ·omega
theorem gU {t:Rat} {c:Ky × Ky→Bool} {x:ay} (ps:List (Ky × Ky)):x∈bp t c ps→∃ p∈ps,c p=true∧x=fY t p.1 p.2:=by
 refine snoc_ind (p:=fun ps=>x∈bp t c ps→∃ p∈ps,c p=true∧x=fY t p.1 p.2) (fun h=>by cases h) (fun l y ih h=>?_) ps
 rw [dC] at h
 unfold ie at h
 split at h
 ·rename_i hc
  rcases xQ h with e | h
  ·exact ⟨y,by simp,hc,e⟩
  ·obtain ⟨p,hp,k⟩:=ih (List.mem_filter.mp h).1
   exact ⟨p,List.mem_append.mpr (.inl hp),k⟩
 ·obtain ⟨p,hp,k⟩:=ih h
  exact ⟨p,List.mem_append.mpr (.inl hp),k⟩
def pS (ps:List (Ky × Ky)):Prop:=∀ p∈ps,∀ q∈ps,p.1.n=q.1.n→p.2.n=q.2.n→p=q
theorem nA {t:Rat} {c:Ky × Ky→Bool} {x:ay} (ps:List (Ky × Ky)):pS ps→(x∈bp t c ps↔∃ p∈ps,c p=true∧x=fY t p.1 p.2):=by
 refine snoc_ind (p:=fun ps=>pS ps→(x∈bp t c ps↔∃ p∈ps,c p=true∧x=fY t p.1 p.2)) (fun _=>Iff.intro (fun h=>nomatch h) (fun h=>by obtain ⟨_,h,_⟩:=h;cases h)) (fun l y ih inj=>?_) ps
 have ih:=ih fun p hp q hq=>inj p (List.mem_append.mpr (.inl hp)) q (List.mem_append.mpr (.inl hq))
 refine ⟨gU _,?_⟩
 rintro ⟨p,hp,hc,rfl⟩
 rw [dC]
 unfold ie
 have hold:p∈l→fY t p.1 p.2∈bp t c l:=fun h=>ih.mpr ⟨p,h,hc,rfl⟩
 split
 ·rename_i hy
  rw [nE]
  by_cases e:p=y
  ·left;rw [e]
  ·right
   have hl:p∈l:=by
    rcases List.mem_append.mp hp with h | h
    ·exact h
    ·exact absurd (by simpa using h) e
   refine List.mem_filter.mpr ⟨hold hl,?_⟩
   unfold nQ
   have:¬ ((fY t p.1 p.2).h=y.1.n∧(fY t p.1 p.2).f=y.2.n):=fun z=>e (inj p hp y (by simp) z.1 z.2)
   rw [decide_eq_false this];rfl
 ·rename_i hy
  rcases List.mem_append.mp hp with h | h
  ·exact hold h
  ·have:p=y:=by simpa using h
   subst this;exact absurd hc hy
theorem vM {t:Rat} {c:Ky × Ky→Bool} {ps:List (Ky × Ky)} {p:Ky × Ky} (inj:pS (ps ++ [p])) (h:p ∉ ps):cf p.1.n p.2.n (bp t c ps)=bp t c ps:=by
 unfold cf
 refine List.filter_eq_self.mpr fun x hx=>?_
 obtain ⟨q,hq,_,rfl⟩:=gU _ hx
 unfold nQ
 have:¬ ((fY t q.1 q.2).h=p.1.n∧(fY t q.1 q.2).f=p.2.n):=fun z=>by
  have:=inj q (List.mem_append.mpr (.inl hq)) p (by simp) z.1 z.2
  subst this;exact h hq
 rw [decide_eq_false this];rfl
theorem pS.of {ks:List Ky} (h:(ks.map Ky.n).Nodup) {ps:List (Ky × Ky)} (hp:∀ p∈ps,p.1∈ks∧p.2∈ks):pS ps:=fun p h1 q h2 e1 e2=>by
 have a:=jg h p.1 (hp p h1).1 q.1 (hp q h2).1 e1
 have b:=jg h p.2 (hp p h1).2 q.2 (hp q h2).2 e2
 cases p;cases q;simp only at a b;rw [a,b]
def rM (ks:List Ky):Nat→List (Ky × Ky)
 | 0=>[]
 | i + 1=>rM ks i ++ (match ks[i]? with | some a=>(ks.drop (i + 1)).map fun b=>(a,b) | none=>[])
theorem jH {ks:List Ky} {p:Ky × Ky}:∀ {i:Nat},p∈rM ks i↔∃ i' j,i' < i∧i' < j∧ks[i']?=some p.1∧ks[j]?=some p.2
 | 0=>⟨fun h=>(by cases h),fun ⟨_,_,h,_⟩=>by omega⟩
 | i + 1=>by
  unfold rM
  rw [List.mem_append,jH (i:=i)]
  constructor
  ·rintro (⟨i',j,h1,h⟩ | h)
   ·exact ⟨i',j,by omega,h⟩
   ·cases e:ks[i]? with
    | none=>rw [e] at h;cases h
    | some a =>
     rw [e] at h
     obtain ⟨b,hb,rfl⟩:=List.mem_map.mp h
     obtain ⟨j,hj⟩:=List.mem_iff_getElem?.mp hb
     rw [List.getElem?_drop] at hj
     exact ⟨i,_,by omega,by omega,e,hj⟩
  ·rintro ⟨i',j,h1,h2,h3,h4⟩
   by_cases e:i' < i
   ·exact .inl ⟨i',j,e,h2,h3,h4⟩
   ·have:i'=i:=by omega
    subst this
    right
    rw [h3]
    refine List.mem_map.mpr ⟨p.2,List.mem_iff_getElem?.mpr ⟨j - (i' + 1),?_⟩,rfl⟩
    rw [List.getElem?_drop,show i' + 1 + (j - (i' + 1))=j by omega];exact h4
def bh (t m:Rat) (p:Ky × Ky):Bool:=decide (p.2.v < p.1.v∧p.1.p < p.2.p∧dg t p.1 p.2≤m)
theorem BV {t m:Rat} {ks:List Ky} (h:(ks.map Ky.n).Nodup):bp t (bh t m) (rM (dy ks) (dy ks).length)=fw t ks m:=by
 have hs:=dW h
 have hn:((dy ks).map Ky.n).Nodup:=nV hs (fun x hx y hy e=>jg h x ((bq _ _).mp hx) y ((bq _ _).mp hy) e)
 refine mx (gT _ _ _) (gY _ _ _) fun x=>?_
 rw [nA _ (pS.of hn fun p hp=>by
  obtain ⟨i,j,_,_,h3,h4⟩:=jH.mp hp
  exact ⟨List.mem_of_getElem? h3,List.mem_of_getElem? h4⟩),gX]
 constructor
 ·rintro ⟨p,hp,hc,rfl⟩
  obtain ⟨i,j,_,_,h3,h4⟩:=jH.mp hp
  have hc:=of_decide_eq_true hc
  exact ⟨p.1,(bq _ _).mp (List.mem_of_getElem? h3),p.2,(bq _ _).mp (List.mem_of_getElem? h4),hc.1,hc.2.1,hc.2.2,rfl⟩
 ·rintro ⟨a,ha,b,hb,h1,h2,h3,rfl⟩
  obtain ⟨i,hi⟩:=List.mem_iff_getElem?.mp ((bq _ _).mpr ha)
  obtain ⟨j,hj⟩:=List.mem_iff_getElem?.mp ((bq _ _).mpr hb)
  have hab:a.lt b=true:=(Ky.lt_iff a b).mpr (.inl h2)
  have hij:i < j:=by
   obtain ⟨hil,ei⟩:=List.getElem?_eq_some_iff.mp hi
   obtain ⟨hjl,ej⟩:=List.getElem?_eq_some_iff.mp hj
   rcases Nat.lt_trichotomy i j with z | z | z
   ·exact z
   ·subst z;rw [ei] at ej;subst ej;rw [Ky.zR] at hab;cases hab
   ·have:=List.pairwise_iff_getElem.mp hs j i hjl hil z
    rw [ei,ej] at this
    rw [Ky.EE this] at hab;cases hab
  exact ⟨(a,b),jH.mpr ⟨i,j,(List.getElem?_eq_some_iff.mp hi).1,hij,hi,hj⟩,decide_eq_true ⟨h1,h2,h3⟩,rfl⟩
theorem pX {t m:Rat} {ks:List Ky} (h:(ks.map Ky.n).Nodup):bp t (bh t m) (ks.flatMap fun a=>ks.map fun b=>(a,b))=fw t ks m:=by
 have hm:∀ p:Ky × Ky,p∈(ks.flatMap fun a=>ks.map fun b=>(a,b))↔p.1∈ks∧p.2∈ks:=fun p=>by
  rw [List.mem_flatMap]
  constructor
  ·rintro ⟨a,ha,hb⟩
   obtain ⟨b,hb',rfl⟩:=List.mem_map.mp hb
   exact ⟨ha,hb'⟩
  ·rintro ⟨ha,hb⟩
   exact ⟨p.1,ha,List.mem_map.mpr ⟨p.2,hb,rfl⟩⟩
 refine mx (gT _ _ _) (gY _ _ _) fun x=>?_
 rw [nA _ (pS.of h fun p hp=>(hm p).mp hp),gX]
 constructor
 ·rintro ⟨p,hp,hc,rfl⟩
  have hc:=of_decide_eq_true hc
  exact ⟨p.1,((hm p).mp hp).1,p.2,((hm p).mp hp).2,hc.1,hc.2.1,hc.2.2,rfl⟩
 ·rintro ⟨a,ha,b,hb,h1,h2,h3,rfl⟩
  exact ⟨(a,b),(hm _).mpr ⟨ha,hb⟩,decide_eq_true ⟨h1,h2,h3⟩,rfl⟩
end Ov
set_option maxHeartbeats 4000000
namespace Ov
open PySem PySem.Spec PyProof.Rows L2
def top (i:Nat):Stmt:=PySem.Challenge.pw_overhaul_k34_whole_passings_told.main.body.getD i (.Pass ⟨0,0,0,0⟩)
set_option compiler.extract_closed false
set_option hygiene false
local macro_rules | `(tactic| dsimp! only [$ls,*])=>`(tactic| simp only [BP,vj,tI,lO,BO,vo,BK,vp,zI,GX,wQ,tC,rI,zS,rU,IX,I9,BE,BD,BF,Int.reduceLT,BN,rG,tK,CA,mz,BQ,zF,BL,vm,vh,BM,zD,Gq,tB,GV,vi,GU,uG,Al,t8,Aj,uc,ud,B2,FY,F0,Cr,F1,Jt,cO,d5,ij,xp,HO.lst.injEq,HO.tup.injEq,List.set_cons_zero,List.set_cons_succ,List.getElem?_cons_zero,List.getElem?_cons_succ,Option.some.injEq,exists_eq_left',exists_eq_left,exists_and_left,exists_eq,exists_eq',V.int.injEq,V.bl.injEq,V.ref.injEq,V.str.injEq,V.ty.injEq,decide_eq_true_eq,true_and,and_true,List.cons.injEq,List.append_nil,List.cons_append,List.nil_append,reduceCtorEq,Bool.not_eq_true',decide_eq_false_iff_not,and_assoc,ite_not,if_true,if_false,Bool.false_eq_true,decide_true,decide_false,L2.start,List.map_cons,List.map_nil,List.length_cons,List.length_nil,Nat.reduceAdd,Nat.reduceSub,List.replicate,n_,Cx.yp,Cx.km,false_and,and_false,exists_false,false_or,or_false,id,cn,Option.getD_some,FZ,GW,vn,lB,F7,Ea,Ak,Cw,$ls,*])
local macro_rules | `(tactic| simp_arith [$t:term])=>`(tactic| refine IS F $t (fun xs J Q E h=>?_) (fun cdv A outer s H E G xs J Q E2 hr h B=>?_))
local macro_rules | `(tactic| simp_arith! only [$ls,*])=>`(tactic| simp only [Bk,Ic,He,FP,FT,eL,rC,j2,Ja,rB,F8,DQ,H_,Bo,Cp,F3,Ct,IZ,l9,eZ,F9,F2,IY,uH,Cu,I_,GS,HW,FU,nL,FV,y3,Bn,gC,y2,Bp,Cv,jm,C5,IG,IF,IH,qT,F4,Cq,j1,Cy,IK,Jl,IL,Jk,HX,HY,Bj,qI,qU,FN,IW,yX,uE,FR,FQ,HV,FF,FK,FI,DM,yW,HU,o5,FO,DL,uD,FG,Hs,Hr,E7,HC,HD,Fb,E_,B7,Iu,Gz,Ir,Iv,Iw,Iq,GC,Gw,CB,Gv,Gy,Gu,Gx,Hn,Ho,EZ,Hh,Hj,Hl,Hm,Hi,Hk,Il,Io,Im,wJ,CS,CU,EO,CT,ER,Bf,uB,DK,Bg,sX,eq_int,eq_str,ET,tX,C9,C_,GB,Dj,oi,C3,tH,List.map_cons,List.map_nil,List.length_cons,List.length_nil,Nat.reduceAdd,Nat.reduceSub,Nat.reduceLeDiff,List.replicate,List.cons_append,List.nil_append,List.append_nil,List.getElem?_cons_zero,List.getElem?_cons_succ,List.set_cons_zero,List.set_cons_succ,Option.some.injEq,exists_eq_left',exists_eq_left,exists_and_left,exists_eq,exists_eq',PV.int.injEq,PV.bl.injEq,PV.ref.injEq,PV.str.injEq,PV.ty.injEq,PV.tup.injEq,PV.fl.injEq,HQ.lst.injEq,HQ.ins.injEq,HQ.dct.injEq,decide_eq_true_eq,true_and,and_true,List.cons.injEq,reduceCtorEq,Bool.not_eq_true',decide_eq_false_iff_not,and_assoc,ite_not,if_true,if_false,Bool.false_eq_true,decide_true,decide_false,false_and,and_false,exists_false,false_or,or_false,id,cO,d5,ij,xp,EF,EG,EH,EI,EJ,EK,CL,CN,Jv,Bool.not_true,Bool.not_false,Option.map_some,av,Bool.and_true,Bool.true_and,Bool.and_false,Bool.false_and,B9,Fc,Fd,Fe,Ff,Fh,Fi,Fj,Fl,Fm,Dk,Dl,Dm,GA,ty_int,ty_bool,ty_str,Ee,ty_list,String.reduceEq,List.isEmpty_cons,List.isEmpty_nil,kM,Option.getD_some,List.not_mem_nil,exists_const,FJ,DN,FL,yY,Cn,Co,Cs,II,DO,uF,o6,IJ,$ls,*])
local macro_rules | `(tactic| simp_all! only [$ls,*])=>`(tactic| repeat (first | refine D3 ?_ | simp_arith! only [$ls,*]))
section
variable {P:Program} {w:World} {K:PySem.W.Frag} {mg:Str→Option Value} {base:Heap}
abbrev jy:Stmt:=(top 12)
theorem j9:L2.aw ["one","two"] ["one","two"] (L2.aj jy):=dT
def mq:Sp:=fun vs H Q _=>∃ a b:Int,vs=[.int a,.int b]∧Q (.int (Int.gcd a b:Nat)) H
theorem wo {f:Addr} {fd:FuncData} (F:bV K "shared" "shared" jy f fd) (Z:w8 mg):aI P w K mg base lD 1 f fd ["one","two"] mq:=by
 refine F.ok j9 (fun vs H Q E h=>?_) (fun cdv A outer s H vs Q E hr h=>?_)
 ·obtain ⟨a,b,rfl,_⟩:=h
  rfl
 obtain ⟨a,b,rfl,q⟩:=h
 refine ⟨_,(QB.run (aO (jY (i:=0) (j:=1) rfl j9.nd rfl rfl (by decide) rfl rfl (aL (cQ iX rfl Z.abs boot_abs (aL (pv 0) a9)) (aL (cQ iX rfl Z.abs boot_abs (aL (pv 1) a9)) a9)) rfl)
   (aO (gA PassesOwn.never (cA Ci (pv 1) aF (ax _)) (a_ (jY (i:=0) (j:=1) rfl j9.nd rfl rfl (by decide) rfl rfl (aL (pv 1) (aL (aW eJ (pv 0) (pv 1)) a9)) rfl)))
   (a_ (cJ (pv 0)))))),?_⟩
 refine ⟨_,rfl,a,rfl,_,rfl,b,rfl,_,_,rfl,?_⟩
 refine rJ (fun σ H'=>∃ x y:Int,σ=[some (.int x),some (.int y)]∧H=H'∧0≤x∧0≤y∧Int.gcd x y=Int.gcd a b) (fun σ _=>match σ with | [_,some (.int y)]=>y.toNat | _=>0)
  ⟨_,_,rfl,rfl,by split <;> omega,by split <;> omega,Am a b⟩ ?_ (fun σ H Q Q' m h=>?_)
 ·rintro σ H' ⟨x,y,rfl,rfl,hx,hy,hg⟩
  dsimp! only [rJoin]
  split
  ·rename_i hy0
   subst hy0
   rw [← hg,t9 hx] at q
   exact q
  ·rename_i hy0
   have h1:=Int.emod_lt_of_pos x (show 0 < y by omega)
   have h2:=Int.emod_nonneg x hy0
   exact ⟨by omega,hy,h2,(p_ hy0).trans hg,by omega⟩
 ·obtain ⟨v,e,hs,k,ek,hq⟩:=h
  exact ⟨v,e,hs,k,ek,m _ _ hq⟩
def Dig:List Int→List Int→Prop
 | [],[]=>True
 | d :: ds,s :: ss=>(0≤d∧d < s)∧Dig ds ss
 | _,_=>False
theorem Dig.snoc:∀ {ds ss:List Int} {d s:Int},Dig ds ss→0≤d→d < s→Dig (ds ++ [d]) (ss ++ [s])
 | [],[],_,_,_,h0,h1=>⟨⟨h0,h1⟩,trivial⟩
 | _ :: _,_ :: _,_,_,h,h0,h1=>⟨h.1,Dig.snoc h.2 h0 h1⟩
 | [],_ :: _,_,_,h,_,_=>h.elim
 | _ :: _,[],_,_,h,_,_=>h.elim
theorem Dig.cons:∀ {ds ss:List Int} {s:Int},Dig ds (s :: ss)→∃ d r,ds=d :: r∧0≤d∧d < s∧Dig r ss
 | [],_,_,h=>h.elim
 | d :: r,_,_,h=>⟨d,r,rfl,h.1.1,h.1.2,h.2⟩
theorem Dig.nil:∀ {ds:List Int},Dig ds []→ds=[]
 | [],_=>rfl
 | _ :: _,h=>h.elim
theorem Dig.len:∀ {ds ss:List Int},Dig ds ss→ds.length=ss.length
 | [],[],_=>rfl
 | _ :: _,_ :: _,h=>congrArg Nat.succ (Dig.len h.2)
 | [],_ :: _,h=>h.elim
 | _ :: _,[],h=>h.elim
theorem take_snoc {xs:List Int} {i:Nat} {x:Int} (h:xs[i]?=some x):xs.take (i + 1)=xs.take i ++ [x]:=by
 rw [List.take_add_one,h]
 rfl
theorem lS {ns:List Int} {i:Nat} {y:V} (h:(ns.map V.int)[i]?=some y):∃ z,y=V.int z∧ns[i]?=some z:=by
 rw [List.getElem?_map] at h
 cases e:ns[i]? with
 | none=>rw [e] at h;cases h
 | some z=>rw [e] at h;exact ⟨z,(Option.some.inj h).symm,rfl⟩
abbrev pe:Stmt:=(top 44)
theorem By:L2.aw ["_law_script","_law_k"] ["_law_script","_law_k"] (L2.aj pe):=dT
abbrev jw:Stmt:=(top 45)
theorem cF:L2.aw ["_law_cell_here","_law_sizes","_law_out","_law_rest","_law_size","_law_one","_law_k","_law_two"] ["_law_cell_here","_law_sizes"] (L2.aj jw):=dT
def ml (K:PySem.W.Frag):Sp:=fun vs H Q _=>∃ (c:Int) (a:Addr) (ss:List Int),vs=[.int c,.ref a]∧cM K H a (ss.map V.int)∧(∀ s∈ss,0 < s∧Bd 9000 s)∧ss.length≤1000 ∧
 ∀ (r:Addr) (H':Hp) (ds:List Int),H r=none→aY H H'→H' r=some (.lst (ds.map V.int))→Dig ds ss→Q (.ref r) H'
theorem wm {f:Addr} {fd:FuncData} (F:bV K "_law_digits" "_law_digits" jw f fd) (Z:w8 mg):aI P w K mg base lD 1 f fd ["_law_cell_here","_law_sizes"] (ml K):=by
 refine F.ok cF (fun vs H Q E h=>?_) (fun cdv A outer s H vs Q E hr h=>?_)
 ·obtain ⟨c,a,ss,rfl,_⟩:=h
  rfl
 obtain ⟨c,a,ss,rfl,hS,hs,hl,q⟩:=h
 refine ⟨_,(QB.run (aO (bY (i:=2) cF.nd rfl (Or.inl rfl) (gx a9))
   (aO (jl (cA Cd (pv 0) (aW yA aF aF) (ax _)) (aO (bY (i:=3) cF.nd rfl (Or.inl rfl) (aW sJ (pv 0) (aW yA aF aF)))
   (aO (jX PassesOwn.never rfl (jk (pv 1)) (gZ (i:=4) cF.nd rfl (Or.inl rfl)) (aO (g7 (l5 PySem.F.plainAttrs_list PySem.F.slot_list_append PySem.F.type_list_append er (pv 2) (aL (aW eJ (pv 3) (pv 4)) a9)))
   (a_ (bY (i:=3) cF.nd rfl (Or.inl rfl) (aW eI (pv 3) (pv 4))))))
   (a_ (cJ (pv 2))))) d6)
   (aO (bY (i:=5) cF.nd rfl (Or.inl rfl) (aW eJ (pv 0) aF))
   (aO (jX PassesOwn.never rfl (eu rfl Z.range (aL (cQ fF rfl Z.len boot_len (aL (pv 1) a9)) a9)) (gZ (i:=6) cF.nd rfl (Or.inl rfl)) (aO (bY (i:=5) cF.nd rfl (Or.inl rfl) (aW eJ (aW fK (aW bT (pv 5) aF) (aW bT aF (aW fK (pv 6) aF))) aF))
   (aO (bY (i:=7) cF.nd rfl (Or.inl rfl) (aW eJ (aW fK (aW fK (aW bT (pv 5) (pv 5)) (aW bT aF (pv 5))) (pv 6)) aF))
   (a_ (g7 (l5 PySem.F.plainAttrs_list PySem.F.slot_list_append PySem.F.type_list_append er (pv 2) (aL (aW eJ (aW eI (pv 7) aF) (bH oj (pv 1) (pv 6) (fun _ _=>rfl))) a9)))))))
   (a_ (cJ (pv 2)))))))),?_⟩
 refine ⟨Nat.zero_le _,fun r hr'=>?_⟩
 have g0:=aY.new hr' (.lst [])
 refine ⟨_,rfl,_,_,rfl,rfl,⟨by decide,by decide,by decide⟩,_,_,rfl,rfl,_,rfl,?_⟩
 refine xZ (fun _=>?_) (fun _=>?_)
 ·refine ⟨_,rfl,_,_,rfl,rfl,⟨by decide,by decide,by decide⟩,_,_,rfl,rfl,?_⟩
  refine ⟨_,rfl,a,rfl,⟨_,g0.seq hS⟩,xG (K:=K) (a:=a) (xs:=ss.map V.int) (fun i σ H2=>∃ (ds:List Int) (rest:Int) (u:Option V),σ=[some (.int c),some (.ref a),some (.ref r),some (.int rest),u,none,none,none] ∧
   aY H H2∧H2 r=some (.lst (ds.map V.int))∧Dig ds (ss.take i)) ⟨[],_,none,rfl,g0,az,trivial⟩ (fun i σ H2 _ ⟨_,_,_,_,s2,_⟩=>s2.seq hS) ?_ ?_⟩
  ·rintro i y σ H2 hi ⟨ds,rest,u,rfl,s2,hd,hD⟩
   obtain ⟨z,rfl,hz⟩:=lS hi
   obtain ⟨z0,zb⟩:=hs z (List.mem_of_getElem? hz)
   have hil:i < ss.length:=(List.getElem?_eq_some_iff.mp hz).1
   have dl:=hD.len
   rw [List.length_take] at dl
   refine ⟨_,rfl,.inl ⟨rfl,_,cM.of hd⟩,_,rfl,_,rfl,_,_,rfl,rfl,z0,r,_,_,rfl,rfl,hd,?_,?_⟩
   ·rw [List.length_map]
    exact aX (by omega)
   refine ⟨_,rfl,_,rfl,_,_,rfl,rfl,⟨by omega,zb⟩,?_⟩
   refine ⟨ds ++ [rest % z],_,_,rfl,s2.Es hr' _,?_,?_⟩
   ·rw [az,List.map_append]
    rfl
   ·rw [take_snoc hz]
    exact hD.snoc (Int.emod_nonneg _ (by omega)) (Int.emod_lt_of_pos _ z0)
  ·rintro σ H2 ⟨ds,rest,u,rfl,s2,hd,hD⟩
   rw [List.length_map,List.take_length] at hD
   exact ⟨_,rfl,q r H2 ds hr' s2 hd hD⟩
 ·refine ⟨_,rfl,_,_,rfl,rfl,(show (0:Int) < 2147483647 by decide),?_⟩
  refine ⟨_,rfl,a,_,rfl,.inl (g0.seq hS),_,rfl,?_,?_,nB (lo:=0) (n:=(ss.map V.int).length) (fun i σ H2=>∃ (ds:List Int) (one:Int) (u v:Option V),σ=[some (.int c),some (.ref a),some (.ref r),none,none,some (.int one),u,v] ∧
   0≤one∧one < 2147483647∧aY H H2∧H2 r=some (.lst (ds.map V.int))∧Dig ds (ss.take i)) ⟨[],_,none,none,rfl,Int.emod_nonneg _ (by decide),Int.emod_lt_of_pos _ (by decide),g0,az,trivial⟩ ?_ ?_⟩
  ·omega
  ·rw [List.length_map];omega
  ·rintro i σ H2 hi ⟨ds,one,u,v,rfl,o0,o1,s2,hd,hD⟩
   rw [List.length_map] at hi
   have hz:ss[i]?=some ss[i]:=List.getElem?_eq_getElem hi
   obtain ⟨z0,zb⟩:=hs ss[i] (List.getElem_mem hi)
   have dl:=hD.len
   rw [List.length_take] at dl
   have e1:cI (ss.map V.int) (0 + (i:Int))=some (.int ss[i]):=by
    rw [Int.zero_add]
    exact a8 (by rw [List.getElem?_map,hz];rfl)
   dsimp! only [rJoin]
   have A0:0≤(one * 48271 + 10007 * (0 + (i:Int) + 1)) % 2147483629:=Int.emod_nonneg _ (by decide)
   have A1:(one * 48271 + 10007 * (0 + (i:Int) + 1)) % 2147483629 < 2147483629:=Int.emod_lt_of_pos _ (by decide)
   generalize (one * 48271 + 10007 * (0 + (i:Int) + 1)) % 2147483629=A at A0 A1 ⊢
   generalize ((A * A + 69621 * A + (0 + (i:Int))) % 2147483563).fdiv 11=B
   have small:∀ x:Int,0≤x→x < 2147483648→Bd 64 x:=fun x h1 h2=>Bd.small (by omega) (by omega)
   refine ⟨.of (small _ o0 (by omega)) (small _ (by decide) (by decide)),.of (small _ (by decide) (by decide)) (small _ (by omega) (by omega)),.of (small _ A0 (by omega)) (small _ A0 (by omega)),
    .of (small _ (by decide) (by decide)) (small _ A0 (by omega)),.inl ⟨rfl,_,cM.of hd⟩,⟨by decide,(small _ (by decide) (by decide)).mono (by decide)⟩,_,s2.seq hS,_,e1,_,rfl,z0,_,hd,?_,A0,by omega,s2.Es hr' _,ds ++ [B % ss[i]],?_,?_⟩
   ·rw [List.length_map]
    exact aX (by omega)
   ·rw [az,List.map_append]
    rfl
   ·rw [take_snoc hz]
    exact hD.snoc (Int.emod_nonneg _ (by omega)) (Int.emod_lt_of_pos _ z0)
  ·rintro σ H2 ⟨ds,one,u,v,rfl,o0,o1,s2,hd,hD⟩
   rw [List.length_map,List.take_length] at hD
   exact ⟨_,rfl,q r H2 ds hr' s2 hd hD⟩
def EA (H:Hp) (q:Rat) (Q:VK):Prop:=∀ (r:Addr) (H':Hp),aY H H'→H' r=some (.tup [.int q.num,.int q.den])→Q (.ref r) H'
abbrev fQ:Stmt:=(top 13)
theorem gG:L2.aw ["top","bottom","divisor"] ["top","bottom"] (L2.aj fQ):=dT
def eS:Sp:=fun vs H Q _=>∃ t b:Int,vs=[.int t,.int b]∧b≠0∧Bd 9000 b∧EA H (Rat.divInt t b) Q
theorem xJ {n:Nat} {t b:Int} (h:b≠0) (hb:Bd n b):Bd n ((Int.gcd t b:Nat):Int):=hb.le (by have:=C6 (t:=t) h;omega)
theorem qC {f:Addr} {fd:FuncData} (F:bV K "fraction" "fraction" fQ f fd) (Z:w8 mg) (C_shared:mE P w K mg base 1 "shared" ["one","two"] mq):aI P w K mg base lD 2 f fd ["top","bottom"] eS:=by
 refine F.ok gG (fun vs H Q E h=>?_) (fun cdv A outer s H vs Q E hr h=>?_)
 ·obtain ⟨t,b,rfl,_⟩:=h
  rfl
 obtain ⟨t,b,rfl,hb,bb,q⟩:=h
 have hg:=t_ (t:=t) hb
 have gb:=xJ (t:=t) hb bb
 refine ⟨_,(QB.run (aO (jl (cA yz (pv 1) aF (ax _)) jZ d6)
   (aO (bY (i:=2) gG.nd rfl (Or.inl rfl) (qP C_shared hr (by decide) rfl (aL (pv 0) (aL (pv 1) a9))))
   (qR (jl (cA uu (pv 1) aF (ax _)) (a_ (bY (i:=2) gG.nd rfl (Or.inl rfl) (ux zM (pv 2)))) d6)
   (a_ (cJ (l7 (aL (aW eI (pv 0) (pv 2)) (aL (aW eI (pv 1) (pv 2)) a9))))))))),?_⟩
 refine ⟨_,rfl,rfl,_,rfl,?_⟩
 refine xZ (fun c=>absurd (V.int.inj (of_decide_eq_true c)) hb) (fun _=>?_)
 refine ⟨_,rfl,_,rfl,t,b,rfl,?_⟩
 refine ⟨fun σ' H'=>∃ d:Int,σ'=[some (.int t),some (.int b),some (.int d)]∧H=H'∧d≠0∧Bd 9000 d∧t.fdiv d=(Rat.divInt t b).num∧b.fdiv d=(Rat.divInt t b).den,?_,?_⟩
 ·refine ⟨_,rfl,_,_,rfl,rfl,_,rfl,xZ (fun c=>?_) (fun c=>?_)⟩
  ·have c':b < 0:=of_decide_eq_true c
   exact ⟨_,rfl,_,rfl,_,rfl,rfl,by omega,gb.neg,ur c',Af c'⟩
  ·have c':0 < b:=by
    have:=of_decide_eq_false (Bool.eq_false_iff.mpr c)
    omega
   exact ⟨_,rfl,rfl,by omega,gb,oB c',den_pos c'⟩
 rintro _ _ ⟨d,rfl,rfl,hd,bd,e1,e2⟩
 refine ⟨_,rfl,_,rfl,_,_,rfl,rfl,⟨hd,bd⟩,_,rfl,_,rfl,_,_,rfl,rfl,⟨hd,bd⟩,(by show 2≤sizeLine;decide),fun p hp=>?_⟩
 exact q p _ (aY.new hp _) (by rw [az];show some (HO.tup [V.int (t.fdiv d),V.int (b.fdiv d)])=_;rw [e1,e2])
abbrev uM:Stmt:=(top 47)
theorem pD:L2.aw ["_law_top","_law_bottom","_law_one","_law_two"] ["_law_top","_law_bottom"] (L2.aj uM):=dT
def Cz:Sp:=fun vs H Q _=>∃ t b:Int,vs=[.int t,.int b]∧0 < b∧Bd 9000 b∧EA H (Rat.divInt t b) Q
theorem Dw {f:Addr} {fd:FuncData} (F:bV K "_law_low" "_law_low" uM f fd) (Z:w8 mg):aI P w K mg base lD 1 f fd ["_law_top","_law_bottom"] Cz:=by
 refine F.ok pD (fun vs H Q E h=>?_) (fun cdv A outer s H vs Q E hr h=>?_)
 ·obtain ⟨t,b,rfl,_⟩:=h
  rfl
 obtain ⟨t,b,rfl,hb,bb,q⟩:=h
 have hg:=t_ (t:=t) (show b≠0 by omega)
 have gb:=xJ (t:=t) (show b≠0 by omega) bb
 refine ⟨_,(QB.run (aO (bY (i:=2) pD.nd rfl (Or.inl rfl) (cQ iX rfl Z.abs boot_abs (aL (pv 0) a9)))
   (aO (bY (i:=3) pD.nd rfl (Or.inl rfl) (pv 1))
   (aO (gA PassesOwn.never (cA Ci (pv 3) aF (ax _)) (a_ (jY (i:=2) (j:=3) rfl pD.nd rfl rfl (by decide) rfl rfl (aL (pv 3) (aL (aW eJ (pv 2) (pv 3)) a9)) rfl)))
   (a_ (cJ (l7 (aL (aW eI (pv 0) (pv 2)) (aL (aW eI (pv 1) (pv 2)) a9))))))))),?_⟩
 refine ⟨_,rfl,t,rfl,_,rfl,?_⟩
 refine rJ (fun σ H'=>∃ x y:Int,σ=[some (.int t),some (.int b),some (.int x),some (.int y)]∧H=H'∧0≤x∧0≤y∧Int.gcd x y=Int.gcd t b) (fun σ _=>match σ with | [_,_,_,some (.int y)]=>y.toNat | _=>0)
  ⟨_,_,rfl,rfl,by split <;> omega,by omega,xI t b⟩ ?_ (fun σ H Q Q' m h=>?_)
 ·rintro σ H' ⟨x,y,rfl,rfl,hx,hy,hg'⟩
  dsimp! only [rJoin]
  split
  ·rename_i hy0
   subst hy0
   have ex:x=((Int.gcd t b:Nat):Int):=by rw [← hg',t9 hx]
   subst ex
   refine ⟨⟨by omega,gb⟩,⟨by omega,gb⟩,(by show 2≤sizeLine;decide),fun p hp=>?_⟩
   exact q p _ (aY.new hp _) (by rw [az,oB hb,den_pos hb])
  ·rename_i hy0
   have h1:=Int.emod_lt_of_pos x (show 0 < y by omega)
   have h2:=Int.emod_nonneg x hy0
   exact ⟨by omega,hy,h2,(p_ hy0).trans hg',by omega⟩
 ·obtain ⟨v,e,hs,k,ek,hq⟩:=h
  exact ⟨v,e,hs,k,ek,m _ _ hq⟩
theorem zB {m n:Nat} {t b:Int} (hb:b≠0) (h1:Bd m t) (h2:Bd n b) (k:Nat) (hm:m≤k) (hn:n≤k):Sz k (Rat.divInt t b) :=
 ⟨(h1.le (uq t b)).mono hm,(h2.le (oa hb)).mono hn⟩
theorem oA (p q:Rat):(p.den:Int) * (q.den:Int)≠0:=Int.mul_ne_zero (dB p) (dB q)
theorem Sz.add {m n k:Nat} {p q:Rat} (h:Sz m p) (g:Sz n q) (hk:m + n + 1≤k:=by decide):Sz k (p + q):=by
 rw [← add_eq]
 exact zB (oA p q) (.add (.mul h.num g.den (Nat.le_refl _)) (.mul g.num h.den (Nat.le_refl _)) (Nat.le_refl _)) (.mul h.den g.den (Nat.le_refl _)) k (by omega) (by omega)
theorem Sz.sub {m n k:Nat} {p q:Rat} (h:Sz m p) (g:Sz n q) (hk:m + n + 1≤k:=by decide):Sz k (p - q):=by
 rw [← sub_eq]
 exact zB (oA p q) (.sub (.mul h.num g.den (Nat.le_refl _)) (.mul g.num h.den (Nat.le_refl _)) (Nat.le_refl _)) (.mul h.den g.den (Nat.le_refl _)) k (by omega) (by omega)
theorem Sz.mul {m n k:Nat} {p:Rat} {i:Int} (h:Sz m p) (g:Bd n i) (hk:m + n≤k:=by decide):Sz k (p * i):=by
 rw [← mul_eq]
 exact zB (dB p) (.mul h.num g (Nat.le_refl _)) h.den k hk (by omega)
def Ge (K:PySem.W.Frag) (g:Rat→Rat→Rat):Sp:=fun vs H Q _=>∃ (a b:Addr) (p q:Rat),vs=[.ref a,.ref b]∧zU K H a p∧zU K H b q∧Sz 4000 p∧Sz 4000 q∧EA H (g p q) Q
abbrev pq:Stmt:=(top 14)
theorem BC:L2.aw ["one","two"] ["one","two"] (L2.aj pq):=dT
theorem AQ {f:Addr} {fd:FuncData} (F:bV K "plus" "plus" pq f fd) (Z:w8 mg) (C_fraction:mE P w K mg base 2 "fraction" ["top","bottom"] eS):aI P w K mg base lD 3 f fd ["one","two"] (Ge K fun p q=>p + q):=by
 refine F.ok BC (fun vs H Q E h=>?_) (fun cdv A outer s H vs Q E hr h=>?_)
 ·obtain ⟨a,b,p,q,rfl,_⟩:=h
  rfl
 obtain ⟨a,b,p,q,rfl,ha,hb,sp,sq,k⟩:=h
 refine ⟨_,(QB.run (a_ (cJ (qP C_fraction hr (by decide) rfl (aL (aW fK (aW bT (bH bX (pv 0) aF (fun _ _=>rfl)) (bH bX (pv 1) aF (fun _ _=>rfl))) (aW bT (bH bX (pv 1) aF (fun _ _=>rfl)) (bH bX (pv 0) aF (fun _ _=>rfl)))) (aL (aW bT (bH bX (pv 0) aF (fun _ _=>rfl)) (bH bX (pv 1) aF (fun _ _=>rfl))) a9)))))),?_⟩
 refine ⟨_,rfl,_,_,_,_,rfl,rfl,ha,rfl,_,rfl,_,_,_,_,rfl,rfl,hb,rfl,_,_,rfl,rfl,.of sp.num sq.den,_,rfl,_,_,_,_,rfl,rfl,hb,rfl,_,rfl,_,_,_,_,rfl,rfl,ha,rfl,_,_,rfl,rfl,.of sq.num sp.den,_,_,rfl,rfl,_,rfl,_,_,_,_,rfl,rfl,ha,rfl,_,rfl,_,_,_,_,rfl,rfl,hb,rfl,_,_,rfl,rfl,.of sp.den sq.den,_,_,rfl,oA p q,.mul sp.den sq.den,?_⟩
 rw [add_eq]
 exact k
abbrev lh:Stmt:=(top 15)
theorem ze:L2.aw ["one","two"] ["one","two"] (L2.aj lh):=dT
theorem yq {f:Addr} {fd:FuncData} (F:bV K "minus" "minus" lh f fd) (Z:w8 mg) (C_fraction:mE P w K mg base 2 "fraction" ["top","bottom"] eS):aI P w K mg base lD 3 f fd ["one","two"] (Ge K fun p q=>p - q):=by
 refine F.ok ze (fun vs H Q E h=>?_) (fun cdv A outer s H vs Q E hr h=>?_)
 ·obtain ⟨a,b,p,q,rfl,_⟩:=h
  rfl
 obtain ⟨a,b,p,q,rfl,ha,hb,sp,sq,k⟩:=h
 refine ⟨_,(QB.run (a_ (cJ (qP C_fraction hr (by decide) rfl (aL (aW sJ (aW bT (bH bX (pv 0) aF (fun _ _=>rfl)) (bH bX (pv 1) aF (fun _ _=>rfl))) (aW bT (bH bX (pv 1) aF (fun _ _=>rfl)) (bH bX (pv 0) aF (fun _ _=>rfl)))) (aL (aW bT (bH bX (pv 0) aF (fun _ _=>rfl)) (bH bX (pv 1) aF (fun _ _=>rfl))) a9)))))),?_⟩
 refine ⟨_,rfl,_,_,_,_,rfl,rfl,ha,rfl,_,rfl,_,_,_,_,rfl,rfl,hb,rfl,_,_,rfl,rfl,.of sp.num sq.den,_,rfl,_,_,_,_,rfl,rfl,hb,rfl,_,rfl,_,_,_,_,rfl,rfl,ha,rfl,_,_,rfl,rfl,.of sq.num sp.den,_,_,rfl,rfl,_,rfl,_,_,_,_,rfl,rfl,ha,rfl,_,rfl,_,_,_,_,rfl,rfl,hb,rfl,_,_,rfl,rfl,.of sp.den sq.den,_,_,rfl,oA p q,.mul sp.den sq.den,?_⟩
 rw [sub_eq]
 exact k
abbrev lp:Stmt:=(top 16)
theorem zg:L2.aw ["one","many"] ["one","many"] (L2.aj lp):=dT
def ve (K:PySem.W.Frag):Sp:=fun vs H Q _=>∃ (a:Addr) (p:Rat) (m:Int),vs=[.ref a,.int m]∧zU K H a p∧Sz 9000 p∧Bd 9000 m∧EA H (p * m) Q
theorem yt {f:Addr} {fd:FuncData} (F:bV K "times" "times" lp f fd) (Z:w8 mg) (C_fraction:mE P w K mg base 2 "fraction" ["top","bottom"] eS):aI P w K mg base lD 3 f fd ["one","many"] (ve K):=by
 refine F.ok zg (fun vs H Q E h=>?_) (fun cdv A outer s H vs Q E hr h=>?_)
 ·obtain ⟨a,p,m,rfl,_⟩:=h
  rfl
 obtain ⟨a,p,m,rfl,ha,sp,bm,k⟩:=h
 refine ⟨_,(QB.run (a_ (cJ (qP C_fraction hr (by decide) rfl (aL (aW bT (bH bX (pv 0) aF (fun _ _=>rfl)) (pv 1)) (aL (bH bX (pv 0) aF (fun _ _=>rfl)) a9)))))),?_⟩
 refine ⟨_,rfl,_,_,_,_,rfl,rfl,ha,rfl,_,rfl,_,_,rfl,rfl,.of sp.num bm,_,rfl,_,_,_,_,rfl,rfl,ha,rfl,_,_,rfl,dB p,sp.den,?_⟩
 rw [mul_eq]
 exact k
abbrev pf:Stmt:=(top 17)
theorem Bz:L2.aw ["one","two"] ["one","two"] (L2.aj pf):=dT
def zr (K:PySem.W.Frag):Sp:=fun vs H Q _=>∃ (a b:Addr) (p q:Rat),vs=[.ref a,.ref b]∧zU K H a p∧zU K H b q∧Sz 9000 p∧Sz 9000 q∧Q (.bl (decide (p < q))) H
theorem Ax (p q:Rat):decide (p.num * q.den < q.num * p.den)=decide (p < q):=decide_eq_decide.mpr (Rat.lt_iff p q).symm
theorem AO {f:Addr} {fd:FuncData} (F:bV K "less" "less" pf f fd) (Z:w8 mg):aI P w K mg base lD 1 f fd ["one","two"] (zr K):=by
 refine F.ok Bz (fun vs H Q E h=>?_) (fun cdv A outer s H vs Q E hr h=>?_)
 ·obtain ⟨a,b,p,q,rfl,_⟩:=h
  rfl
 obtain ⟨a,b,p,q,rfl,ha,hb,sp,sq,k⟩:=h
 refine ⟨_,(QB.run (a_ (cJ (kX uu (aW bT (bH bX (pv 0) aF (fun _ _=>rfl)) (bH bX (pv 1) aF (fun _ _=>rfl))) (aW bT (bH bX (pv 1) aF (fun _ _=>rfl)) (bH bX (pv 0) aF (fun _ _=>rfl))) (ax _))))),?_⟩
 refine ⟨_,rfl,_,_,_,_,rfl,rfl,ha,rfl,_,rfl,_,_,_,_,rfl,rfl,hb,rfl,_,_,rfl,rfl,.of sp.num sq.den,_,rfl,_,_,_,_,rfl,rfl,hb,rfl,_,rfl,_,_,_,_,rfl,rfl,ha,rfl,_,_,rfl,rfl,.of sq.num sp.den,_,_,rfl,rfl,?_⟩
 show Q (.bl (decide (p.num * q.den < q.num * p.den))) H
 rw [Ax]
 exact k
theorem uf {K:PySem.W.Frag} {J:Hq} {H:Hp}:∀ {ns:List Int} {vs:List V},aE K J H (ns.map PV.int) vs→vs=ns.map V.int
 | [],_,h=>h
 | n :: ns,_,⟨v,us,e,h,k⟩=>by subst e;cases h;rw [uf k];rfl
theorem Dy {K:PySem.W.Frag} {J:Hq} {H:Hp} {x:PV} {vs:List V} (h:aE K J H [x] vs):∃ v,vs=[v]∧bI K J H x v:=by
 obtain ⟨v,us,rfl,h1,h2⟩:=h;cases h2;exact ⟨v,rfl,h1⟩
theorem fW {K:PySem.W.Frag} {J:Hq} {H:Hp} {x y:PV} {vs:List V} (h:aE K J H [x,y] vs):∃ v u,vs=[v,u]∧bI K J H x v∧bI K J H y u:=by
 obtain ⟨v,us,rfl,h1,u,us',rfl,h2,h3⟩:=h;cases h3;exact ⟨v,u,rfl,h1,h2⟩
theorem lN {K:PySem.W.Frag} {J:Hq} {H:Hp} {q:Rat} {v:V} (h:bI K J H (fr q) v):∃ a,v=.ref a∧zU K H a q:=by
 obtain ⟨a,vs,rfl,h1,h2⟩:=h
 obtain ⟨x,y,rfl,r1,r2⟩:=fW h2
 cases r1;cases r2
 exact ⟨a,rfl,h1⟩
theorem o8 {K:PySem.W.Frag} {J:Hq} {H:Hp} {q:Rat} {Q2:PV→Hq→Prop} {Q:VK} (r:Rep K J H) (k:Kn K J H Q2 Q) (h:Q2 (fr q) J):EA H q Q:=fun a H' s e =>
 k (fr q) J (.ref a) H' ⟨a,_,rfl,fh.of e,⟨_,_,rfl,rfl,_,_,rfl,rfl,rfl⟩⟩ (r.same s) (.same s) h
def zm:cm:=fun xs J Q _=>∃ (c:Int) (ss:List Int),xs=[.int c,.fl (ss.map .int)]∧(∀ s∈ss,0 < s∧Bd 9000 s)∧ss.length≤1000∧∀ ds,Dig ds ss→Q (.fl (ds.map .int)) J
theorem qm (C:mE P w K mg base 1 "_law_digits" ["_law_cell_here","_law_sizes"] (ml K)):a7 P w K mg base 1 "_law_digits" ["_law_cell_here","_law_sizes"] zm:=C.lift fun xs J vs H Q2 E2 Q E rs r ⟨c,ss,ex,h0,h1,q⟩ kn=>by
 subst ex
 obtain ⟨v,u,rfl,r1,⟨a,ws,rfl,h2,h3⟩⟩:=fW rs
 cases r1;cases uf h3
 refine ⟨c,a,ss,rfl,h2.sq,h0,h1,fun p H' ds hp s e D=>kn (.fl (ds.map .int)) J (.ref p) H' ⟨p,_,rfl,.inl ⟨r.free hp,.inl e⟩,j5 ds⟩ (r.same s) (.same s) (q ds D)⟩
def iM:cm:=fun xs J Q _=>∃ t b:Int,xs=[.int t,.int b]∧0 < b∧Bd 9000 b∧Q (fr (Rat.divInt t b)) J
theorem yf (C:mE P w K mg base 1 "_law_low" ["_law_top","_law_bottom"] Cz):a7 P w K mg base 1 "_law_low" ["_law_top","_law_bottom"] iM:=C.lift fun xs J vs H Q2 E2 Q E rs r ⟨t,b,ex,h0,h1,q⟩ kn=>by
 subst ex
 obtain ⟨v,u,rfl,r1,r2⟩:=fW rs
 cases r1;cases r2
 exact ⟨t,b,rfl,h0,h1,o8 r kn q⟩
def cG:cm:=fun xs J Q _=>∃ p q:Rat,xs=[fr p,fr q]∧Sz 9000 p∧Sz 9000 q∧Q (.bl (decide (p < q))) J
theorem vY (C:mE P w K mg base 1 "less" ["one","two"] (zr K)):a7 P w K mg base 1 "less" ["one","two"] cG:=C.lift fun xs J vs H Q2 E2 Q E rs r ⟨p,q,ex,h0,h1,z⟩ kn=>by
 subst ex
 obtain ⟨v,u,rfl,r1,r2⟩:=fW rs
 obtain ⟨a,rfl,f1⟩:=lN r1
 obtain ⟨b,rfl,f2⟩:=lN r2
 exact ⟨a,b,p,q,rfl,f1,f2,h0,h1,kn (.bl _) J _ H rfl r .refl z⟩
def tD (g:Rat→Rat→Rat):cm:=fun xs J Q _=>∃ p q:Rat,xs=[fr p,fr q]∧Sz 4000 p∧Sz 4000 q∧Q (fr (g p q)) J
theorem B8 {x:Str} {ps:List Str} {k:Nat} {g:Rat→Rat→Rat} (C:mE P w K mg base k x ps (Ge K g)):a7 P w K mg base k x ps (tD g):=C.lift fun xs J vs H Q2 E2 Q E rs r ⟨p,q,ex,h0,h1,z⟩ kn=>by
 subst ex
 obtain ⟨v,u,rfl,r1,r2⟩:=fW rs
 obtain ⟨a,rfl,f1⟩:=lN r1
 obtain ⟨b,rfl,f2⟩:=lN r2
 exact ⟨a,b,p,q,rfl,f1,f2,h0,h1,o8 r kn z⟩
theorem vZ (C:mE P w K mg base 3 "plus" ["one","two"] (Ge K fun p q=>p + q)):a7 P w K mg base 3 "plus" ["one","two"] (tD fun p q=>p + q):=B8 C
theorem sk (C:mE P w K mg base 3 "minus" ["one","two"] (Ge K fun p q=>p - q)):a7 P w K mg base 3 "minus" ["one","two"] (tD fun p q=>p - q):=B8 C
def mr:cm:=fun xs J Q _=>∃ (p:Rat) (m:Int),xs=[fr p,.int m]∧Sz 9000 p∧Bd 9000 m∧Q (fr (p * m)) J
theorem su (C:mE P w K mg base 3 "times" ["one","many"] (ve K)):a7 P w K mg base 3 "times" ["one","many"] mr:=C.lift fun xs J vs H Q2 E2 Q E rs r ⟨p,m,ex,h0,h1,z⟩ kn=>by
 subst ex
 obtain ⟨v,u,rfl,r1,r2⟩:=fW rs
 obtain ⟨a,rfl,f1⟩:=lN r1
 cases r2
 exact ⟨a,p,m,rfl,f1,h0,h1,o8 r kn z⟩
def aP.V (l:aP):PV:=.tup [fr l.m,fr l.p,.int l.v]
theorem rH (m p:Rat) (v:Int):PV.tup [fr m,fr p,.int v]=(aP.mk m p v).V:=rfl
theorem ui (J:Hq) (l:aP):dJ J l.V (.int 0)=some (fr l.m):=cO _ _
theorem E6 (J:Hq) (l:aP):dJ J l.V (.int 1)=some (fr l.p):=d5 _ _ _
theorem kr (J:Hq) (l:aP):dJ J l.V (.int 2)=some (.int l.v):=ij _ _ _ _
theorem Hd (a b:aP):eqQ a.V b.V=decide (a=b):=by
 unfold aP.V
 rw [oe,cP,cP,cP,kR,tX,tX,eq_int,Bool.and_true,← Bool.decide_and,← Bool.decide_and]
 apply decide_eq_decide.mpr
 cases a;cases b
 simp [aP.mk.injEq]
theorem ED (a b:aP):(a.V=b.V)=(a=b):=by
 apply propext
 constructor
 ·intro e
  have:=Hd a b
  rw [e,eq_self] at this
  exact of_decide_eq_true this.symm
 ·intro e;rw [e]
def mn:cm:=fun xs J Q _=>∃ (l:aP) (t:Rat),xs=[l.V,fr t]∧Sz 900 l.m∧Sz 900 l.p∧Sz 900 t∧Bd 64 l.v∧Q (fr (l.at t)) J
abbrev fT:Stmt:=(top 25)
theorem ff:L2.aw ["leg","moment","begun","place","pace"] ["leg","moment"] (L2.aj fT):=dT
theorem oN {f:Addr} {fd:FuncData} (F:bV K "place_on" "place_on" fT f fd) (Z:bR mg) (C_plus:a7 P w K mg base 3 "plus" ["one","two"] (tD fun p q=>p + q)) (C_minus:a7 P w K mg base 3 "minus" ["one","two"] (tD fun p q=>p - q)) (C_times:a7 P w K mg base 3 "times" ["one","many"] mr) :
  aI P w K mg base (cS P w) 4 f fd ["leg","moment"] (dz K mn):=by
 simp_arith [ff]
 ·obtain ⟨l,t,rfl,_⟩:=h;rfl
 obtain ⟨l,t,rfl,sb,sp,sm,bv,q⟩:=h
 have s1:Sz 1801 (t - l.m):=sm.sub sb
 have s2:Sz 1900 ((t - l.m) * (l.v:Rat)):=s1.mul bv
 refine ⟨_,(ai (tm (rv 0) (tj rfl (eO (bZ (i:=2) ff.nd rfl (Or.inl rfl)) (eO (bZ (i:=3) ff.nd rfl (Or.inl rfl)) (eO (bZ (i:=4) ff.nd rfl (Or.inl rfl)) o9)))))
   (ak (aB (aR C_plus B hr (by decide) rfl (af (rv 3) (af (aR C_times B hr (by decide) rfl (af (aR C_minus B hr (by decide) rfl (af (rv 1) (af (rv 2) ah))) (af (rv 4) ah))) ah)))))),?_⟩
 simp_arith! only [bK,aP.V,tD,mr]
 exact ⟨rfl,sm.mono (by decide),sb.mono (by decide),s1.mono (by decide),bv.mono (by decide),sp.mono (by decide),s2.mono (by decide),q⟩
theorem C4 (n:Int):PV.tup [.int n,.int 1]=fr (n:Rat):=rfl
theorem gQ (p q:Rat):p.num * (q.den:Int)=q.num * (p.den:Int)↔p=q:=by
 have a:=cast_eq p
 have b:=cast_eq q
 have c:=de p
 have d:=de q
 constructor
 ·intro h
  have h':((p.num * (q.den:Int):Int):Rat)=((q.num * (p.den:Int):Int):Rat):=by rw [h]
  rw [Rat.intCast_mul,Rat.intCast_mul,a,b] at h'
  grind
 ·intro h;rw [h]
def gv:Option Rat→PV
 | none=>.non
 | some q=>fr q
structure zX (cL:Addr) (J:Hq) (p r:Addr) (rows:List aP) (g:Option Rat):Prop where
 o:J p=some (.ins cL [("rows",.ref r),("gone",gv g)])
 l:J r=some (.lst (rows.map aP.V))
theorem zX.ne {cL:Addr} {J:Hq} {p r:Addr} {rows:List aP} {g:Option Rat} (h:zX cL J p r rows g):r≠p:=by
 intro e;subst e;have:=h.o;rw [h.l] at this;cases this
structure lF (n:Nat) (l:aP):Prop where
 m:Sz n l.m
 p:Sz n l.p
 v:Bd 64 l.v
theorem lF.mono {n k:Nat} {l:aP} (h:lF n l) (e:n≤k):lF k l:=⟨h.m.mono e,h.p.mono e,h.v⟩
theorem Ep (a b:PV):([("rows",a),("gone",b)]:List (Str × PV)).lookup ("rows":Str)=some a:=rfl
theorem Jp (a b:PV):([("rows",a),("gone",b)]:List (Str × PV)).lookup ("gone":Str)=some b:=rfl
theorem Ay {m:Str} (a b:PV) (h:(m == ("rows":Str))=false) (k:(m == ("gone":Str))=false):([("rows",a),("gone",b)]:List (Str × PV)).lookup m=none:=by rw [List.lookup_cons,h];simp only;rw [List.lookup_cons,k];rfl
theorem Fp (a b:PV):([("rows",a),("gone",b)]:List (Str × PV)).lookup ("turn":Str)=none:=Ay a b (by decide +kernel) (by decide +kernel)
theorem Hz (a b:PV):([("rows",a),("gone",b)]:List (Str × PV)).lookup ("leave":Str)=none:=Ay a b (by decide +kernel) (by decide +kernel)
theorem HA (a b:PV):([("rows",a),("gone",b)]:List (Str × PV)).lookup ("there":Str)=none:=Ay a b (by decide +kernel) (by decide +kernel)
theorem HB (a b:PV):([("rows",a),("gone",b)]:List (Str × PV)).lookup ("leg_at":Str)=none:=Ay a b (by decide +kernel) (by decide +kernel)
theorem Cc:(("rows":Str)=("gone":Str))=False:=eq_false (by decide +kernel)
theorem lV {J:Hq} {l:Addr} {o:HQ} (h:J l=none):mJ J (put J l o):=fun a=>by
 by_cases e:a=l
 ·subst e;exact .inr h
 ·rw [ar e];exact .inl rfl
theorem Ba (x z:PV):j1 ("gone":Str) z (j1 ("rows":Str) x [])=([("rows",x),("gone",z)]:List (Str × PV)):=by simp only [j1,Cc,if_false]
abbrev dq:Stmt:=(L2.inClass (top 29) 0)
theorem kL:L2.aw ["self","moment","place","pace"] ["self","moment","place","pace"] (L2.aj dq):=dT
def uW (cL:Addr):cm:=fun xs J Q _=>∃ (p:Addr) (l:aP),xs=[.ref p,fr l.m,fr l.p,.int l.v]∧J p=some (.ins cL [])∧∀ r,J r=none→Q .non (put (put J r (.lst [l.V])) p (.ins cL [("rows",.ref r),("gone",.non)]))
theorem qA {cL f:Addr} {fd:FuncData} (F:bV K "__init__" "Log.__init__" dq f fd) (KD_Log:du K mg "Log" cL) (NA_Log_rows:aA K cL "rows") (NA_Log_gone:aA K cL "gone"):aI P w K mg base (cS P w) 1 f fd ["self","moment","place","pace"] (dz K (uW cL)):=by
 simp_arith [kL]
 ·obtain ⟨p,l,rfl,_⟩:=h;rfl
 obtain ⟨p,l,rfl,hp,q⟩:=h
 refine ⟨_,(ai (fj KD_Log.cl NA_Log_rows (rv 0) (j4 (af (cv (af (rv 1) (af (rv 2) (af (rv 3) ah)))) ah)))
   (ak (fj KD_Log.cl NA_Log_gone (rv 0) fi))),?_⟩
 simp_arith! only [bK,rH]
 intro r hr'
 have ne:p≠r:=by intro e;subst e;rw [hp] at hr';cases hr'
 refine ⟨[],by rw [ar ne];exact hp,by decide,by show (1:Nat) < 1000;decide,?_⟩
 rw [dM,Ba]
 exact q r hr'
abbrev fP:Stmt:=(L2.inClass (top 29) 1)
theorem kD:L2.aw ["self","moment","pace","place"] ["self","moment","pace"] (L2.aj fP):=dT
def pK (cL:Addr):cm:=fun xs J Q _=>∃ p r rows g t v,xs=[.ref p,fr t,.int v]∧zX cL J p r rows g∧rows≠[]∧rows.length≤900∧Sz 900 t∧(∀ l∈rows,lF 900 l)∧Q .non (put J r (.lst ((turned rows t v).map aP.V)))
theorem qB {cL f:Addr} {fd:FuncData} (F:bV K "turn" "Log.turn" fP f fd) (Z:bR mg) (KD_Log:du K mg "Log" cL) (NA_Log_rows:aA K cL "rows") (C_place_on:a7 P w K mg base 4 "place_on" ["leg","moment"] mn):aI P w K mg base (cS P w) 5 f fd ["self","moment","pace"] (dz K (pK cL)):=by
 simp_arith [kD]
 ·obtain ⟨p,r,rows,g,t,v,rfl,_⟩:=h;rfl
 obtain ⟨p,r,rows,g,t,v,rfl,b,hne,hl,st,sl,q⟩:=h
 obtain ⟨ls,l,rfl⟩:∃ ls l,rows=ls ++ [l]:=⟨rows.dropLast,rows.getLast hne,(List.dropLast_concat_getLast hne).symm⟩
 have bo:=b.o
 have bl:=b.l
 have npr:=b.ne
 have sl':=sl l (by simp)
 have hla:cI ((ls ++ [l]).map aP.V) (-1)=some l.V:=by rw [List.map_append];exact tP _ _
 refine ⟨_,(ai (aK (i:=3) kD.nd rfl (Or.inl rfl) (aR C_place_on B hr (by decide) rfl (af (aq au (aS KD_Log.cl NA_Log_rows (rv 0)) (qW mC ag) (fun _ _=>rfl)) (af (rv 1) ah))))
   (fL (aU (aD (cH hr.aT) (aq au (aq au (aS KD_Log.cl NA_Log_rows (rv 0)) (qW mC ag) (fun _ _=>rfl)) ag (fun _ _=>rfl)) (rv 1) (L2.ax _)) (ak (bj (DV PySem.F.plainAttrs_list PySem.F.slot_list_pop PySem.F.type_list_pop Du (aS KD_Log.cl NA_Log_rows (rv 0))))) aJ)
   (ai (aU (dm (d3 (D0 (aS KD_Log.cl NA_Log_rows (rv 0))) (dk (aD (cH hr.aT) (aq au (aq au (aS KD_Log.cl NA_Log_rows (rv 0)) (qW mC ag) (fun _ _=>rfl)) ag (fun _ _=>rfl)) (rv 2) (L2.ax _))))) (ak Bv) aJ)
   (ak (bj (kB PySem.F.plainAttrs_list PySem.F.slot_list_append PySem.F.type_list_append jS (aS KD_Log.cl NA_Log_rows (rv 0)) (af (cv (af (rv 1) (af (rv 3) (af (rv 2) ah)))) ah))))))),?_⟩
 simp_arith! only [bK,bo,bl,Ep]
 refine ⟨_,hla,l,t,rfl,sl'.m,sl'.p,st,sl'.v,?_⟩
 obtain ⟨M,hM⟩:∃ M:Sr→Hq→Prop,∀ τ' J',M τ' J'↔τ'=[some (.ref p),some (fr t),some (.int v),some (fr (l.at t))]∧J'=put J r (.lst ((if l.m=t then ls else ls ++ [l]).map aP.V)):=⟨_,fun _ _=>Iff.rfl⟩
 refine ⟨M,?_,?_⟩
 ·simp_arith! only [bK,bo,bl,Ep,hla,ui]
  split
  ·rename_i e
   refine ⟨l.V,by simp,(hM _ _).mpr ⟨rfl,?_⟩⟩
   rw [if_pos e,List.map_append,List.map_cons,List.map_nil,List.dropLast_concat]
  ·rename_i e
   exact (hM _ _).mpr ⟨rfl,by rw [if_neg e,sY bl]⟩
 ·intro τ' J' hm
  obtain ⟨rfl,rfl⟩:=(hM _ _).mp hm
  clear hm hM M
  have et:turned (ls ++ [l]) t v=if (if l.m=t then ls else ls ++ [l]).getLast?.map aP.v=some v then (if l.m=t then ls else ls ++ [l]) else (if l.m=t then ls else ls ++ [l]) ++ [⟨t,l.at t,v⟩]:=by
   unfold turned
   simp only [List.getLast?_concat,List.dropLast_concat]
  have hrl:(if l.m=t then ls else ls ++ [l]).length≤900:=by
   split
   ·rw [List.length_append] at hl;omega
   ·exact hl
  rw [et] at q
  generalize (if l.m=t then ls else ls ++ [l])=rest at q hrl ⊢
  simp_arith! only [bK,ar (Ne.symm npr),bo,Ep,dM,rH]
  rcases List.eq_nil_or_concat rest with rfl | ⟨ks,k,rfl⟩
  ·simp only [List.getLast?_nil,Option.map_none,reduceCtorEq,if_false,List.nil_append] at q
   simpa [B9,sizeLine] using q
  ·rw [List.concat_eq_append] at *
   rw [List.getLast?_concat,Option.map_some] at q
   have hk:cI ((ks ++ [k]).map aP.V) (-1)=some k.V:=by rw [List.map_append];exact tP _ _
   simp_arith! only [bK,hk,kr,List.length_map]
   rw [if_pos (by simp)]
   by_cases e:k.v=v
   ·rw [if_pos e];rw [if_pos (congrArg some e)] at q;exact q
   ·rw [if_neg e];rw [if_neg (fun z=>e (Option.some.inj z))] at q
    refine ⟨aX (by omega),?_⟩
    rw [List.map_append] at q
    exact q
theorem Jh {rows:List aP} {i:Nat} {b:aP} (h:rows[i]?=some b):cI (rows.map aP.V) (i:Int)=some b.V:=a8 (by rw [List.getElem?_map,h];rfl)
abbrev g9:Stmt:=(top 19)
theorem iJ:L2.aw ["rows","moment","at"] ["rows","moment"] (L2.aj g9):=dT
def rh:cm:=fun xs J Q _=>∃ (x:PV) (t:Rat) (ys:List PV) (ms:List Rat),xs=[x,fr t]∧kT J x=some ys∧ys.length=ms.length∧ms.length≤900∧(∀ (i:Nat) y m,ys[i]?=some y→ms[i]?=some m→dJ J y (.int 0)=some (fr m))∧Sz 9000 t∧(∀ m∈ms,Sz 9000 m)∧Q (.int ((lb ms t ms.length:Int) - 1)) J
theorem qD {f:Addr} {fd:FuncData} (F:bV K "last_by" "last_by" g9 f fd) (Z:bR mg) (C_less:a7 P w K mg base 1 "less" ["one","two"] cG):aI P w K mg base (cS P w) 2 f fd ["rows","moment"] (dz K rh):=by
 simp_arith [iJ]
 ·obtain ⟨x,t,ys,ms,rfl,_⟩:=h;rfl
 obtain ⟨x,t,ys,ms,rfl,hx,hlen,hl,h0,st,sm,q⟩:=h
 refine ⟨_,(ai (aK (i:=2) iJ.nd rfl (Or.inl rfl) (aH dG (aM bQ rfl Z.len boot_len (af (rv 0) ah)) ag))
   (ai (ju cy (dm (d3 (aD yB (rv 2) ag (L2.ax _)) (dk (bM (aR C_less B hr (by decide) rfl (af (rv 1) (af (aq au (aq au (rv 0) (rv 2) (fun _ _=>rfl)) ag (fun _ _=>rfl)) ah))))))) (ak (za (i:=2) iJ.nd rfl (Or.inl rfl) ag xT)))
   (ak (aB (rv 2))))),?_⟩
 simp_arith! only [bK,yg hx,hlen]
 refine ⟨fun k τ J'=>∃ j:Nat,τ=[some x,some (fr t),some (.int ((j:Int) - 1))]∧J'=J∧j≤ms.length∧k=j∧lb ms t ms.length=lb ms t j,⟨_,ms.length,rfl,rfl,Nat.le_refl _,rfl,rfl⟩,?_⟩
 rintro k τ J' ⟨j,rfl,rfl,hj,rfl,hb⟩
 simp_arith! only [bK,B' hx,cG]
 cases k with
 | zero =>
  rw [if_neg (by omega)]
  rw [hb] at q
  exact q
 | succ k =>
  rw [if_pos (by omega)]
  obtain ⟨y,hy⟩:∃ y,ys[k]?=some y:=⟨_,List.getElem?_eq_getElem (by omega)⟩
  obtain ⟨m,hm⟩:∃ m,ms[k]?=some m:=⟨_,List.getElem?_eq_getElem (by omega)⟩
  have ha:cI ys (((k + 1:Nat):Int) - 1)=some y:=by
   have:((k + 1:Nat):Int) - 1=(k:Int):=by omega
   rw [this];exact a8 hy
  have em:ms.getD k 0=m:=by simp [List.getD,hm]
  have hu:lb ms t (k + 1)=if m≤t then k + 1 else lb ms t k:=by
   show (if ms.getD k 0≤t then k + 1 else lb ms t k)=_
   rw [em]
  refine ⟨_,ha,_,h0 k y m hy hm,m,rfl,st,sm m (List.mem_of_getElem? hm),?_⟩
  by_cases c:t < m
  ·rw [if_pos c]
   have hn:¬ m≤t:=Rat.not_le.mpr c
   rw [if_neg hn] at hu
   refine ⟨fun τ J''=>τ=[some x,some (fr t),some (.int ((k:Int) - 1))]∧J''=J',fun τ' J'' ⟨e1,e2⟩=>⟨k,Nat.lt_succ_self _,k,e1,e2,by omega,rfl,by rw [hb,hu]⟩,?_⟩
   simp_arith! only [bK]
   have:((k + 1:Nat):Int) - 1 - 1=(k:Int) - 1:=by omega
   exact this
  ·rw [if_neg c]
   rw [if_pos (Rat.not_lt.mp c)] at hu
   rw [hb,hu] at q
   exact q
abbrev fc:Stmt:=(L2.inClass (top 29) 5)
theorem jA:L2.aw ["self","moment","joined"] ["self","moment"] (L2.aj fc):=dT
def rg (cL:Addr):cm:=fun xs J Q _=>∃ p r rows g t,xs=[.ref p,fr t]∧zX cL J p r rows g∧rows≠[]∧Sz 900 t∧(∀ l∈rows,lF 900 l)∧(∀ q,g=some q→Sz 900 q)∧Q (.bl (there rows g t)) J
theorem oI {cL f:Addr} {fd:FuncData} (F:bV K "there" "Log.there" fc f fd) (Z:bR mg) (KD_Log:du K mg "Log" cL) (NA_Log_rows:aA K cL "rows") (NA_Log_gone:aA K cL "gone") (C_less:a7 P w K mg base 1 "less" ["one","two"] cG):aI P w K mg base (cS P w) 2 f fd ["self","moment"] (dz K (rg cL)):=by
 simp_arith [jA]
 ·obtain ⟨p,r,rows,g,t,rfl,_⟩:=h;rfl
 obtain ⟨p,r,rows,g,t,rfl,b,hne,st,sl,sg,q⟩:=h
 have bo:=b.o
 have bl:=b.l
 obtain ⟨l,ls,rfl⟩:∃ l ls,rows=l :: ls:=List.exists_cons_of_ne_nil hne
 have sl':=(sl l (by simp)).m
 refine ⟨_,(ai (aK (i:=2) jA.nd rfl (Or.inl rfl) (aq au (aq au (aS KD_Log.cl NA_Log_rows (rv 0)) ag (fun _ _=>rfl)) ag (fun _ _=>rfl)))
   (ai (aU (bM (aR C_less B hr (by decide) rfl (af (rv 1) (af (rv 2) ah)))) (ak (aB f7)) aJ)
   (ak (aB (Ga (cK qG (aS KD_Log.cl NA_Log_gone (rv 0)) fi (L2.ax _)) (o7 (aR C_less B hr (by decide) rfl (af (rv 1) (af (aS KD_Log.cl NA_Log_gone (rv 0)) ah))))))))),?_⟩
 simp_arith! only [bK,bo,bl,Ep,Jp,ui,cG]
 refine ⟨st.mono (by decide),sl'.mono (by decide),?_⟩
 unfold there at q
 simp only [List.head?_cons] at q
 by_cases c:t < l.m
 ·rw [if_pos c]
  rw [decide_eq_true c] at q
  exact q
 ·rw [if_neg c]
  rw [decide_eq_false c] at q
  cases g with
  | none=>simpa [gv,EZ,CB,GK] using q
  | some u =>
   simp only [gv,oi,Bool.false_eq_true,if_false]
   simp only [GK] at q
   refine ⟨u,rfl,st.mono (by decide),(sg u rfl).mono (by decide),?_⟩
   simpa using q
abbrev eh:Stmt:=(L2.inClass (top 29) 6)
theorem m5:L2.aw ["self","moment"] ["self","moment"] (L2.aj eh):=dT
def rd (cL eN:Addr):cm:=fun xs J Q E=>∃ p r rows g t,xs=[.ref p,fr t]∧zX cL J p r rows g∧rows≠[]∧rows.length≤900∧Sz 900 t∧(∀ l∈rows,lF 900 l)∧(∀ q,g=some q→Sz 900 q)∧(there rows g t=true→∀ l,qk rows t=some l→Q l.V J)∧(there rows g t=false→E eN J)
theorem mZ {cL eN f:Addr} {fd:FuncData} (F:bV K "leg_at" "Log.leg_at" eh f fd) (Z:bR mg) (KD_Log:du K mg "Log" cL) (NA_Log_rows:aA K cL "rows") (O_NotThere:Own K mg "NotThere" eN) (m_Log_there:cX P w K mg base cL 2 "there" ["self","moment"] (rg cL))
  (C_last_by:a7 P w K mg base 2 "last_by" ["rows","moment"] rh):aI P w K mg base (cS P w) 3 f fd ["self","moment"] (dz K (rd cL eN)):=by
 simp_arith [m5]
 ·obtain ⟨p,r,rows,g,t,rfl,_⟩:=h;rfl
 obtain ⟨p,r,rows,g,t,rfl,b,hne,hl,st,sl,sg,q,qe⟩:=h
 have bo:=b.o
 have bl:=b.l
 refine ⟨_,(ai (aU (c4 (bM (bx (pl:=_) m_Log_there B hr (by decide) (rv 0) (af (rv 1) ah)))) (ak (dj O_NotThere rfl bW B.kn rfl (af bD ah))) aJ)
   (ak (aB (aq au (aS KD_Log.cl NA_Log_rows (rv 0)) (aR C_last_by B hr (by decide) rfl (af (aS KD_Log.cl NA_Log_rows (rv 0)) (af (rv 1) ah))) (fun _ _=>rfl))))),?_⟩
 simp_arith! only [bK,bo,bl,Ep]
 refine ⟨HA _ _,p,r,rows,g,t,rfl,b,hne,st,sl,sg,?_⟩
 simp_arith! only [bK,eK,bo,bl,Ep]
 cases hc:there rows g t with
 | false=>rw [if_pos rfl];exact qe hc
 | true =>
  rw [if_neg (by decide)]
  obtain ⟨l,h1,h2,h3,h4,h5⟩:=zK hc
  refine ⟨_,t,rows.map aP.V,rows.map aP.m,rfl,by simp_arith! only [bK,bl],by simp,by simpa using hl,?_,st.mono (by decide),?_,?_⟩
  ·intro i y m hy hm
   rw [List.getElem?_map] at hy hm
   cases e:rows[i]? with
   | none=>rw [e] at hy;cases hy
   | some z=>rw [e] at hy hm;cases hy;cases hm;exact ui _ _
  ·intro m hm
   obtain ⟨z,hz,rfl⟩:=List.mem_map.mp hm
   exact (sl z hz).m.mono (by decide)
  ·rw [List.length_map]
   simp_arith! only [bK,bl]
   refine ⟨l.V,?_,q hc l h1⟩
   have:((lb (rows.map aP.m) t rows.length:Nat):Int) - 1=((lb (rows.map aP.m) t rows.length - 1:Nat):Int):=by omega
   rw [this]
   exact Jh h5
abbrev fb:Stmt:=(L2.inClass (top 29) 2)
theorem pA:L2.aw ["self","moment"] ["self","moment"] (L2.aj fb):=dT
def rb (cL:Addr):cm:=fun xs J Q _=>∃ p r rows g t,xs=[.ref p,fr t]∧zX cL J p r rows g∧Q .non (put J p (.ins cL [("rows",.ref r),("gone",fr t)]))
theorem oH {cL f:Addr} {fd:FuncData} (F:bV K "leave" "Log.leave" fb f fd) (Z:bR mg) (KD_Log:du K mg "Log" cL) (NA_Log_gone:aA K cL "gone"):aI P w K mg base (cS P w) 1 f fd ["self","moment"] (dz K (rb cL)):=by
 simp_arith [pA]
 ·obtain ⟨p,r,rows,g,t,rfl,_⟩:=h;rfl
 obtain ⟨p,r,rows,g,t,rfl,b,q⟩:=h
 have bo:=b.o
 refine ⟨_,(ak (fj KD_Log.cl NA_Log_gone (rv 0) (rv 1))),?_⟩
 simp_arith! only [bK,bo,Cc]
 exact ⟨by decide,q⟩
theorem jK {l:aP} {t:Rat} (h:lF 900 l) (sm:Sz 900 t):Sz 3000 (l.at t):=by
 have s1:Sz 1801 (t - l.m):=sm.sub h.m
 have s2:Sz 1900 ((t - l.m) * (l.v:Rat)):=s1.mul h.v
 exact h.p.add s2
abbrev dP:Stmt:=(top 27)
theorem eR:L2.aw ["name","leg","other_name","other_leg","moment","place","other_place"] ["name","leg","other_name","other_leg","moment"] (L2.aj dP):=dT
def zt:cm:=fun xs J Q _=>∃ (n n':Str) (l l':aP) (t:Rat),xs=[.str n,l.V,.str n',l'.V,fr t]∧lF 900 l∧lF 900 l'∧Sz 900 t∧Q (.bl ((key t (n,l)).lt (key t (n',l')))) J
theorem kJ {f:Addr} {fd:FuncData} (F:bV K "lies_behind" "lies_behind" dP f fd) (Z:bR mg) (C_place_on:a7 P w K mg base 4 "place_on" ["leg","moment"] mn) (C_less:a7 P w K mg base 1 "less" ["one","two"] cG):aI P w K mg base (cS P w) 5 f fd ["name","leg","other_name","other_leg","moment"] (dz K zt):=by
 simp_arith [eR]
 ·obtain ⟨n,n',l,l',t,rfl,_⟩:=h;rfl
 obtain ⟨n,n',l,l',t,rfl,sl,sl',st,q⟩:=h
 refine ⟨_,(ai (aK (i:=5) eR.nd rfl (Or.inl rfl) (aR C_place_on B hr (by decide) rfl (af (rv 1) (af (rv 4) ah))))
   (ai (aK (i:=6) eR.nd rfl (Or.inl rfl) (aR C_place_on B hr (by decide) rfl (af (rv 3) (af (rv 4) ah))))
   (ai (aU (aD (ji hr.aT) (rv 5) (rv 6) (L2.ax _)) (ak (aB (aR C_less B hr (by decide) rfl (af (rv 5) (af (rv 6) ah))))) aJ)
   (ai (aU (aD (ji hr.aT) (aq au (rv 1) ag (fun _ _=>rfl)) (aq au (rv 3) ag (fun _ _=>rfl)) (L2.ax _)) (ak (aB (cK fv (aq au (rv 1) ag (fun _ _=>rfl)) (aq au (rv 3) ag (fun _ _=>rfl)) (L2.ax _)))) aJ)
   (ak (aB (cK sL (rv 0) (rv 2) (L2.ax _)))))))),?_⟩
 simp_all! only []
 refine ⟨l,t,rfl,sl.m,sl.p,st,sl.v,?_⟩
 simp_all! only []
 refine ⟨l',t,rfl,sl'.m,sl'.p,st,sl'.v,?_⟩
 have a1:=jK sl st
 have a2:=jK sl' st
 simp_all! only []
 unfold Ky.lt key at q
 dsimp only at q
 by_cases e:l.at t=l'.at t
 ·rw [if_pos e] at q
  rw [if_pos e]
  simp_all! only [kr]
  by_cases e2:l.v=l'.v
  ·rw [if_pos e2] at q
   rw [if_pos e2]
   simp_all! only []
   exact q
  ·rw [if_neg e2] at q
   rw [if_neg e2]
   simp_all! only [kr]
   exact q
 ·rw [if_neg e] at q
  rw [if_neg e]
  simp_all! only [cG]
  exact ⟨a1.mono (by decide),a2.mono (by decide),q⟩
abbrev fR:Stmt:=(top 41)
theorem dX:L2.aw ["legs","moment","names","name","at"] ["legs","moment"] (L2.aj fR):=dT
def bJ (fs:List (Str × aP)):List (Str × PV):=fs.map fun x=>(x.1,x.2.V)
def nR:cm:=fun xs J Q _=>∃ (D:Addr) (fs:List (Str × aP)) (ep:Nat) (t:Rat),xs=[.ref D,fr t]∧J D=some (.dct (bJ fs) ep)∧(fs.map (·.1)).Nodup∧fs.length≤100∧Sz 900 t∧(∀ x∈fs,lF 900 x.2)∧∀ p,J p=none→Q (.ref p) (put J p (.lst ((cZ t fs).map .str)))
theorem oK {f:Addr} {fd:FuncData} (F:bV K "in_order" "in_order" fR f fd) (Z:bR mg) (C_lies_behind:a7 P w K mg base 5 "lies_behind" ["name","leg","other_name","other_leg","moment"] zt):aI P w K mg base (cS P w) 6 f fd ["legs","moment"] (dz K nR):=by
 simp_arith [dX]
 ·obtain ⟨D,fs,ep,t,rfl,_⟩:=h;rfl
 obtain ⟨D,fs,ep,t,rfl,hD,hnd,hlen,st,sl,q⟩:=h
 refine ⟨_,(ai (aK (i:=2) dX.nd rfl (Or.inl rfl) (j4 ah))
   (ai (fN cy rfl (o_ (rv 0)) (bZ (i:=3) dX.nd rfl (Or.inl rfl)) (ai (aK (i:=4) dX.nd rfl (Or.inl rfl) (aM bQ rfl Z.len boot_len (af (rv 2) ah)))
   (ai (ju cy (dm (d3 (aD ik (rv 4) ag (L2.ax _)) (dk (bM (aR C_lies_behind B hr (by decide) rfl (af (rv 3) (af (aq dD (rv 0) (rv 3) (fun _ _=>rfl)) (af (aq au (rv 2) (aH dG (rv 4) ag) (fun _ _=>rfl)) (af (aq dD (rv 0) (aq au (rv 2) (aH dG (rv 4) ag) (fun _ _=>rfl)) (fun _ _=>rfl)) (af (rv 1) ah)))))))))) (ak (za (i:=4) dX.nd rfl (Or.inl rfl) ag xT)))
   (ak (bj (kB PySem.F.plainAttrs_list PySem.F.slot_list_insert PySem.F.type_list_insert jT (rv 2) (af (rv 4) (af (rv 3) ah))))))))
   (ak (aB (rv 2))))),?_⟩
 simp_all! only []
 intro r hr'
 have nDr:D≠r:=by intro e;subst e;rw [hD] at hr';cases hr'
 simp_all! only [ar nDr,hD]
 have hkv:(bJ fs).map (fun kv=>PV.str kv.1)=fs.map fun x=>PV.str x.1:=by unfold bJ;rw [List.map_map];rfl
 rw [hkv]
 obtain ⟨Inv,hInv⟩:∃ Inv:Nat→Sr→Hq→Prop,∀ i τ J',Inv i τ J'↔∃ (u3 u4:Option PV),τ=[some (.ref D),some (fr t),some (.ref r),u3,u4]∧J'=put J r (.lst ((cZ t (fs.take i)).map .str)):=⟨_,fun _ _ _=>Iff.rfl⟩
 refine iE Inv ((hInv _ _ _).mpr ⟨_,_,rfl,rfl⟩) (fun i τ J' h=>?_) ?_ ?_
 ·obtain ⟨_,_,_,rfl⟩:=(hInv _ _ _).mp h
  rw [ar nDr];exact hD
 ·intro i x τ J' hx hv
  obtain ⟨u3,u4,rfl,rfl⟩:=(hInv _ _ _).mp hv
  clear hv
  have hi:i < fs.length:=by have:=(List.getElem?_eq_some_iff.mp hx).1;simpa using this
  rw [List.getElem?_map,List.getElem?_eq_getElem hi] at hx
  cases hx
  rcases hfi:fs[i] with ⟨n,l⟩
  have hmem:(n,l)∈fs:=by rw [← hfi];exact List.getElem_mem hi
  have et:fs.take (i + 1)=fs.take i ++ [(n,l)]:=by rw [List.take_add_one,List.getElem?_eq_getElem hi,hfi];rfl
  have hndt:((fs.take (i + 1)).map (·.1)).Nodup:=by rw [List.map_take];exact hnd.sublist (List.take_sublist _ _)
  rw [et,List.map_append,List.map_cons,List.map_nil] at hndt
  obtain ⟨hnd1,hnew⟩:=fJ hndt
  obtain ⟨ys,hys⟩:∃ ys,dy ((fs.take i).map (key t))=ys:=⟨_,rfl⟩
  have srt:mL Ky.lt ys:=by rw [← hys];exact dW (by rw [c8];exact hnd1)
  have hyl:ys.length=i:=by rw [← hys,qK,List.length_map,List.length_take];omega
  have hym:∀ y∈ys,∃ l',(y.n,l')∈fs∧y=key t (y.n,l')∧y.n≠n:=fun y hy=>by
   rw [← hys,bq,List.mem_map] at hy
   obtain ⟨x',hx',rfl⟩:=hy
   exact ⟨x'.2,List.mem_of_mem_take hx',rfl,fun e=>hnew (List.mem_map.mpr ⟨x',hx',e⟩)⟩
  have eo:(cZ t (fs.take i)).map PV.str=ys.map fun y=>PV.str y.n:=by unfold cZ;rw [hys,List.map_map];rfl
  have en:(cZ t (fs.take (i + 1))).map PV.str=(lR Ky.lt (key t (n,l)) ys).map fun y=>PV.str y.n:=by
   unfold cZ;rw [et,List.map_append,List.map_cons,List.map_nil,gW,hys,List.map_map];rfl
  rw [eo]
  have hvn:iR (bJ fs) n=some l.V:=gJ (f:=aP.V) hnd hmem
  have sll:=sl _ hmem
  simp_all! only [av,List.length_map]
  refine ⟨fun m τ' J'=>m≤ys.length∧τ'=[some (.ref D),some (fr t),some (.ref r),some (.str n),some (.int (m:Nat))]∧J'=put J r (.lst (ys.map fun y=>PV.str y.n))∧∀ (j:Nat) y,m≤j→ys[j]?=some y→(key t (n,l)).lt y=true,⟨ys.length,Nat.le_refl _,rfl,rfl,fun j y hj e=>by rw [List.getElem?_eq_none hj] at e;cases e⟩,?_⟩
  rintro m τ' J' ⟨hm,rfl,rfl,hall⟩
  have fin:(∀ (j:Nat) y,j < m→ys[j]?=some y→y.lt (key t (n,l))=true)→Inv (i + 1) [some (.ref D),some (fr t),some (.ref r),some (.str n),some (.int (m:Nat))] (put J r (.lst ((ys.map fun y=>PV.str y.n).take m ++ .str n :: (ys.map fun y=>PV.str y.n).drop m))):=fun hlow=>by
   refine (hInv _ _ _).mpr ⟨_,_,rfl,?_⟩
   rw [en,← Ar hm hlow fun j y hj e=>Ky.EE (hall j y hj e),List.map_append,List.map_cons,List.map_take,List.map_drop]
   rfl
  simp_all! only [av,ar nDr,hD,hvn]
  by_cases c0:0 < m
  ·rw [if_pos (by omega)]
   obtain ⟨m',rfl⟩:∃ m',m=m' + 1:=⟨m - 1,by omega⟩
   obtain ⟨y,hy⟩:∃ y,ys[m']?=some y:=⟨_,List.getElem?_eq_getElem (by omega)⟩
   obtain ⟨l',hl',ey,ny⟩:=hym y (List.mem_of_getElem? hy)
   have ha:cI (ys.map fun y=>PV.str y.n) (((m' + 1:Nat):Int) - 1)=some (.str y.n):=by
    rw [show ((m' + 1:Nat):Int) - 1=((m':Nat):Int) by omega]
    exact a8 (by rw [List.getElem?_map,hy];rfl)
   have hvy:iR (bJ fs) y.n=some l'.V:=gJ (f:=aP.V) hnd hl'
   simp_all! only [ha,hvy]
   refine ⟨n,y.n,l,l',t,rfl,sll,sl _ hl',st,?_⟩
   rw [← ey]
   cases hc:(key t (n,l)).lt y with
   | true =>
    simp_all! only []
    refine ⟨_,fun τ'' J'' h=>⟨m',Nat.lt_succ_self _,h⟩,⟨by omega,?_,rfl,fun j z hj e=>?_⟩⟩
    ·rw [show ((m' + 1:Nat):Int) - 1=((m':Nat):Int) by omega]
    ·rcases Nat.lt_or_eq_of_le hj with h | h
     ·exact hall j z (by omega) e
     ·subst h;rw [hy] at e;cases e;exact hc
   | false =>
    simp_all! only [av]
    refine ⟨_,m' + 1,rfl,rfl,by rw [List.length_map];omega,aX (by rw [List.length_map];omega),by omega,?_⟩
    rw [dM]
    refine fin fun j z hj e=>?_
    have hyx:y.lt (key t (n,l))=true:=by
     rcases Ky.Gs (a:=y) (b:=key t (n,l)) ny with h | h
     ·exact h
     ·rw [hc] at h;cases h
    exact zx (lt:=Ky.lt) Ky.tr srt hy e (by omega) hyx
  ·rw [if_neg (by omega)]
   simp_all! only [av]
   refine ⟨_,m,rfl,rfl,by rw [List.length_map];omega,aX (by rw [List.length_map];omega),by omega,?_⟩
   rw [dM]
   exact fin fun j z hj e=>by omega
 ·intro τ J' hv
  obtain ⟨u3,u4,rfl,rfl⟩:=(hInv _ _ _).mp hv
  rw [List.length_map,List.take_length]
  simp_all! only []
  exact q r hr'
def lG (K:PySem.W.Frag) (mg:Str→Option Value):Prop:=∃ a:Addr,mg "NOUGHT"=some (.ref a)∧∀ H:Hp,fh K H a [.int 0,.int 1]
theorem wg {K:PySem.W.Frag} {h:Heap} {mg:Str→Option Value} (X:K.In h) (G:h.Ns mainGlobals mg) {a:Addr} {od:Option Addr} {n:Nat} {sl:Array (Option Value)} {t u:Tok}
  (e:PySem.W.nsIn K mainGlobals "NOUGHT"=some (some (.ref a))) (l:K.lookup a=some ⟨.type "tuple",od,.seq #[.int 0 t,.int 1 u] n,sl⟩):lG K mg :=
 ⟨a,PySem.W.mg_of X G e,fun _=>.inr ⟨_,_,_,l,rfl,rfl,(by show 2≤sizeLine;decide),.cons ⟨t,rfl⟩ (.cons ⟨u,rfl⟩ .nil)⟩⟩
structure Cf where
 n:Str
 a:Addr
 r:Addr
 w:List aP
 g:Option Rat
structure Ln where
 t:Rat
 d:Addr
 e:Nat
 o:Addr
 cs:List Cf
 row:List Str
def Cf.cur (c:Cf):aP:=c.w.getLast?.getD ⟨0,0,0⟩
def Ln.wG (L:Ln):List Cf:=L.cs.filter fun c=>c.g.isNone
def Ln.fs (L:Ln):List (Str × aP):=L.wG.map fun c=>(c.n,c.cur)
structure aV (cN cL:Addr) (J:Hq) (p:Addr) (L:Ln):Prop where
 ob:J p=some (.ins cN [("now",fr L.t),("logs",.ref L.d),("row",.ref L.o)])
 dc:J L.d=some (.dct (L.cs.map fun c=>(c.n,PV.ref c.a)) L.e)
 rw:J L.o=some (.lst (L.row.map .str))
 lg:∀ c∈L.cs,zX cL J c.a c.r c.w c.g
 ap:(L.cs.map Cf.r).Nodup
 ao:∀ c∈L.cs,c.r≠L.o
structure aQ (L:Ln):Prop where
 nd:(L.cs.map Cf.n).Nodup
 ne:∀ c∈L.cs,c.w≠[]
 le:∀ c∈L.cs,∀ l∈c.w,l.m≤L.t
 ck:∀ c∈L.cs,∀ l∈c.w,mH l
 len:∀ c∈L.cs,c.w.length≤200
 gz:∀ c∈L.cs,∀ q,c.g=some q→Sc fC MM q∧q≤L.t
 t0:0≤L.t
 ts:Sc fC MM L.t
 many:L.cs.length≤100
 rm:∀ n,n∈L.row↔n∈L.fs.map (·.1)
 rn:L.row.Nodup
 rl:L.row.length≤12
structure bU (L:Ln):Prop extends aQ L where
 row:L.row=cZ L.t L.fs
def Ln.own (L:Ln) (p a:Addr):Prop:=a=p∨a=L.d∨a=L.o∨∃ c∈L.cs,a=c.a∨a=c.r
structure Mv (J J':Hq) (S S':Addr→Prop):Prop where
 keep:∀ a o,J a=some o→¬ S a→J' a=some o
 own:∀ a,S' a→S a∨J a=none
 mono:∀ a,J' a=none→J a=none
theorem Mv.refl (J:Hq) (S:Addr→Prop):Mv J J S S:=⟨fun _ _ h _=>h,fun _ h=>.inl h,fun _ h=>h⟩
theorem Mv.trans {J J' J'':Hq} {S S' S'':Addr→Prop} (h:Mv J J' S S') (k:Mv J' J'' S' S''):Mv J J'' S S'':=by
 refine ⟨fun a o e n=>k.keep a o (h.keep a o e n) fun z=>?_,fun a z=>?_,fun a z=>h.mono a (k.mono a z)⟩
 ·rcases h.own a z with q | q
  ·exact n q
  ·rw [q] at e;cases e
 ·rcases k.own a z with q | q
  ·exact h.own a q
  ·exact .inr (h.mono a q)
theorem Mv.new {J:Hq} {S:Addr→Prop} {x:Addr} {o:HQ} (h:J x=none):Mv J (put J x o) S S:=by
 refine ⟨fun a u e _=>?_,fun _ z=>.inl z,fun a z=>?_⟩
 ·rw [ar (fun q=>by subst q;rw [h] at e;cases e)];exact e
 ·by_cases q:a=x
  ·subst q;rw [av] at z;cases z
  ·rw [ar q] at z;exact z
theorem Mv.we {J:Hq} {S:Addr→Prop} {x:Addr} {o:HQ} (h:J x=none):Mv J (put J x o) S (fun a=>S a∨a=x) :=
 ⟨(Mv.new (S:=S) h).keep,fun a z=>z.elim .inl fun e=>.inr (by rw [e];exact h),(Mv.new (S:=S) h).mono⟩
theorem aV.keep {cN cL:Addr} {J J':Hq} {p:Addr} {L:Ln} (h:aV cN cL J p L) (k:∀ a o,L.own p a→J a=some o→J' a=some o):aV cN cL J' p L :=
 ⟨k _ _ (.inl rfl) h.ob,k _ _ (.inr (.inl rfl)) h.dc,k _ _ (.inr (.inr (.inl rfl))) h.rw,fun c hc=>⟨k _ _ (.inr (.inr (.inr ⟨c,hc,.inl rfl⟩))) (h.lg c hc).o,k _ _ (.inr (.inr (.inr ⟨c,hc,.inr rfl⟩))) (h.lg c hc).l⟩,h.ap,h.ao⟩
theorem aV.some {cN cL:Addr} {J:Hq} {p:Addr} {L:Ln} (h:aV cN cL J p L) {a:Addr} (o:L.own p a):J a≠none:=by
 rcases o with rfl | rfl | rfl | ⟨c,hc,rfl | rfl⟩
 ·rw [h.ob];exact fun z=>nomatch z
 ·rw [h.dc];exact fun z=>nomatch z
 ·rw [h.rw];exact fun z=>nomatch z
 ·rw [(h.lg c hc).o];exact fun z=>nomatch z
 ·rw [(h.lg c hc).l];exact fun z=>nomatch z
theorem aV.fresh {cN cL:Addr} {J:Hq} {p x:Addr} {L:Ln} {o:HQ} (h:aV cN cL J p L) (hx:J x=none):aV cN cL (put J x o) p L :=
 h.keep fun a u ow e=>by rw [ar (fun q=>by subst q;rw [hx] at e;cases e)];exact e
theorem C7 {J:Hq} {a b C C':Addr} {fs gs:List (Str × PV)} (h:J a=Option.some (.ins C fs)) (k:J b=Option.some (.ins C' gs)) (n:fs.map (·.1)≠gs.map (·.1)):a≠b:=by
 intro e;subst e;rw [h] at k
 have:=HQ.ins.inj (Option.some.inj k)
 exact n (by rw [this.2])
theorem aV.AJ {cN cL:Addr} {J:Hq} {p:Addr} {L:Ln} (h:aV cN cL J p L):L.d≠p:=by intro e;have:=h.ob;rw [← e,h.dc] at this;cases this
theorem aV.AL {cN cL:Addr} {J:Hq} {p:Addr} {L:Ln} (h:aV cN cL J p L):L.o≠p:=by intro e;have:=h.ob;rw [← e,h.rw] at this;cases this
theorem aV.HG {cN cL:Addr} {J:Hq} {p:Addr} {L:Ln} (h:aV cN cL J p L):L.d≠L.o:=by intro e;have:=h.rw;rw [← e,h.dc] at this;cases this
theorem yn:([("rows":Str),("gone":Str)]:List Str)≠[("now":Str),("logs":Str),("row":Str)]:=by decide +kernel
theorem aV.GO {cN cL:Addr} {J:Hq} {p:Addr} {L:Ln} (h:aV cN cL J p L) {c:Cf} (hc:c∈L.cs):c.a≠p:=C7 (h.lg c hc).o h.ob yn
theorem aV.Er {cN cL:Addr} {J:Hq} {p:Addr} {L:Ln} (h:aV cN cL J p L) {c:Cf} (hc:c∈L.cs):c.r≠p:=by intro e;have:=h.ob;rw [← e,(h.lg c hc).l] at this;cases this
theorem aV.IP {cN cL:Addr} {J:Hq} {p:Addr} {L:Ln} (h:aV cN cL J p L) {c:Cf} (hc:c∈L.cs):c.a≠L.d:=by intro e;have:=h.dc;rw [← e,(h.lg c hc).o] at this;cases this
theorem aV.IQ {cN cL:Addr} {J:Hq} {p:Addr} {L:Ln} (h:aV cN cL J p L) {c:Cf} (hc:c∈L.cs):c.r≠L.d:=by intro e;have:=h.dc;rw [← e,(h.lg c hc).l] at this;cases this
theorem aV.HF {cN cL:Addr} {J:Hq} {p:Addr} {L:Ln} (h:aV cN cL J p L) {c:Cf} (hc:c∈L.cs):c.a≠L.o:=by intro e;have:=h.rw;rw [← e,(h.lg c hc).o] at this;cases this
theorem aV.Jq {cN cL:Addr} {J:Hq} {p:Addr} {L:Ln} (h:aV cN cL J p L) {c c':Cf} (hc:c∈L.cs) (hc':c'∈L.cs):c.a≠c'.r:=by intro e;have:=(h.lg c' hc').l;rw [← e,(h.lg c hc).o] at this;cases this
theorem aV.D4 {cN cL:Addr} {J:Hq} {p o':Addr} {L:Ln} {row:List Str} (h:aV cN cL J p L) (ho:J o'=Option.some (.lst (row.map .str))) (nc:∀ c∈L.cs,c.r≠o'):aV cN cL (put J p (.ins cN [("now",fr L.t),("logs",.ref L.d),("row",.ref o')])) p { L with o:=o',row:=row } :=
 ⟨av,by show put J p _ L.d=_;rw [ar h.AJ];exact h.dc,by show put J p _ o'=_;rw [ar (fun e=>by rw [e,h.ob] at ho;cases ho)];exact ho,
  fun c hc=>⟨by rw [ar (h.GO hc)];exact (h.lg c hc).o,by rw [ar (h.Er hc)];exact (h.lg c hc).l⟩,h.ap,nc⟩
theorem eG {J:Hq} {S S':Addr→Prop} {x:Addr} {o:HQ} (hx:S x) (hS:∀ a,S' a→S a∨J a=none):Mv J (put J x o) S S':=by
 refine ⟨fun a u e n=>?_,hS,fun a z=>?_⟩
 ·rw [ar (fun q=>by subst q;exact n hx)];exact e
 ·by_cases q:a=x
  ·subst q;rw [av] at z;cases z
  ·rw [ar q] at z;exact z
theorem aQ.CC {L:Ln} (h:aQ L):Sz 900 L.t:=(uo h.ts).mono (by decide)
theorem mH.Fs {l:aP} (h:mH l):lF 900 l:=⟨h.IM.mono (by decide),h.IU.mono (by decide),.small (by have:=h.v;omega) (by have:=h.v;omega)⟩
theorem Cf.fH {c:Cf} (h:c.w≠[]):c.w.getLast?=Option.some c.cur∧c.cur∈c.w:=by
 unfold Cf.cur
 rw [List.getLast?_eq_some_getLast h]
 exact ⟨rfl,List.getLast_mem h⟩
theorem aQ.Jo {L:Ln} (h:aQ L) {c:Cf} (hc:c∈L.cs):qk c.w L.t=Option.some c.cur:=by
 unfold qk
 rw [List.filter_eq_self.mpr fun l hl=>decide_eq_true (h.le c hc l hl)]
 exact (Cf.fH (h.ne c hc)).1
theorem aQ.there {L:Ln} (h:aQ L) {c:Cf} (hc:c∈L.cs) (hg:c.g=none):there c.w c.g L.t=true:=by
 obtain ⟨l,ls,e⟩:=List.exists_cons_of_ne_nil (h.ne c hc)
 have:=h.le c hc l (by rw [e];simp)
 rw [hg,e]
 unfold Ov.there
 simp only [List.head?_cons,GK,Bool.and_true]
 rw [decide_eq_false (Rat.not_lt.mpr this)];rfl
theorem Ln.cU {L:Ln} {c:Cf}:c∈L.wG↔c∈L.cs∧c.g=none:=by
 unfold Ln.wG
 rw [List.mem_filter]
 cases c.g <;> simp
theorem dS (L:Ln):L.fs.map (·.1)=L.wG.map Cf.n:=by unfold Ln.fs;rw [List.map_map];rfl
theorem aQ.Ek {L:Ln} (h:aQ L):(L.fs.map (·.1)).Nodup:=by
 rw [dS]
 unfold Ln.wG
 exact h.nd.sublist (List.Sublist.map _ List.filter_sublist)
theorem aQ.found {L:Ln} (h:aQ L) {n:Str} (hn:n∈L.row):∃ c∈L.cs,c.n=n∧c.g=none:=by
 have:=(h.rm n).mp hn
 rw [dS,List.mem_map] at this
 obtain ⟨c,hc,e⟩:=this
 exact ⟨c,(Ln.cU.mp hc).1,e,(Ln.cU.mp hc).2⟩
theorem aQ.va {L:Ln} (h:aQ L) {c:Cf} (hc:c∈L.cs):iR (L.cs.map fun c=>(c.n,PV.ref c.a)) c.n=Option.some (.ref c.a):=by
 have e:(L.cs.map fun c=>(c.n,PV.ref c.a))=((L.cs.map fun c=>(c.n,c.a)).map fun x=>(x.1,PV.ref x.2)):=by rw [List.map_map];rfl
 rw [e]
 exact gJ (f:=PV.ref) (by rw [List.map_map];exact h.nd) (List.mem_map.mpr ⟨c,hc,rfl⟩)
theorem aQ.Jx {L:Ln} (h:aQ L) {n:Str}:(iR (L.cs.map fun c=>(c.n,PV.ref c.a)) n).isSome=decide (n∈L.cs.map Cf.n):=by
 have e:(L.cs.map fun c=>(c.n,PV.ref c.a))=((L.cs.map fun c=>(c.n,c.a)).map fun x=>(x.1,PV.ref x.2)):=by rw [List.map_map];rfl
 rw [e,wZ (f:=PV.ref) (by rw [List.map_map];exact h.nd)]
 rw [List.map_map];rfl
theorem aQ.uniq {L:Ln} (h:aQ L) {c c':Cf} (hc:c∈L.cs) (hc':c'∈L.cs) (e:c.n=c'.n):c=c':=by
 obtain ⟨i,hi,rfl⟩:=List.getElem_of_mem hc
 obtain ⟨j,hj,rfl⟩:=List.getElem_of_mem hc'
 have:=(List.getElem_inj (xs:=L.cs.map Cf.n) (i:=i) (j:=j) (h₀:=by simpa using hi) (h₁:=by simpa using hj) h.nd).mp (by rw [List.getElem_map,List.getElem_map];exact e)
 subst this;rfl
theorem oy (a b c:PV):([("now",a),("logs",b),("row",c)]:List (Str × PV)).lookup ("now":Str)=Option.some a:=rfl
theorem v3 (a b c:PV):([("now",a),("logs",b),("row",c)]:List (Str × PV)).lookup ("logs":Str)=Option.some b:=rfl
theorem qp (a b c:PV):([("now",a),("logs",b),("row",c)]:List (Str × PV)).lookup ("row":Str)=Option.some c:=rfl
theorem f' (m:Str) (a b c:PV) (h:(m == ("now":Str))=false:=by decide +kernel) (k:(m == ("logs":Str))=false:=by decide +kernel) (l:(m == ("row":Str))=false:=by decide +kernel):([("now",a),("logs",b),("row",c)]:List (Str × PV)).lookup m=none:=by
 rw [List.lookup_cons,h];simp only;rw [List.lookup_cons,k];simp only;rw [List.lookup_cons,l];rfl
theorem Fv:(("now":Str)=("logs":Str))=False:=eq_false (by decide +kernel)
theorem Cb:(("now":Str)=("row":Str))=False:=eq_false (by decide +kernel)
theorem Ca:(("logs":Str)=("row":Str))=False:=eq_false (by decide +kernel)
theorem A_ (a b c z:PV):j1 ("row":Str) z ([("now",a),("logs",b),("row",c)]:List (Str × PV))=([("now",a),("logs",b),("row",z)]:List (Str × PV)):=by simp only [j1,Cb,Ca,if_false,if_true]
theorem D8 {J:Hq} {a:Addr} {xs:List PV} (h:J a=Option.some (.lst xs)):Eu J (.ref a)=Option.some xs:=by unfold Eu;simp only [h]
abbrev cV:Stmt:=(L2.inClass (top 42) 0)
theorem j7:L2.aw ["self"] ["self"] (L2.aj cV):=dT
def u_ (cN cL:Addr):cm:=fun xs J Q _=>∃ p,xs=[.ref p]∧J p=some (.ins cN [])∧∀ J' d e o,aV cN cL J' p ⟨0,d,e,o,[],[]⟩→Mv J J' (fun a=>a=p) (Ln.own ⟨0,d,e,o,[],[]⟩ p)→Q .non J'
theorem oE {cN cL f:Addr} {fd:FuncData} (F:bV K "__init__" "Lane.__init__" cV f fd) (N:lG K mg) (KD_Lane:du K mg "Lane" cN) (NA_Lane_now:aA K cN "now") (NA_Lane_logs:aA K cN "logs") (NA_Lane_row:aA K cN "row"):aI P w K mg base (cS P w) 1 f fd ["self"] (dz K (u_ cN cL)):=by
 simp_arith [j7]
 ·obtain ⟨p,rfl,_⟩:=h;rfl
 obtain ⟨p,rfl,hp,q⟩:=h
 obtain ⟨aN,gN,sN⟩:=N
 have rN:∀ (J:Hq) (H:Hp),bI K J H (fr 0) (.ref aN):=fun J H=>⟨aN,_,rfl,sN H,⟨_,_,rfl,rfl,_,_,rfl,rfl,rfl⟩⟩
 refine ⟨_,(ai (fj KD_Lane.cl NA_Lane_now (rv 0) (d7 (v:=.ref aN) (fr 0) rfl gN rfl rN))
   (ai (fj KD_Lane.cl NA_Lane_logs (rv 0) uJ)
   (ak (fj KD_Lane.cl NA_Lane_row (rv 0) (j4 ah))))),?_⟩
 simp_all! only [hp]
 refine ⟨by decide,?_⟩
 simp_all! only []
 intro d hd ep
 have AJ:d≠p:=by intro e;subst e;rw [av] at hd;cases hd
 simp_all! only [ar (Ne.symm AJ),av]
 simp only [Fv,if_false]
 refine ⟨by decide,fun o ho=>?_⟩
 have jd:J d=none:=by rw [ar AJ] at hd;exact hd
 have AL:o≠p:=by intro e;subst e;rw [av] at ho;cases ho
 have nod:o≠d:=by intro e;subst e;rw [ar AL,av] at ho;cases ho
 have jo:J o=none:=by rw [ar AL,ar nod,ar AL] at ho;exact ho
 refine ⟨_,by rw [ar (Ne.symm AL)];exact av,by show (2:Nat) < 1000;decide,?_⟩
 have pr:j1 ("row":Str) (PV.ref o) ([("now",fr 0),("logs",.ref d)]:List (Str × PV))=([("now",fr 0),("logs",.ref d),("row",.ref o)]:List (Str × PV)):=by simp only [j1,Cb,Ca,if_false]
 rw [pr]
 refine q _ d ep o ⟨av,by rw [ar AJ,ar (Ne.symm nod),ar AJ];exact av,by rw [ar AL];exact av,(by simp),(by simp),(by simp)⟩ ⟨fun a u e na=>?_,fun a ow=>?_,fun a z=>?_⟩
 ·have na1:a≠d:=fun z=>by subst z;rw [jd] at e;cases e
  have na2:a≠o:=fun z=>by subst z;rw [jo] at e;cases e
  rw [ar na,ar na2,ar na,ar na1,ar na];exact e
 ·rcases ow with rfl | rfl | rfl | ⟨c,hc,_⟩
  ·exact .inl rfl
  ·exact .inr jd
  ·exact .inr jo
  ·cases hc
 ·by_cases z1:a=p
  ·subst z1;rw [av] at z;cases z
  by_cases z2:a=o
  ·subst z2;exact jo
  by_cases z3:a=d
  ·subst z3;exact jd
  rw [ar z1,ar z2,ar z1,ar z3,ar z1] at z;exact z
abbrev bO:Stmt:=(L2.inClass (top 42) 22)
theorem gg:L2.aw ["self","name"] ["self","name"] (L2.aj bO):=dT
def lz (cN cL eC:Addr):cm:=fun xs J Q E=>∃ p L n,xs=[.ref p,.str n]∧aV cN cL J p L∧(n∈L.row→Q .non J)∧(n ∉ L.row→E eC J)
theorem gd {cN cL eC f:Addr} {fd:FuncData} (F:bV K "must_be_there" "Lane.must_be_there" bO f fd) (Z:bR mg) (KD_Lane:du K mg "Lane" cN) (NA_Lane_row:aA K cN "row") (O_NoCraft:Own K mg "NoCraft" eC):aI P w K mg base (cS P w) 1 f fd ["self","name"] (dz K (lz cN cL eC)):=by
 simp_arith [gg]
 ·obtain ⟨p,L,n,rfl,_⟩:=h;rfl
 obtain ⟨p,L,n,rfl,b,q,qe⟩:=h
 have bo:=b.ob
 refine ⟨_,(ak (aU (aD uv (rv 1) (aS KD_Lane.cl NA_Lane_row (rv 0)) (by with_unfolding_all rfl)) (ak (dj O_NoCraft rfl bW B.kn rfl (af bD ah))) aJ)),?_⟩
 simp_all! only [bo,qp,FH,D8 b.rw]
 refine ⟨L.row,rfl,?_⟩
 by_cases c:n∈L.row
 ·rw [if_pos (by simp [c])]
  exact q c
 ·rw [if_neg (by simp [c])]
  simp_all! only [eK]
  exact qe c
abbrev dN:Stmt:=(L2.inClass (top 42) 23)
theorem me:L2.aw ["self","name"] ["self","name"] (L2.aj dN):=dT
def jE (cN cL eC:Addr):cm:=fun xs J Q E=>∃ p L n,xs=[.ref p,.str n]∧aV cN cL J p L∧aQ L∧(∀ c∈L.cs,c.n=n→c.g=none→Q c.cur.V J)∧(n ∉ L.row→E eC J)
theorem lY {cN cL eC eN f:Addr} {fd:FuncData} (F:bV K "leg_of" "Lane.leg_of" dN f fd) (Z:bR mg) (KD_Lane:du K mg "Lane" cN) (NA_Lane_logs:aA K cN "logs") (NA_Lane_now:aA K cN "now") (m_Lane_must_be_there:cX P w K mg base cN 1 "must_be_there" ["self","name"] (lz cN cL eC)) (m_Log_leg_at:cX P w K mg base cL 3 "leg_at" ["self","moment"] (rd cL eN)) :
  aI P w K mg base (cS P w) 4 f fd ["self","name"] (dz K (jE cN cL eC)):=by
 simp_arith [me]
 ·obtain ⟨p,L,n,rfl,_⟩:=h;rfl
 obtain ⟨p,L,n,rfl,b,ok,q,qe⟩:=h
 have bo:=b.ob
 have bd:=b.dc
 refine ⟨_,(ai (bj (bx (pl:=_) m_Lane_must_be_there B hr (by decide) (rv 0) (af (rv 1) ah)))
   (ak (aB (bx (pl:=_) m_Log_leg_at B hr (by decide) (aq dD (aS KD_Lane.cl NA_Lane_logs (rv 0)) (rv 1) (fun _ _=>rfl)) (af (aS KD_Lane.cl NA_Lane_now (rv 0)) ah))))),?_⟩
 simp_all! only [bo]
 refine ⟨f' _ _ _ _,p,L,n,rfl,b,fun hn=>?_,qe⟩
 obtain ⟨c,hc,rfl,hg⟩:=ok.found hn
 have lo:=(b.lg c hc).o
 simp_all! only [bo,v3,bd,ok.va hc,lo]
 refine ⟨HB _ _,?_⟩
 simp_all! only [bo,oy]
 refine ⟨c.a,c.r,c.w,c.g,L.t,rfl,b.lg c hc,ok.ne c hc,Nat.le_trans (ok.len c hc) (by decide),ok.CC,fun l hl=>(ok.ck c hc l hl).Fs,fun q' hq=>(uo (ok.gz c hc q' hq).1).mono (by decide),fun _ l hl=>?_,fun z=>?_⟩
 ·rw [ok.Jo hc] at hl;cases hl
  exact q c hc rfl hg
 ·rw [ok.there hc hg] at z;cases z
abbrev cR:Stmt:=(L2.inClass (top 42) 24)
theorem mf:L2.aw ["self"] ["self"] (L2.aj cR):=dT
theorem yH {L:Ln} (ok:aQ L) {f:Str→aP} (hf:∀ c∈L.cs,c.g=none→f c.n=c.cur):cZ L.t (L.row.map fun n=>(n,f n))=cZ L.t L.fs:=by
 refine yG (by rw [List.map_map];show (L.row.map fun n=>n).Nodup;rw [List.map_id'];exact ok.rn) ok.Ek fun x=>?_
 rw [List.mem_map,List.mem_map]
 constructor
 ·rintro ⟨y,hy,rfl⟩
  obtain ⟨n,hn,rfl⟩:=List.mem_map.mp hy
  obtain ⟨c,hc,rfl,hg⟩:=ok.found hn
  exact ⟨(c.n,c.cur),List.mem_map.mpr ⟨c,Ln.cU.mpr ⟨hc,hg⟩,rfl⟩,by rw [hf c hc hg]⟩
 ·rintro ⟨y,hy,rfl⟩
  obtain ⟨c,hc,rfl⟩:=List.mem_map.mp hy
  obtain ⟨hc,hg⟩:=Ln.cU.mp hc
  refine ⟨(c.n,f c.n),List.mem_map.mpr ⟨c.n,(ok.rm c.n).mpr ?_,rfl⟩,by rw [hf c hc hg]⟩
  rw [dS];exact List.mem_map.mpr ⟨c,Ln.cU.mpr ⟨hc,hg⟩,rfl⟩
def Ln.ou (L:Ln) (n:Str):aP:=((L.cs.find? fun c=>decide (c.n=n)).map Cf.cur).getD ⟨0,0,0⟩
theorem aQ.ou {L:Ln} (ok:aQ L) {c:Cf} (hc:c∈L.cs):L.ou c.n=c.cur:=by
 unfold Ln.ou
 cases h:L.cs.find? fun d=>decide (d.n=c.n) with
 | none=>have:=List.find?_eq_none.mp h c hc;simp at this
 | some d =>
  have h1:=List.mem_of_find?_eq_some h
  have h2:d.n=c.n:=by simpa using List.find?_some h
  rw [ok.uniq h1 hc h2];rfl
def fB (cN cL:Addr):cm:=fun xs J Q E=>∃ p L,xs=[.ref p]∧aV cN cL J p L∧aQ L∧∀ J' o',aV cN cL J' p { L with o:=o',row:=cZ L.t L.fs }→Mv J J' (L.own p) (Ln.own { L with o:=o',row:=cZ L.t L.fs } p)→Q .non J'
theorem lZ {cN cL eC f:Addr} {fd:FuncData} (F:bV K "settle" "Lane.settle" cR f fd) (Z:bR mg) (KD_Lane:du K mg "Lane" cN) (NA_Lane_row:aA K cN "row") (NA_Lane_now:aA K cN "now") (m_Lane_leg_of:cX P w K mg base cN 4 "leg_of" ["self","name"] (jE cN cL eC)) (C_in_order:a7 P w K mg base 6 "in_order" ["legs","moment"] nR) :
  aI P w K mg base (cS P w) 7 f fd ["self"] (dz K (fB cN cL)):=by
 simp_arith [mf]
 ·obtain ⟨p,L,rfl,_⟩:=h;rfl
 obtain ⟨p,L,rfl,b,ok,q⟩:=h
 have bo:=b.ob
 have br:=b.rw
 refine ⟨_,(ak (fj KD_Lane.cl NA_Lane_row (rv 0) (aR C_in_order B hr (by decide) rfl (af (F_ (L2.aj cR) ["self"] [("self",0)] rfl rfl rfl (g8 (aS KD_Lane.cl NA_Lane_row (rv 0))) (fun _ _ _ _ _ _=>(rv 0)) (fun _ _ _ _ _ _=>(bx (pl:=_) m_Lane_leg_of Ha hr (by decide) (rv 1) (af (rv 0) ah)))) (af (aS KD_Lane.cl NA_Lane_now (rv 0)) ah))))),?_⟩
 simp_all! only [HZ,bo,qp,br]
 intro D hD ep
 have bf:∀ e2 kvs,aV cN cL (put J D (.dct kvs e2)) p L:=fun e2 kvs=>b.fresh hD
 have hrl:=ok.rl
 refine ⟨fun i J2=>∃ e2,J2=put J D (.dct (bJ ((L.row.take i).map fun n=>(n,L.ou n))) e2),⟨ep,rfl⟩,?_,?_,?_⟩
 ·rintro i J2 ⟨e2,rfl⟩;exact (bf e2 _).rw
 ·rintro i x J2 hx ⟨e2,rfl⟩
  have hi:i < L.row.length:=by have:=(List.getElem?_eq_some_iff.mp hx).1;simpa using this
  rw [List.getElem?_map,List.getElem?_eq_getElem hi] at hx
  cases hx
  have hn:L.row[i]∈L.row:=List.getElem_mem hi
  refine ⟨_,(bf e2 _).ob,f' _ _ _ _,p,L,L.row[i],rfl,bf e2 _,ok,fun c hc e hg=>?_,fun z=>absurd hn z⟩
  refine ⟨_,e2,L.row[i],rfl,av,aX (by simp only [bJ,List.length_map,List.length_take];omega),fun ep'=>⟨ep',?_⟩⟩
  rw [dM]
  congr 2
  have et:L.row.take (i + 1)=L.row.take i ++ [L.row[i]]:=by rw [List.take_add_one,List.getElem?_eq_getElem hi];rfl
  rw [et,List.map_append,List.map_cons,List.map_nil,← e,ok.ou hc]
  refine sW (f:=aP.V) (l:=c.cur) fun z=>?_
  rw [List.map_map] at z
  obtain ⟨m,hm,e3⟩:=List.mem_map.mp z
  have hnd:(L.row.take (i + 1)).Nodup:=ok.rn.sublist (List.take_sublist _ _)
  rw [et] at hnd
  exact (fJ hnd).2 (by rw [← e,← e3];exact hm)
 ·rintro J2 ⟨e2,rfl⟩
  rw [List.length_map,List.take_length]
  refine ⟨_,(bf e2 _).ob,_,oy _ _ _,D,_,e2,L.t,rfl,av,?_,by rw [List.length_map];omega,ok.CC,?_,fun o' ho'=>?_⟩
  ·rw [List.map_map];show (L.row.map fun n=>n).Nodup;rw [List.map_id'];exact ok.rn
  ·intro x hx
   obtain ⟨n,hn,rfl⟩:=List.mem_map.mp hx
   obtain ⟨c,hc,rfl,hg⟩:=ok.found hn
   show lF 900 (L.ou c.n)
   rw [ok.ou hc]
   exact (ok.ck c hc _ (Cf.fH (ok.ne c hc)).2).Fs
  ·rw [yH ok fun c hc _=>ok.ou hc]
   have b2:aV cN cL (put (put J D (.dct (bJ (L.row.map fun n=>(n,L.ou n))) e2)) o' (.lst ((cZ L.t L.fs).map .str))) p L:=(bf e2 _).fresh ho'
   have jo:J o'=none:=by
    by_cases z:o'=D
    ·subst z;exact hD
    ·rw [ar z] at ho';exact ho'
   refine ⟨_,b2.ob,by show (3:Nat) < 1000;decide,?_⟩
   rw [A_]
   refine q _ o' (b2.D4 av fun c hc e=>?_) ?_
   ·have:=(b.lg c hc).l;rw [e,jo] at this;cases this
   ·refine ((Mv.new hD).trans (Mv.we ho')).trans (eG (.inl (.inl rfl)) fun a ow=>.inl ?_)
    rcases ow with h | h | h | h
    ·exact .inl (.inl h)
    ·exact .inl (.inr (.inl h))
    ·exact .inr h
    ·exact .inl (.inr (.inr (.inr h)))
abbrev fe:Stmt:=(top 33)
theorem pB:L2.aw ["text"] ["text"] (L2.aj fe):=dT
def bP:Str:="abcdefghijklmnopqrstuvwxyz0123456789"
def good (y:Str):Bool:=decide (1≤y.cps.size) && decide (y.cps.size≤8) && y.cps.toList.all (c7 bP)
def zp (T:Addr):Sp:=fun vs H Q _=>∃ y:Str,vs=[.str y]∧y.length≤sizeLine∧H T=some (.ext (c_ T))∧Q (.bl (good y)) H
theorem oJ {T f c:Addr} {fd:FuncData} (F:zV K mg "good_name" fe T f fd c) (Z:w8 mg) (Bm:BMain mg base) {t_LONGEST t_SIGNS:Tok} (g_LONGEST:mg "LONGEST"=some (.int 8 t_LONGEST)) (g_SIGNS:mg "SIGNS"=some (.str "abcdefghijklmnopqrstuvwxyz0123456789" t_SIGNS)) :
  aI P w K mg base lD 1 f fd ["text"] (zp T):=by
 refine Jr F pB (fun vs H Q E h=>?_) (fun A outer s H vs Q E hr h=>?_)
 ·obtain ⟨y,rfl,_⟩:=h
  rfl
 obtain ⟨y,rfl,hz,hT,q⟩:=h
 refine ⟨_,(aO (jl (Ck (uC (cA uu (cQ iY rfl Z.len boot_len (aL (pv 0) a9)) aF (ax _)) (o4 (cA Ce (cQ iY rfl Z.len boot_len (aL (pv 0) a9)) (kY (v:=.int 8) rfl g_LONGEST ⟨_,rfl⟩) (ax _))))) (a_ (cJ qO)) d6)
   (a_ (cJ (yK rfl Bm rfl F.tab hr rfl Z.all g_SIGNS (pv 0))))),?_⟩
 have el:y.cps.size=y.length:=rfl
 refine ⟨_,rfl,y,rfl,hz,_,_,rfl,rfl,_,rfl,xZ (fun e=>?_) (fun e=>⟨_,rfl,y,rfl,hz,_,_,rfl,rfl,_,rfl,xZ (fun e2=>?_) (fun e2=>?_)⟩)⟩
 ·have e:(y.length:Int) < 1:=of_decide_eq_true e
  have z:good y=false:=by
   unfold good
   rw [decide_eq_false (show ¬ 1≤y.cps.size by omega)]
   rfl
  show Q (.bl false) H
  rw [← z]
  exact q
 ·have e2:(8:Int) < (y.length:Int):=of_decide_eq_true e2
  have z:good y=false:=by
   unfold good
   rw [decide_eq_false (show ¬ y.cps.size≤8 by omega),Bool.and_false]
   rfl
  show Q (.bl false) H
  rw [← z]
  exact q
 ·have e:¬ (y.length:Int) < 1:=of_decide_eq_false (Bool.eq_false_iff.mpr e)
  have e2:¬ (8:Int) < (y.length:Int):=of_decide_eq_false (Bool.eq_false_iff.mpr e2)
  have z:good y=y.cps.toList.all (c7 bP):=by
   unfold good
   rw [decide_eq_true (show 1≤y.cps.size by omega),decide_eq_true (show y.cps.size≤8 by omega)]
   rfl
  refine ⟨_,rfl,y,rfl,hT,?_⟩
  show Q (.bl (y.cps.toList.all (c7 bP))) H
  rw [← z]
  exact q
def uV (T:Addr):cm:=fun xs J Q _=>∃ y:Str,xs=[.str y]∧y.length≤sizeLine∧J T=some .tab∧Q (.bl (good y)) J
theorem lW {T:Addr} (C:mE P w K mg base 1 "good_name" ["text"] (zp T)):a7 P w K mg base 1 "good_name" ["text"] (uV T):=C.lift fun xs J vs H Q2 E2 Q E rs r ⟨y,ex,hl,hT,q⟩ kn=>by
 subst ex
 obtain ⟨v,rfl,r1⟩:=Dy rs
 cases r1
 exact ⟨y,rfl,hl,r _ _ hT,kn (.bl _) J _ H rfl r .refl q⟩
theorem t6 (L:Ln) {L':Ln} {c:Cf} (h:L'.cs=L.cs ++ [c]) (hg:c.g=none):L'.fs=L.fs ++ [(c.n,c.cur)]:=by
 unfold Ln.fs Ln.wG
 rw [h,List.filter_append,List.map_append]
 simp [hg]
def Ln.joined (L:Ln) (n:Str) (x v:Int) (L':Ln):Prop:=∃ a r,L'.cs=L.cs ++ [⟨n,a,r,[⟨L.t,(x:Rat),v⟩],none⟩]∧L'.t=L.t
def Em (x v:Int):Prop:=x.natAbs≤1000000∧v.natAbs≤1000
def vb (cN cL T eB eF eT eU:Addr):cm:=fun xs J Q E=>∃ p L n x v,xs=[.ref p,.str n,.int x,.int v]∧aV cN cL J p L∧bU L∧J T=some .tab∧n.length≤sizeLine∧L.cs.length < 100∧(good n=false→E eB J)∧(good n=true→¬ Em x v→E eF J) ∧
 (good n=true→Em x v→n∈L.cs.map Cf.n→E eT J)∧(good n=true→Em x v→n ∉ L.cs.map Cf.n→12≤L.row.length→E eU J) ∧
 (good n=true→Em x v→n ∉ L.cs.map Cf.n→L.row.length < 12→∀ J' L',aV cN cL J' p L'→bU L'→L.joined n x v L'→Mv J J' (L.own p) (L'.own p)→Q .non J')
abbrev e9:Stmt:=(L2.inClass (top 42) 1)
theorem pw:L2.aw ["self","name","place","pace"] ["self","name","place","pace"] (L2.aj e9):=dT
theorem aV.add {cN cL:Addr} {J:Hq} {p:Addr} {L:Ln} {c:Cf} {ep:Nat} (h:aV cN cL J p L) (hc:zX cL J c.a c.r c.w c.g) (h1:c.r ∉ L.cs.map Cf.r) (h2:c.r≠L.o) :
  aV cN cL (put (put J L.d (.dct ((L.cs ++ [c]).map fun c=>(c.n,PV.ref c.a)) ep)) L.o (.lst ((L.row ++ [c.n]).map .str))) p ⟨L.t,L.d,ep,L.o,L.cs ++ [c],L.row ++ [c.n]⟩:=by
 have n1:c.a≠L.d:=by intro e;have:=h.dc;rw [← e,hc.o] at this;cases this
 have n2:c.a≠L.o:=by intro e;have:=h.rw;rw [← e,hc.o] at this;cases this
 have n3:c.r≠L.d:=by intro e;have:=h.dc;rw [← e,hc.l] at this;cases this
 refine ⟨?_,?_,av,fun x hx=>?_,?_,fun x hx=>?_⟩
 ·rw [ar (Ne.symm h.AL),ar (Ne.symm h.AJ)];exact h.ob
 ·show put (put J L.d _) L.o _ L.d=_
  rw [ar h.HG];exact av
 ·rcases List.mem_append.mp hx with hx | hx
  ·exact ⟨by rw [ar (h.HF hx),ar (h.IP hx)];exact (h.lg x hx).o,by rw [ar (h.ao x hx),ar (h.IQ hx)];exact (h.lg x hx).l⟩
  ·rw [List.mem_singleton] at hx;subst hx
   exact ⟨by rw [ar n2,ar n1];exact hc.o,by rw [ar h2,ar n3];exact hc.l⟩
 ·show ((L.cs ++ [c]).map Cf.r).Nodup
  rw [List.map_append,List.map_cons,List.map_nil,List.nodup_append]
  exact ⟨h.ap,by simp,fun x hx y hy e=>by rw [List.mem_singleton] at hy;subst hy;subst e;exact h1 hx⟩
 ·show x.r≠L.o
  rcases List.mem_append.mp hx with hx | hx
  ·exact h.ao x hx
  ·rw [List.mem_singleton] at hx;subst hx;exact h2
theorem aQ.add {L:Ln} (h:aQ L) {c:Cf} {l:aP} {ep:Nat} (hw:c.w=[l]) (hg:c.g=none) (hl:mH l) (hm:l.m=L.t) (hn:c.n ∉ L.cs.map Cf.n) (hr:L.row.length < 12) (hs:L.cs.length < 100):aQ ⟨L.t,L.d,ep,L.o,L.cs ++ [c],L.row ++ [c.n]⟩:=by
 have hf:Ln.fs ⟨L.t,L.d,ep,L.o,L.cs ++ [c],L.row ++ [c.n]⟩=L.fs ++ [(c.n,c.cur)]:=t6 L rfl hg
 have all:∀ {P:Cf→Prop},(∀ x∈L.cs,P x)→P c→∀ x∈L.cs ++ [c],P x:=fun h1 h2 x hx=>by
  rcases List.mem_append.mp hx with hx | hx
  ·exact h1 x hx
  ·rw [List.mem_singleton] at hx;subst hx;exact h2
 refine ⟨?_,all h.ne (by rw [hw];simp),all h.le (by rw [hw];simp [hm]),all h.ck (by rw [hw];simpa using hl),all h.len (by rw [hw];show (1:Nat)≤200;decide),all h.gz (by rw [hg];intro q e;cases e),h.t0,h.ts,by show (L.cs ++ [c]).length≤100;rw [List.length_append];simp;omega,fun n=>?_,?_,by show (L.row ++ [c.n]).length≤12;rw [List.length_append];simp;omega⟩
 ·show ((L.cs ++ [c]).map Cf.n).Nodup
  rw [List.map_append,List.map_cons,List.map_nil,List.nodup_append]
  exact ⟨h.nd,by simp,fun x hx y hy e=>by rw [List.mem_singleton] at hy;subst hy;subst e;exact hn hx⟩
 ·rw [hf,List.map_append,List.mem_append,List.mem_append,h.rm n];simp
 ·show (L.row ++ [c.n]).Nodup
  rw [List.nodup_append]
  refine ⟨h.rn,by simp,fun x hx y hy e=>?_⟩
  rw [List.mem_singleton] at hy
  rw [e,hy] at hx
  have:=(h.rm _).mp hx
  rw [dS,List.mem_map] at this
  obtain ⟨d,hd,e⟩:=this
  exact hn (List.mem_map.mpr ⟨d,(Ln.cU.mp hd).1,e⟩)
theorem bU.settled {L:Ln} (h:aQ L) (o':Addr):bU { L with o:=o',row:=cZ L.t L.fs }:=by
 have hl:(cZ L.t L.fs).length≤12:=by
  have h1:(cZ L.t L.fs).Perm L.row:=(List.perm_ext_iff_of_nodup (l3 h.Ek) h.rn).mpr fun n=>by rw [qN];exact (h.rm n).symm
  rw [h1.length_eq];exact h.rl
 exact ⟨⟨h.nd,h.ne,h.le,h.ck,h.len,h.gz,h.t0,h.ts,h.many,fun n=>qN,l3 h.Ek,hl⟩,rfl⟩
theorem oF {cN cL T eB eF eT eU f:Addr} {fd:FuncData} (F:bV K "join" "Lane.join" e9 f fd) (Z:bR mg) (KD_Lane:du K mg "Lane" cN) (NA_Lane_row:aA K cN "row") (NA_Lane_now:aA K cN "now") (NA_Lane_logs:aA K cN "logs") {t_FARTHEST t_FASTEST t_MOST:Tok} (g_FARTHEST:mg "FARTHEST"=some (.int 1000000 t_FARTHEST)) (g_FASTEST:mg "FASTEST"=some (.int 1000 t_FASTEST)) (g_MOST:mg "MOST"=some (.int 12 t_MOST))
  (O_BadName:Own K mg "BadName" eB) (O_TooFar:Own K mg "TooFar" eF) (O_Taken:Own K mg "Taken" eT) (O_Full:Own K mg "Full" eU) (C_good_name:a7 P w K mg base 1 "good_name" ["text"] (uV T)) (M_Log:vC P w K mg base cL 1 "Log" ["self","moment","place","pace"] (uW cL)) (m_Lane_settle:cX P w K mg base cN 7 "settle" ["self"] (fB cN cL)) :
  aI P w K mg base (cS P w) 8 f fd ["self","name","place","pace"] (dz K (vb cN cL T eB eF eT eU)):=by
 simp_arith [pw]
 ·obtain ⟨p,L,n,x,v,rfl,_⟩:=h;rfl
 obtain ⟨p,L,n,x,v,rfl,b,ok,hT,hnl,hcs,qb,qf,qt,qu,q⟩:=h
 have bo:=b.ob
 have bd:=b.dc
 have br:=b.rw
 refine ⟨_,(ai (aU (c4 (bM (aR C_good_name B hr (by decide) rfl (af (rv 1) ah)))) (ak (dj O_BadName rfl bW B.kn rfl (af bD ah))) aJ)
   (ai (aU (dm (kC (aD ik (aM rX rfl Z.abs boot_abs (af (rv 2) ah)) (d7 (v:=.int 1000000) (.int 1000000) rfl g_FARTHEST ⟨_,rfl⟩ (fun _ _=>rfl)) (L2.ax _)) (gF (aD ik (aM rX rfl Z.abs boot_abs (af (rv 3) ah)) (d7 (v:=.int 1000) (.int 1000) rfl g_FASTEST ⟨_,rfl⟩ (fun _ _=>rfl)) (L2.ax _))))) (ak (dj O_TooFar rfl bW B.kn rfl (af bD ah))) aJ)
   (ai (aU (aD DD (rv 1) (aS KD_Lane.cl NA_Lane_logs (rv 0)) (by with_unfolding_all rfl)) (ak (dj O_Taken rfl bW B.kn rfl (af bD ah))) aJ)
   (ai (aU (aD yB (aM bQ rfl Z.len boot_len (af (aS KD_Lane.cl NA_Lane_row (rv 0)) ah)) (d7 (v:=.int 12) (.int 12) rfl g_MOST ⟨_,rfl⟩ (fun _ _=>rfl)) (L2.ax _)) (ak (dj O_Full rfl bW B.kn rfl (af bD ah))) aJ)
   (ai (pd lA (aS KD_Lane.cl NA_Lane_logs (rv 0)) (rv 1) (Bs M_Log B hr (by decide) rfl (af (aS KD_Lane.cl NA_Lane_now (rv 0)) (af (cv (af (rv 2) (af ag ah))) (af (rv 3) ah)))))
   (ai (bj (kB PySem.F.plainAttrs_list PySem.F.slot_list_append PySem.F.type_list_append jS (aS KD_Lane.cl NA_Lane_row (rv 0)) (af (rv 1) ah)))
   (ak (bj (fA (pl:=_) m_Lane_settle B hr (by decide) (rv 0)))))))))),?_⟩
 simp_all! only []
 refine ⟨n,rfl,hnl,hT,?_⟩
 cases hg:good n with
 | false =>
  simp_all! only [eK]
  exact qb hg
 | true =>
 simp_all! only []
 by_cases hB:Em x v
 ·obtain ⟨hx,hv⟩:=id hB
  rw [if_neg (by split <;> omega),if_neg (by split <;> omega)]
  simp_all! only [bo,v3,bd,ok.Jx]
  by_cases hm:n∈L.cs.map Cf.n
  ·rw [if_pos hm]
   simp_all! only [eK]
   exact qt hg hB hm
  rw [if_neg hm]
  simp_all! only [bo,qp,br,List.length_map]
  by_cases hr12:12≤L.row.length
  ·rw [if_pos (by omega)]
   simp_all! only [eK]
   exact qu hg hB hm hr12
  rw [if_neg (by omega)]
  simp_all! only [bo,oy]
  intro a ha
  refine ⟨a,⟨L.t,(x:Rat),v⟩,rfl,av,fun r hr'=>?_⟩
  have nra:r≠a:=by intro e;subst e;rw [av] at hr';cases hr'
  have jr:J r=none:=by rw [ar nra] at hr';exact hr'
  have b1:aV cN cL (put (put (put J a (.ins cL [])) r (.lst [(aP.mk L.t (x:Rat) v).V])) a (.ins cL [("rows",.ref r),("gone",.non)])) p L:=b.keep fun c u ow e=>by
   have n1:c≠a:=fun z=>by subst z;rw [ha] at e;cases e
   have n2:c≠r:=fun z=>by subst z;rw [jr] at e;cases e
   rw [ar n1,ar n2,ar n1];exact e
  have l1:zX cL (put (put (put J a (.ins cL [])) r (.lst [(aP.mk L.t (x:Rat) v).V])) a (.ins cL [("rows",.ref r),("gone",.non)])) a r [⟨L.t,(x:Rat),v⟩] none:=⟨av,by rw [ar nra];exact av⟩
  have mv1:Mv J (put (put (put J a (.ins cL [])) r (.lst [(aP.mk L.t (x:Rat) v).V])) a (.ins cL [("rows",.ref r),("gone",.non)])) (L.own p) (fun c=>(L.own p c∨c=a)∨c=r) :=
   ((Mv.we ha).trans (Mv.we hr')).trans (eG (.inl (.inr rfl)) fun c h=>.inl h)
  generalize (put (put (put J a (.ins cL [])) r (.lst [(aP.mk L.t (x:Rat) v).V])) a (.ins cL [("rows",.ref r),("gone",.non)]))=J1 at b1 l1 mv1 ⊢
  have bo1:=b1.ob
  have bd1:=b1.dc
  simp_all! only [bo1,v3,bd1]
  refine ⟨aX (by rw [List.length_map];omega),fun ep'=>?_⟩
  have epu:oY (L.cs.map fun c=>(c.n,PV.ref c.a)) n (PV.ref a)=(L.cs ++ [Cf.mk n a r [⟨L.t,(x:Rat),v⟩] none]).map fun c=>(c.n,PV.ref c.a):=by
   have e:(L.cs.map fun c=>(c.n,PV.ref c.a))=((L.cs.map fun c=>(c.n,c.a)).map fun x=>(x.1,PV.ref x.2)):=by rw [List.map_map];rfl
   rw [e,sW (f:=PV.ref) (l:=a) (by rw [List.map_map];exact hm),List.map_append,List.map_append,List.map_map];rfl
  rw [epu]
  have hrs:r ∉ L.cs.map Cf.r:=fun h=>by
   obtain ⟨c,hc,e⟩:=List.mem_map.mp h
   have:=(b.lg c hc).l;rw [e,jr] at this;cases this
  have hro:r≠L.o:=fun e=>by have:=b.rw;rw [← e,jr] at this;cases this
  have b2:=b1.add (c:=Cf.mk n a r [⟨L.t,(x:Rat),v⟩] none) (ep:=ep') l1 hrs hro
  have ok2:aQ ⟨L.t,L.d,ep',L.o,L.cs ++ [Cf.mk n a r [⟨L.t,(x:Rat),v⟩] none],L.row ++ [n]⟩:=ok.toaQ.add (c:=Cf.mk n a r [⟨L.t,(x:Rat),v⟩] none) rfl rfl (mH.new ok.t0 ok.ts hx hv) rfl hm (by omega) hcs
  have bo2:(put J1 L.d (HQ.dct ((L.cs ++ [Cf.mk n a r [⟨L.t,(x:Rat),v⟩] none]).map fun c=>(c.n,PV.ref c.a)) ep')) p=some (.ins cN [("now",fr L.t),("logs",.ref L.d),("row",.ref L.o)]):=by rw [ar (Ne.symm b1.AJ)];exact b1.ob
  have br2:(put J1 L.d (HQ.dct ((L.cs ++ [Cf.mk n a r [⟨L.t,(x:Rat),v⟩] none]).map fun c=>(c.n,PV.ref c.a)) ep')) L.o=some (.lst (L.row.map .str)):=by rw [ar (Ne.symm b1.HG)];exact b1.rw
  have mv2:Mv J1 (put (put J1 L.d (HQ.dct ((L.cs ++ [Cf.mk n a r [⟨L.t,(x:Rat),v⟩] none]).map fun c=>(c.n,PV.ref c.a)) ep')) L.o (.lst ((L.row ++ [n]).map .str))) (fun c=>(L.own p c∨c=a)∨c=r) (Ln.own ⟨L.t,L.d,ep',L.o,L.cs ++ [Cf.mk n a r [⟨L.t,(x:Rat),v⟩] none],L.row ++ [n]⟩ p):=by
   refine (eG (S':=fun c=>(L.own p c∨c=a)∨c=r) (.inl (.inl (.inr (.inl rfl)))) fun c h=>.inl h).trans (eG (.inl (.inl (.inr (.inr (.inl rfl))))) fun c h=>.inl ?_)
   rcases h with h | h | h | ⟨d,hd,h⟩
   ·exact .inl (.inl (.inl h))
   ·exact .inl (.inl (.inr (.inl h)))
   ·exact .inl (.inl (.inr (.inr (.inl h))))
   ·rcases List.mem_append.mp hd with hd | hd
    ·exact .inl (.inl (.inr (.inr (.inr ⟨d,hd,h⟩))))
    ·rw [List.mem_singleton] at hd;subst hd
     rcases h with h | h
     ·exact .inl (.inr h)
     ·exact .inr h
  have mv3:=mv1.trans mv2
  simp_all! only [bo2,qp,br2]
  refine ⟨aX (by rw [List.length_map];omega),?_⟩
  rw [show L.row.map PV.str ++ [PV.str n]=(L.row ++ [n]).map .str by rw [List.map_append];rfl]
  have bo3:=b2.ob
  generalize (put (put J1 L.d (HQ.dct ((L.cs ++ [Cf.mk n a r [⟨L.t,(x:Rat),v⟩] none]).map fun c=>(c.n,PV.ref c.a)) ep')) L.o (.lst ((L.row ++ [n]).map .str)))=J2 at b2 mv3 bo3 ⊢
  simp_all! only [bo3]
  refine ⟨f' _ _ _ _,p,_,rfl,b2,ok2,fun J' o' b' mv'=>?_⟩
  exact q hg hB hm (by omega) J' _ b' (bU.settled ok2 o') ⟨a,r,rfl,rfl⟩ (mv3.trans mv')
 ·have hf:=qf hg hB
  by_cases h1:x.natAbs≤1000000
  ·have h2:¬ v.natAbs≤1000:=fun h=>hB ⟨h1,h⟩
   rw [if_neg (by split <;> omega),if_pos (by split <;> omega)]
   simp_all! only [eK]
   exact hf
  ·rw [if_pos (by split <;> omega)]
   simp_all! only [eK]
   exact hf
def ay.v (b:ay):PV:=.tup [fr b.m,.str b.h,.str b.f]
theorem x4 (J:Hq) (b:ay):dJ J b.v (.int 0)=some (fr b.m):=cO _ _
theorem x5 (J:Hq) (b:ay):dJ J b.v (.int 1)=some (.str b.h):=d5 _ _ _
theorem x6 (J:Hq) (b:ay):dJ J b.v (.int 2)=some (.str b.f):=ij _ _ _ _
theorem Ip (J:Hq) (b:ay):vt J b.v=some "tuple":=rfl
theorem E9 (J:Hq) (b:ay):ql J b.v=some 3:=rfl
theorem Cj (b:ay):j0 b.v=true:=by simp [ay.v,Bh,wI,yU,sX,uB]
theorem G' (b:ay):CP b.v=True:=eq_true ⟨Cj b,by simp [ay.v,fr,fz,gB,dep,dw]⟩
theorem Hc (a b:ay):eqQ a.v b.v=decide (a=b):=by
 unfold ay.v
 rw [oe,cP,cP,cP,kR,tX,eq_str,eq_str,Bool.and_true,← Bool.decide_and,← Bool.decide_and]
 apply decide_eq_decide.mpr
 cases a;cases b
 simp [ay.mk.injEq]
theorem CD (a:Rat) (h f:Str):PV.tup [fr a,.str h,.str f]=(ay.mk a h f).v:=rfl
theorem xw (J:Hq) (b:ay):∃ xs,b.v=.tup xs∧¬ (HT.c9 xs.length 0 (some 1)=0∧HT.c9 xs.length xs.length none=xs.length)∧kG xs (some 1) none=[b.h,b.f].map .str:=⟨_,rfl,fun h=>absurd h.1 (show HT.c9 3 0 (some 1)≠0 by decide),rfl⟩
abbrev dQ:Stmt:=(top 21)
theorem mh:L2.aw ["one","other"] ["one","other"] (L2.aj dQ):=dT
def pJ:cm:=fun xs J Q _=>∃ a b:ay,xs=[a.v,b.v]∧Sz 9000 a.m∧Sz 9000 b.m∧Q (.bl (a.lt b)) J
theorem Hv (a b c d:Str):iF [a,b] [c,d]=if a=c then decide (slt b d) else decide (slt a c):=by
 rw [jR]
 by_cases h:a=c
 ·rw [if_pos h,if_pos h,jR]
  by_cases k:b=d
  ·rw [if_pos k,jc];subst k;exact (decide_eq_false (by unfold slt;exact List.lt_irrefl _)).symm
  ·rw [if_neg k];rfl
 ·rw [if_neg h,if_neg h];rfl
theorem kK {f:Addr} {fd:FuncData} (F:bV K "rings_ahead" "rings_ahead" dQ f fd) (Z:bR mg) (C_less:a7 P w K mg base 1 "less" ["one","two"] cG):aI P w K mg base (cS P w) 2 f fd ["one","other"] (dz K pJ):=by
 simp_arith [mh]
 ·obtain ⟨a,b,rfl,_⟩:=h;rfl
 obtain ⟨a,b,rfl,sa,sb,q⟩:=h
 refine ⟨_,(ai (aU (aD (ji hr.aT) (aq au (rv 0) ag (fun _ _=>rfl)) (aq au (rv 1) ag (fun _ _=>rfl)) (L2.ax _)) (ak (aB (aR C_less B hr (by decide) rfl (af (aq au (rv 0) ag (fun _ _=>rfl)) (af (aq au (rv 1) ag (fun _ _=>rfl)) ah))))) aJ)
   (ak (aB (cK (AX hr.Ef) (jq tG (rv 0) (k8 ag) k7) (jq tG (rv 1) (k8 ag) k7) (L2.ax _))))),?_⟩
 simp_arith! only [bK,x4,x5,x6,cG,Cm]
 unfold ay.lt at q
 by_cases e:a.m=b.m
 ·rw [if_pos e] at q ⊢
  obtain ⟨xs,h1,h2,h3⟩:=xw J a
  obtain ⟨ys,h4,h5,h6⟩:=xw J b
  exact ⟨xs,h1,h2,ys,h4,h5,[a.h,a.f],h3,[b.h,b.f],h6,by rw [Hv];exact q⟩
 ·rw [if_neg e] at q ⊢
  exact ⟨sa,sb,q⟩
theorem Fn (v:PV):([("rows",v)]:List (Str × PV)).lookup ("rows":Str)=some v:=rfl
theorem Dp {m:Str} (v:PV) (h:(m == ("rows":Str))=false):([("rows",v)]:List (Str × PV)).lookup m=none:=by rw [List.lookup_cons,h];rfl
theorem Hw (v:PV):([("rows",v)]:List (Str × PV)).lookup ("drop":Str)=none:=Dp v (by decide +kernel)
theorem Hx (v:PV):([("rows",v)]:List (Str × PV)).lookup ("put":Str)=none:=Dp v (by decide +kernel)
theorem Hy (v:PV):([("rows",v)]:List (Str × PV)).lookup ("told":Str)=none:=Dp v (by decide +kernel)
theorem Bi {J:Hq} {r p:Addr} {a b c:HQ} (h:r≠p):put (put (put J r a) p b) r c=put (put J r c) p b:=by
 rw [yV (Ne.symm h),dM]
structure zT (cB:Addr) (J:Hq) (p r:Addr) (rows:List ay):Prop where
 o:J p=some (.ins cB [("rows",.ref r)])
 l:J r=some (.lst (rows.map ay.v))
theorem zT.ne {cB:Addr} {J:Hq} {p r:Addr} {rows:List ay} (h:zT cB J p r rows):r≠p:=by
 intro e;subst e;have:=h.o;rw [h.l] at this;cases this
abbrev cD:Stmt:=(L2.inClass (top 22) 0)
theorem jz:L2.aw ["self"] ["self"] (L2.aj cD):=dT
def uQ (cB:Addr):cm:=fun xs J Q _=>∃ p,xs=[.ref p]∧J p=some (.ins cB [])∧∀ r,J r=none→Q .non (put (put J r (.lst [])) p (.ins cB [("rows",.ref r)]))
theorem mS {cB f:Addr} {fd:FuncData} (F:bV K "__init__" "Bells.__init__" cD f fd) (KD_Bells:du K mg "Bells" cB) (NA_Bells_rows:aA K cB "rows"):aI P w K mg base (cS P w) 1 f fd ["self"] (dz K (uQ cB)):=by
 simp_arith [jz]
 ·obtain ⟨p,rfl,_⟩:=h;rfl
 obtain ⟨p,rfl,hp,q⟩:=h
 refine ⟨_,(ak (fj KD_Bells.cl NA_Bells_rows (rv 0) (j4 ah))),?_⟩
 simp_arith! only [bK]
 intro r hr'
 have ne:p≠r:=by intro e;subst e;rw [hp] at hr';cases hr'
 exact ⟨[],by rw [ar ne];exact hp,by decide,q r hr'⟩
abbrev dn:Stmt:=(L2.inClass (top 22) 2)
theorem fk:L2.aw ["self","hind","fore","kept","found"] ["self","hind","fore"] (L2.aj dn):=dT
def uP (cB:Addr):cm:=fun xs J Q _=>∃ p r rows h f,xs=[.ref p,.str h,.str f]∧zT cB J p r rows∧rows.length≤900∧∀ r',J r'=none→Q (.bl (decide ((cf h f rows).length < rows.length))) (put (put J r' (.lst ((cf h f rows).map ay.v))) p (.ins cB [("rows",.ref r')]))
def tail3:PV→PV
 | .tup xs=>.tup (kG xs (some 1) none)
 | _=>.non
def uj (h f:Str) (x:PV):Bool:=!eqQ (tail3 x) (.tup [.str h,.str f])
theorem Dc (h f:Str) (b:ay):uj h f b.v=!nQ h f b:=by
 show (!eqQ (.tup [.str b.h,.str b.f]) (.tup [.str h,.str f]))=_
 rw [oe,cP,cP,kR,eq_str,eq_str,Bool.and_true,← Bool.decide_and]
 rfl
theorem xE (h f:Str):∀ rows:List ay,((rows.map ay.v).filter (uj h f)).map (fun x=>x)=(cf h f rows).map ay.v
 | []=>rfl
 | b :: rows=>by
  have ih:=xE h f rows
  unfold cf at ih ⊢
  rw [List.map_cons,List.filter_cons,List.filter_cons,Dc]
  cases nQ h f b <;> simp at ih ⊢ <;> exact ih
theorem mR {cB f:Addr} {fd:FuncData} (F:bV K "drop" "Bells.drop" dn f fd) (Z:bR mg) (KD_Bells:du K mg "Bells" cB) (NA_Bells_rows:aA K cB "rows"):aI P w K mg base (cS P w) 1 f fd ["self","hind","fore"] (dz K (uP cB)):=by
 simp_arith [fk]
 ·obtain ⟨p,r,rows,h,f,rfl,_⟩:=h;rfl
 obtain ⟨p,r,rows,h,f,rfl,b,hl,q⟩:=h
 have bo:=b.o
 have bl:=b.l
 refine ⟨_,(ai (Bu (i:=3) (L2.aj dn) ["self","hind","fore","kept","found"] [("hind",1),("fore",2)] rfl rfl rfl fk.nd rfl (Or.inl rfl) (g8 (aS KD_Bells.cl NA_Bells_rows (rv 0))) (fun _ _ _ _ _ _=>(rv 0)) (fun _ _ _ _ _ _=>(aD (ji hr.aT) (jq tG (rv 0) (k8 ag) k7) (cv (af (rv 1) (af (rv 2) ah))) (L2.ax _))))
   (ai (aK (i:=4) fk.nd rfl (Or.inl rfl) (cK fv (aM bQ rfl Z.len boot_len (af (rv 3) ah)) (aM bQ rfl Z.len boot_len (af (aS KD_Bells.cl NA_Bells_rows (rv 0)) ah)) (L2.ax _)))
   (ai (fj KD_Bells.cl NA_Bells_rows (rv 0) (rv 3))
   (ak (aB (rv 4)))))),?_⟩
 simp_arith! only [bK,DS,bo,bl,Fn]
 refine ⟨uj h f,fun x=>x,⟨by rw [List.length_map];exact aX (by omega),fun J' sub=>⟨sub _ _ bl,fun x hx=>?_⟩⟩,fun r' hr'=>?_⟩
 ·obtain ⟨b,_,rfl⟩:=List.mem_map.mp hx
  obtain ⟨xs,h1,h2,h3⟩:=xw J' b
  have hk:uj h f b.v=!eqQ (.tup (kG xs (some 1) none)) (.tup [.str h,.str f]):=by rw [h1];rfl
  simp_arith! only [bK]
  refine ⟨⟨xs,h1,h2,?_⟩,fun _=>trivial⟩
  rw [hk,h3]
  refine ⟨⟨by simp [j0,iH],by simp [fz,gB,dep,dw]⟩,by simp [j0,iH],rfl⟩
 ·have ne:p≠r':=by intro e;subst e;rw [bo] at hr';cases hr'
  have nr:r≠r':=by intro e;subst e;rw [bl] at hr';cases hr'
  simp_arith! only [bK,ar ne,ar nr,bo,bl,Fn,xE,List.length_map,Int.ofNat_lt]
  exact ⟨by decide,q r' hr'⟩
abbrev e8:Stmt:=(L2.inClass (top 22) 1)
theorem cE:L2.aw ["self","moment","hind","fore","bell","low","high","middle"] ["self","moment","hind","fore"] (L2.aj e8):=dT
def zk (cB:Addr):cm:=fun xs J Q _=>∃ p r rows m h f,xs=[.ref p,fr m,.str h,.str f]∧zT cB J p r rows∧f_ rows∧rows.length≤800∧Sz 9000 m∧(∀ x∈rows,Sz 9000 x.m) ∧
 ∀ r',J r'=none→Q .non (put (put J r' (.lst ((gq ⟨m,h,f⟩ (cf h f rows)).map ay.v))) p (.ins cB [("rows",.ref r')]))
theorem EU (a b:Nat):((a:Int) + (b:Int)).fdiv 2=(((a + b) / 2:Nat):Int):=by rw [Int.fdiv_eq_ediv_of_nonneg _ (by decide)];omega
theorem Ji (a:Int):CQ a 2=True:=eq_true ⟨by decide,Bd.mono (Bd.small (by decide) (by decide)) (by decide)⟩
theorem xq {rows:List ay} {i:Nat} {b:ay} (h:rows[i]?=some b):cI (rows.map ay.v) (i:Int)=some b.v:=a8 (by rw [List.getElem?_map,h];rfl)
theorem oC {cB f:Addr} {fd:FuncData} (F:bV K "put" "Bells.put" e8 f fd) (Z:bR mg) (KD_Bells:du K mg "Bells" cB) (NA_Bells_rows:aA K cB "rows") (m_Bells_drop:cX P w K mg base cB 1 "drop" ["self","hind","fore"] (uP cB))
  (C_rings_ahead:a7 P w K mg base 2 "rings_ahead" ["one","other"] pJ):aI P w K mg base (cS P w) 3 f fd ["self","moment","hind","fore"] (dz K (zk cB)):=by
 simp_arith [cE]
 ·obtain ⟨p,r,rows,m,h,f,rfl,_⟩:=h;rfl
 obtain ⟨p,r,rows,m,h,f,rfl,b,srt,hl,sm,sr,q⟩:=h
 have bo:=b.o
 refine ⟨_,(ai (bj (bx (pl:=_) m_Bells_drop B hr (by decide) (rv 0) (af (rv 2) (af (rv 3) ah))))
   (ai (aK (i:=4) cE.nd rfl (Or.inl rfl) (cv (af (rv 1) (af (rv 2) (af (rv 3) ah)))))
   (ai (DZ (i:=5) (j:=6) rfl cE.nd rfl rfl (by decide) rfl rfl (af ag (af (aM bQ rfl Z.len boot_len (af (aS KD_Bells.cl NA_Bells_rows (rv 0)) ah)) ah)) rfl)
   (ai (ju cy (aD fv (rv 5) (rv 6) (L2.ax _)) (ai (aK (i:=7) cE.nd rfl (Or.inl rfl) (aH jh (aH dh (rv 5) (rv 6)) ag))
   (ak (aU (bM (aR C_rings_ahead B hr (by decide) rfl (af (aq au (aS KD_Bells.cl NA_Bells_rows (rv 0)) (rv 7) (fun _ _=>rfl)) (af (rv 4) ah)))) (ak (aK (i:=5) cE.nd rfl (Or.inl rfl) (aH dh (rv 7) ag))) (ak (aK (i:=6) cE.nd rfl (Or.inl rfl) (rv 7)))))))
   (ak (bj (kB PySem.F.plainAttrs_list PySem.F.slot_list_insert PySem.F.type_list_insert jT (aS KD_Bells.cl NA_Bells_rows (rv 0)) (af (rv 5) (af (rv 4) ah))))))))),?_⟩
 simp_arith! only [bK,bo,Hw]
 refine ⟨p,r,rows,h,f,rfl,b,by omega,fun r' hr'=>?_⟩
 have Er:r'≠p:=by intro e;subst e;rw [bo] at hr';cases hr'
 have b1:zT cB (put (put J r' (.lst ((cf h f rows).map ay.v))) p (.ins cB [("rows",.ref r')])) p r' (cf h f rows):=⟨av,by rw [ar Er];exact av⟩
 have kl:(cf h f rows).length≤800:=Nat.le_trans (jM _ _ _) hl
 have ks:f_ (cf h f rows):=nt srt
 have kz:∀ x∈cf h f rows,Sz 9000 x.m:=fun x hx=>sr x (List.mem_filter.mp hx).1
 have q:=q r' hr'
 generalize hJ:put (put J r' (.lst ((cf h f rows).map ay.v))) p (.ins cB [("rows",.ref r')])=J1 at b1 ⊢
 have hq:put J1 r' (.lst ((gq ⟨m,h,f⟩ (cf h f rows)).map ay.v))=put (put J r' (.lst ((gq ⟨m,h,f⟩ (cf h f rows)).map ay.v))) p (.ins cB [("rows",.ref r')]):=by rw [← hJ,Bi Er]
 rw [← hq] at q
 clear hq hJ hr'
 have bo:=b1.o
 have bl:=b1.l
 generalize cf h f rows=ks' at *
 simp_arith! only [bK,bo,bl,Fn,CD,List.length_map]
 refine ⟨fun k τ J'=>∃ (lo hi:Nat) (u:Option PV),τ=[some (.ref p),some (fr m),some (.str h),some (.str f),some (ay.mk m h f).v,some (.int lo),some (.int hi),u]∧J'=J1∧k=hi - lo∧lo≤hi∧hi≤ks'.length ∧
  (∀ (j:Nat) x,j < lo→ks'[j]?=some x→x.lt ⟨m,h,f⟩=true)∧(∀ (j:Nat) x,hi≤j→ks'[j]?=some x→x.lt ⟨m,h,f⟩=false),⟨_,0,ks'.length,none,rfl,rfl,rfl,Nat.zero_le _,Nat.le_refl _,fun j x hj=>absurd hj (Nat.not_lt_zero _),fun j x hj e=>by rw [List.getElem?_eq_none hj] at e;cases e⟩,?_⟩
 rintro k τ J' ⟨lo,hi,u,rfl,rfl,rfl,h1,h2,hlo,hhi⟩
 simp_arith! only [bK,bo,bl,Fn,Ji,EU,Int.ofNat_lt,pJ]
 by_cases hlt:lo < hi
 ·rw [if_pos hlt]
  have hm:(lo + hi) / 2 < ks'.length:=by omega
  obtain ⟨x,hx⟩:∃ x,ks'[(lo + hi) / 2]?=some x:=⟨_,List.getElem?_eq_getElem hm⟩
  refine ⟨fun τ' J''=>∃ (lo' hi':Nat) (u:Option PV),τ'=[some (.ref p),some (fr m),some (.str h),some (.str f),some (ay.mk m h f).v,some (.int lo'),some (.int hi'),u]∧J''=J'∧lo'≤hi'∧hi'≤ks'.length∧hi' - lo' < hi - lo ∧
   (∀ (j:Nat) x,j < lo'→ks'[j]?=some x→x.lt ⟨m,h,f⟩=true)∧(∀ (j:Nat) x,hi'≤j→ks'[j]?=some x→x.lt ⟨m,h,f⟩=false),fun τ' J'' ⟨lo',hi',u,e1,e2,e3,e4,e5,e6,e7⟩=>⟨_,e5,lo',hi',u,e1,e2,rfl,e3,e4,e6,e7⟩,x.v,xq hx,x,rfl,⟨m,h,f⟩,rfl,kz x (List.mem_of_getElem? hx),sm,?_⟩
  cases hc:x.lt ⟨m,h,f⟩ with
  | true =>
   rw [if_pos rfl]
   exact ⟨(lo + hi) / 2 + 1,hi,_,rfl,rfl,by omega,h2,by omega,fun j y hj e=>vf ks hx e (by omega) hc,hhi⟩
  | false =>
   rw [if_neg Bool.false_ne_true]
   exact ⟨lo,(lo + hi) / 2,_,rfl,rfl,by omega,by omega,by omega,hlo,fun j y hj e=>rF ks hx e hj hc⟩
 ·rw [if_neg hlt]
  have e:lo=hi:=by omega
  subst e
  refine ⟨_,lo,rfl,rfl,by rw [List.length_map];exact h2,by rw [List.length_map];exact aX (by omega),Nat.lt_of_le_of_lt h2 (Nat.lt_of_le_of_lt kl (by decide)),?_⟩
  rw [← ue h2 hlo hhi,List.map_append,List.map_cons,List.map_take,List.map_drop] at q
  exact q
abbrev d8:Stmt:=(L2.inClass (top 22) 5)
theorem m3:L2.aw ["self"] ["self"] (L2.aj d8):=dT
def uR (cB:Addr):cm:=fun xs J Q _=>∃ p r rows,xs=[.ref p]∧zT cB J p r rows∧(Q (.fl (rows.map ay.v)) J∨∀ l,J l=none→Q (.ref l) (put J l (.lst (rows.map ay.v))))
theorem mT {cB f:Addr} {fd:FuncData} (F:bV K "told" "Bells.told" d8 f fd) (Z:bR mg) (KD_Bells:du K mg "Bells" cB) (NA_Bells_rows:aA K cB "rows"):aI P w K mg base (cS P w) 1 f fd ["self"] (dz K (uR cB)):=by
 refine HL F m3 (fun xs J Q E h=>?_) (fun cdv A outer s H E G xs J Q E2 hr h B=>?_)
 ·obtain ⟨p,r,rows,rfl,_⟩:=h;rfl
 obtain ⟨p,r,rows,rfl,b,q⟩:=h
 have bo:=b.o
 have bl:=b.l
 refine ⟨_,(ak (aB (j3 xu rfl Z.list boot_list (af (aS KD_Bells.cl NA_Bells_rows (rv 0)) ah)))),?_⟩
 simp_arith! only [bK,bo,bl,Fn]
 intro l hl
 rcases q with q | q
 ·exact Fg.mF (lV hl) av hl q
 ·exact Fg.same (q l hl)
def uT:cm:=fun xs J Q _=>∃ t b:Int,xs=[.int t,.int b]∧b≠0∧Bd 9000 b∧Q (fr (Rat.divInt t b)) J
theorem mQ (C:mE P w K mg base 2 "fraction" ["top","bottom"] eS):a7 P w K mg base 2 "fraction" ["top","bottom"] uT:=C.lift fun xs J vs H Q2 E2 Q E rs r ⟨t,b,ex,h0,h1,q⟩ kn=>by
 subst ex
 obtain ⟨v,u,rfl,r1,r2⟩:=fW rs
 cases r1;cases r2
 exact ⟨t,b,rfl,h0,h1,o8 r kn q⟩
theorem qv (l l':aP) (h:l.v≠l'.v):Rat.divInt ((l'.at 0 - l.at 0).num) (((l'.at 0 - l.at 0).den:Int) * (l.v - l'.v))=jf l l':=by
 rw [DP _ _ (by omega)];rfl
abbrev g_:Stmt:=(top 26)
theorem iK:L2.aw ["one","other","gain","gap"] ["one","other"] (L2.aj g_):=dT
def uY:cm:=fun xs J Q _=>∃ l l':aP,xs=[l.V,l'.V]∧lF 900 l∧lF 900 l'∧(l.v=l'.v→Q .non J)∧(l.v≠l'.v→Q (fr (jf l l')) J)
theorem qE {f:Addr} {fd:FuncData} (F:bV K "meeting" "meeting" g_ f fd) (Z:bR mg) (N:lG K mg) (C_place_on:a7 P w K mg base 4 "place_on" ["leg","moment"] mn) (C_minus:a7 P w K mg base 3 "minus" ["one","two"] (tD fun p q=>p - q)) (C_fraction:a7 P w K mg base 2 "fraction" ["top","bottom"] uT) :
  aI P w K mg base (cS P w) 5 f fd ["one","other"] (dz K uY):=by
 simp_arith [iK]
 ·obtain ⟨l,l',rfl,_⟩:=h;rfl
 obtain ⟨l,l',rfl,sl,sl',q0,q1⟩:=h
 obtain ⟨aN,gN,sN⟩:=N
 have rN:∀ (J:Hq) (H:Hp),bI K J H (fr 0) (.ref aN):=fun J H=>⟨aN,_,rfl,sN H,⟨_,_,rfl,rfl,_,_,rfl,rfl,rfl⟩⟩
 refine ⟨_,(ai (aK (i:=2) iK.nd rfl (Or.inl rfl) (aH dG (aq au (rv 0) ag (fun _ _=>rfl)) (aq au (rv 1) ag (fun _ _=>rfl))))
   (ai (aU (aD (cH hr.aT) (rv 2) ag (L2.ax _)) (ak (aB fi)) aJ)
   (ai (aK (i:=3) iK.nd rfl (Or.inl rfl) (aR C_minus B hr (by decide) rfl (af (aR C_place_on B hr (by decide) rfl (af (rv 1) (af (d7 (v:=.ref aN) (fr 0) rfl gN rfl rN) ah))) (af (aR C_place_on B hr (by decide) rfl (af (rv 0) (af (d7 (v:=.ref aN) (fr 0) rfl gN rfl rN) ah))) ah))))
   (ak (aB (aR C_fraction B hr (by decide) rfl (af (aq au (rv 3) ag (fun _ _=>rfl)) (af (aH bA (aq au (rv 3) ag (fun _ _=>rfl)) (rv 2)) ah)))))))),?_⟩
 have z1:Sz 900 (0:Rat):=⟨⟨by decide⟩,⟨by decide⟩⟩
 have s3:=jK sl z1
 have s3':=jK sl' z1
 have s4:Sz 6001 (l'.at 0 - l.at 0):=s3'.sub s3
 have bg:Bd 65 (l.v - l'.v):=sl.v.sub sl'.v
 simp_all! only [kr]
 split
 ·rename_i e;simp_all! only [];exact q0 (by omega)
 rename_i e
 have hv:l.v≠l'.v:=by omega
 simp_all! only []
 refine ⟨l',0,rfl,sl'.m,sl'.p,z1,sl'.v,l,0,rfl,sl.m,sl.p,z1,sl.v,l'.at 0,l.at 0,rfl,s3'.mono (by decide),s3.mono (by decide),?_⟩
 simp_all! only []
 refine ⟨.of s4.den bg,_,_,rfl,Int.mul_ne_zero (dB _) e,(Bd.mul s4.den bg (k:=6100)).mono (by decide),?_⟩
 rw [qv l l' hv]
 exact q1 hv
theorem qw {l l':aP} (sl:lF 900 l) (sl':lF 900 l') (h:l.v≠l'.v):Sz 8000 (jf l l'):=by
 rw [← qv l l' h]
 have z1:Sz 900 (0:Rat):=⟨⟨by decide⟩,⟨by decide⟩⟩
 have s4:Sz 6001 (l'.at 0 - l.at 0):=(jK sl' z1).sub (jK sl z1)
 have bg:Bd 65 (l.v - l'.v):=sl.v.sub sl'.v
 exact Sz.div (s4.num.mono (by decide)) ((Bd.mul s4.den bg (k:=6100)).mono (by decide)) (Int.mul_ne_zero (dB _) (by omega))
theorem aQ.GL {L:Ln} (h:aQ L) {c:Cf} (hc:c∈L.cs):lF 900 c.cur:=(h.ck c hc _ (Cf.fH (h.ne c hc)).2).Fs
abbrev eg:Stmt:=(L2.inClass (top 42) 13)
theorem iq:L2.aw ["self","name","other","met"] ["self","name","other"] (L2.aj eg):=dT
def rA (cN cL eC:Addr):cm:=fun xs J Q E=>∃ p L n n',xs=[.ref p,.str n,.str n']∧aV cN cL J p L∧aQ L∧(∀ c∈L.cs,∀ c'∈L.cs,c.n=n→c'.n=n'→c.g=none→c'.g=none→Q (gv (AD L.t c.cur c'.cur)) J)∧(n ∉ L.row∨n' ∉ L.row→E eC J)
theorem mY {cN cL eC f:Addr} {fd:FuncData} (F:bV K "meets" "Lane.meets" eg f fd) (Z:bR mg) (KD_Lane:du K mg "Lane" cN) (NA_Lane_now:aA K cN "now") (m_Lane_leg_of:cX P w K mg base cN 4 "leg_of" ["self","name"] (jE cN cL eC)) (C_meeting:a7 P w K mg base 5 "meeting" ["one","other"] uY) (C_less:a7 P w K mg base 1 "less" ["one","two"] cG):aI P w K mg base (cS P w) 6 f fd ["self","name","other"] (dz K (rA cN cL eC)):=by
 simp_arith [iq]
 ·obtain ⟨p,L,n,n',rfl,_⟩:=h;rfl
 obtain ⟨p,L,n,n',rfl,b,ok,q,qe⟩:=h
 have bo:=b.ob
 refine ⟨_,(ai (aK (i:=3) iq.nd rfl (Or.inl rfl) (aR C_meeting B hr (by decide) rfl (af (bx (pl:=_) m_Lane_leg_of B hr (by decide) (rv 0) (af (rv 1) ah)) (af (bx (pl:=_) m_Lane_leg_of B hr (by decide) (rv 0) (af (rv 2) ah)) ah))))
   (ak (aB (F' (dm (d3 (aD qH (rv 3) fi (L2.ax _)) (dk (bM (aR C_less B hr (by decide) rfl (af (aS KD_Lane.cl NA_Lane_now (rv 0)) (af (rv 3) ah))))))) (rv 3) fi)))),?_⟩
 simp_all! only [bo]
 refine ⟨f' _ _ _ _,p,L,n,rfl,b,ok,fun c hc e hg=>?_,fun z=>qe (.inl z)⟩
 simp_all! only [bo]
 refine ⟨f' _ _ _ _,p,L,n',rfl,b,ok,fun c' hc' e' hg'=>?_,fun z=>qe (.inr z)⟩
 have q:=q c hc c' hc' e e' hg hg'
 have sl:=ok.GL hc
 have sl':=ok.GL hc'
 unfold AD at q
 refine ⟨c.cur,c'.cur,rfl,sl,sl',fun hv=>?_,fun hv=>?_⟩
 ·rw [if_neg (fun z=>z.1 hv)] at q
  simp_all! only []
  exact q
 ·simp_all! only [oi,bo,oy,cG]
  refine ⟨ok.CC.mono (by decide),(qw sl sl' hv).mono (by decide),?_⟩
  split
  ·rename_i c1
   rw [if_pos ⟨hv,c1⟩] at q
   simp_all! only []
   exact q
  ·rename_i c1
   rw [if_neg (fun z=>c1 z.2)] at q
   exact q
theorem Ju (A:Nat):Sc fC A 0:=⟨0,by rw [Rat.zero_mul];rfl,Nat.zero_le _⟩
theorem aV.HJ {cN cL:Addr} {J:Hq} {p T:Addr} {L:Ln} (h:aV cN cL J p L) (hT:J T=Option.some .tab):¬ L.own p T:=by
 rintro (rfl | rfl | rfl | ⟨c,hc,rfl | rfl⟩)
 ·rw [h.ob] at hT;cases hT
 ·rw [h.dc] at hT;cases hT
 ·rw [h.rw] at hT;cases hT
 ·rw [(h.lg c hc).o] at hT;cases hT
 ·rw [(h.lg c hc).l] at hT;cases hT
theorem aQ.C2 {L:Ln} (h:aQ L):L.fs.length≤100:=by
 unfold Ln.fs Ln.wG
 rw [List.length_map]
 exact Nat.le_trans (List.length_filter_le _ _) h.many
theorem EV {L:Ln} {n:Str} {l:aP} (h:(n,l)∈L.fs):∃ c∈L.cs,c.n=n∧c.g=none∧c.cur=l:=by
 obtain ⟨c,hc,e⟩:=List.mem_map.mp h
 have:=Ln.cU.mp hc
 cases e
 exact ⟨c,this.1,rfl,this.2,rfl⟩
def kg:cm:=fun xs J Q _=>∃ a b:Int,xs=[.int a,.int b]∧Q (.int (Int.gcd a b:Nat)) J
theorem qo (C:mE P w K mg base 1 "shared" ["one","two"] mq):a7 P w K mg base 1 "shared" ["one","two"] kg:=C.lift fun xs J vs H Q2 E2 Q E rs r ⟨a,b,ex,q⟩ kn=>by
 subst ex
 obtain ⟨v,u,rfl,r1,r2⟩:=fW rs
 cases r1;cases r2
 exact ⟨a,b,rfl,kn (.int _) J _ H rfl r .refl q⟩
abbrev cg:Stmt:=(top 18)
theorem iI:L2.aw ["pair"] ["pair"] (L2.aj cg):=dT
def rj:cm:=fun xs J Q _=>∃ a b:Int,xs=[.tup [.int a,.int b]]∧Q (.bl (decide (1≤b∧Int.gcd a b=1))) J
theorem ib {f:Addr} {fd:FuncData} (F:bV K "in_lowest_terms" "in_lowest_terms" cg f fd) (Z:bR mg) (C_shared:a7 P w K mg base 1 "shared" ["one","two"] kg):aI P w K mg base (cS P w) 2 f fd ["pair"] (dz K rj):=by
 simp_arith [iI]
 ·obtain ⟨a,b,rfl,_⟩:=h;rfl
 obtain ⟨a,b,rfl,q⟩:=h
 refine ⟨_,(ak (aB (s_ (cK yB (aq au (rv 0) ag (fun _ _=>rfl)) ag (L2.ax _)) (o7 (cK (cH hr.aT) (aR C_shared B hr (by decide) rfl (af (aq au (rv 0) ag (fun _ _=>rfl)) (af (aq au (rv 0) ag (fun _ _=>rfl)) ah))) ag (L2.ax _)))))),?_⟩
 simp_all! only []
 by_cases c:1≤b
 ·simp only [c,decide_true,true_and,if_true] at q ⊢
  simp_all! only [kg]
  have:decide (((Int.gcd a b:Nat):Int)=1)=decide (Int.gcd a b=1):=decide_eq_decide.mpr (by omega)
  rw [this];exact q
 ·simp only [c,decide_false,false_and] at q ⊢
  rw [if_neg (fun z=>z)]
  exact q
abbrev dO:Stmt:=(top 40)
theorem eQ:L2.aw ["moment","top","bottom"] ["moment"] (L2.aj dO):=dT
def f6 (a b:Int):Bool:=decide (b≤60∧1≤b∧Int.gcd a b=1∧0≤a∧a≤1000000 * b)
def uU:cm:=fun xs J Q _=>∃ a b:Int,xs=[.tup [.int a,.int b]]∧Q (.bl (f6 a b)) J
theorem kI {f:Addr} {fd:FuncData} (F:bV K "good_moment" "good_moment" dO f fd) (Z:bR mg) {t_FINEST t_LATEST:Tok} (g_FINEST:mg "FINEST"=some (.int 60 t_FINEST)) (g_LATEST:mg "LATEST"=some (.int 1000000 t_LATEST)) (C_in_lowest_terms:a7 P w K mg base 2 "in_lowest_terms" ["pair"] rj):aI P w K mg base (cS P w) 3 f fd ["moment"] (dz K uU):=by
 simp_arith [eQ]
 ·obtain ⟨a,b,rfl,_⟩:=h;rfl
 obtain ⟨a,b,rfl,q⟩:=h
 refine ⟨_,(ai (tm (rv 0) (tj rfl (eO (bZ (i:=1) eQ.nd rfl (Or.inl rfl)) (eO (bZ (i:=2) eQ.nd rfl (Or.inl rfl)) o9))))
   (ai (aU (dm (kC (aD ik (rv 2) (d7 (v:=.int 60) (.int 60) rfl g_FINEST ⟨_,rfl⟩ (fun _ _=>rfl)) (L2.ax _)) (gF (c4 (bM (aR C_in_lowest_terms B hr (by decide) rfl (af (rv 0) ah))))))) (ak (aB f7)) aJ)
   (ak (aB (y_ yC yC ag (rv 1) (aH bA (d7 (v:=.int 1000000) (.int 1000000) rfl g_LATEST ⟨_,rfl⟩ (fun _ _=>rfl)) (rv 2))))))),?_⟩
 unfold f6 at q
 simp_all! only []
 refine ⟨rfl,?_⟩
 simp_all! only []
 by_cases c1:60 < b
 ·rw [if_pos c1]
  rw [decide_eq_false (fun z=>by omega)] at q
  exact q
 rw [if_neg c1]
 simp_all! only []
 refine ⟨a,b,rfl,?_⟩
 by_cases c2:1≤b∧Int.gcd a b=1
 ·rw [decide_eq_true c2]
  simp_all! only [o6]
  by_cases c3:0≤a
  ·simp only [c3,decide_true,if_true]
   refine ⟨.of (.small (x:=1000000) (by decide) (by decide)) (.small (x:=b) (by omega) (by omega)),?_⟩
   have:decide (a≤1000000 * b)=decide (b≤60∧1≤b∧Int.gcd a b=1∧0≤a∧a≤1000000 * b):=decide_eq_decide.mpr ⟨fun z=>⟨by omega,c2.1,c2.2,c3,z⟩,fun z=>z.2.2.2.2⟩
   rw [this];exact q
  ·rw [decide_eq_false (fun z=>c3 z.2.2.2.1)] at q
   simp only [c3,decide_false]
   rw [if_neg (fun z=>z)]
   exact q
 ·rw [decide_eq_false c2]
  rw [decide_eq_false (fun z=>c2 ⟨z.2.1,z.2.2.1⟩)] at q
  simp_all! only []
  exact q
theorem aV.less {cN cL:Addr} {J J':Hq} {p:Addr} {L:Ln} (h:aV cN cL J p L) (l:mJ J J'):aV cN cL J' p L:=h.keep fun a o _ e=>by
 rcases l a with z | z
 ·rw [← z];exact e
 ·rw [z] at e;cases e
theorem nG {J J':Hq} {p r:Addr} {x y:HQ} (l:mJ J J') (hp:J p=none) (hr:J' r=none):mJ J (put (put J' r x) p y):=fun a=>by
 by_cases e:a=p
 ·exact .inr (by rw [e];exact hp)
 by_cases e2:a=r
 ·rcases l a with z | z
  ·right;rw [z,e2];exact hr
  ·exact .inr z
 ·rw [ar e,ar e2];exact l a
theorem vX {J:Hq} {p r:Addr} {x y z:HQ} (hp:J p=none) (hr:put J p x r=none):mJ J (put (put (put J p x) r y) p z):=nG (lV hp) hp hr
theorem xx (xs:List PV) (k:Nat) (h:k≤xs.length):kG xs (some (k:Int)) none=xs.drop k:=by
 unfold kG HT.c9
 simp only [Int.toNat_natCast]
 rw [if_neg (by omega),Nat.min_eq_left h]
 rw [List.take_of_length_le (by rw [List.length_drop];exact Nat.le_refl _)]
theorem bU.keys {L:Ln} (ok:bU L):L.row.map PV.str=(dy (L.fs.map (key L.t))).map fun k=>PV.str k.n:=by rw [ok.row];unfold cZ;rw [List.map_map];rfl
theorem oq {L:Ln} (ok:aQ L) {a:Ky} (ha:a∈dy (L.fs.map (key L.t))) {c:Cf} (hc:c∈L.cs) (hg:c.g=none) (e:c.n=a.n):a=key L.t (c.n,c.cur):=by
 obtain ⟨x,hx,rfl⟩:=List.mem_map.mp ((bq _ _).mp ha)
 obtain ⟨c0,hc0,h1,h2,h3⟩:=EV (n:=x.1) (l:=x.2) hx
 have:c0=c:=ok.uniq hc0 hc (h1.trans e.symm)
 subst this
 show key L.t (x.1,x.2)=_
 rw [← h3,← h1]
theorem k9 {L:Ln} (ok:bU L) {a:Ky} (ha:a∈dy (L.fs.map (key L.t))):a.n∈L.row:=by
 rw [ok.row];unfold cZ;exact List.mem_map.mpr ⟨a,ha,rfl⟩
theorem qs {L:Ln} (ok:bU L) {a b:Ky} (ha:a∈dy (L.fs.map (key L.t))) (hb:b∈dy (L.fs.map (key L.t))) (h:b.v < a.v):Sz 9000 (dg L.t a b):=by
 obtain ⟨c,hc,hcn,hcg⟩:=ok.found (k9 ok ha)
 obtain ⟨c',hc',hcn',hcg'⟩:=ok.found (k9 ok hb)
 have ea:=oq ok.toaQ ha hc hcg hcn
 have eb:=oq ok.toaQ hb hc' hcg' hcn'
 have hv:c.cur.v≠c'.cur.v:=by rw [ea,eb] at h;exact fun z=>by have:c'.cur.v < c.cur.v:=h;omega
 rw [ea,eb,← kU hv]
 exact (qw (ok.GL hc) (ok.GL hc') hv).mono (by decide)
theorem bU.knd {L:Ln} (ok:bU L):((L.fs.map (key L.t)).map Ky.n).Nodup:=by rw [c8];exact ok.Ek
theorem bU.Hu {L:Ln} (ok:bU L):(dy (L.fs.map (key L.t))).length≤12:=by
 have h1:=ok.rl
 have h2:=congrArg List.length ok.keys
 rw [List.length_map,List.length_map] at h2
 omega
theorem ym {L:Ln} (ok:bU L) {i j:Nat} {a b:Ky} (ha:(dy (L.fs.map (key L.t)))[i]?=some a) (hb:(dy (L.fs.map (key L.t)))[j]?=some b) (hij:i < j) {c c':Cf} (hc:c∈L.cs) (hc':c'∈L.cs) (hg:c.g=none) (hg':c'.g=none) (e:c.n=a.n) (e':c'.n=b.n) :
  AD L.t c.cur c'.cur=if b.v < a.v∧a.p < b.p then some (dg L.t a b) else none:=by
 have ea:=oq ok.toaQ (List.mem_of_getElem? ha) hc hg e
 have eb:=oq ok.toaQ (List.mem_of_getElem? hb) hc' hg' e'
 have hlt:a.lt b=true:=by
  obtain ⟨hil,ei⟩:=List.getElem?_eq_some_iff.mp ha
  obtain ⟨hjl,ej⟩:=List.getElem?_eq_some_iff.mp hb
  have:=List.pairwise_iff_getElem.mp (dW ok.knd) i j hil hjl hij
  rw [ei,ej] at this;exact this
 rw [ea,eb] at hlt ⊢
 have key:=AE hlt
 unfold AD
 by_cases z:c.cur.v≠c'.cur.v∧L.t < jf c.cur c'.cur
 ·rw [if_pos z,if_pos (show (Ov.key L.t (c'.n,c'.cur)).v < (Ov.key L.t (c.n,c.cur)).v∧(Ov.key L.t (c.n,c.cur)).p < (Ov.key L.t (c'.n,c'.cur)).p from key.mp z),kU z.1]
 ·rw [if_neg z,if_neg (show ¬ ((Ov.key L.t (c'.n,c'.cur)).v < (Ov.key L.t (c.n,c.cur)).v∧(Ov.key L.t (c.n,c.cur)).p < (Ov.key L.t (c'.n,c'.cur)).p) from fun y=>z (key.mpr y))]
abbrev cW:Stmt:=(L2.inClass (top 42) 6)
theorem bF:L2.aw ["self","moment","passings","at","hind","fore","met"] ["self","moment"] (L2.aj cW):=dT
def uZ (cN cL eM eP:Addr):cm:=fun xs J Q E=>∃ p L a b,xs=[.ref p,.tup [.int a,.int b]]∧aV cN cL J p L∧bU L∧(f6 a b=false→E eM J)∧(∀ m:Rat,m.num=a→(m.den:Int)=b→f6 a b=true→(m < L.t→E eP J)∧(L.t≤m→Q (.fl ((fw L.t (L.fs.map (key L.t)) m).map ay.v)) J))
theorem jU {cN cL cB eM eP eC f:Addr} {fd:FuncData} (F:bV K "foretold" "Lane.foretold" cW f fd) (Z:bR mg) (KD_Lane:du K mg "Lane" cN) (NA_Lane_now:aA K cN "now") (NA_Lane_row:aA K cN "row") (O_BadMoment:Own K mg "BadMoment" eM) (O_Past:Own K mg "Past" eP) (C_good_moment:a7 P w K mg base 3 "good_moment" ["moment"] uU) (C_less:a7 P w K mg base 1 "less" ["one","two"] cG) (M_Bells:vC P w K mg base cB 1 "Bells" ["self"] (uQ cB)) (m_Lane_meets:cX P w K mg base cN 6 "meets" ["self","name","other"] (rA cN cL eC)) (m_Bells_put:cX P w K mg base cB 3 "put" ["self","moment","hind","fore"] (zk cB)) (m_Bells_told:cX P w K mg base cB 1 "told" ["self"] (uR cB)):aI P w K mg base (cS P w) 7 f fd ["self","moment"] (dz K (uZ cN cL eM eP)):=by
 refine HL F bF (fun xs J Q E h=>?_) (fun cdv A outer s H E G xs J Q E2 hr h B=>?_)
 ·obtain ⟨p,L,a,b,rfl,_⟩:=h;rfl
 obtain ⟨p,L,a,bb,rfl,b,ok,qe,q⟩:=h
 have bo:=b.ob
 refine ⟨_,(ai (aU (c4 (bM (aR C_good_moment B hr (by decide) rfl (af (rv 1) ah)))) (ak (dj O_BadMoment rfl bW B.kn rfl (af bD ah))) aJ)
   (ai (aU (bM (aR C_less B hr (by decide) rfl (af (rv 1) (af (aS KD_Lane.cl NA_Lane_now (rv 0)) ah)))) (ak (dj O_Past rfl bW B.kn rfl (af bD ah))) aJ)
   (ai (aK (i:=2) bF.nd rfl (Or.inl rfl) (qV M_Bells B hr (by decide) rfl))
   (ai (fN cy rfl (Bt rfl Z.enumerate (af (aS KD_Lane.cl NA_Lane_row (rv 0)) ah)) (tj (n:=2) rfl (eO (bZ (i:=3) bF.nd rfl (Or.inl rfl)) (eO (bZ (i:=4) bF.nd rfl (Or.inl rfl)) o9))) (ak (fN cy rfl (g8 (jq Gf (aS KD_Lane.cl NA_Lane_row (rv 0)) (k8 (aH dh (rv 3) ag)) k7)) (bZ (i:=5) bF.nd rfl (Or.inl rfl)) (ai (aK (i:=6) bF.nd rfl (Or.inl rfl) (bx (pl:=_) m_Lane_meets B hr (by decide) (rv 0) (af (rv 4) (af (rv 5) ah))))
   (ak (aU (dm (d3 (aD qH (rv 6) fi (L2.ax _)) (dk (c4 (bM (aR C_less B hr (by decide) rfl (af (rv 1) (af (rv 6) ah)))))))) (ak (bj (bx (pl:=_) m_Bells_put B hr (by decide) (rv 2) (af (rv 6) (af (rv 4) (af (rv 5) ah)))))) aJ))))))
   (ak (aB (fA (pl:=_) m_Bells_told B hr (by decide) (rv 2)))))))),?_⟩
 simp_all! only []
 refine ⟨a,bb,rfl,?_⟩
 cases hg:f6 a bb with
 | false =>
  simp_all! only [eK]
  exact qe hg
 | true =>
  have hgm:=of_decide_eq_true hg
  obtain ⟨m,hm1,hm2⟩:∃ m:Rat,m.num=a∧(m.den:Int)=bb:=⟨⟨a,bb.toNat,by omega,by
   have:=hgm.2.2.1
   unfold Int.gcd at this
   show Nat.gcd a.natAbs bb.toNat=1
   rw [show bb.toNat=bb.natAbs by omega];exact this⟩,rfl,by show ((bb.toNat:Nat):Int)=bb;omega⟩
  obtain ⟨q1,q2⟩:=q m hm1 hm2 hg
  have ef:PV.tup [.int a,.int bb]=fr m:=by rw [← hm1,← hm2];rfl
  have sm:Sz 900 m:=⟨(Bd.small (x:=m.num) (by omega) (by omega)).mono (by decide),(Bd.small (x:=(m.den:Int)) (by omega) (by omega)).mono (by decide)⟩
  simp_all! only [bo,oy,ef]
  refine ⟨_,_,rfl,sm.mono (by decide),ok.CC.mono (by decide),?_⟩
  by_cases c1:m < L.t
  ·rw [decide_eq_true c1]
   simp_all! only [eK]
   exact q1 c1
  rw [decide_eq_false c1]
  have q:=q2 (by grind)
  simp_all! only []
  intro pb hpb
  refine ⟨pb,rfl,av,fun r0 hr0=>⟨rfl,?_⟩⟩
  have l0:=vX (y:=.lst []) (z:=.ins cB [("rows",.ref r0)]) hpb hr0
  have nr0:r0≠pb:=by intro e;subst e;rw [av] at hr0;cases hr0
  have b0:zT cB (put (put (put J pb (.ins cB [])) r0 (.lst [])) pb (.ins cB [("rows",.ref r0)])) pb r0 []:=⟨av,by rw [ar nr0];exact av⟩
  generalize put (put (put J pb (.ins cB [])) r0 (.lst [])) pb (.ins cB [("rows",.ref r0)])=J0 at l0 b0 ⊢
  simp_all! only [(b.less l0).ob,(b.less l0).rw,qp]
  obtain ⟨ks,hks⟩:∃ ks,dy (L.fs.map (key L.t))=ks:=⟨_,rfl⟩
  have hrow:L.row.map PV.str=ks.map fun k=>PV.str k.n:=by rw [← hks];exact ok.keys
  have hkl:ks.length≤12:=by rw [← hks];exact ok.Hu
  have hup:∀ {ps:List (Ky × Ky)},(∀ p∈ps,p.1∈ks∧p.2∈ks)→∀ x∈bp L.t (bh L.t m) ps,Sz 9000 x.m:=fun hp x hx=>by
   obtain ⟨p,hp',hc,rfl⟩:=gU _ hx
   have:=of_decide_eq_true hc
   exact qs ok (by rw [hks];exact (hp p hp').1) (by rw [hks];exact (hp p hp').2) this.1
  rw [hrow]
  obtain ⟨Inv,hInv⟩:∃ Inv:Nat→Sr→Hq→Prop,∀ i τ J',Inv i τ J'↔∃ (r:Addr) (u3 u4 u5 u6:Option PV),τ=[some (.ref p),some (fr m),some (.ref pb),u3,u4,u5,u6]∧mJ J J'∧zT cB J' pb r (bp L.t (bh L.t m) (rM ks i))∧(bp L.t (bh L.t m) (rM ks i)).length≤12 * i:=⟨_,fun _ _ _=>Iff.rfl⟩
  refine iE Inv ((hInv _ _ _).mpr ⟨r0,_,_,_,_,rfl,l0,b0,Nat.le_refl _⟩) (fun i τ J' h=>?_) ?_ ?_
  ·obtain ⟨r,_,_,_,_,_,l',_⟩:=(hInv _ _ _).mp h
   rw [(b.less l').rw,hrow]
  ·intro i x τ J' hx hv
   obtain ⟨r,u3,u4,u5,u6,rfl,l',bb,hle⟩:=(hInv _ _ _).mp hv
   clear hv
   have hi:i < ks.length:=by have:=(List.getElem?_eq_some_iff.mp hx).1;rw [gR,List.length_map] at this;exact this
   have ha:ks[i]?=some ks[i]:=List.getElem?_eq_getElem hi
   rw [nu _ i (.str (ks[i]).n) (by rw [List.getElem?_map,ha];rfl)] at hx
   cases hx
   generalize ks[i]=a at ha ⊢
   simp_all! only [(b.less l').ob,(b.less l').rw,qp]
   rw [hrow,show (i:Int) + 1=((i + 1:Nat):Int) by omega,xx _ _ (by rw [List.length_map];omega),← List.map_drop]
   have eup:rM ks (i + 1)=rM ks i ++ (ks.drop (i + 1)).map fun b=>(a,b):=by show rM ks i ++ _=_;rw [ha]
   have mup:∀ j,∀ p∈rM ks i ++ ((ks.drop (i + 1)).take j).map (fun b=>(a,b)),p.1∈ks∧p.2∈ks:=fun j p hp=>by
    rcases List.mem_append.mp hp with hp | hp
    ·obtain ⟨_,_,_,_,h3,h4⟩:=jH.mp hp
     exact ⟨List.mem_of_getElem? h3,List.mem_of_getElem? h4⟩
    ·obtain ⟨y,hy,rfl⟩:=List.mem_map.mp hp
     exact ⟨List.mem_of_getElem? ha,List.mem_of_mem_drop (List.mem_of_mem_take hy)⟩
   obtain ⟨In2,hIn2⟩:∃ In2:Nat→Sr→Hq→Prop,∀ j τ J',In2 j τ J'↔∃ (r:Addr) (u5 u6:Option PV),τ=[some (.ref p),some (fr m),some (.ref pb),some (.int (i:Int)),some (.str a.n),u5,u6]∧mJ J J'∧zT cB J' pb r (bp L.t (bh L.t m) (rM ks i ++ ((ks.drop (i + 1)).take j).map fun b=>(a,b)))∧(bp L.t (bh L.t m) (rM ks i ++ ((ks.drop (i + 1)).take j).map fun b=>(a,b))).length≤12 * i + j:=⟨_,fun _ _ _=>Iff.rfl⟩
   refine iE In2 ((hIn2 _ _ _).mpr ⟨r,_,_,rfl,l',by simpa using bb,by simpa using hle⟩) (fun _ _ _ _=>trivial) ?_ ?_
   ·intro j x τ J2 hx hv
    obtain ⟨r2,u5,u6,rfl,l2,bb2,hle2⟩:=(hIn2 _ _ _).mp hv
    clear hv
    have hj:j < (ks.drop (i + 1)).length:=by have:=(List.getElem?_eq_some_iff.mp hx).1;rw [List.length_map] at this;exact this
    have hb:(ks.drop (i + 1))[j]?=some (ks.drop (i + 1))[j]:=List.getElem?_eq_getElem hj
    rw [List.getElem?_map,hb] at hx
    cases hx
    generalize (ks.drop (i + 1))[j]=y at hb ⊢
    have hb':ks[i + 1 + j]?=some y:=by rw [List.getElem?_drop] at hb;exact hb
    have hjl:j < 12:=by rw [List.length_drop] at hj;omega
    have ej:(ks.drop (i + 1)).take (j + 1)=(ks.drop (i + 1)).take j ++ [y]:=by rw [List.take_add_one,hb];rfl
    have ef2:bp L.t (bh L.t m) (rM ks i ++ ((ks.drop (i + 1)).take (j + 1)).map fun b=>(a,b))=ie L.t (bh L.t m) (bp L.t (bh L.t m) (rM ks i ++ ((ks.drop (i + 1)).take j).map fun b=>(a,b))) (a,y):=by
     rw [ej,List.map_append,← List.append_assoc];exact dC _ _ _ _
    have srt:=gT L.t (bh L.t m) (rM ks i ++ ((ks.drop (i + 1)).take j).map fun b=>(a,b))
    have szs:=hup (mup j)
    generalize bp L.t (bh L.t m) (rM ks i ++ ((ks.drop (i + 1)).take j).map fun b=>(a,b))=rows at bb2 hle2 ef2 srt szs
    have ig:bh L.t m (a,y)=false→∀ {v5 v6},In2 (j + 1) [some (.ref p),some (fr m),some (.ref pb),some (.int (i:Int)),some (.str a.n),v5,v6] J2:=fun hc v5 v6=>by
     have e:ie L.t (bh L.t m) rows (a,y)=rows:=by unfold ie;rw [if_neg (by rw [hc];decide)]
     exact (hIn2 _ _ _).mpr ⟨r2,_,_,rfl,l2,by rw [ef2,e];exact bb2,by rw [ef2,e];omega⟩
    have b2:=b.less l2
    simp_all! only [b2.ob]
    refine ⟨f' _ _ _ _,p,L,a.n,y.n,rfl,b2,ok.toaQ,fun c hc c' hc' e e' hg hg'=>?_,fun z=>?_⟩
    ·have hmet:=ym ok (by rw [hks];exact ha) (by rw [hks];exact hb') (by omega) hc hc' hg hg' e e'
     rw [hmet]
     by_cases c2:y.v < a.v∧a.p < y.p
     ·rw [if_pos c2]
      have smk:=qs ok (by rw [hks];exact List.mem_of_getElem? ha) (by rw [hks];exact List.mem_of_getElem? hb') c2.1
      simp_all! only [gv,oi,cG]
      refine ⟨sm.mono (by decide),smk,?_⟩
      by_cases c3:m < dg L.t a y
      ·rw [if_pos c3]
       exact ig (decide_eq_false (fun z=>by have:=z.2.2;grind))
      ·rw [if_neg c3]
       have hcp:bh L.t m (a,y)=true:=decide_eq_true ⟨c2.1,c2.2,by grind⟩
       have e:ie L.t (bh L.t m) rows (a,y)=gq ⟨dg L.t a y,a.n,y.n⟩ (cf a.n y.n rows):=by unfold ie;rw [if_pos hcp];rfl
       simp_all! only [bb2.o]
       refine ⟨Hx _,pb,r2,rows,dg L.t a y,a.n,y.n,rfl,bb2,srt,by omega,smk,szs,fun r' hr'=>?_⟩
       have nr:r'≠pb:=by intro z;subst z;rw [bb2.o] at hr';cases hr'
       refine (hIn2 _ _ _).mpr ⟨r',_,_,rfl,nG l2 hpb hr',⟨av,by rw [ar nr,av,ef2,e]⟩,?_⟩
       rw [ef2,e,lQ]
       have:=jM a.n y.n rows
       omega
     ·rw [if_neg c2]
      simp_all! only [gv]
      exact ig (decide_eq_false (fun z=>c2 ⟨z.1,z.2.1⟩))
    ·rcases z with z | z
     ·exact absurd (k9 ok (by rw [hks];exact List.mem_of_getElem? ha)) z
     ·exact absurd (k9 ok (by rw [hks];exact List.mem_of_getElem? hb')) z
   ·intro τ J2 hv
    obtain ⟨r2,u5,u6,rfl,l2,bb2,hle2⟩:=(hIn2 _ _ _).mp hv
    rw [List.length_map,List.take_length,← eup] at bb2 hle2
    rw [List.length_drop] at hle2
    exact (hInv _ _ _).mpr ⟨r2,_,_,_,_,rfl,l2,bb2,by omega⟩
  ·intro τ J' hv
   obtain ⟨r,u3,u4,u5,u6,rfl,l',bb,hle⟩:=(hInv _ _ _).mp hv
   rw [gR,List.length_map,← hks,BV ok.knd] at bb
   simp_all! only [bb.o]
   exact ⟨Hy _,pb,r,_,rfl,bb,.inl (Fg.less l' q)⟩
theorem qa {m:Rat} (h:f6 m.num m.den=true):Sc fC MM m∧0≤m:=by
 have h:=of_decide_eq_true h
 have hd:m.den≤60:=by omega
 constructor
 ·have h1:Sc m.den m.num.natAbs m:=⟨m.num,by have:=cast_eq m;rw [this];rfl,Nat.le_refl _⟩
  obtain ⟨k,hk⟩:=Jn m.den m.den_pos hd
  have h2:=h1.scale (E:=k)
  rw [show k * m.den=fC by rw [hk,Nat.mul_comm]] at h2
  refine h2.mono ?_
  have h3:m.num.natAbs≤1000000 * m.den:=by omega
  have h4:k * m.num.natAbs≤k * (1000000 * m.den):=Nat.mul_le_mul_left _ h3
  have h5:k * (1000000 * m.den)=1000000 * fC:=by rw [hk];rw [Nat.mul_left_comm,Nat.mul_comm k]
  unfold MM
  omega
 ·exact Rat.num_nonneg.mp h.2.2.2.1
theorem aQ.EW {L:Ln} (h:aQ L) {m:Rat} (hm:L.t≤m) (hg:f6 m.num m.den=true):aQ { L with t:=m } :=
 ⟨h.nd,h.ne,fun c hc l hl=>Rat.le_trans (h.le c hc l hl) hm,h.ck,h.len,fun c hc q e=>⟨(h.gz c hc q e).1,Rat.le_trans (h.gz c hc q e).2 hm⟩,(qa hg).2,(qa hg).1,h.many,h.rm,h.rn,h.rl⟩
abbrev d_:Stmt:=(L2.inClass (top 42) 5)
theorem ip:L2.aw ["self","moment","passings"] ["self","moment"] (L2.aj d_):=dT
def zu (cN cL eM eP:Addr):cm:=fun xs J Q E=>∃ p L a b,xs=[.ref p,.tup [.int a,.int b]]∧aV cN cL J p L∧bU L∧(f6 a b=false→E eM J)∧(∀ m:Rat,m.num=a→(m.den:Int)=b→f6 a b=true→(m < L.t→E eP J)∧(L.t≤m→∀ J' o',aV cN cL J' p { L with t:=m,o:=o',row:=cZ m L.fs }→bU { L with t:=m,o:=o',row:=cZ m L.fs }→Mv J J' (L.own p) (Ln.own { L with t:=m,o:=o',row:=cZ m L.fs } p)→Q (.fl ((fw L.t (L.fs.map (key L.t)) m).map ay.v)) J'))
theorem mV {cN cL eM eP f:Addr} {fd:FuncData} (F:bV K "go_to" "Lane.go_to" d_ f fd) (Z:bR mg) (KD_Lane:du K mg "Lane" cN) (NA_Lane_now:aA K cN "now") (m_Lane_foretold:cX P w K mg base cN 7 "foretold" ["self","moment"] (uZ cN cL eM eP)) (m_Lane_settle:cX P w K mg base cN 7 "settle" ["self"] (fB cN cL)):aI P w K mg base (cS P w) 8 f fd ["self","moment"] (dz K (zu cN cL eM eP)):=by
 simp_arith [ip]
 ·obtain ⟨p,L,a,b,rfl,_⟩:=h;rfl
 obtain ⟨p,L,a,bb,rfl,b,ok,qe,q⟩:=h
 have bo:=b.ob
 refine ⟨_,(ai (aK (i:=2) ip.nd rfl (Or.inl rfl) (bx (pl:=_) m_Lane_foretold B hr (by decide) (rv 0) (af (rv 1) ah)))
   (ai (fj KD_Lane.cl NA_Lane_now (rv 0) (rv 1))
   (ai (bj (fA (pl:=_) m_Lane_settle B hr (by decide) (rv 0)))
   (ak (aB (rv 2)))))),?_⟩
 simp_all! only [bo]
 refine ⟨f' _ _ _ _,p,L,a,bb,rfl,b,ok,qe,fun m h1 h2 hg=>⟨(q m h1 h2 hg).1,fun hm=>?_⟩⟩
 have q:=(q m h1 h2 hg).2 hm
 have ef:PV.tup [.int a,.int bb]=fr m:=by rw [← h1,← h2];rfl
 have hgm:f6 m.num m.den=true:=by rw [h1,h2];exact hg
 have ok1:=ok.toaQ.EW hm hgm
 simp_all! only [bo,ef]
 refine ⟨by show (3:Nat) < 1000;decide,?_⟩
 have b1:aV cN cL (put J p (.ins cN [("now",fr m),("logs",.ref L.d),("row",.ref L.o)])) p { L with t:=m } :=
  ⟨av,by show put J p _ L.d=_;rw [ar b.AJ];exact b.dc,by show put J p _ L.o=_;rw [ar b.AL];exact b.rw,fun c hc=>⟨by rw [ar (b.GO hc)];exact (b.lg c hc).o,by rw [ar (b.Er hc)];exact (b.lg c hc).l⟩,b.ap,b.ao⟩
 have mv1:Mv J (put J p (.ins cN [("now",fr m),("logs",.ref L.d),("row",.ref L.o)])) (L.own p) (L.own p):=eG (.inl rfl) fun a h=>.inl h
 generalize put J p (.ins cN [("now",fr m),("logs",.ref L.d),("row",.ref L.o)])=J1 at b1 mv1 ⊢
 simp_all! only [b1.ob]
 refine ⟨f' _ _ _ _,p,{ L with t:=m },rfl,b1,ok1,fun J2 o' b2 mv2=>?_⟩
 simp_all! only []
 exact q J2 o' b2 (bU.settled ok1 o') (mv1.trans mv2)
def Cf.turn (c:Cf) (t:Rat) (v:Int):Cf:={ c with w:=turned c.w t v }
def cj (n:Str) (t:Rat) (v:Int) (c:Cf):Cf:=if c.n=n then c.turn t v else c
theorem jG (n:Str) (t:Rat) (v:Int) (c:Cf):(cj n t v c).n=c.n∧(cj n t v c).a=c.a∧(cj n t v c).r=c.r∧(cj n t v c).g=c.g:=by unfold cj;split <;> exact ⟨rfl,rfl,rfl,rfl⟩
theorem df {α β:Type} {f:α→β} {g:α→α} (h:∀ x,f (g x)=f x) (l:List α):(l.map g).map f=l.map f:=by rw [List.map_map];exact List.map_congr_left fun x _=>h x
theorem aQ.map {L:Ln} (h:aQ L) {f:Cf→Cf} (hn:∀ c,(f c).n=c.n∧(f c).a=c.a∧(f c).r=c.r∧(f c).g=c.g) (hw:∀ c∈L.cs,(f c).w≠[]∧(∀ l∈(f c).w,l.m≤L.t∧mH l)∧(f c).w.length≤200):aQ { L with cs:=L.cs.map f }:=by
 have mem:∀ c∈L.cs.map f,∃ c0∈L.cs,f c0=c:=fun c hc=>by obtain ⟨c0,h0,e⟩:=List.mem_map.mp hc;exact ⟨c0,h0,e⟩
 have hfs:(Ln.fs { L with cs:=L.cs.map f }).map (·.1)=L.fs.map (·.1):=by
  rw [dS,dS]
  unfold Ln.wG
  show ((L.cs.map f).filter _).map Cf.n=_
  rw [List.filter_map,List.map_map]
  have e1:(fun c:Cf=>c.g.isNone) ∘ f=fun c=>c.g.isNone:=by funext c;show (f c).g.isNone=_;rw [(hn c).2.2.2]
  rw [e1]
  exact List.map_congr_left fun c _=>(hn c).1
 refine ⟨?_,?_,?_,?_,?_,?_,h.t0,h.ts,by show (L.cs.map f).length≤100;rw [List.length_map];exact h.many,fun n=>by rw [hfs];exact h.rm n,h.rn,h.rl⟩
 ·show ((L.cs.map f).map Cf.n).Nodup
  rw [df (fun c=>(hn c).1)];exact h.nd
 ·intro c hc;obtain ⟨c0,h0,rfl⟩:=mem c hc;exact (hw c0 h0).1
 ·intro c hc l hl;obtain ⟨c0,h0,rfl⟩:=mem c hc;exact ((hw c0 h0).2.1 l hl).1
 ·intro c hc l hl;obtain ⟨c0,h0,rfl⟩:=mem c hc;exact ((hw c0 h0).2.1 l hl).2
 ·intro c hc;obtain ⟨c0,h0,rfl⟩:=mem c hc;exact (hw c0 h0).2.2
 ·intro c hc q e;obtain ⟨c0,h0,rfl⟩:=mem c hc;exact h.gz c0 h0 q (by rw [← (hn c0).2.2.2];exact e)
theorem aQ.B3 {L:Ln} (h:aQ L) {c:Cf} (hc:c∈L.cs):c.w≠[]∧(∀ l∈c.w,l.m≤L.t∧mH l)∧c.w.length≤200:=⟨h.ne c hc,fun l hl=>⟨h.le c hc l hl,h.ck c hc l hl⟩,h.len c hc⟩
theorem aQ.CF {L:Ln} (h:aQ L) {c:Cf} (hc:c∈L.cs) (hl:c.w.length < 200) {v:Int} (hv:v.natAbs≤1000):(c.turn L.t v).w≠[]∧(∀ l∈(c.turn L.t v).w,l.m≤L.t∧mH l)∧(c.turn L.t v).w.length≤200:=by
 refine ⟨kj (h.ne c hc),fun l hl'=>?_,?_⟩
 ·rcases mB hl' with k | ⟨l0,k,rfl⟩
  ·exact ⟨h.le c hc l k,h.ck c hc l k⟩
  ·exact ⟨Rat.le_refl,(h.ck c hc l0 k).at (h.le c hc l0 k) h.ts hv⟩
 ·have:=fV c.w L.t v
  show (turned c.w L.t v).length≤200
  omega
theorem aV.turn {cN cL:Addr} {J:Hq} {p:Addr} {L:Ln} (h:aV cN cL J p L) (ok:aQ L) {c:Cf} (hc:c∈L.cs) {t:Rat} {v:Int}:aV cN cL (put J c.r (.lst ((turned c.w t v).map aP.V))) p { L with cs:=L.cs.map (cj c.n t v) }:=by
 have hcs:=jG c.n t v
 refine ⟨by rw [ar (Ne.symm (h.Er hc))];exact h.ob,?_,?_,fun x hx=>?_,?_,fun x hx=>?_⟩
 ·show put J c.r _ L.d=_
  rw [ar (Ne.symm (h.IQ hc)),h.dc]
  show _=Option.some (HQ.dct ((L.cs.map (cj c.n t v)).map fun c=>(c.n,PV.ref c.a)) L.e)
  rw [df (f:=fun c:Cf=>(c.n,PV.ref c.a)) (fun x=>by rw [(hcs x).1,(hcs x).2.1])]
 ·show put J c.r _ L.o=_
  rw [ar (Ne.symm (h.ao c hc))];exact h.rw
 ·obtain ⟨x0,h0,rfl⟩:=List.mem_map.mp hx
  have hl:=h.lg x0 h0
  refine ⟨?_,?_⟩
  ·rw [(hcs x0).2.1,(hcs x0).2.2.1,(hcs x0).2.2.2,ar (h.Jq h0 hc)];exact hl.o
  ·rw [(hcs x0).2.2.1]
   by_cases e:x0.n=c.n
   ·have:x0=c:=ok.uniq h0 hc e
    subst this
    rw [av]
    unfold cj;rw [if_pos rfl];rfl
   ·have hr:x0.r≠c.r:=fun z=>e (by
     obtain ⟨i,hi,rfl⟩:=List.getElem_of_mem h0
     obtain ⟨j,hj,rfl⟩:=List.getElem_of_mem hc
     have:=(List.getElem_inj (xs:=L.cs.map Cf.r) (i:=i) (j:=j) (h₀:=by simpa using hi) (h₁:=by simpa using hj) h.ap).mp (by rw [List.getElem_map,List.getElem_map];exact z)
     subst this;rfl)
    rw [ar hr]
    unfold cj;rw [if_neg e];exact hl.l
 ·show ((L.cs.map (cj c.n t v)).map Cf.r).Nodup
  rw [df (fun x=>(hcs x).2.2.1)];exact h.ap
 ·obtain ⟨x0,h0,rfl⟩:=List.mem_map.mp hx
  rw [(hcs x0).2.2.1];exact h.ao x0 h0
theorem oQ {L:Ln} {p:Addr} {f:Cf→Cf} (hn:∀ c,(f c).n=c.n∧(f c).a=c.a∧(f c).r=c.r∧(f c).g=c.g) (a:Addr):Ln.own { L with cs:=L.cs.map f } p a↔L.own p a:=by
 unfold Ln.own
 constructor
 ·rintro (h | h | h | ⟨c,hc,h⟩)
  ·exact .inl h
  ·exact .inr (.inl h)
  ·exact .inr (.inr (.inl h))
  ·obtain ⟨c0,h0,rfl⟩:=List.mem_map.mp hc
   rw [(hn c0).2.1,(hn c0).2.2.1] at h
   exact .inr (.inr (.inr ⟨c0,h0,h⟩))
 ·rintro (h | h | h | ⟨c,hc,h⟩)
  ·exact .inl h
  ·exact .inr (.inl h)
  ·exact .inr (.inr (.inl h))
  ·exact .inr (.inr (.inr ⟨f c,List.mem_map.mpr ⟨c,hc,rfl⟩,by rw [(hn c).2.1,(hn c).2.2.1];exact h⟩))
abbrev e_:Stmt:=(L2.inClass (top 42) 3)
theorem pz:L2.aw ["self","name","pace"] ["self","name","pace"] (L2.aj e_):=dT
def vc (cN cL eC eF:Addr):cm:=fun xs J Q E=>∃ p L n v,xs=[.ref p,.str n,.int v]∧aV cN cL J p L∧bU L∧(∀ c∈L.cs,c.w.length < 200)∧(n ∉ L.row→E eC J)∧(n∈L.row→¬ v.natAbs≤1000→E eF J)∧(n∈L.row→v.natAbs≤1000→∀ J' L',aV cN cL J' p L'→bU L'→L'.cs=L.cs.map (cj n L.t v)→L'.t=L.t→Mv J J' (L.own p) (L'.own p)→Q .non J')
theorem oG {cN cL eC eF f:Addr} {fd:FuncData} (F:bV K "turn" "Lane.turn" e_ f fd) (Z:bR mg) (KD_Lane:du K mg "Lane" cN) (NA_Lane_logs:aA K cN "logs") (NA_Lane_now:aA K cN "now") {t_FASTEST:Tok} (g_FASTEST:mg "FASTEST"=some (.int 1000 t_FASTEST)) (O_TooFar:Own K mg "TooFar" eF) (m_Lane_must_be_there:cX P w K mg base cN 1 "must_be_there" ["self","name"] (lz cN cL eC)) (m_Log_turn:cX P w K mg base cL 5 "turn" ["self","moment","pace"] (pK cL)) (m_Lane_settle:cX P w K mg base cN 7 "settle" ["self"] (fB cN cL)):aI P w K mg base (cS P w) 8 f fd ["self","name","pace"] (dz K (vc cN cL eC eF)):=by
 simp_arith [pz]
 ·obtain ⟨p,L,n,v,rfl,_⟩:=h;rfl
 obtain ⟨p,L,n,v,rfl,b,ok,hlen,qc,qf,q⟩:=h
 have bo:=b.ob
 have bd:=b.dc
 refine ⟨_,(ai (bj (bx (pl:=_) m_Lane_must_be_there B hr (by decide) (rv 0) (af (rv 1) ah)))
   (ai (aU (aD ik (aM rX rfl Z.abs boot_abs (af (rv 2) ah)) (d7 (v:=.int 1000) (.int 1000) rfl g_FASTEST ⟨_,rfl⟩ (fun _ _=>rfl)) (L2.ax _)) (ak (dj O_TooFar rfl bW B.kn rfl (af bD ah))) aJ)
   (ai (bj (bx (pl:=_) m_Log_turn B hr (by decide) (aq dD (aS KD_Lane.cl NA_Lane_logs (rv 0)) (rv 1) (fun _ _=>rfl)) (af (aS KD_Lane.cl NA_Lane_now (rv 0)) (af (rv 2) ah))))
   (ak (bj (fA (pl:=_) m_Lane_settle B hr (by decide) (rv 0))))))),?_⟩
 simp_all! only [bo]
 refine ⟨f' _ _ _ _,p,L,n,rfl,b,fun hn=>?_,qc⟩
 simp_all! only []
 have habs:(1000 < if v < 0 then -v else v)↔¬ v.natAbs≤1000:=by split <;> omega
 by_cases hv:v.natAbs≤1000
 ·rw [if_neg (fun z=>habs.mp z hv)]
  obtain ⟨c,hc,rfl,hg⟩:=ok.found hn
  have lo:=(b.lg c hc).o
  have ok1:aQ { L with cs:=L.cs.map (cj c.n L.t v) }:=ok.toaQ.map (jG c.n L.t v) fun x hx=>by
   unfold cj
   split
   ·exact ok.toaQ.CF hx (hlen x hx) hv
   ·exact ok.toaQ.B3 hx
  have b1:=b.turn ok.toaQ hc (t:=L.t) (v:=v)
  have mv1:Mv J (put J c.r (.lst ((turned c.w L.t v).map aP.V))) (L.own p) (Ln.own { L with cs:=L.cs.map (cj c.n L.t v) } p):=eG (.inr (.inr (.inr ⟨c,hc,.inr rfl⟩))) fun a h=>.inl ((oQ (jG c.n L.t v) a).mp h)
  simp_all! only [bo,oy,v3,bd,ok.va hc,lo]
  refine ⟨Fp _ _,c.a,c.r,c.w,c.g,L.t,v,rfl,b.lg c hc,ok.ne c hc,Nat.le_trans (ok.len c hc) (by decide),ok.CC,fun l hl=>(ok.ck c hc l hl).Fs,?_⟩
  generalize put J c.r (.lst ((turned c.w L.t v).map aP.V))=J1 at b1 mv1 ⊢
  simp_all! only [b1.ob]
  refine ⟨f' _ _ _ _,p,_,rfl,b1,ok1,fun J2 o' b2 mv2=>?_⟩
  exact q hn hv J2 _ b2 (bU.settled ok1 o') rfl rfl (mv1.trans mv2)
 ·rw [if_pos (habs.mpr hv)]
  simp_all! only [eK]
  exact qf hn hv
def cY (t:Rat) (c:Cf):Cf:=if c.g.isNone=true then c.turn t (-c.cur.v) else c
def bB (t:Rat) (row:List Str) (c:Cf):Cf:=if c.n∈row then c.turn t (-c.cur.v) else c
theorem iT (t:Rat) (row:List Str) (c:Cf):(bB t row c).n=c.n∧(bB t row c).a=c.a∧(bB t row c).r=c.r∧(bB t row c).g=c.g:=by unfold bB;split <;> exact ⟨rfl,rfl,rfl,rfl⟩
theorem gL {L:Ln} (ok:aQ L):L.cs.map (bB L.t L.row)=L.cs.map (cY L.t):=by
 refine List.map_congr_left fun c hc=>?_
 have h:c.n∈L.row↔c.g.isNone=true:=by
  rw [ok.rm,dS,List.mem_map]
  constructor
  ·rintro ⟨c',hc',e⟩
   have h':=Ln.cU.mp hc'
   rw [ok.uniq h'.1 hc e] at h'
   rw [h'.2];rfl
  ·intro e
   exact ⟨c,Ln.cU.mpr ⟨hc,by cases hg:c.g with | none=>rfl | some q=>rw [hg] at e;cases e⟩,rfl⟩
 unfold bB cY
 by_cases e:c.n∈L.row
 ·rw [if_pos e,if_pos (h.mp e)]
 ·rw [if_neg e,if_neg (fun z=>e (h.mpr z))]
theorem aQ.bB {L:Ln} (ok:aQ L) (hlen:∀ c∈L.cs,c.w.length < 200) (row:List Str):aQ { L with cs:=L.cs.map (bB L.t row) }:=ok.map (iT L.t row) fun x hx=>by
 unfold Ov.bB
 split
 ·exact ok.CF hx (hlen x hx) (by have:=(ok.ck x hx _ (Cf.fH (ok.ne x hx)).2).v;omega)
 ·exact ok.B3 hx
abbrev d9:Stmt:=(L2.inClass (top 42) 4)
theorem fm:L2.aw ["self","name","pace"] ["self"] (L2.aj d9):=dT
def rp (cN cL:Addr):cm:=fun xs J Q E=>∃ p L,xs=[.ref p]∧aV cN cL J p L∧bU L∧(∀ c∈L.cs,c.w.length < 200)∧(∀ J' L',aV cN cL J' p L'→bU L'→L'.cs=L.cs.map (cY L.t)→L'.t=L.t→Mv J J' (L.own p) (L'.own p)→Q .non J')
theorem mU {cN cL eC f:Addr} {fd:FuncData} (F:bV K "about" "Lane.about" d9 f fd) (Z:bR mg) (KD_Lane:du K mg "Lane" cN) (NA_Lane_row:aA K cN "row") (NA_Lane_logs:aA K cN "logs") (NA_Lane_now:aA K cN "now") (m_Lane_leg_of:cX P w K mg base cN 4 "leg_of" ["self","name"] (jE cN cL eC)) (m_Log_turn:cX P w K mg base cL 5 "turn" ["self","moment","pace"] (pK cL)) (m_Lane_settle:cX P w K mg base cN 7 "settle" ["self"] (fB cN cL)):aI P w K mg base (cS P w) 8 f fd ["self"] (dz K (rp cN cL)):=by
 simp_arith [fm]
 ·obtain ⟨p,L,rfl,_⟩:=h;rfl
 obtain ⟨p,L,rfl,b,ok,hlen,q⟩:=h
 refine ⟨_,(ai (fN cy rfl (g8 (aS KD_Lane.cl NA_Lane_row (rv 0))) (bZ (i:=1) fm.nd rfl (Or.inl rfl)) (ai (aK (i:=2) fm.nd rfl (Or.inl rfl) (aq au (bx (pl:=_) m_Lane_leg_of B hr (by decide) (rv 0) (af (rv 1) ah)) ag (fun _ _=>rfl)))
   (ak (bj (bx (pl:=_) m_Log_turn B hr (by decide) (aq dD (aS KD_Lane.cl NA_Lane_logs (rv 0)) (rv 1) (fun _ _=>rfl)) (af (aS KD_Lane.cl NA_Lane_now (rv 0)) (af (qW mC (rv 2)) ah)))))))
   (ak (bj (fA (pl:=_) m_Lane_settle B hr (by decide) (rv 0))))),?_⟩
 simp_all! only [b.ob,b.rw,qp]
 have hid:L.cs.map (bB L.t (L.row.take 0))=L.cs:=by
  have:∀ c∈L.cs,bB L.t (L.row.take 0) c=c:=fun c _=>by unfold bB;rw [if_neg (by simp)]
  rw [List.map_congr_left this,List.map_id']
 obtain ⟨Inv,hInv⟩:∃ Inv:Nat→Sr→Hq→Prop,∀ i τ J',Inv i τ J'↔∃ (u1 u2:Option PV),τ=[some (.ref p),u1,u2]∧aV cN cL J' p { L with cs:=L.cs.map (bB L.t (L.row.take i)) }∧Mv J J' (L.own p) (L.own p):=⟨_,fun _ _ _=>Iff.rfl⟩
 refine iE Inv ((hInv _ _ _).mpr ⟨_,_,rfl,by rw [hid];exact b,Mv.refl _ _⟩) (fun i τ J' h=>?_) ?_ ?_
 ·obtain ⟨_,_,_,b',_⟩:=(hInv _ _ _).mp h
  have:=b'.rw
  simp only at this
  rw [this]
 ·intro i x τ J' hx hv
  obtain ⟨u1,u2,rfl,b',mv'⟩:=(hInv _ _ _).mp hv
  clear hv
  have hi:i < L.row.length:=by have:=(List.getElem?_eq_some_iff.mp hx).1;simpa using this
  have hget:L.row[i]?=some L.row[i]:=List.getElem?_eq_getElem hi
  rw [List.getElem?_map,hget] at hx
  cases hx
  have hn:L.row[i]∈L.row:=List.getElem_mem hi
  have et:L.row.take (i + 1)=L.row.take i ++ [L.row[i]]:=by rw [List.take_add_one,hget];rfl
  have hnd:(L.row.take (i + 1)).Nodup:=ok.rn.sublist (List.take_sublist _ _)
  rw [et] at hnd
  have hnew:=(fJ hnd).2
  generalize L.row[i]=n at hn et hnew ⊢
  obtain ⟨c,hc,rfl,hg⟩:=ok.found hn
  have oki:=ok.toaQ.bB hlen (L.row.take i)
  have ecc:bB L.t (L.row.take i) c=c:=by unfold bB;rw [if_neg hnew]
  have hci:c∈L.cs.map (bB L.t (L.row.take i)):=List.mem_map.mpr ⟨c,hc,ecc⟩
  simp_all! only [b'.ob]
  refine ⟨f' _ _ _ _,p,_,c.n,rfl,b',oki,fun c' hc' e' hg'=>?_,fun z=>absurd hn z⟩
  have ec':c'=c:=oki.uniq hc' hci e'
  subst ec'
  have hcv:=(ok.ck c' hc _ (Cf.fH (ok.ne c' hc)).2).v
  have lo:=(b'.lg c' hci).o
  have bo':=b'.ob
  have bd':=b'.dc
  simp only at bo' bd'
  simp_all! only [kr,bo',oy,v3,bd',lo]
  have hva:=oki.va hci
  simp only at hva
  simp_all! only [hva,lo,bo',oy]
  refine ⟨Fp _ _,c'.a,c'.r,c'.w,c'.g,L.t,-c'.cur.v,rfl,b'.lg c' hci,ok.ne c' hc,Nat.le_trans (ok.len c' hc) (by decide),ok.CC,fun l hl=>(ok.ck c' hc l hl).Fs,?_⟩
  have b1:=b'.turn oki hci (t:=L.t) (v:=-c'.cur.v)
  have em:(L.cs.map (bB L.t (L.row.take i))).map (cj c'.n L.t (-c'.cur.v))=L.cs.map (bB L.t (L.row.take (i + 1))):=by
   rw [List.map_map]
   refine List.map_congr_left fun x hx=>?_
   show cj c'.n L.t (-c'.cur.v) (bB L.t (L.row.take i) x)=_
   by_cases e:x.n=c'.n
   ·have:x=c':=ok.uniq hx hc e
    subst this
    rw [ecc]
    unfold cj Ov.bB
    rw [if_pos rfl,if_pos (by rw [et];simp)]
   ·unfold cj
    rw [if_neg (by rw [(iT L.t (L.row.take i) x).1];exact e)]
    unfold Ov.bB
    rw [et]
    by_cases e2:x.n∈L.row.take i
    ·rw [if_pos e2,if_pos (List.mem_append.mpr (.inl e2))]
    ·rw [if_neg e2,if_neg (fun z=>by
      rcases List.mem_append.mp z with z | z
      ·exact e2 z
      ·exact e (by simpa using z))]
  simp only [em] at b1
  refine (hInv _ _ _).mpr ⟨_,_,rfl,b1,mv'.trans (eG (.inr (.inr (.inr ⟨c',hc,.inr rfl⟩))) fun a h=>.inl h)⟩
 ·intro τ J' hv
  obtain ⟨u1,u2,rfl,b',mv'⟩:=(hInv _ _ _).mp hv
  rw [List.length_map,List.take_length,gL ok.toaQ] at b'
  have oki:aQ { L with cs:=L.cs.map (cY L.t) }:=by rw [← gL ok.toaQ];exact ok.toaQ.bB hlen L.row
  simp_all! only [b'.ob]
  refine ⟨f' _ _ _ _,p,_,rfl,b',oki,fun J2 o' b2 mv2=>?_⟩
  refine q J2 _ b2 (bU.settled oki o') rfl rfl (mv'.trans ⟨fun a o e n=>mv2.keep a o e fun z=>n ?_,fun a h=>?_,mv2.mono⟩)
  ·rw [← gL ok.toaQ] at z;exact (oQ (iT L.t L.row) a).mp z
  ·rcases mv2.own a h with h' | h'
   ·rw [← gL ok.toaQ] at h';exact .inl ((oQ (iT L.t L.row) a).mp h')
   ·exact .inr h'
def bc (n:Str) (t:Rat) (c:Cf):Cf:=if c.n=n then { c with g:=some t } else c
theorem dU (n:Str) (t:Rat) (c:Cf):(bc n t c).n=c.n∧(bc n t c).a=c.a∧(bc n t c).r=c.r∧(bc n t c).w=c.w:=by unfold bc;split <;> exact ⟨rfl,rfl,rfl,rfl⟩
theorem qj {L L':Ln} {n:Str} {t:Rat} (e:L'.cs=L.cs.map (bc n t)):L'.fs=L.fs.filter fun x=>decide (x.1≠n):=by
 unfold Ln.fs Ln.wG
 rw [e,List.filter_map,List.map_map,List.filter_map,List.filter_filter]
 have e1:(fun c:Cf=>c.g.isNone) ∘ bc n t=fun c=>((fun x:Str × aP=>decide (x.1≠n)) ∘ fun c:Cf=>(c.n,c.cur)) c && c.g.isNone:=by
  funext c
  show (bc n t c).g.isNone=(decide (c.n≠n) && c.g.isNone)
  unfold bc
  by_cases z:c.n=n
  ·rw [if_pos z];simp [z]
  ·rw [if_neg z];simp [z]
 rw [e1]
 refine List.map_congr_left fun c hc=>?_
 show ((bc n t c).n,(bc n t c).cur)=_
 unfold Cf.cur
 rw [(dU n t c).1,(dU n t c).2.2.2]
theorem qJ {ks:List Ky} (h:(ks.map Ky.n).Nodup) (f:Ky→Bool):dy (ks.filter f)=(dy ks).filter f:=by
 have hs:((ks.filter f).map Ky.n).Nodup:=h.sublist (List.Sublist.map _ List.filter_sublist)
 refine jF (lt:=Ky.lt) Ky.zR Ky.tr (dW hs) ((dW h).filter _) fun x=>?_
 rw [bq,List.mem_filter,List.mem_filter,bq]
theorem qL {t:Rat} {fs:List (Str × aP)} (h:(fs.map (·.1)).Nodup) (n:Str):cZ t (fs.filter fun x=>decide (x.1≠n))=(cZ t fs).filter fun x=>decide (x≠n):=by
 unfold cZ
 have e:(fs.filter fun x=>decide (x.1≠n)).map (key t)=(fs.map (key t)).filter fun k=>decide (k.n≠n):=by rw [List.filter_map];rfl
 rw [e,qJ (by rw [c8];exact h),List.filter_map]
 rfl
theorem erase_filter {l:List Str} (h:l.Nodup) {j:Nat} {n:Str} (hj:l[j]?=some n):l.eraseIdx j=l.filter fun x=>decide (x≠n):=by
 obtain ⟨hl,e⟩:=List.getElem?_eq_some_iff.mp hj
 rw [List.eraseIdx_eq_take_drop_succ]
 have hd:l=l.take j ++ n :: l.drop (j + 1):=by rw [← e,← List.drop_eq_getElem_cons hl,List.take_append_drop]
 have hn:=h
 rw [hd,List.nodup_append] at hn
 have k1:∀ x∈l.take j,x≠n:=fun x hx=>hn.2.2 x hx n (by simp)
 have k2:∀ x∈l.drop (j + 1),x≠n:=fun x hx z=>(List.nodup_cons.mp hn.2.1).1 (by rw [← z];exact hx)
 conv=>rhs;rw [hd]
 rw [List.filter_append,List.filter_cons,if_neg (by simp),List.filter_eq_self.mpr fun x hx=>decide_eq_true (k1 x hx),List.filter_eq_self.mpr fun x hx=>decide_eq_true (k2 x hx)]
theorem bU.leave {L:Ln} (ok:bU L) (n:Str):bU { L with cs:=L.cs.map (bc n L.t),row:=L.row.filter fun x=>decide (x≠n) }:=by
 have hfs:Ln.fs { L with cs:=L.cs.map (bc n L.t),row:=L.row.filter fun x=>decide (x≠n) }=L.fs.filter fun x=>decide (x.1≠n):=qj (L:=L) (t:=L.t) rfl
 have mem:∀ c∈L.cs.map (bc n L.t),∃ c0∈L.cs,bc n L.t c0=c:=fun c hc=>by obtain ⟨c0,h0,e⟩:=List.mem_map.mp hc;exact ⟨c0,h0,e⟩
 have hw:∀ c,(bc n L.t c).w=c.w:=fun c=>(dU n L.t c).2.2.2
 refine ⟨⟨?_,?_,?_,?_,?_,?_,ok.t0,ok.ts,?_,?_,?_,?_⟩,?_⟩
 ·show ((L.cs.map (bc n L.t)).map Cf.n).Nodup
  rw [df (fun c=>(dU n L.t c).1)];exact ok.nd
 ·intro c hc;obtain ⟨c0,h0,rfl⟩:=mem c hc;rw [hw];exact ok.ne c0 h0
 ·intro c hc l hl;obtain ⟨c0,h0,rfl⟩:=mem c hc;rw [hw] at hl;exact ok.le c0 h0 l hl
 ·intro c hc l hl;obtain ⟨c0,h0,rfl⟩:=mem c hc;rw [hw] at hl;exact ok.ck c0 h0 l hl
 ·intro c hc;obtain ⟨c0,h0,rfl⟩:=mem c hc;rw [hw];exact ok.len c0 h0
 ·intro c hc q e
  obtain ⟨c0,h0,rfl⟩:=mem c hc
  unfold bc at e
  split at e
  ·cases e;exact ⟨ok.ts,Rat.le_refl⟩
  ·exact ok.gz c0 h0 q e
 ·show (L.cs.map (bc n L.t)).length≤100
  rw [List.length_map];exact ok.many
 ·intro m
  rw [hfs]
  show m∈L.row.filter _↔_
  rw [List.mem_filter,ok.rm,List.mem_map,List.mem_map]
  constructor
  ·rintro ⟨⟨x,hx,rfl⟩,k⟩;exact ⟨x,List.mem_filter.mpr ⟨hx,k⟩,rfl⟩
  ·rintro ⟨x,hx,rfl⟩;exact ⟨⟨x,(List.mem_filter.mp hx).1,rfl⟩,(List.mem_filter.mp hx).2⟩
 ·exact ok.rn.sublist List.filter_sublist
 ·exact Nat.le_trans (List.length_filter_le _ _) ok.rl
 ·rw [hfs]
  show L.row.filter _=_
  rw [qL ok.Ek,← ok.row]
theorem tY {α:Type} [DecidableEq α]:∀ {l:List α} {x:α},x∈l→∃ j:Nat,l[j]?=some x∧∀ m:Nat,m < j→l[m]?≠some x
 | y :: l,x,h=>by
  by_cases e:y=x
  ·exact ⟨0,by rw [e];rfl,fun m hm=>by omega⟩
  ·rcases List.mem_cons.mp h with h | h
   ·exact absurd h.symm e
   ·obtain ⟨j,h1,h2⟩:=tY h
    refine ⟨j + 1,h1,fun m hm=>?_⟩
    cases m with
    | zero=>intro z;exact e (Option.some.inj z)
    | succ m=>exact h2 m (by omega)
abbrev ed:Stmt:=(L2.inClass (top 42) 2)
theorem m4:L2.aw ["self","name"] ["self","name"] (L2.aj ed):=dT
def rq (cN cL eC:Addr):cm:=fun xs J Q E=>∃ p L n,xs=[.ref p,.str n]∧aV cN cL J p L∧bU L∧(n ∉ L.row→E eC J)∧(n∈L.row→∀ J' L',aV cN cL J' p L'→bU L'→L'.cs=L.cs.map (bc n L.t)→L'.t=L.t→Mv J J' (L.own p) (L'.own p)→Q .non J')
theorem mW {cN cL eC f:Addr} {fd:FuncData} (F:bV K "leave" "Lane.leave" ed f fd) (Z:bR mg) (KD_Lane:du K mg "Lane" cN) (NA_Lane_logs:aA K cN "logs") (NA_Lane_now:aA K cN "now") (NA_Lane_row:aA K cN "row") (m_Lane_must_be_there:cX P w K mg base cN 1 "must_be_there" ["self","name"] (lz cN cL eC)) (m_Log_leave:cX P w K mg base cL 1 "leave" ["self","moment"] (rb cL)):aI P w K mg base (cS P w) 2 f fd ["self","name"] (dz K (rq cN cL eC)):=by
 simp_arith [m4]
 ·obtain ⟨p,L,n,rfl,_⟩:=h;rfl
 obtain ⟨p,L,n,rfl,b,ok,qc,q⟩:=h
 have bo:=b.ob
 have bd:=b.dc
 refine ⟨_,(ai (bj (bx (pl:=_) m_Lane_must_be_there B hr (by decide) (rv 0) (af (rv 1) ah)))
   (ai (bj (bx (pl:=_) m_Log_leave B hr (by decide) (aq dD (aS KD_Lane.cl NA_Lane_logs (rv 0)) (rv 1) (fun _ _=>rfl)) (af (aS KD_Lane.cl NA_Lane_now (rv 0)) ah)))
   (ak (bj (kB PySem.F.plainAttrs_list PySem.F.slot_list_remove PySem.F.type_list_remove wc (aS KD_Lane.cl NA_Lane_row (rv 0)) (af (rv 1) ah)))))),?_⟩
 simp_all! only [bo]
 refine ⟨f' _ _ _ _,p,L,n,rfl,b,fun hn=>?_,qc⟩
 obtain ⟨c,hc,rfl,hg⟩:=ok.found hn
 have lo:=(b.lg c hc).o
 simp_all! only [bo,oy,v3,bd,ok.va hc,lo]
 refine ⟨Hz _ _,c.a,c.r,c.w,c.g,L.t,rfl,b.lg c hc,?_⟩
 simp_all! only [ar (Ne.symm (b.GO hc)),bo,qp,ar (Ne.symm (b.HF hc)),b.rw]
 obtain ⟨j,h1,h2⟩:=tY hn
 refine ⟨L.row,rfl,j,h1,h2,?_⟩
 rw [erase_filter ok.rn h1]
 have hn':=dU c.n L.t
 have ok1:=ok.leave c.n
 refine q hn _ { L with cs:=L.cs.map (bc c.n L.t),row:=L.row.filter fun x=>decide (x≠c.n) } ⟨?_,?_,av,fun x hx=>?_,?_,fun x hx=>?_⟩ ok1 rfl rfl ?_
 ·rw [ar (Ne.symm b.AL),ar (Ne.symm (b.GO hc))];exact bo
 ·show put (put J c.a _) L.o _ L.d=_
  rw [ar b.HG,ar (Ne.symm (b.IP hc)),bd]
  show _=some (HQ.dct ((L.cs.map (bc c.n L.t)).map fun c=>(c.n,PV.ref c.a)) L.e)
  rw [df (f:=fun c:Cf=>(c.n,PV.ref c.a)) (fun x=>by rw [(hn' x).1,(hn' x).2.1])]
 ·obtain ⟨x0,h0,rfl⟩:=List.mem_map.mp hx
  have hl:=b.lg x0 h0
  refine ⟨?_,?_⟩
  ·rw [(hn' x0).2.1,(hn' x0).2.2.1,ar (b.HF h0)]
   by_cases e:x0.n=c.n
   ·have:x0=c:=ok.uniq h0 hc e
    subst this
    rw [av]
    unfold bc;rw [if_pos rfl];rfl
   ·have ha:x0.a≠c.a:=fun z=>by
     have hh:=hl.o
     have hh2:=(b.lg c hc).o
     rw [z,hh2] at hh
     have hrr:c.r=x0.r:=by
      have h3:=(HQ.ins.inj (Option.some.inj hh)).2
      have h4:=(List.cons.inj h3).1
      have h5:=(Prod.mk.inj h4).2
      exact PV.ref.inj h5
     obtain ⟨i,hi,rfl⟩:=List.getElem_of_mem h0
     obtain ⟨j',hj',rfl⟩:=List.getElem_of_mem hc
     have:=(List.getElem_inj (xs:=L.cs.map Cf.r) (i:=i) (j:=j') (h₀:=by simpa using hi) (h₁:=by simpa using hj') b.ap).mp (by rw [List.getElem_map,List.getElem_map];exact hrr.symm)
     subst this;exact e rfl
    rw [ar ha]
    unfold bc;rw [if_neg e];exact hl.o
  ·rw [(hn' x0).2.2.1,(hn' x0).2.2.2,ar (b.ao x0 h0),ar (fun z=>by have h3:=hl.l;rw [z,lo] at h3;cases h3)];exact hl.l
 ·show ((L.cs.map (bc c.n L.t)).map Cf.r).Nodup
  rw [df (fun x=>(hn' x).2.2.1)];exact b.ap
 ·obtain ⟨x0,h0,rfl⟩:=List.mem_map.mp hx
  rw [(hn' x0).2.2.1];exact b.ao x0 h0
 ·have own':∀ a,Ln.own { L with cs:=L.cs.map (bc c.n L.t),row:=L.row.filter fun x=>decide (x≠c.n) } p a→L.own p a:=fun a h=>by
   rcases h with h | h | h | ⟨x,hx,h⟩
   ·exact .inl h
   ·exact .inr (.inl h)
   ·exact .inr (.inr (.inl h))
   ·obtain ⟨c0,h0,rfl⟩:=List.mem_map.mp hx
    rw [(hn' c0).2.1,(hn' c0).2.2.1] at h
    exact .inr (.inr (.inr ⟨c0,h0,h⟩))
  refine (eG (S':=L.own p) (.inr (.inr (.inr ⟨c,hc,.inl rfl⟩))) fun a h=>.inl h).trans (eG (.inr (.inr (.inl rfl))) fun a h=>.inl (own' a h))
abbrev hE:Stmt:=(top 51)
theorem dt:L2.aw ["_law_cell_here","_law_many","_law_signs","_law_row","_law_some","_law_body","_law_at_here","_law_out","_law_k"] ["_law_cell_here","_law_many"] (L2.aj hE):=dT
def vd:Sp:=fun vs H Q _=>∃ c m:Int,vs=[.int c,.int m]∧0≤m∧m≤36∧∀ (r:Addr) (H':Hp) (xs:List Str),H r=none→aY H H'→H' r=some (.lst (xs.map V.str))→(xs.length:Int)=m→xs.Nodup→(∀ x∈xs,good x=true)→Q (.ref r) H'
def menu:List Str:=["m","ab","a","zebra9","b0","0","abc","9zz","q7q7q7q7","aa","z","a1b2c3d4"]
def cu:Str:="abcdefghijklmnopqrstuvwxyz0123456789"
theorem AB:menu.Nodup:=by decide +kernel
theorem xm:cu.cps.toList.Nodup:=by decide +kernel
theorem gM:cu.cps.toList.length=36:=by decide +kernel
theorem rV {α:Type} {xs:List α} {j:Int} (h0:0≤j) (h1:j < xs.length):cI xs j=some (xs[j.toNat]'(by omega)):=by
 have h:=a8 (xs:=xs) (j:=j.toNat) (List.getElem?_eq_getElem (by omega))
 rw [show ((j.toNat:Nat):Int)=j by omega] at h
 exact h
def pick (d:Int) (k:Nat):Str:=menu.getD ((d + 5 * (k:Int)) % 12).toNat ""
theorem A9 (d:Int) (k:Nat):cI (menu.map V.str) ((d + 5 * (k:Int)) % 12)=some (.str (pick d k)):=by
 have h0:=Int.emod_nonneg (d + 5 * (k:Int)) (show (12:Int)≠0 by decide)
 have h1:=Int.emod_lt_of_pos (d + 5 * (k:Int)) (show (0:Int) < 12 by decide)
 have hl:(menu.map V.str).length=12:=by decide +kernel
 have hm:menu.length=12:=by decide +kernel
 rw [rV h0 (by rw [hl];exact h1),List.getElem_map]
 unfold pick
 rw [List.getD_eq_getElem?_getD,List.getElem?_eq_getElem (by omega)]
 rfl
theorem nI {α:Type} {xs:List α} (h:xs.Nodup) {i j:Nat} (hi:i < xs.length) (hj:j < xs.length) (e:xs[i]=xs[j]):i=j:=(List.getElem_inj h).mp e
theorem yQ (d:Int) {m:Nat} (hm:m≤12):((List.range m).map (pick d)).Nodup:=by
 have hl:menu.length=12:=by decide +kernel
 refine List.Pairwise.map (R:=fun i j=>i < 12∧j < 12∧i≠j) _ (fun i j ⟨a,b,c⟩ e=>?_) ?_
 ·unfold pick at e
  have h0:=Int.emod_nonneg (d + 5 * (i:Int)) (show (12:Int)≠0 by decide)
  have h1:=Int.emod_lt_of_pos (d + 5 * (i:Int)) (show (0:Int) < 12 by decide)
  have h2:=Int.emod_nonneg (d + 5 * (j:Int)) (show (12:Int)≠0 by decide)
  have h3:=Int.emod_lt_of_pos (d + 5 * (j:Int)) (show (0:Int) < 12 by decide)
  rw [List.getD_eq_getElem?_getD,List.getElem?_eq_getElem (by omega),List.getD_eq_getElem?_getD,List.getElem?_eq_getElem (by omega)] at e
  have:=nI AB (by omega) (by omega) e
  omega
 ·refine List.Pairwise.imp_of_mem (R:=fun i j=>i≠j) (fun {i j} hi hj ne=>?_) (List.nodup_range)
  rw [List.mem_range] at hi hj
  exact ⟨by omega,by omega,ne⟩
theorem wb:∀ x∈menu,good x=true:=by decide +kernel
theorem lI:∀ c∈cu.cps.toList,c7 bP c=true:=by decide +kernel
theorem wD (d:Int) (k:Nat):good (pick d k)=true:=by
 have h0:=Int.emod_nonneg (d + 5 * (k:Int)) (show (12:Int)≠0 by decide)
 have h1:=Int.emod_lt_of_pos (d + 5 * (k:Int)) (show (0:Int) < 12 by decide)
 have hm:menu.length=12:=by decide +kernel
 unfold pick
 rw [List.getD_eq_getElem?_getD,List.getElem?_eq_getElem (by omega)]
 exact wb _ (List.getElem_mem _)
theorem An {cs:List Nat} (h0:0 < cs.length) (h1:cs.length≤8) (h:∀ c∈cs,c7 bP c=true):good ⟨cs.toArray⟩=true:=by
 unfold good
 rw [Bool.and_eq_true,Bool.and_eq_true]
 refine ⟨⟨decide_eq_true ?_,decide_eq_true ?_⟩,List.all_eq_true.mpr fun c hc=>h c (by simpa using hc)⟩
 ·show 1≤cs.toArray.size;rw [List.size_toArray];omega
 ·show cs.toArray.size≤8;rw [List.size_toArray];omega
def sign (d:Int) (k:Nat):Nat:=cu.cps.toList.getD ((d + 5 * (k:Int)) % 36).toNat 0
theorem BI (d:Int) (k:Nat):cI cu.cps.toList ((d + 5 * (k:Int)) % 36)=some (sign d k):=by
 have h0:=Int.emod_nonneg (d + 5 * (k:Int)) (show (36:Int)≠0 by decide)
 have h1:=Int.emod_lt_of_pos (d + 5 * (k:Int)) (show (0:Int) < 36 by decide)
 have hl:=gM
 rw [rV h0 (by rw [hl];exact h1)]
 unfold sign
 rw [List.getD_eq_getElem?_getD,List.getElem?_eq_getElem (by omega)]
 rfl
theorem wO (d:Int) (k:Nat):c7 bP (sign d k)=true:=by
 have h0:=Int.emod_nonneg (d + 5 * (k:Int)) (show (36:Int)≠0 by decide)
 have h1:=Int.emod_lt_of_pos (d + 5 * (k:Int)) (show (0:Int) < 36 by decide)
 have hl:=gM
 unfold sign
 rw [List.getD_eq_getElem?_getD,List.getElem?_eq_getElem (by omega)]
 exact lI _ (List.getElem_mem _)
theorem zj (d:Int) {i j:Nat} (hi:i < 36) (hj:j < 36) (e:sign d i=sign d j):i=j:=by
 have h0:=Int.emod_nonneg (d + 5 * (i:Int)) (show (36:Int)≠0 by decide)
 have h1:=Int.emod_lt_of_pos (d + 5 * (i:Int)) (show (0:Int) < 36 by decide)
 have h2:=Int.emod_nonneg (d + 5 * (j:Int)) (show (36:Int)≠0 by decide)
 have h3:=Int.emod_lt_of_pos (d + 5 * (j:Int)) (show (0:Int) < 36 by decide)
 have hl:=gM
 unfold sign at e
 rw [List.getD_eq_getElem?_getD,List.getElem?_eq_getElem (by omega),List.getD_eq_getElem?_getD,List.getElem?_eq_getElem (by omega)] at e
 have:=nI xm (by omega) (by omega) e
 omega
theorem zJ {d:Int} {n:Nat} {xs:List Str} (hl:xs.length≤36) (h:∀ k x,xs[k]?=some x→x.cps.toList[n]?=some (sign d k)):xs.Nodup:=by
 refine List.pairwise_iff_getElem.mpr fun i j hi hj hij e=>?_
 have a:=h i _ (List.getElem?_eq_getElem hi)
 have b:=h j _ (List.getElem?_eq_getElem hj)
 rw [e] at a
 rw [a] at b
 have:=zj d (by omega) (by omega) (Option.some.inj b)
 omega
theorem xy {xs:List V} {k:Int} (h:0≤k):lK xs none (some k)=xs.take k.toNat:=by
 obtain ⟨j,rfl⟩:∃ j:Nat,k=(j:Int):=⟨k.toNat,by omega⟩
 unfold lK
 rw [HT.zd,HT.Bw,List.drop_zero,Int.toNat_natCast]
 rcases Nat.le_total j xs.length with e | e
 ·rw [Nat.min_eq_left e]
  rfl
 ·rw [Nat.min_eq_right e,Nat.sub_zero,List.take_of_length_le (Nat.le_refl _),List.take_of_length_le e]
theorem yy (cs:List Nat):((cs.map one).map (·.length)).sum=cs.length:=by
 induction cs with
 | nil=>rfl
 | cons c cs ih =>
  rw [List.map_cons,List.map_cons,List.sum_cons,ih,List.length_cons]
  show 1 + cs.length=cs.length + 1
  omega
theorem Au {p q a b:Prop} [Decidable p] [Decidable q]:(if p then if q then a else b else b)=if p∧q then a else b:=by by_cases hp:p <;> by_cases hq:q <;> simp [hp,hq]
theorem yr {f:Addr} {fd:FuncData} (F:bV K "_law_names" "_law_names" hE f fd) (Z:w8 mg) (C_digits:mE P w K mg base 1 "_law_digits" ["_law_cell_here","_law_sizes"] (ml K)):aI P w K mg base lD 2 f fd ["_law_cell_here","_law_many"] vd:=by
 refine F.ok dt (fun vs H Q E h=>?_) (fun cdv A outer s H vs Q E hr h=>?_)
 ·obtain ⟨c,m,rfl,_⟩:=h
  rfl
 obtain ⟨c,m,rfl,m0,m1,q⟩:=h
 refine ⟨_,(QB.run (aO (bY (i:=2) dt.nd rfl (Or.inr rfl) jW)
   (aO (bY (i:=3) dt.nd rfl (Or.inr rfl) (qP C_digits hr (by decide) rfl (aL (pv 0) (aL (gx (yI [.int 3,.int 36,.int 8,.int 36,.int 36,.int 36,.int 36,.int 36,.int 36,.int 36,.int 36,.int 840] rfl)) a9))))
   (aO (jl (Ck (oZ (cA yz (bH eE (pv 3) aF (fun _ _=>rfl)) aF (ax _)) (k4 (cA Cg (pv 1) aF (ax _))))) (aO (bY (i:=4) dt.nd rfl (Or.inr rfl) (gx (yI [.str "m",.str "ab",.str "a",.str "zebra9",.str "b0",.str "0",.str "abc",.str "9zz",.str "q7q7q7q7",.str "aa",.str "z",.str "a1b2c3d4"] rfl)))
   (a_ (cJ (A3 (aj hE) ["_law_cell_here","_law_many","_law_signs","_law_row","_law_some","_law_body","_law_at_here","_law_out","_law_k"] [("_law_row",3),("_law_some",4)] rfl rfl rfl (eu rfl Z.range (aL (pv 1) a9)) (fun _ _ _ _ _ _=>(bH eE (pv 2) (aW eJ (aW fK (bH eE (pv 1) aF (fun _ _=>rfl)) (aW bT aF (pv 0))) aF) (fun _ _=>rfl))))))) d6)
   (aO (Bb (i:=5) (aj hE) ["_law_cell_here","_law_many","_law_signs","_law_row","_law_some","_law_body","_law_at_here","_law_out","_law_k"] [("_law_signs",2)] rfl rfl rfl dt.nd rfl (Or.inl rfl) (jk (gy pF (pv 3) (g6 aF) (g6 aF))) (fun _ _ _ _ _ _=>(bH x8 (pv 1) (pv 0) (fun _ _=>rfl))))
   (qR (jl (cA yz (bH eE (pv 3) aF (fun _ _=>rfl)) aF (ax _)) (a_ (bY (i:=5) dt.nd rfl (Or.inl rfl) (gy pF (pv 5) kZ (g6 (aW fK (bH eE (pv 3) aF (fun _ _=>rfl)) aF))))) d6)
   (aO (bY (i:=6) dt.nd rfl (Or.inl rfl) (aW eJ (bH eE (pv 3) aF (fun _ _=>rfl)) (cQ fF rfl Z.len boot_len (aL (pv 5) a9))))
   (aO (bY (i:=7) dt.nd rfl (Or.inl rfl) (gx a9))
   (aO (jX PassesOwn.never rfl (eu rfl Z.range (aL (pv 1) a9)) (gZ (i:=8) dt.nd rfl (Or.inl rfl)) (aO (oW (bH x8 (pv 2) (aW eJ (aW fK (bH eE (pv 3) aF (fun _ _=>rfl)) (aW bT aF (pv 8))) aF) (fun _ _=>rfl)) (oS (pv 5) (pv 6) set_list))
   (a_ (g7 (l5 PySem.F.plainAttrs_list PySem.F.slot_list_append PySem.F.type_list_append er (pv 7) (aL (l5 PySem.F.plainAttrs_str PySem.F.slot_str_join PySem.F.type_str_join AH jW (aL (pv 5) a9)) a9))))))
   (a_ (cJ (pv 7)))))))))))),?_⟩
 refine ⟨_,rfl,(by show 12≤sizeLine;decide),fun p hp=>?_⟩
 have ss:=mi (ss:=[3,36,8,36,36,36,36,36,36,36,36,840]) (by decide)
 refine ⟨c,p,[3,36,8,36,36,36,36,36,36,36,36,840],rfl,cM.of az,ss,by decide,fun r H1 ds _ g1 hr1 hD=>?_⟩
 obtain ⟨d0,ds,rfl,d00,d01,hD⟩:=hD.cons
 obtain ⟨d1,ds,rfl,d10,d11,hD⟩:=hD.cons
 obtain ⟨d2,ds,rfl,d20,d21,hD⟩:=hD.cons
 obtain ⟨e0,ds,rfl,e00,e01,hD⟩:=hD.cons
 obtain ⟨e1,ds,rfl,e10,e11,hD⟩:=hD.cons
 obtain ⟨e2,ds,rfl,e20,e21,hD⟩:=hD.cons
 obtain ⟨e3,ds,rfl,e30,e31,hD⟩:=hD.cons
 obtain ⟨e4,ds,rfl,e40,e41,hD⟩:=hD.cons
 obtain ⟨e5,ds,rfl,e50,e51,hD⟩:=hD.cons
 obtain ⟨e6,ds,rfl,e60,e61,hD⟩:=hD.cons
 obtain ⟨e7,ds,rfl,e70,e71,hD⟩:=hD.cons
 obtain ⟨d11,ds,rfl,d110,d111,hD⟩:=hD.cons
 cases hD.nil
 have g1:=(aY.new hp _).trans g1
 dsimp! only [rJoin,hr1]
 rw [Au]
 split
 ·refine ⟨(by show 12≤sizeLine;decide),fun p2 hp2=>?_⟩
  have g2:=aY.new hp2 (.lst (menu.map V.str))
  have h2:(upd H1 p2 (.lst (menu.map V.str))) p2=some (.lst (menu.map V.str)):=az
  have hr2:=g2 _ _ hr1
  refine ⟨_,rfl,m,rfl,by omega,by omega,fun D hD=>?_⟩
  refine yd (lo:=0) (n:=m.toNat) (fun i H'=>aY (upd H1 p2 (.lst (menu.map V.str))) H'∧H' D=some (.lst (((List.range i).map (pick d1)).map V.str))) ⟨aY.new hD _,az⟩ ?_ ?_
  ·rintro i H' R hi ⟨g,hd⟩ k
   have hr3:=g _ _ hr2
   have h3:=g _ _ h2
   dsimp! only [rJoin,hr3,h3,Int.zero_add]
   refine ⟨.of (Bd.small (by decide) (by decide)) (Bd.small (x:=(i:Int)) (by omega) (by omega)),_,A9 d1 i,?_⟩
   refine k _ _ _ hd (by rw [List.length_map,List.length_map,List.length_range];exact aX (by omega)) ⟨g.Es hD _,?_⟩
   rw [az]
   simp [List.range_succ]
  ·rintro H' ⟨g,hd⟩
   exact q D H' _ (g1.free (g2.free hD)) (g1.trans (g2.trans g)) hd (by rw [List.length_map,List.length_range];omega) (yQ d1 (by omega)) (fun x hx=>by obtain ⟨k,_,rfl⟩:=List.mem_map.mp hx;exact wD d1 k)
 refine ⟨_,rfl,3,rfl,11,rfl,r,_,rfl,cM.of hr1,fun p2 hp2=>⟨p2,rfl,⟨_,cM.of az⟩,fun D hD=>?_⟩⟩
 have g2:=aY.new hp2 (.lst [.int e0,.int e1,.int e2,.int e3,.int e4,.int e5,.int e6,.int e7])
 have hr2:=g2 _ _ hr1
 have h2:(upd H1 p2 (.lst [.int e0,.int e1,.int e2,.int e3,.int e4,.int e5,.int e6,.int e7])) p2=some (.lst ([e0,e1,e2,e3,e4,e5,e6,e7].map V.int)):=az
 have be:∀ e∈[e0,e1,e2,e3,e4,e5,e6,e7],0≤e∧e < 36:=fun e he=>by
  simp only [List.mem_cons,List.not_mem_nil,or_false] at he
  rcases he with rfl | rfl | rfl | rfl | rfl | rfl | rfl | rfl <;> constructor <;> assumption
 have al:=gM
 have al2:cu.length≤sizeLine:=by decide +kernel
 refine Aw (K:=K) (a:=p2) (xs:=[e0,e1,e2,e3,e4,e5,e6,e7].map V.int) (fun i H'=>aY (upd H1 p2 (.lst [.int e0,.int e1,.int e2,.int e3,.int e4,.int e5,.int e6,.int e7])) H'∧∃ cs:List Nat,cs.length=i∧(∀ c∈cs,c7 bP c=true)∧H' D=some (.lst ((cs.map one).map V.str)))
  ⟨aY.new hD _,[],rfl,(fun c hc=>by cases hc),az⟩ (fun i H' _ ⟨g,_⟩=>cM.of (g _ _ h2)) ?_ ?_
 ·rintro i y H' R hi ⟨g,cs,hcs,hca,hd⟩ k
  have hil:=(List.getElem?_eq_some_iff.mp hi).1
  obtain ⟨z,rfl,hz⟩:=lS hi
  obtain ⟨z0,z1⟩:=be z (List.mem_of_getElem? hz)
  have at1:=rV (xs:=cu.cps.toList) z0 (by rw [al];exact z1)
  dsimp! only [rJoin]
  refine ⟨al2,_,at1,?_⟩
  refine k _ _ _ hd (by rw [List.length_map,List.length_map,hcs];simp only [List.length_map,List.length_cons,List.length_nil] at hil;exact aX (by omega)) ⟨g.Es hD _,cs ++ [cu.cps.toList[z.toNat]'(by rw [al];omega)],by rw [List.length_append,hcs];rfl,?_,?_⟩
  ·intro c hc
   rcases List.mem_append.mp hc with hc | hc
   ·exact hca c hc
   ·rw [List.mem_singleton] at hc;subst hc;exact lI _ (List.getElem_mem _)
  rw [az,List.map_append,List.map_append]
  rfl
 rintro H2 ⟨g,cs,hcs,hca,hd⟩
 have hr3:=g _ _ hr2
 have g:=g1.trans (g2.trans g)
 have hcs:cs.length=8:=hcs
 obtain ⟨M,hM⟩:∃ M:L2.St→Hp→Prop,∀ σ' H',M σ' H'↔∃ (D:Addr) (cs:List Nat),σ'=[some (.int c),some (.int m),some (.str cu),some (.ref r),none,some (.ref D),none,none,none]∧aY H H'∧H D=none∧H' r=some (.lst ([d0,d1,d2,e0,e1,e2,e3,e4,e5,e6,e7,d11].map V.int))∧D≠r∧0 < cs.length∧cs.length≤8∧(∀ c∈cs,c7 bP c=true)∧H' D=some (.lst ((cs.map one).map V.str)):=⟨_,fun _ _=>Iff.rfl⟩
 have fD:H D=none:=g1.free (g2.free hD)
 have nDr:D≠r:=(bG hr2 hD).symm
 refine ⟨M,?_,?_⟩
 ·dsimp! only [rJoin,hr3]
  split
  ·refine ⟨_,cM.of hd,fun p4 hp4=>(hM _ _).mpr ⟨p4,cs.take (d2 + 1).toNat,rfl,g.trans (aY.new hp4 _),g.free hp4,?_,?_,?_,?_,(fun c hc=>hca c (List.mem_of_mem_take hc)),?_⟩⟩
   ·exact (aY.new hp4 _) _ _ hr3
   ·exact (bG hr3 hp4).symm
   ·rw [List.length_take];omega
   ·rw [List.length_take];omega
   ·rw [az,xy (by omega),List.map_take,List.map_take]
  ·exact (hM _ _).mpr ⟨D,cs,rfl,g,fD,hr3,nDr,by omega,by omega,hca,hd⟩
 clear hca hd hr3 g fD nDr hcs
 intro σ5 H5 hm
 obtain ⟨D,cs,rfl,g,fD,hr3,nDr,l0,l1,hca,hd⟩:=(hM _ _).mp hm
 clear hm hM M
 have e0s:(Str.ofString "").length=0:=by decide +kernel
 have hl:((cs.map one).map V.str).length=cs.length:=by rw [List.length_map,List.length_map]
 have hlp:(0:Int) < (((cs.map one).map V.str).length:Nat):=by rw [hl];omega
 have a0:=Int.emod_nonneg d11 (show (((cs.map one).map V.str).length:Int)≠0 by omega)
 have a1:=Int.emod_lt_of_pos d11 hlp
 have at11:cI ([d0,d1,d2,e0,e1,e2,e3,e4,e5,e6,e7,d11].map V.int) 11=some (.int d11):=a8 (j:=11) rfl
 refine ⟨_,rfl,r,_,11,_,rfl,rfl,hr3,at11,_,rfl,D,rfl,_,.inl (cM.of hd),_,_,rfl,rfl,hlp,?_⟩
 generalize hat:d11 % (((cs.map one).map V.str).length:Int)=at' at a0 a1
 rw [hl] at a1
 refine ⟨Nat.zero_le _,fun O hO=>?_⟩
 have gO:=aY.new hO (.lst [])
 have nOD:O≠D:=(bG hd hO).symm
 have nOr:O≠r:=(bG hr3 hO).symm
 have fO:H O=none:=g.free hO
 refine ⟨_,rfl,m,rfl,by omega,by omega,nB (lo:=0) (n:=m.toNat) (fun i σ H'=>∃ (v:Option V) (cs':List Nat) (xs:List Str),σ=[some (.int c),some (.int m),some (.str cu),some (.ref r),none,some (.ref D),some (.int at'),some (.ref O),v] ∧
  aY H H'∧H' r=some (.lst ([d0,d1,d2,e0,e1,e2,e3,e4,e5,e6,e7,d11].map V.int))∧cs'.length=cs.length∧(∀ c∈cs',c7 bP c=true)∧H' D=some (.lst ((cs'.map one).map V.str))∧H' O=some (.lst (xs.map V.str))∧xs.length=i∧(∀ x∈xs,good x=true)∧∀ k x,xs[k]?=some x→x.cps.toList[at'.toNat]?=some (sign d1 k)) ?_ ?_ ?_⟩
 ·exact ⟨none,cs,[],by rw [← hat];rfl,g.trans gO,gO _ _ hr3,rfl,hca,gO _ _ hd,az,rfl,(fun x hx=>by cases hx),fun k x e=>by cases e⟩
 ·rintro i σ H' hi ⟨v,cs',xs,rfl,g',hr',hl',hca',hd',ho',hx,hxl,hs⟩
  have at1:cI ([d0,d1,d2,e0,e1,e2,e3,e4,e5,e6,e7,d11].map V.int) 1=some (.int d1):=a8 (j:=1) rfl
  have al2:cu.length≤sizeLine:=by decide +kernel
  have sg:=BI d1 i
  refine ⟨_,rfl,_,rfl,r,_,1,_,rfl,rfl,hr',at1,_,rfl,_,_,rfl,rfl,.of (Bd.small (by decide) (by decide)) (Bd.small (x:=0 + (i:Int)) (by omega) (by omega)),_,_,rfl,rfl,_,_,rfl,rfl,(show (0:Int) < 36 by decide),_,_,_,rfl,rfl,al2,(by rw [Int.zero_add];exact sg),?_⟩
  have ix:xa ((cs'.map one).map V.str).length at'=some at'.toNat:=by
   unfold xa
   rw [if_pos a0,if_pos (by rw [List.length_map,List.length_map,hl'];exact a1)]
  refine ⟨_,rfl,_,rfl,D,_,at',_,rfl,rfl,hd',ix,?_⟩
  have es:((cs'.map one).map V.str).set at'.toNat (.str ⟨#[sign d1 i]⟩)=((cs'.set at'.toNat (sign d1 i)).map one).map V.str:=by
   rw [List.map_set,List.map_set]
   rfl
  have gD:=aY.Es fD g' (.lst (((cs'.map one).map V.str).set at'.toNat (.str ⟨#[sign d1 i]⟩)))
  have hD2:(upd H' D (.lst (((cs'.map one).map V.str).set at'.toNat (.str ⟨#[sign d1 i]⟩)))) D=some (.lst (((cs'.set at'.toNat (sign d1 i)).map one).map V.str)):=by rw [az,es]
  have hr2:(upd H' D (.lst (((cs'.map one).map V.str).set at'.toNat (.str ⟨#[sign d1 i]⟩)))) r=_:=(aG nDr.symm).trans hr'
  have ho2:(upd H' D (.lst (((cs'.map one).map V.str).set at'.toNat (.str ⟨#[sign d1 i]⟩)))) O=_:=(aG nOD).trans ho'
  have lc:(cs'.set at'.toNat (sign d1 i)).length=cs.length:=by rw [List.length_set,hl']
  have hcn:∀ c∈cs'.set at'.toNat (sign d1 i),c7 bP c=true:=fun c hc=>by
   rcases List.mem_or_eq_of_mem_set hc with h | h
   ·exact hca' c h
   ·rw [h];exact wO d1 i
  refine ⟨_,rfl,.inl ⟨rfl,_,cM.of ho2⟩,rfl,_,rfl,_,D,(cs'.set at'.toNat (sign d1 i)).map one,rfl,rfl,cM.of hD2,?_,O,_,_,rfl,rfl,ho2,?_,?_⟩
  ·rw [yy,List.length_map,lc,e0s]
   omega
  ·rw [List.length_map,hx]
   exact aX (by omega)
  ·rw [join_ones]
   refine ⟨_,cs'.set at'.toNat (sign d1 i),xs ++ [⟨(cs'.set at'.toNat (sign d1 i)).toArray⟩],rfl,gD.Es fO _,(aG nOr.symm).trans hr2,lc,hcn,(aG nOD.symm).trans hD2,?_,by rw [List.length_append,hx];rfl,?_,?_⟩
   ·rw [az,List.map_append]
    rfl
   ·intro x hx2
    rcases List.mem_append.mp hx2 with h | h
    ·exact hxl x h
    ·simp only [List.mem_cons,List.not_mem_nil,or_false] at h
     subst h
     exact An (by rw [lc];exact l0) (by rw [lc];exact l1) hcn
   ·intro k x e
    rcases Nat.lt_or_ge k xs.length with hk | hk
    ·rw [List.getElem?_append_left hk] at e
     exact hs k x e
    ·rw [List.getElem?_append_right hk] at e
     have ek:k=i:=by
      cases hz:k - xs.length with
      | zero=>omega
      | succ z=>rw [hz] at e;cases e
     rw [show k - xs.length=0 by omega] at e
     have ex:=Option.some.inj e
     subst ex
     rw [ek]
     show (cs'.set at'.toNat (sign d1 i))[at'.toNat]?=some (sign d1 i)
     rw [List.getElem?_set_self (by omega)]
 ·rintro σ H' ⟨v,cs',xs,rfl,g',hr',hl',hca',hd',ho',hx,hxl,hs⟩
  exact ⟨_,rfl,q O H' xs fO g' ho' (by omega) (zJ (by omega) hs) hxl⟩
def rD:cm:=fun xs J Q _=>∃ c m:Int,xs=[.int c,.int m]∧0≤m∧m≤36∧∀ ns:List Str,(ns.length:Int)=m→ns.Nodup→(∀ x∈ns,good x=true)→Q (.fl (ns.map .str)) J
theorem nM {K:PySem.W.Frag} {J:Hq} {H:Hp}:∀ ns:List Str,aE K J H (ns.map PV.str) (ns.map V.str)
 | []=>rfl
 | n :: ns=>⟨_,_,rfl,rfl,nM ns⟩
theorem so (C:mE P w K mg base 2 "_law_names" ["_law_cell_here","_law_many"] vd):a7 P w K mg base 2 "_law_names" ["_law_cell_here","_law_many"] rD:=C.lift fun xs J vs H Q2 E2 Q E rs r ⟨c,m,ex,h0,h1,q⟩ kn=>by
 subst ex
 obtain ⟨v,u,rfl,r1,r2⟩:=fW rs
 cases r1;cases r2
 exact ⟨c,m,rfl,h0,h1,fun p H' ns hp s e hl nd lx=>kn (.fl (ns.map .str)) J (.ref p) H' ⟨p,_,rfl,.inl ⟨r.free hp,.inl e⟩,nM ns⟩ (r.same s) (.same s) (q ns hl nd lx)⟩
abbrev lq:Stmt:=(top 46)
theorem zh:L2.aw ["_law_found"] ["_law_found"] (L2.aj lq):=dT
def mw:cm:=fun xs J Q _=>∃ i:Int,xs=[.int i]∧Q (.bl true) J
theorem wx {f:Addr} {fd:FuncData} (F:bV K "_law_whole" "_law_whole" lq f fd) (Z:bR mg):aI P w K mg base (cS P w) 1 f fd ["_law_found"] (dz K mw):=by
 simp_arith [zh]
 ·obtain ⟨i,rfl,_⟩:=h;rfl
 obtain ⟨i,rfl,q⟩:=h
 refine ⟨_,(ak (aB (s_ (aM iB rfl Z.isinstance boot_isinstance (af (rv 0) (af (l_ rfl Z.int boot_int) ah))) (o7 (DW (aM iB rfl Z.isinstance boot_isinstance (af (rv 0) (af (l_ rfl Z.bool boot_bool) ah)))))))),?_⟩
 simp_arith! only [bK]
 exact q
abbrev pj:Stmt:=(top 48)
theorem BB:L2.aw ["_law_found","_law_due_here"] ["_law_found","_law_due_here"] (L2.aj pj):=dT
def pL:cm:=fun xs J Q _=>∃ a:Rat,xs=[fr a,fr a]∧Q (.bl true) J
theorem yx {f:Addr} {fd:FuncData} (F:bV K "_law_part" "_law_part" pj f fd) (Z:bR mg) (C_whole:a7 P w K mg base 1 "_law_whole" ["_law_found"] mw):aI P w K mg base (cS P w) 2 f fd ["_law_found","_law_due_here"] (dz K pL):=by
 simp_arith [BB]
 ·obtain ⟨a,rfl,_⟩:=h;rfl
 obtain ⟨a,rfl,q⟩:=h
 refine ⟨_,(ai (aU (dm (kC (c4 (bM (aM iB rfl Z.isinstance boot_isinstance (af (rv 0) (af (l_ rfl Z.tuple boot_tuple) ah))))) (gF (aD (ji hr.aT) (aM bQ rfl Z.len boot_len (af (rv 0) ah)) ag (L2.ax _))))) (ak (aB f7)) aJ)
   (ai (aU (dm (kC (c4 (bM (aR C_whole B hr (by decide) rfl (af (aq au (rv 0) ag (fun _ _=>rfl)) ah)))) (gF (c4 (bM (aR C_whole B hr (by decide) rfl (af (aq au (rv 0) ag (fun _ _=>rfl)) ah))))))) (ak (aB f7)) aJ)
   (ak (aB (cK (cH hr.aT) (rv 0) (rv 1) (L2.ax _)))))),?_⟩
 simp_arith! only [bK,mw]
 exact q
abbrev jx:Stmt:=(top 52)
theorem wM:L2.aw ["_law_number","_law_mode"] ["_law_number","_law_mode"] (L2.aj jx):=dT
def nS:cm:=fun xs J Q _=>∃ n m:Int,xs=[.int n,.int m]∧0≤n∧∀ v:Int,v.natAbs≤1000000→Q (.int v) J
theorem sI {f:Addr} {fd:FuncData} (F:bV K "_law_placed" "_law_placed" jx f fd) (Z:bR mg):aI P w K mg base (cS P w) 1 f fd ["_law_number","_law_mode"] (dz K nS):=by
 simp_arith [wM]
 ·obtain ⟨n,m,rfl,_⟩:=h;rfl
 obtain ⟨n,m,rfl,n0,q⟩:=h
 refine ⟨_,(ai (aU (aD fv (rv 1) ag (L2.ax _)) (ak (aB (aH dG (aH dF (rv 0) ag) ag))) aJ)
   (ai (aU (aD (cH hr.aT) (rv 1) ag (L2.ax _)) (ak (aB (aH dG (aH dF (rv 0) ag) ag))) aJ)
   (ak (aB (aH dG (aH dF (rv 0) ag) ag))))),?_⟩
 simp_all! only []
 split
 ·simp_all! only [];exact ⟨by decide,q _ (by omega)⟩
 simp_all! only []
 split
 ·simp_all! only [];exact ⟨by decide,q _ (by omega)⟩
 ·simp_all! only [];exact ⟨by decide,q _ (by omega)⟩
abbrev lj:Stmt:=(top 53)
theorem zf:L2.aw ["_law_number","_law_mode"] ["_law_number","_law_mode"] (L2.aj lj):=dT
def rE:cm:=fun xs J Q _=>∃ n m:Int,xs=[.int n,.int m]∧0≤n∧n < 2001∧∀ v:Int,v.natAbs≤1000→Q (.int v) J
theorem wu {f:Addr} {fd:FuncData} (F:bV K "_law_paced" "_law_paced" lj f fd) (Z:bR mg):aI P w K mg base (cS P w) 1 f fd ["_law_number","_law_mode"] (dz K rE):=by
 simp_arith [zf]
 ·obtain ⟨n,m,rfl,_⟩:=h;rfl
 obtain ⟨n,m,rfl,n0,n1,q⟩:=h
 refine ⟨_,(ai (aU (aD fv (rv 1) ag (L2.ax _)) (ak (aB (aH dG (aH dF (rv 0) ag) ag))) aJ)
   (ai (aU (aD (cH hr.aT) (rv 1) ag (L2.ax _)) (ak (aB (aH dG (aH dF (rv 0) ag) ag))) aJ)
   (ak (aB (aH dG (aH dF (rv 0) ag) ag))))),?_⟩
 simp_all! only []
 split
 ·simp_all! only [];exact ⟨by decide,q _ (by omega)⟩
 simp_all! only []
 split
 ·simp_all! only [];exact ⟨by decide,q _ (by omega)⟩
 ·simp_all! only [];exact ⟨by decide,q _ (by omega)⟩
abbrev Bx:Stmt:=(top 56)
theorem q_:L2.aw ["_law_leg","_law_moment","_law_begun","_law_place","_law_way","_law_under"] ["_law_leg","_law_moment"] (L2.aj Bx):=dT
theorem Dx {f:Addr} {fd:FuncData} (F:bV K "_law_at" "_law_at" Bx f fd) (Z:bR mg) (C_low:a7 P w K mg base 1 "_law_low" ["_law_top","_law_bottom"] iM):aI P w K mg base (cS P w) 2 f fd ["_law_leg","_law_moment"] (dz K mn):=by
 simp_arith [q_]
 ·obtain ⟨l,t,rfl,_⟩:=h;rfl
 obtain ⟨l,m,rfl,sb,sp,sm,bv,q⟩:=h
 refine ⟨_,(ai (aK (i:=2) q_.nd rfl (Or.inl rfl) (aq au (rv 0) ag (fun _ _=>rfl)))
   (ai (aK (i:=3) q_.nd rfl (Or.inl rfl) (aq au (rv 0) ag (fun _ _=>rfl)))
   (ai (aK (i:=4) q_.nd rfl (Or.inl rfl) (aH bA (aq au (rv 0) ag (fun _ _=>rfl)) (aH dG (aH bA (aq au (rv 1) ag (fun _ _=>rfl)) (aq au (rv 2) ag (fun _ _=>rfl))) (aH bA (aq au (rv 2) ag (fun _ _=>rfl)) (aq au (rv 1) ag (fun _ _=>rfl))))))
   (ai (aK (i:=5) q_.nd rfl (Or.inl rfl) (aH bA (aq au (rv 1) ag (fun _ _=>rfl)) (aq au (rv 2) ag (fun _ _=>rfl))))
   (ak (aB (aR C_low B hr (by decide) rfl (af (aH dh (aH bA (aq au (rv 3) ag (fun _ _=>rfl)) (rv 5)) (aH bA (rv 4) (aq au (rv 3) ag (fun _ _=>rfl)))) (af (aH bA (aq au (rv 3) ag (fun _ _=>rfl)) (rv 5)) ah))))))))),?_⟩
 simp_arith! only [bK,ui,E6,kr,iM]
 have bn:Bd 1801 (m.num * l.m.den - l.m.num * m.den):=.sub (.mul sm.num sb.den (Nat.le_refl _)) (.mul sb.num sm.den (Nat.le_refl _))
 have bu:Bd 1800 ((m.den:Int) * l.m.den):=.mul sm.den sb.den
 have bw:Bd 1900 (l.v * (m.num * l.m.den - l.m.num * m.den)):=.mul bv bn
 refine ⟨.of sm.num sb.den,.of sb.num sm.den,.of bv bn,.of sm.den sb.den,.of sp.num bu,.of bw sp.den,.of sp.den bu,Int.mul_pos (eD _) (Int.mul_pos (eD _) (eD _)),.mul sp.den bu,?_⟩
 rw [EL]
 exact q
abbrev la:Stmt:=(top 54)
theorem jB:L2.aw ["_law_clock","_law_number","_law_bottom","_law_mode","_law_under","_law_steps"] ["_law_clock","_law_number","_law_bottom","_law_mode"] (L2.aj la):=dT
def uX:cm:=fun xs J Q _=>∃ (c:Rat) (n b m:Int),xs=[fr c,.int n,.int b,.int m]∧0≤n∧0≤b∧0≤m∧m < 4∧n < 2 ^ 60∧Sz 900 c∧∀ q,Later c q→Q (fr q) J
theorem wt {f:Addr} {fd:FuncData} (F:bV K "_law_later" "_law_later" la f fd) (Z:bR mg) (C_low:a7 P w K mg base 1 "_law_low" ["_law_top","_law_bottom"] iM):aI P w K mg base (cS P w) 2 f fd ["_law_clock","_law_number","_law_bottom","_law_mode"] (dz K uX):=by
 simp_arith [jB]
 ·obtain ⟨c,n,b,m,rfl,_⟩:=h;rfl
 obtain ⟨c,n,b,m,rfl,n0,b0,m0,m1,n2,sc,q⟩:=h
 refine ⟨_,(ai (aU (aD (cH hr.aT) (aH dF (rv 1) ag) ag (L2.ax _)) (ak (aB (rv 0))) aJ)
   (ai (aK (i:=4) jB.nd rfl (Or.inl rfl) (aH dh ag (aH dF (rv 2) (aq au (uI (sZ [.int 4,.int 6,.int 60,.int 60] rfl [.int 4,.int 6,.int 60,.int 60] rfl)) (rv 3) (fun _ _=>rfl)))))
   (ai (aK (i:=5) jB.nd rfl (Or.inl rfl) (aH dh ag (aH dF (aH jh (rv 1) ag) (aH bA ag (rv 4)))))
   (fL (aU (aD (cH hr.aT) (rv 3) ag (L2.ax _)) (ak (aK (i:=5) jB.nd rfl (Or.inl rfl) (aH dh ag (aH dF (aH jh (rv 1) ag) (aH bA ag (rv 4)))))) aJ)
   (ak (aB (aR C_low B hr (by decide) rfl (af (aH dh (aH jh (aH bA (aq au (rv 0) ag (fun _ _=>rfl)) (rv 4)) (aq au (rv 0) ag (fun _ _=>rfl))) (rv 5)) (af (rv 4) ah))))))))),?_⟩
 simp_arith! only [bK]
 refine ⟨by decide,?_⟩
 split
 ·exact q c (.inl rfl)
 obtain ⟨x,hx,x0,x1⟩:∃ x:Int,cI [PV.int 4,PV.int 6,PV.int 60,PV.int 60] m=some (.int x)∧1≤x∧x≤60:=by
  rcases (by omega:m=0∨m=1∨m=2∨m=3) with e | e | e | e <;> subst e
  ·exact ⟨4,cO _ _,by decide,by decide⟩
  ·exact ⟨6,d5 _ _ _,by decide,by decide⟩
  ·exact ⟨60,ij _ _ _ _,by decide,by decide⟩
  ·exact ⟨60,xp _ _ _ _ _,by decide,by decide⟩
 have u0:0≤b % x:=Int.emod_nonneg _ (by omega)
 have u1:b % x < x:=Int.emod_lt_of_pos _ (by omega)
 have bu:Bd 64 (1 + b % x):=.small (by omega) (by omega)
 have b8:Bd 9000 8:=(Bd.small (x:=8) (by decide) (by decide)).mono (by decide)
 refine ⟨_,hx,x,rfl,by omega,⟨by decide,b8⟩,.of (.small (x:=2) (by decide) (by decide)) bu,by omega,?_⟩
 generalize hu:1 + b % x=u at *
 have k0:0≤n.fdiv 8:=by rw [Int.fdiv_eq_ediv_of_nonneg _ (by decide)];exact Int.ediv_nonneg n0 (by decide)
 obtain ⟨M,hM⟩:∃ M:Sr→Hq→Prop,∀ τ' J',M τ' J'↔∃ s:Int,τ'=[some (fr c),some (.int n),some (.int b),some (.int m),some (.int u),some (.int s)]∧J'=J∧1≤s∧s≤500 * u:=⟨_,fun _ _=>Iff.rfl⟩
 refine ⟨M,?_,?_⟩
 ·simp_arith! only [bK]
  have h2:0≤n.fdiv 8 % (2 * u):=Int.emod_nonneg _ (by omega)
  have h3:n.fdiv 8 % (2 * u) < 2 * u:=Int.emod_lt_of_pos _ (by omega)
  have h4:0≤n.fdiv 8 % (500 * u):=Int.emod_nonneg _ (by omega)
  have h5:n.fdiv 8 % (500 * u) < 500 * u:=Int.emod_lt_of_pos _ (by omega)
  split
  ·refine ⟨⟨by decide,b8⟩,.of (.small (x:=500) (by decide) (by decide)) bu,by omega,(hM _ _).mpr ⟨_,rfl,rfl,by omega,by omega⟩⟩
  ·exact (hM _ _).mpr ⟨_,rfl,rfl,by omega,by omega⟩
 ·intro τ' J' hm
  obtain ⟨s,rfl,rfl,s0,s1⟩:=(hM _ _).mp hm
  clear hm hM M
  simp_arith! only [bK,iM]
  refine ⟨.of sc.num bu,⟨dB c,sc.den.mono (by decide)⟩,by omega,bu.mono (by decide),?_⟩
  obtain ⟨u',rfl⟩:=Int.eq_ofNat_of_zero_le (show 0≤u by omega)
  obtain ⟨s',rfl⟩:=Int.eq_ofNat_of_zero_le (show 0≤s by omega)
  exact q _ (.inr ⟨u',s',by omega,by omega,by omega,by omega,rfl⟩)
section
variable {X:Cx}
theorem jJ.or {f:Value→Value→Sem Value} {q q':iS} (h:jJ X f q) (h':jJ X f q'):jJ X f (fun x y J Q=>q x y J Q∨q' x y J Q):=by
 obtain ⟨r,a,lr⟩:=h
 obtain ⟨r',a',lr'⟩:=h'
 refine ⟨fun x y H Q=>r x y H Q∨r' x y H Q,fun pins s σ H x y v u Q I rx ry h=>?_,fun J H x y v w Q2 Q rx ry rr h k=>?_⟩
 ·rcases h with h | h
  ·exact a pins s σ H x y v u Q I rx ry h
  ·exact a' pins s σ H x y v u Q I rx ry h
 ·rcases h with h | h
  ·exact .inl (lr J H x y v w Q2 Q rx ry rr h k)
  ·exact .inr (lr' J H x y v w Q2 Q rx ry rr h k)
end
def Ky.V (k:Ky):PV:=.tup [fr k.p,.int k.v,.str k.n]
theorem E3 (J:Hq) (k:Ky):dJ J k.V (.int 0)=some (fr k.p):=cO _ _
theorem E4 (J:Hq) (k:Ky):dJ J k.V (.int 1)=some (.int k.v):=d5 _ _ _
theorem E5 (J:Hq) (k:Ky):dJ J k.V (.int 2)=some (.str k.n):=ij _ _ _ _
theorem jL (p q:Rat):(p.num * (q.den:Int) < q.num * (p.den:Int))=(p < q):=propext (Rat.lt_iff p q).symm
abbrev jv:Stmt:=(top 58)
theorem j8:L2.aw ["_law_one","_law_two","_law_here","_law_there"] ["_law_one","_law_two"] (L2.aj jv):=dT
def ra:cm:=fun xs J Q _=>(∃ a b:Ky,xs=[a.V,b.V]∧Sz 9000 a.p∧Sz 9000 b.p∧Q (.bl (a.lt b)) J)∨(∃ a b:ay,xs=[a.v,b.v]∧Sz 9000 a.m∧Sz 9000 b.m∧Q (.bl (a.lt b)) J)
theorem sH {f:Addr} {fd:FuncData} (F:bV K "_law_before" "_law_before" jv f fd) (Z:bR mg):aI P w K mg base (cS P w) 1 f fd ["_law_one","_law_two"] (dz K ra):=by
 simp_arith [j8]
 ·rcases h with ⟨a,b,rfl,_⟩ | ⟨a,b,rfl,_⟩ <;> rfl
 refine ⟨_,(ai (aK (i:=2) j8.nd rfl (Or.inl rfl) (aH bA (aq au (aq au (rv 0) ag (fun _ _=>rfl)) ag (fun _ _=>rfl)) (aq au (aq au (rv 1) ag (fun _ _=>rfl)) ag (fun _ _=>rfl))))
   (ai (aK (i:=3) j8.nd rfl (Or.inl rfl) (aH bA (aq au (aq au (rv 1) ag (fun _ _=>rfl)) ag (fun _ _=>rfl)) (aq au (aq au (rv 0) ag (fun _ _=>rfl)) ag (fun _ _=>rfl))))
   (ai (aU (aD (ji hr.aT) (rv 2) (rv 3) (L2.ax _)) (ak (aB (cK fv (rv 2) (rv 3) (L2.ax _)))) aJ)
   (ai (aU (aD (ji hr.aT) (aq au (rv 0) ag (fun _ _=>rfl)) (aq au (rv 1) ag (fun _ _=>rfl)) (L2.ax _)) (ak (aB (cK (jJ.or fv sL) (aq au (rv 0) ag (fun _ _=>rfl)) (aq au (rv 1) ag (fun _ _=>rfl)) (L2.ax _)))) aJ)
   (ak (aB (cK sL (aq au (rv 0) ag (fun _ _=>rfl)) (aq au (rv 1) ag (fun _ _=>rfl)) (L2.ax _)))))))),?_⟩
 rcases h with ⟨a,b,rfl,sa,sb,q⟩ | ⟨a,b,rfl,sa,sb,q⟩
 ·simp_arith! only [bK,E3,E4,E5]
  refine ⟨.of sa.num sb.den,.of sb.num sa.den,?_⟩
  unfold Ky.lt at q
  by_cases e:a.p=b.p
  ·rw [if_pos e] at q
   rw [if_pos ((gQ _ _).mpr e)]
   by_cases k:a.v=b.v
   ·rw [if_pos k] at q ⊢;exact q
   ·rw [if_neg k] at q ⊢;exact q
  ·rw [if_neg e] at q
   rw [if_neg (fun z=>e ((gQ _ _).mp z))]
   simp only [jL]
   exact q
 ·simp_arith! only [bK,x4,x5,x6]
  refine ⟨.of sa.num sb.den,.of sb.num sa.den,?_⟩
  unfold ay.lt at q
  by_cases e:a.m=b.m
  ·rw [if_pos e] at q
   rw [if_pos ((gQ _ _).mpr e)]
   by_cases k:a.h=b.h
   ·rw [if_pos k] at q ⊢;exact q
   ·rw [if_neg k] at q ⊢;exact q
  ·rw [if_neg e] at q
   rw [if_neg (fun z=>e ((gQ _ _).mp z))]
   simp only [jL]
   exact q
abbrev hW:Stmt:=(top 49)
theorem tu:L2.aw ["_law_found","_law_due_here"] ["_law_found","_law_due_here"] (L2.aj hW):=dT
def kb:cm:=fun xs J Q _=>∃ a:ay,xs=[a.v,a.v]∧Q (.bl true) J
theorem qF {f:Addr} {fd:FuncData} (F:bV K "_law_passrow" "_law_passrow" hW f fd) (Z:bR mg) (C_part:a7 P w K mg base 2 "_law_part" ["_law_found","_law_due_here"] pL):aI P w K mg base (cS P w) 3 f fd ["_law_found","_law_due_here"] (dz K kb):=by
 simp_arith [tu]
 ·obtain ⟨a,rfl,_⟩:=h;rfl
 obtain ⟨a,rfl,q⟩:=h
 refine ⟨_,(ai (aU (dm (kC (c4 (bM (aM iB rfl Z.isinstance boot_isinstance (af (rv 0) (af (l_ rfl Z.tuple boot_tuple) ah))))) (gF (aD (ji hr.aT) (aM bQ rfl Z.len boot_len (af (rv 0) ah)) ag (L2.ax _))))) (ak (aB f7)) aJ)
   (ai (aU (dm (kC (c4 (bM (aM iB rfl Z.isinstance boot_isinstance (af (aq au (rv 0) ag (fun _ _=>rfl)) (af (l_ rfl Z.str boot_str) ah))))) (gF (c4 (bM (aM iB rfl Z.isinstance boot_isinstance (af (aq au (rv 0) ag (fun _ _=>rfl)) (af (l_ rfl Z.str boot_str) ah)))))))) (ak (aB f7)) aJ)
   (ak (aB (s_ (aR C_part B hr (by decide) rfl (af (aq au (rv 0) ag (fun _ _=>rfl)) (af (aq au (rv 1) ag (fun _ _=>rfl)) ah))) (o7 (cK (cH hr.aT) (rv 0) (rv 1) (L2.ax _)))))))),?_⟩
 simp_arith! only [bK,pL,x4,x5,x6,Ip,E9,G',Cj,Hc]
 exact q
abbrev fS:Stmt:=(top 50)
theorem kE:L2.aw ["_law_found","_law_due_here","_law_k"] ["_law_found","_law_due_here"] (L2.aj fS):=dT
def iN:cm:=fun xs J Q _=>∃ (rows:List ay) (x:PV),xs=[x,.fl (rows.map ay.v)]∧kT J x=some (rows.map ay.v)∧rows.length≤900∧Q (.bl true) J
theorem oM {f:Addr} {fd:FuncData} (F:bV K "_law_passrows" "_law_passrows" fS f fd) (Z:bR mg) (C_passrow:a7 P w K mg base 3 "_law_passrow" ["_law_found","_law_due_here"] kb):aI P w K mg base (cS P w) 4 f fd ["_law_found","_law_due_here"] (dz K iN):=by
 simp_arith [kE]
 ·obtain ⟨rows,x,rfl,_⟩:=h;rfl
 obtain ⟨rows,x,rfl,hx,hl,q⟩:=h
 refine ⟨_,(ai (aU (dm (kC (c4 (bM (aM iB rfl Z.isinstance boot_isinstance (af (rv 0) (af (l_ rfl Z.list boot_list) ah))))) (gF (aD (ji hr.aT) (aM bQ rfl Z.len boot_len (af (rv 0) ah)) (aM bQ rfl Z.len boot_len (af (rv 1) ah)) (L2.ax _))))) (ak (aB f7)) aJ)
   (ai (fN cy rfl (nN rfl Z.range (af (aM bQ rfl Z.len boot_len (af (rv 1) ah)) ah)) (bZ (i:=2) kE.nd rfl (Or.inl rfl)) (ak (aU (c4 (bM (aR C_passrow B hr (by decide) rfl (af (aq au (rv 0) (rv 2) (fun _ _=>rfl)) (af (aq au (rv 1) (rv 2) (fun _ _=>rfl)) ah))))) (ak (aB f7)) aJ)))
   (ak (aB f7)))),?_⟩
 simp_arith! only [bK,List.length_map,Fq hx,yg hx]
 refine ⟨by omega,by omega,t4 (fun i τ J'=>∃ u:Option PV,τ=[some x,some (.fl (rows.map ay.v)),u]∧J'=J) ⟨none,rfl,rfl⟩ ?_ ?_⟩
 ·rintro i τ J' hi ⟨u,rfl,rfl⟩
  have hi:i < rows.length:=by omega
  have ha:cI (rows.map ay.v) (0 + (i:Int))=some (rows[i].v):=by rw [Int.zero_add];exact xq (List.getElem?_eq_getElem hi)
  simp_arith! only [bK,B' hx,ha,kb]
  exact ⟨_,rfl,rfl⟩
 ·rintro τ J' ⟨u,rfl,rfl⟩
  exact q
theorem vA {t p q:Rat} {v:Int} (hv:0 < v):Rat.divInt (t.num * ((p.den:Int) * (q.den:Int) * v) + (q.num * (p.den:Int) - p.num * (q.den:Int)) * (t.den:Int)) ((t.den:Int) * ((p.den:Int) * (q.den:Int) * v))=t + (q - p) / (v:Rat):=by
 have a:=cast_eq t
 have b:=cast_eq p
 have c:=cast_eq q
 have d:=de t
 have e:=de p
 have f:=de q
 have k:(v:Rat)≠0:=kq (by omega)
 rw [Rat.divInt_eq_div]
 simp only [Rat.intCast_mul,Rat.intCast_add,Rat.intCast_sub,a,b,c]
 generalize (((t.den:Int)):Rat)=x at d ⊢
 generalize (((p.den:Int)):Rat)=y at e ⊢
 generalize (((q.den:Int)):Rat)=z at f ⊢
 generalize (v:Rat)=w at k ⊢
 have h1:y * z≠0:=fun h=>by rcases Rat.mul_eq_zero.mp h with h | h <;> contradiction
 have h2:y * z * w≠0:=fun h=>by rcases Rat.mul_eq_zero.mp h with h | h <;> contradiction
 have h3:x * (y * z * w)≠0:=fun h=>by rcases Rat.mul_eq_zero.mp h with h | h <;> contradiction
 grind
theorem lF.tO {l:aP} (h:lF 240 l) {t:Rat} (st:Sz 240 t):Sz 790 (l.at t):=by
 have s1:Sz 481 (t - l.m):=st.sub h.m
 have s2:Sz 545 ((t - l.m) * (l.v:Rat)):=s1.mul h.v
 exact h.p.add s2
theorem vB {t p q:Rat} {v:Int} (st:Sz 240 t) (sp:Sz 790 p) (sq:Sz 790 q) (bv:Bd 70 v) (hv:0 < v):Bd 1650 ((p.den:Int) * (q.den:Int) * v)∧Bd 1590 (q.num * (p.den:Int) - p.num * (q.den:Int))∧Bd 1900 ((t.den:Int) * ((p.den:Int) * (q.den:Int) * v))∧Sz 9000 (t + (q - p) / (v:Rat)):=by
 have h1:Bd 1650 ((p.den:Int) * (q.den:Int) * v):=.mul (.mul (k:=1580) sp.den sq.den) bv
 have h2:Bd 1590 (q.num * (p.den:Int) - p.num * (q.den:Int)):=.sub (Bd.mul (k:=1580) sq.num sp.den) (Bd.mul (k:=1580) sp.num sq.den)
 have h3:Bd 1900 ((t.den:Int) * ((p.den:Int) * (q.den:Int) * v)):=.mul st.den h1
 refine ⟨h1,h2,h3,?_⟩
 rw [← vA hv]
 have hd:0 < (t.den:Int) * ((p.den:Int) * (q.den:Int) * v):=Int.mul_pos (eD _) (Int.mul_pos (Int.mul_pos (eD _) (eD _)) hv)
 exact (Sz.div (n:=1901) (.add (Bd.mul (k:=1900) st.num h1) (Bd.mul (k:=1900) h2 st.den)) (h3.mono (by decide)) (by omega)).mono (by decide)
theorem BR (p q:Rat):(0 < q.num * (p.den:Int) - p.num * (q.den:Int))=(p < q):=by
 rw [← jL p q];exact propext (by omega)
abbrev uK:Stmt:=(top 59)
theorem dI:L2.aw ["_law_legs","_law_clock","_law_moment","_law_out","_law_fast","_law_here","_law_slow","_law_pace","_law_there","_law_top","_law_under","_law_when","_law_row","_law_at_here"] ["_law_legs","_law_clock","_law_moment"] (L2.aj uK):=dT
def zo:cm:=fun xs J Q _=>∃ (D:Addr) (fs:List (Str × aP)) (ep:Nat) (t m:Rat),xs=[.ref D,fr t,fr m]∧J D=some (.dct (bJ fs) ep)∧(fs.map (·.1)).Nodup∧fs.length≤20∧Sz 240 t∧Sz 900 m∧(∀ x∈fs,lF 240 x.2)∧Q (.fl ((fw t (fs.map (key t)) m).map ay.v)) J
theorem AR {f:Addr} {fd:FuncData} (F:bV K "_law_due" "_law_due" uK f fd) (Z:bR mg) (C_at:a7 P w K mg base 2 "_law_at" ["_law_leg","_law_moment"] mn) (C_low:a7 P w K mg base 1 "_law_low" ["_law_top","_law_bottom"] iM) (C_before:a7 P w K mg base 1 "_law_before" ["_law_one","_law_two"] ra):aI P w K mg base (cS P w) 3 f fd ["_law_legs","_law_clock","_law_moment"] (dz K zo):=by
 refine HL F dI (fun xs J Q E h=>?_) (fun cdv A outer s H E G xs J Q E2 hr h B=>?_)
 ·obtain ⟨D,fs,ep,t,m,rfl,_⟩:=h;rfl
 obtain ⟨D,fs,ep,t,m,rfl,hD,hnd,hlen,st,sm,sl,q⟩:=h
 refine ⟨_,(ai (aK (i:=3) dI.nd rfl (Or.inl rfl) (j4 ah))
   (ai (fN cy rfl (o_ (rv 0)) (bZ (i:=4) dI.nd rfl (Or.inl rfl)) (ai (aK (i:=5) dI.nd rfl (Or.inl rfl) (aR C_at B hr (by decide) rfl (af (aq dD (rv 0) (rv 4) (fun _ _=>rfl)) (af (rv 1) ah))))
   (ak (fN cy rfl (o_ (rv 0)) (bZ (i:=6) dI.nd rfl (Or.inl rfl)) (ai (aK (i:=7) dI.nd rfl (Or.inl rfl) (aH dG (aq au (aq dD (rv 0) (rv 4) (fun _ _=>rfl)) ag (fun _ _=>rfl)) (aq au (aq dD (rv 0) (rv 6) (fun _ _=>rfl)) ag (fun _ _=>rfl))))
   (ai (aK (i:=8) dI.nd rfl (Or.inl rfl) (aR C_at B hr (by decide) rfl (af (aq dD (rv 0) (rv 6) (fun _ _=>rfl)) (af (rv 1) ah))))
   (ai (aK (i:=9) dI.nd rfl (Or.inl rfl) (aH dG (aH bA (aq au (rv 8) ag (fun _ _=>rfl)) (aq au (rv 5) ag (fun _ _=>rfl))) (aH bA (aq au (rv 5) ag (fun _ _=>rfl)) (aq au (rv 8) ag (fun _ _=>rfl)))))
   (ak (aU (dm (d3 (aD ik (rv 7) ag (L2.ax _)) (dk (aD ik (rv 9) ag (L2.ax _))))) (ai (aK (i:=10) dI.nd rfl (Or.inl rfl) (aH bA (aH bA (aq au (rv 5) ag (fun _ _=>rfl)) (aq au (rv 8) ag (fun _ _=>rfl))) (rv 7)))
   (ai (aK (i:=11) dI.nd rfl (Or.inl rfl) (aR C_low B hr (by decide) rfl (af (aH dh (aH bA (aq au (rv 1) ag (fun _ _=>rfl)) (rv 10)) (aH bA (rv 9) (aq au (rv 1) ag (fun _ _=>rfl)))) (af (aH bA (aq au (rv 1) ag (fun _ _=>rfl)) (rv 10)) ah))))
   (ai (aK (i:=12) dI.nd rfl (Or.inl rfl) (cv (af (rv 11) (af (rv 4) (af (rv 6) ah)))))
   (ai (aK (i:=13) dI.nd rfl (Or.inl rfl) ag)
   (ai (ju cy (dm (d3 (aD fv (rv 13) (aM bQ rfl Z.len boot_len (af (rv 3) ah)) (L2.ax _)) (dk (bM (aR C_before B hr (by decide) rfl (af (aq au (rv 3) (rv 13) (fun _ _=>rfl)) (af (rv 12) ah))))))) (ak (aK (i:=13) dI.nd rfl (Or.inl rfl) (aH dh (rv 13) ag))))
   (ak (aU (aD yC (aH bA (aq au (rv 11) ag (fun _ _=>rfl)) (aq au (rv 2) ag (fun _ _=>rfl))) (aH bA (aq au (rv 2) ag (fun _ _=>rfl)) (aq au (rv 11) ag (fun _ _=>rfl))) (L2.ax _)) (ak (bj (kB PySem.F.plainAttrs_list PySem.F.slot_list_insert PySem.F.type_list_insert jT (rv 3) (af (rv 13) (af (rv 12) ah))))) aJ))))))) aJ)))))))))
   (ak (aB (rv 3))))),?_⟩
 simp_all! only []
 intro r hr'
 have nDr:D≠r:=by intro e;subst e;rw [hD] at hr';cases hr'
 simp_all! only [ar nDr,hD]
 have hkv:(bJ fs).map (fun kv=>PV.str kv.1)=fs.map fun x=>PV.str x.1:=by unfold bJ;rw [List.map_map];rfl
 rw [hkv]
 obtain ⟨ks,hks⟩:∃ ks,fs.map (key t)=ks:=⟨_,rfl⟩
 have hkn:(ks.map Ky.n).Nodup:=by rw [← hks,c8];exact hnd
 have hkl:ks.length=fs.length:=by rw [← hks,List.length_map]
 have hkd:ks.Nodup:=List.Pairwise.of_map Ky.n (fun a b h e=>h (by rw [e])) hkn
 have hkm:∀ i (h:i < fs.length),ks[i]?=some (key t fs[i]):=fun i h=>by rw [← hks,List.getElem?_map,List.getElem?_eq_getElem h];rfl
 have hmz:∀ a∈ks,∀ b∈ks,b.v < a.v→Sz 9000 (dg t a b):=fun a ha b hb h=>by
  rw [← hks] at ha hb
  obtain ⟨x,hx,rfl⟩:=List.mem_map.mp ha
  obtain ⟨y,hy,rfl⟩:=List.mem_map.mp hb
  exact (vB (v:=x.2.v - y.2.v) st ((sl x hx).tO st) ((sl y hy).tO st) (((sl x hx).v.sub (k:=66) (sl y hy).v).mono (by decide)) (by have:y.2.v < x.2.v:=h;omega)).2.2.2
 have hup:∀ {ps:List (Ky × Ky)},(∀ p∈ps,p.1∈ks∧p.2∈ks)→∀ x∈bp t (bh t m) ps,Sz 9000 x.m:=fun hp x hx=>by
  obtain ⟨p,hp',hc,rfl⟩:=gU _ hx
  exact hmz _ (hp p hp').1 _ (hp p hp').2 (of_decide_eq_true hc).1
 have hnew:∀ {i:Nat} {l:List Ky} {y:Ky},l.Nodup→l[i]?=some y→y ∉ l.take i:=fun {i l y} hl hy hm=>by
  obtain ⟨j,hj⟩:=List.mem_iff_getElem?.mp hm
  rw [List.getElem?_take] at hj
  split at hj
  ·rename_i hji
   obtain ⟨h1,e1⟩:=List.getElem?_eq_some_iff.mp hj
   obtain ⟨h2,e2⟩:=List.getElem?_eq_some_iff.mp hy
   have:=(List.getElem_inj hl).mp (e1.trans e2.symm)
   omega
  ·cases hj
 have pin:∀ {i j:Nat} {a:Ky},a∈ks→∀ p∈((ks.take i).flatMap fun a=>ks.map fun b=>(a,b)) ++ (ks.take j).map (fun b=>(a,b)),p.1∈ks∧p.2∈ks:=fun {i j a} ha p hp=>by
  rcases List.mem_append.mp hp with hp | hp
  ·obtain ⟨x,hx,hp⟩:=List.mem_flatMap.mp hp
   obtain ⟨y,hy,rfl⟩:=List.mem_map.mp hp
   exact ⟨List.mem_of_mem_take hx,hy⟩
  ·obtain ⟨y,hy,rfl⟩:=List.mem_map.mp hp
   exact ⟨ha,List.mem_of_mem_take hy⟩
 obtain ⟨Inv,hInv⟩:∃ Inv:Nat→Sr→Hq→Prop,∀ i τ J',Inv i τ J'↔∃ (u4 u5 u6 u7 u8 u9 u10 u11 u12 u13:Option PV),τ=[some (.ref D),some (fr t),some (fr m),some (.ref r),u4,u5,u6,u7,u8,u9,u10,u11,u12,u13]∧J'=put J r (.lst ((bp t (bh t m) ((ks.take i).flatMap fun a=>ks.map fun b=>(a,b))).map ay.v))∧(bp t (bh t m) ((ks.take i).flatMap fun a=>ks.map fun b=>(a,b))).length≤20 * i:=⟨_,fun _ _ _=>Iff.rfl⟩
 refine iE Inv ((hInv _ _ _).mpr ⟨_,_,_,_,_,_,_,_,_,_,rfl,rfl,Nat.le_refl _⟩) (fun i τ J' h=>?_) ?_ ?_
 ·obtain ⟨_,_,_,_,_,_,_,_,_,_,_,rfl,_⟩:=(hInv _ _ _).mp h
  rw [ar nDr];exact hD
 ·intro i x τ J' hx hv
  obtain ⟨u4,u5,u6,u7,u8,u9,u10,u11,u12,u13,rfl,rfl,hle⟩:=(hInv _ _ _).mp hv
  clear hv
  have hi:i < fs.length:=by have:=(List.getElem?_eq_some_iff.mp hx).1;simpa using this
  rw [List.getElem?_map,List.getElem?_eq_getElem hi] at hx
  cases hx
  have ha:=hkm i hi
  rcases hfi:fs[i] with ⟨n,l⟩
  have hmem:(n,l)∈fs:=by rw [← hfi];exact List.getElem_mem hi
  rw [hfi] at ha
  have hvn:iR (bJ fs) n=some l.V:=gJ (f:=aP.V) hnd hmem
  have sll:=sl _ hmem
  have sla:=sll.tO st
  simp_all! only [ar nDr,hD,hvn]
  refine ⟨l,t,rfl,sll.m.mono (by decide),sll.p.mono (by decide),st.mono (by decide),sll.v,?_⟩
  simp_all! only [ar nDr,hD,hkv]
  have hak:key t (n,l)∈ks:=List.mem_of_getElem? ha
  have eio:((ks.take (i + 1)).flatMap fun a=>ks.map fun b=>(a,b))=((ks.take i).flatMap fun a=>ks.map fun b=>(a,b)) ++ ks.map fun b=>(key t (n,l),b):=by
   rw [List.take_add_one,ha,List.flatMap_append];simp
  obtain ⟨In2,hIn2⟩:∃ In2:Nat→Sr→Hq→Prop,∀ j τ J',In2 j τ J'↔∃ (u6 u7 u8 u9 u10 u11 u12 u13:Option PV),τ=[some (.ref D),some (fr t),some (fr m),some (.ref r),some (.str n),some (fr (l.at t)),u6,u7,u8,u9,u10,u11,u12,u13]∧J'=put J r (.lst ((bp t (bh t m) (((ks.take i).flatMap fun a=>ks.map fun b=>(a,b)) ++ (ks.take j).map fun b=>(key t (n,l),b))).map ay.v))∧(bp t (bh t m) (((ks.take i).flatMap fun a=>ks.map fun b=>(a,b)) ++ (ks.take j).map fun b=>(key t (n,l),b))).length≤20 * i + j:=⟨_,fun _ _ _=>Iff.rfl⟩
  refine iE In2 ((hIn2 _ _ _).mpr ⟨_,_,_,_,_,_,_,_,rfl,by simp,by simpa using hle⟩) (fun j τ J' h=>?_) ?_ ?_
  ·obtain ⟨_,_,_,_,_,_,_,_,_,rfl,_⟩:=(hIn2 _ _ _).mp h
   rw [ar nDr];exact hD
  ·intro j x τ J2 hx hv
   obtain ⟨u6,u7,u8,u9,u10,u11,u12,u13,rfl,rfl,hle2⟩:=(hIn2 _ _ _).mp hv
   clear hv
   have hj:j < fs.length:=by have:=(List.getElem?_eq_some_iff.mp hx).1;simpa using this
   rw [List.getElem?_map,List.getElem?_eq_getElem hj] at hx
   cases hx
   have hb:=hkm j hj
   rcases hfj:fs[j] with ⟨n',l'⟩
   have hmem':(n',l')∈fs:=by rw [← hfj];exact List.getElem_mem hj
   rw [hfj] at hb
   have hvn':iR (bJ fs) n'=some l'.V:=gJ (f:=aP.V) hnd hmem'
   have sll':=sl _ hmem'
   have sla':=sll'.tO st
   have hbk:key t (n',l')∈ks:=List.mem_of_getElem? hb
   have ejo:ks.take (j + 1)=ks.take j ++ [key t (n',l')]:=by rw [List.take_add_one,hb];rfl
   have ef2:bp t (bh t m) (((ks.take i).flatMap fun a=>ks.map fun b=>(a,b)) ++ (ks.take (j + 1)).map fun b=>(key t (n,l),b))=ie t (bh t m) (bp t (bh t m) (((ks.take i).flatMap fun a=>ks.map fun b=>(a,b)) ++ (ks.take j).map fun b=>(key t (n,l),b))) (key t (n,l),key t (n',l')):=by
    rw [ejo,List.map_append,← List.append_assoc];exact dC _ _ _ _
   have srt:=gT t (bh t m) (((ks.take i).flatMap fun a=>ks.map fun b=>(a,b)) ++ (ks.take j).map fun b=>(key t (n,l),b))
   have szs:=hup (pin (i:=i) (j:=j) hak)
   have hdr:cf n n' (bp t (bh t m) (((ks.take i).flatMap fun a=>ks.map fun b=>(a,b)) ++ (ks.take j).map fun b=>(key t (n,l),b)))=bp t (bh t m) (((ks.take i).flatMap fun a=>ks.map fun b=>(a,b)) ++ (ks.take j).map fun b=>(key t (n,l),b)):=by
    refine vM (p:=(key t (n,l),key t (n',l'))) (pS.of hkn fun p hp=>?_) fun hm=>?_
    ·rcases List.mem_append.mp hp with hp | hp
     ·exact pin hak p hp
     ·rw [List.mem_singleton] at hp;subst hp;exact ⟨hak,hbk⟩
    ·rcases List.mem_append.mp hm with hm | hm
     ·obtain ⟨x,hx,hp⟩:=List.mem_flatMap.mp hm
      obtain ⟨y,hy,e⟩:=List.mem_map.mp hp
      cases e
      exact hnew hkd ha hx
     ·obtain ⟨y,hy,e⟩:=List.mem_map.mp hm
      have:y=key t (n',l'):=(Prod.mk.inj e).2
      subst this
      exact hnew hkd hb hy
   generalize bp t (bh t m) (((ks.take i).flatMap fun a=>ks.map fun b=>(a,b)) ++ (ks.take j).map fun b=>(key t (n,l),b))=rows at hle2 ef2 srt szs hdr ⊢
   have ig:bh t m (key t (n,l),key t (n',l'))=false→∀ {v6 v7 v8 v9 v10 v11 v12 v13},In2 (j + 1) [some (.ref D),some (fr t),some (fr m),some (.ref r),some (.str n),some (fr (l.at t)),v6,v7,v8,v9,v10,v11,v12,v13] (put J r (.lst (rows.map ay.v))):=fun hc _ _ _ _ _ _ _ _=>by
    have e:ie t (bh t m) rows (key t (n,l),key t (n',l'))=rows:=by unfold ie;rw [if_neg (by rw [hc];decide)]
    exact (hIn2 _ _ _).mpr ⟨_,_,_,_,_,_,_,_,rfl,by rw [ef2,e],by rw [ef2,e];omega⟩
   simp_all! only [ar nDr,hD,hvn,hvn',kr]
   refine ⟨l',t,rfl,sll'.m.mono (by decide),sll'.p.mono (by decide),st.mono (by decide),sll'.v,?_⟩
   simp_all! only [BR]
   refine ⟨.of sla'.num sla.den,.of sla.num sla'.den,?_⟩
   by_cases c1n:¬ 0 < l.v - l'.v
   ·rw [if_neg c1n]
    exact ig (decide_eq_false (fun z=>by have:l'.v < l.v:=z.1;omega))
   have c1:=Decidable.not_not.mp c1n
   rw [if_pos c1]
   by_cases c2n:¬ l.at t < l'.at t
   ·rw [if_neg c2n]
    exact ig (decide_eq_false (fun z=>c2n z.2.1))
   have c2:=Decidable.not_not.mp c2n
   rw [if_pos c2]
   have bv:Bd 70 (l.v - l'.v):=(sll.v.sub (k:=66) sll'.v).mono (by decide)
   obtain ⟨z1,z2,z3,z4⟩:=vB st sla sla' bv c1
   have ew:t + (l'.at t - l.at t) / ((l.v - l'.v:Int):Rat)=dg t (key t (n,l)) (key t (n',l')):=rfl
   have hd:0 < (t.den:Int) * (((l.at t).den:Int) * ((l'.at t).den:Int) * (l.v - l'.v)):=Int.mul_pos (eD _) (Int.mul_pos (Int.mul_pos (eD _) (eD _)) c1)
   simp_all! only []
   refine ⟨.of sla.den sla'.den,.of (Bd.mul (k:=1580) sla.den sla'.den) bv,?_⟩
   simp_all! only [iM]
   refine ⟨.of st.num z1,.of z2 st.den,.of st.den z1,hd,z3.mono (by decide),?_⟩
   rw [vA c1,ew]
   rw [ew] at z4
   have hcp:∀ b:Bool,bh t m (key t (n,l),key t (n',l'))=b↔decide (dg t (key t (n,l)) (key t (n',l'))≤m)=b:=fun b=>by
    have:bh t m (key t (n,l),key t (n',l'))=decide (dg t (key t (n,l)) (key t (n',l'))≤m):=decide_eq_decide.mpr ⟨fun z=>z.2.2,fun z=>⟨by show l'.v < l.v;omega,c2,z⟩⟩
    rw [this]
   have eput:ie t (bh t m) rows (key t (n,l),key t (n',l'))=if bh t m (key t (n,l),key t (n',l'))=true then gq ⟨dg t (key t (n,l)) (key t (n',l')),n,n'⟩ rows else rows:=by
    unfold ie
    split
    ·show gq _ (cf n n' rows)=_;rw [hdr];rfl
    ·rfl
   generalize dg t (key t (n,l)) (key t (n',l'))=wh at z4 hcp eput ⊢
   simp_all! only [CD]
   obtain ⟨row,hrow⟩:∃ row:ay,ay.mk wh n n'=row:=⟨_,rfl⟩
   have erm:row.m=wh:=by rw [← hrow]
   rw [hrow] at eput ⊢
   refine ⟨fun k τ' J'=>∃ h:Nat,h + k=rows.length∧τ'=[some (.ref D),some (fr t),some (fr m),some (.ref r),some (.str n),some (fr (l.at t)),some (.str n'),some (.int (l.v - l'.v)),some (fr (l'.at t)),some (PV.int ((l'.at t).num * ↑(l.at t).den - (l.at t).num * ↑(l'.at t).den)),some (PV.int (((l.at t).den:Int) * ((l'.at t).den:Int) * (l.v - l'.v))),some (fr wh),some row.v,some (.int (h:Nat))]∧J'=put J r (.lst (rows.map ay.v))∧∀ (k:Nat) y,k < h→rows[k]?=some y→y.lt row=true,⟨rows.length,0,by omega,rfl,rfl,fun k y hk=>by omega⟩,?_⟩
   rintro k τ' J' ⟨h,hhk,rfl,rfl,hlow⟩
   have fin:∀ {v13:Option PV},(∀ (k:Nat) y,h≤k→rows[k]?=some y→y.lt row=false)→(wh≤m)→In2 (j + 1) [some (.ref D),some (fr t),some (fr m),some (.ref r),some (.str n),some (fr (l.at t)),some (.str n'),some (.int (l.v - l'.v)),some (fr (l'.at t)),some (PV.int ((l'.at t).num * ↑(l.at t).den - (l.at t).num * ↑(l'.at t).den)),some (PV.int (((l.at t).den:Int) * ((l'.at t).den:Int) * (l.v - l'.v))),some (fr wh),some row.v,v13] (put J r (.lst ((rows.map ay.v).take h ++ row.v :: (rows.map ay.v).drop h))):=fun {v13} hhigh hw=>by
    rw [if_pos ((hcp true).mpr (decide_eq_true hw))] at eput
    refine (hIn2 _ _ _).mpr ⟨_,_,_,_,_,_,_,_,rfl,?_,by rw [ef2,eput,lQ];omega⟩
    rw [ef2,eput,← ue (by omega) hlow hhigh,List.map_append,List.map_cons,List.map_take,List.map_drop]
   simp_all! only [av,List.length_map]
   have cle:(wh.num * (m.den:Int)≤m.num * (wh.den:Int))=(wh≤m):=propext (Rat.le_iff wh m).symm
   have stop:¬ wh≤m→bh t m (key t (n,l),key t (n',l'))=false:=fun z=>(hcp false).mpr (decide_eq_false z)
   by_cases c5:h < rows.length
   ·rw [if_pos (by omega)]
    have hget:rows[h]?=some rows[h]:=List.getElem?_eq_getElem c5
    have ha':cI (rows.map ay.v) (h:Int)=some (rows[h]).v:=a8 (by rw [List.getElem?_map,hget];rfl)
    have sj:=szs _ (List.getElem_mem c5)
    generalize rows[h]=y at ha' sj hget ⊢
    refine ⟨_,ha',.inr ⟨y,row,rfl,sj,by rw [erm];exact z4,?_⟩⟩
    cases hc:y.lt row with
    | true =>
     simp_all! only []
     refine ⟨_,fun τ'' J'' h'=>⟨k - 1,by omega,h'⟩,h + 1,by omega,by rw [Int.natCast_succ],rfl,fun k' y' hk' e=>?_⟩
     rcases Nat.lt_or_eq_of_le (Nat.le_of_lt_succ hk') with z | z
     ·exact hlow k' y' z e
     ·subst z;rw [hget] at e;cases e;exact hc
    | false =>
     simp_all! only [av,cle]
     refine ⟨.of z4.num sm.den,.of sm.num z4.den,?_⟩
     by_cases c6:wh≤m
     ·rw [if_pos c6]
      refine ⟨_,h,rfl,rfl,by rw [List.length_map];omega,aX (by rw [List.length_map];omega),by omega,?_⟩
      rw [dM]
      exact fin (fun k' y' hk' e=>rF srt hget e hk' hc) c6
     ·rw [if_neg c6]
      exact ig (stop c6)
   ·rw [if_neg (by omega)]
    simp_all! only [av,cle]
    refine ⟨.of z4.num sm.den,.of sm.num z4.den,?_⟩
    by_cases c6:wh≤m
    ·rw [if_pos c6]
     refine ⟨_,h,rfl,rfl,by rw [List.length_map];omega,aX (by rw [List.length_map];omega),by omega,?_⟩
     rw [dM]
     exact fin (fun k' y' hk' e=>by rw [List.getElem?_eq_none (by omega)] at e;cases e) c6
    ·rw [if_neg c6]
     exact ig (stop c6)
  ·intro τ J2 hv
   obtain ⟨u6,u7,u8,u9,u10,u11,u12,u13,rfl,rfl,hle2⟩:=(hIn2 _ _ _).mp hv
   rw [List.length_map,← hkl,List.take_length,← eio] at hle2 ⊢
   exact (hInv _ _ _).mpr ⟨_,_,_,_,_,_,_,_,_,_,rfl,rfl,by omega⟩
 ·intro τ J' hv
  obtain ⟨u4,u5,u6,u7,u8,u9,u10,u11,u12,u13,rfl,rfl,hle⟩:=(hInv _ _ _).mp hv
  rw [List.length_map,← hkl,List.take_length,pX hkn,← hks]
  simp_all! only []
  exact Fg.mF (lV hr') av hr' q
theorem bU.C2 {L:Ln} (ok:bU L):L.fs.length≤12:=by
 have:=ok.rl
 rw [ok.row,qM] at this;exact this
def EB (t:Rat) (fs gs:List (Str × aP)):Prop:=∀ x,x∈fs.map (key t)↔x∈gs.map (key t)
def pR:List aP→Prop
 | a :: b :: r=>b.p=a.at b.m∧pR (b :: r)
 | _=>True
theorem gP:∀ (ls:List aP) (l:aP),pR (ls ++ [l])↔pR ls∧∀ k,ls.getLast?=some k→l.p=k.at l.m
 | [],l=>⟨fun _=>⟨trivial,fun k h=>nomatch h⟩,fun _=>trivial⟩
 | [a],l=>⟨fun h=>⟨trivial,fun k e=>by cases e;exact h.1⟩,fun h=>⟨h.2 a rfl,trivial⟩⟩
 | a :: b :: r,l=>by
  have ih:=gP (b :: r) l
  show (b.p=a.at b.m∧pR ((b :: r) ++ [l]))↔_
  rw [ih,List.getLast?_cons_cons]
  constructor
  ·rintro ⟨h1,h2,h3⟩;exact ⟨⟨h1,h2⟩,h3⟩
  ·rintro ⟨⟨h1,h2⟩,h3⟩;exact ⟨h1,h2,h3⟩
def ft (l l':aP):Prop:=l.v=l'.v∧∀ t,l.at t=l'.at t
theorem ft.key {l l':aP} (h:ft l l') (n:Str) (t:Rat):key t (n,l)=key t (n,l'):=by unfold Ov.key;simp only;rw [h.1,h.2 t]
theorem Ab (l:aP):l.at l.m=l.p:=by unfold aP.at;grind
theorem uN {l l':aP} {t:Rat} (hv:l.v=l'.v) (h:l.at t=l'.at t):ft l l':=⟨hv,fun s=>by
 unfold aP.at at h ⊢
 rw [hv] at h ⊢
 generalize (l'.v:Rat)=x at h ⊢
 grind⟩
theorem gI {rows:List aP} {t:Rat} {v:Int} (h:pR rows) (ne:rows≠[]):pR (turned rows t v)∧∀ l,rows.getLast?=some l→∀ l',(turned rows t v).getLast?=some l'→ft ⟨t,l.at t,v⟩ l':=by
 obtain ⟨ls,l,rfl⟩:∃ ls l,rows=ls ++ [l]:=⟨rows.dropLast,rows.getLast ne,(List.dropLast_concat_getLast ne).symm⟩
 obtain ⟨h1,h2⟩:=(gP ls l).mp h
 have new:∀ {q:List aP},(q ++ [aP.mk t (l.at t) v]).getLast?=some (aP.mk t (l.at t) v):=fun {q}=>List.getLast?_concat ..
 rw [fg]
 simp only [List.getLast?_concat,Option.some.injEq]
 split
 ·rename_i e
  have el:l.at t=l.p:=by rw [← e];exact Ab l
  split
  ·rename_i ev
   refine ⟨h1,fun l0 h0 l' h'=>?_⟩
   subst h0
   rw [h'] at ev
   have hv:l'.v=v:=Option.some.inj ev
   have hp:=h2 l' h'
   rw [e] at hp
   refine uN (t:=t) hv.symm ?_
   show l.at t + (t - t) * (v:Rat)=_
   rw [← hp,el];grind
  ·refine ⟨(gP _ _).mpr ⟨h1,fun k hk=>?_⟩,fun l0 h0 l' h'=>?_⟩
   ·show l.at t=k.at t
    rw [el,h2 k hk,e]
   ·subst h0
    rw [new] at h';cases h';exact ⟨rfl,fun _=>rfl⟩
 ·split
  ·rename_i ev
   refine ⟨h,fun l0 h0 l' h'=>?_⟩
   subst h0
   rw [List.getLast?_concat] at h';cases h'
   refine uN (t:=t) ev.symm ?_
   show l.at t + (t - t) * (v:Rat)=_
   grind
  ·refine ⟨(gP _ _).mpr ⟨h,fun k hk=>?_⟩,fun l0 h0 l' h'=>?_⟩
   ·rw [List.getLast?_concat] at hk;cases hk;rfl
   ·subst h0
    rw [new] at h';cases h';exact ⟨rfl,fun _=>rfl⟩
structure Rl (L:Ln) (gs:List (Str × aP)):Prop where
 nm:gs.map (·.1)=L.fs.map (·.1)
 ln:∀ n l l',(n,l)∈gs→(n,l')∈L.fs→ft l l'
 ck:∀ x∈gs,mH x.2
 le:∀ x∈gs,x.2.m≤L.t
 ct:∀ c∈L.cs,pR c.w
theorem Rl.same {L:Ln} {gs:List (Str × aP)} (h:Rl L gs) (t:Rat):EB t L.fs gs:=fun x=>by
 have other:∀ {as bs:List (Str × aP)},as.map (·.1)=bs.map (·.1)→∀ {n l},(n,l)∈as→∃ l',(n,l')∈bs:=fun {as bs} e {n l} hm=>by
  have:n∈bs.map (·.1):=by rw [← e];exact List.mem_map.mpr ⟨_,hm,rfl⟩
  obtain ⟨y,hy,e'⟩:=List.mem_map.mp this
  exact ⟨y.2,by rw [← e'];exact hy⟩
 rw [List.mem_map,List.mem_map]
 constructor
 ·rintro ⟨⟨n,l⟩,hm,rfl⟩
  obtain ⟨l',hl'⟩:=other h.nm.symm hm
  exact ⟨(n,l'),hl',(h.ln n l' l hl' hm).key n t⟩
 ·rintro ⟨⟨n,l⟩,hm,rfl⟩
  obtain ⟨l',hl'⟩:=other h.nm hm
  exact ⟨(n,l'),hl',((h.ln n l l' hm hl').key n t).symm⟩
theorem Rl.sz {L:Ln} {gs:List (Str × aP)} (h:Rl L gs):∀ x∈gs,lF 240 x.2:=fun x hx=>by
 have hk:=h.ck x hx
 exact ⟨hk.IM.mono (by decide),hk.IU.mono (by decide),.small (by have:=hk.v;omega) (by have:=hk.v;omega)⟩
theorem Rl.nd {L:Ln} {gs:List (Str × aP)} (h:Rl L gs) (ok:aQ L):(gs.map (·.1)).Nodup:=by rw [h.nm];exact ok.Ek
theorem Rl.len {L:Ln} {gs:List (Str × aP)} (h:Rl L gs):gs.length=L.fs.length:=by have:=congrArg List.length h.nm;rw [List.length_map,List.length_map] at this;exact this
theorem yT {fs:List (Str × aP)} {n:Str} {l:aP} (hm:n∈fs.map (·.1)):oY (bJ fs) n l.V=bJ (fs.map fun x=>if x.1=n then (x.1,l) else x):=by
 unfold oY bJ
 rw [if_pos,List.map_map,List.map_map]
 ·refine List.map_congr_left fun x _=>?_
  show (if x.1=n then (x.1,l.V) else (x.1,x.2.V))=_
  show _=((if x.1=n then (x.1,l) else x).1,(if x.1=n then (x.1,l) else x).2.V)
  split <;> rfl
 ·obtain ⟨x,hx,e⟩:=List.mem_map.mp hm
  rw [List.any_eq_true]
  exact ⟨(x.1,x.2.V),List.mem_map.mpr ⟨x,hx,rfl⟩,decide_eq_true e⟩
def nW (n:Str) (t:Rat) (v:Int) (gs:List (Str × aP)):List (Str × aP):=gs.map fun x=>if x.1=n then (x.1,⟨t,x.2.at t,v⟩) else x
def gi (t:Rat) (gs:List (Str × aP)):List (Str × aP):=gs.map fun x=>(x.1,⟨t,x.2.at t,-x.2.v⟩)
theorem xH {L:Ln} {f:Cf→Cf} (hn:∀ c,(f c).n=c.n∧(f c).a=c.a∧(f c).r=c.r∧(f c).g=c.g) {L':Ln} (e:L'.cs=L.cs.map f):L'.fs=L.wG.map fun c=>(c.n,(f c).cur):=by
 unfold Ln.fs Ln.wG
 rw [e,List.filter_map,List.map_map]
 have e1:(fun c:Cf=>c.g.isNone) ∘ f=fun c=>c.g.isNone:=by funext c;show (f c).g.isNone=_;rw [(hn c).2.2.2]
 rw [e1]
 exact List.map_congr_left fun c _=>by show ((f c).n,(f c).cur)=_;rw [(hn c).1]
theorem p7 {c:Cf} {t:Rat} {v:Int} (h:pR c.w) (ne:c.w≠[]):ft ⟨t,c.cur.at t,v⟩ (c.turn t v).cur:=by
 have h1:=(Cf.fH ne).1
 have h2:=(Cf.fH (c:=c.turn t v) (kj ne)).1
 exact (gI h ne).2 _ h1 _ h2
theorem ft.turn {l l':aP} (h:ft l l') (t:Rat) (v:Int):ft ⟨t,l.at t,v⟩ ⟨t,l'.at t,v⟩:=by rw [h.2 t];exact ⟨rfl,fun _=>rfl⟩
theorem ft.trans {l l' l'':aP} (h:ft l l') (k:ft l' l''):ft l l'':=⟨h.1.trans k.1,fun t=>(h.2 t).trans (k.2 t)⟩
theorem Rl.turn {L L':Ln} {gs:List (Str × aP)} (h:Rl L gs) (ok:aQ L) {n:Str} {v:Int} (hv:v.natAbs≤1000) (e:L'.cs=L.cs.map (cj n L.t v)) (et:L'.t=L.t):Rl L' (nW n L.t v gs):=by
 have hn:=jG n L.t v
 have hfs:=xH hn e
 have nm:(nW n L.t v gs).map (·.1)=gs.map (·.1):=by
  unfold nW;rw [List.map_map];exact List.map_congr_left fun x _=>by show (if x.1=n then (x.1,_) else x).1=x.1;split <;> rfl
 refine ⟨?_,?_,?_,?_,?_⟩
 ·rw [nm,h.nm,hfs];unfold Ln.fs;rw [List.map_map,List.map_map];rfl
 ·intro m l l' hl hl'
  obtain ⟨x,hx,ex⟩:=List.mem_map.mp hl
  rw [hfs] at hl'
  obtain ⟨c,hc,ec⟩:=List.mem_map.mp hl'
  have hcs:=(Ln.cU.mp hc).1
  have hold:(c.n,c.cur)∈L.fs:=List.mem_map.mpr ⟨c,hc,rfl⟩
  cases ec
  by_cases z:x.1=n
  ·rw [if_pos z] at ex
   have ex1:x.1=c.n:=(Prod.mk.inj ex).1
   have ex2:aP.mk L.t (x.2.at L.t) v=l:=(Prod.mk.inj ex).2
   subst ex2
   have hs:=h.ln x.1 x.2 c.cur hx (by rw [ex1];exact hold)
   have zc:c.n=n:=by rw [← z];exact ex1.symm
   unfold cj
   rw [if_pos zc]
   exact (hs.turn L.t v).trans (p7 (h.ct c hcs) (ok.ne c hcs))
  ·rw [if_neg z] at ex
   subst ex
   have zc:¬ c.n=n:=z
   unfold cj
   rw [if_neg zc]
   exact h.ln c.n l c.cur hx hold
 ·intro x hx
  obtain ⟨y,hy,rfl⟩:=List.mem_map.mp hx
  split
  ·exact (h.ck y hy).at (h.le y hy) ok.ts hv
  ·exact h.ck y hy
 ·intro x hx
  rw [et]
  obtain ⟨y,hy,rfl⟩:=List.mem_map.mp hx
  split
  ·exact Rat.le_refl
  ·exact h.le y hy
 ·intro c hc
  rw [e] at hc
  obtain ⟨c0,h0,rfl⟩:=List.mem_map.mp hc
  unfold cj
  split
  ·exact (gI (h.ct c0 h0) (ok.ne c0 h0)).1
  ·exact h.ct c0 h0
theorem pV (t:Rat) (c:Cf):(cY t c).n=c.n∧(cY t c).a=c.a∧(cY t c).r=c.r∧(cY t c).g=c.g:=by unfold cY;split <;> exact ⟨rfl,rfl,rfl,rfl⟩
theorem Rl.about {L L':Ln} {gs:List (Str × aP)} (h:Rl L gs) (ok:aQ L) (e:L'.cs=L.cs.map (cY L.t)) (et:L'.t=L.t):Rl L' (gi L.t gs):=by
 have hn:=pV L.t
 have hfs:=xH hn e
 have nm:(gi L.t gs).map (·.1)=gs.map (·.1):=by
  unfold gi;rw [List.map_map];rfl
 refine ⟨?_,?_,?_,?_,?_⟩
 ·rw [nm,h.nm,hfs];unfold Ln.fs;rw [List.map_map,List.map_map];rfl
 ·intro m l l' hl hl'
  obtain ⟨x,hx,ex⟩:=List.mem_map.mp hl
  rw [hfs] at hl'
  obtain ⟨c,hc,ec⟩:=List.mem_map.mp hl'
  have hcs:=Ln.cU.mp hc
  have hold:(c.n,c.cur)∈L.fs:=List.mem_map.mpr ⟨c,hc,rfl⟩
  cases ec
  obtain ⟨xn,xl⟩:=x
  cases ex
  have hs:=h.ln c.n xl c.cur hx hold
  have ea:cY L.t c=c.turn L.t (-c.cur.v):=by unfold cY;rw [if_pos (by rw [hcs.2];rfl)]
  rw [ea,hs.1]
  exact (hs.turn L.t _).trans (p7 (h.ct c hcs.1) (ok.ne c hcs.1))
 ·intro x hx
  obtain ⟨y,hy,rfl⟩:=List.mem_map.mp hx
  exact (h.ck y hy).at (h.le y hy) ok.ts (by have:=(h.ck y hy).v;omega)
 ·intro x hx
  rw [et]
  obtain ⟨y,hy,rfl⟩:=List.mem_map.mp hx
  exact Rat.le_refl
 ·intro c hc
  rw [e] at hc
  obtain ⟨c0,h0,rfl⟩:=List.mem_map.mp hc
  unfold cY
  split
  ·exact (gI (h.ct c0 h0) (ok.ne c0 h0)).1
  ·exact h.ct c0 h0
theorem Rl.join {L L':Ln} {gs:List (Str × aP)} (h:Rl L gs) (ok':aQ L') {n:Str} {x v:Int} (hv:v.natAbs≤1000) (hx:x.natAbs≤1000000) (j:L.joined n x v L') (t0:0≤L.t) (ts:Sc fC MM L.t) (hnew:n ∉ L.fs.map (·.1)):Rl L' (gs ++ [(n,⟨L.t,(x:Rat),v⟩)]):=by
 obtain ⟨a,r,ecs,et⟩:=j
 have efs:L'.fs=L.fs ++ [(n,⟨L.t,(x:Rat),v⟩)]:=t6 L ecs rfl
 refine ⟨?_,?_,?_,?_,?_⟩
 ·rw [efs,List.map_append,List.map_append,h.nm]
 ·intro m l l' hl hl'
  rw [efs] at hl'
  have h1:∀ {k},(n,k)∈gs→False:=fun hk=>hnew (by rw [← h.nm];exact List.mem_map.mpr ⟨_,hk,rfl⟩)
  have h2:∀ {k},(n,k)∈L.fs→False:=fun hk=>hnew (List.mem_map.mpr ⟨_,hk,rfl⟩)
  rcases List.mem_append.mp hl with hl | hl <;> rcases List.mem_append.mp hl' with hl' | hl'
  ·exact h.ln m l l' hl hl'
  ·rw [List.mem_singleton] at hl';cases hl';exact (h1 hl).elim
  ·rw [List.mem_singleton] at hl;cases hl;exact (h2 hl').elim
  ·rw [List.mem_singleton] at hl hl';cases hl;cases hl';exact ⟨rfl,fun _=>rfl⟩
 ·intro y hy
  rcases List.mem_append.mp hy with hy | hy
  ·exact h.ck y hy
  ·rw [List.mem_singleton] at hy;subst hy;exact mH.new t0 ts hx hv
 ·intro y hy
  rw [et]
  rcases List.mem_append.mp hy with hy | hy
  ·exact h.le y hy
  ·rw [List.mem_singleton] at hy;subst hy;exact Rat.le_refl
 ·intro c hc
  rw [ecs] at hc
  rcases List.mem_append.mp hc with hc | hc
  ·exact h.ct c hc
  ·rw [List.mem_singleton] at hc;subst hc;exact trivial
def jQ (n:Str) (gs:List (Str × aP)):List (Str × aP):=gs.filter fun x=>decide (x.1≠n)
theorem Rl.leave {L L':Ln} {gs:List (Str × aP)} (h:Rl L gs) {n:Str} (e:L'.cs=L.cs.map (bc n L.t)) (et:L'.t=L.t):Rl L' (jQ n gs):=by
 have hfs:L'.fs=L.fs.filter fun x=>decide (x.1≠n):=qj e
 have hf:∀ l:List (Str × aP),(l.filter fun x=>decide (x.1≠n)).map (·.1)=(l.map (·.1)).filter fun y=>decide (y≠n):=fun l=>by rw [List.filter_map];rfl
 refine ⟨?_,?_,?_,?_,?_⟩
 ·unfold jQ;rw [hf,hfs,hf,h.nm]
 ·intro m l l' hl hl'
  rw [hfs] at hl'
  exact h.ln m l l' (List.mem_filter.mp hl).1 (List.mem_filter.mp hl').1
 ·intro x hx;exact h.ck x (List.mem_filter.mp hx).1
 ·intro x hx;rw [et];exact h.le x (List.mem_filter.mp hx).1
 ·intro c hc
  rw [e] at hc
  obtain ⟨c0,h0,rfl⟩:=List.mem_map.mp hc
  rw [(dU n L.t c0).2.2.2];exact h.ct c0 h0
abbrev k_:Stmt:=(top 57)
theorem q9:L2.aw ["_law_legs","_law_clock","_law_deed_here","_law_name"] ["_law_legs","_law_clock","_law_deed_here"] (L2.aj k_):=dT
def eY (n:Str) (x v:Int):PV:=.tup [.str "join",.str n,.int x,.int v]
def gH (n:Str) (v:Int):PV:=.tup [.str "turn",.str n,.int v]
def gj:PV:=.tup [.str "about"]
def fI (n:Str):PV:=.tup [.str "leave",.str n]
def El (m:Rat):PV:=.tup [.str "go",fr m]
def pI:cm:=fun xs J Q _=>∃ (D:Addr) (gs:List (Str × aP)) (ep:Nat) (t:Rat) (dv:PV),xs=[.ref D,fr t,dv]∧J D=some (.dct (bJ gs) ep)∧(gs.map (·.1)).Nodup∧gs.length≤100∧Sz 900 t∧(∀ x∈gs,lF 900 x.2) ∧
 ((∃ n x v,dv=eY n x v∧n ∉ gs.map (·.1)∧∀ ep',Q (fr t) (put J D (.dct (bJ (gs ++ [(n,⟨t,(x:Rat),v⟩)])) ep'))) ∨
  (∃ n v,dv=gH n v∧n∈gs.map (·.1)∧∀ ep',Q (fr t) (put J D (.dct (bJ (nW n t v gs)) ep'))) ∨
  (dv=gj∧∀ ep',Q (fr t) (put J D (.dct (bJ (gi t gs)) ep'))) ∨
  (∃ n,dv=fI n∧n∈gs.map (·.1)∧∀ ep',Q (fr t) (put J D (.dct (bJ (jQ n gs)) ep'))) ∨
  (∃ m,dv=El m∧Q (fr m) J))
theorem Gh:(("join":Str)="go")=False:=eq_false (by decide +kernel)
theorem Gj:(("turn":Str)="go")=False:=eq_false (by decide +kernel)
theorem Gg:(("about":Str)="go")=False:=eq_false (by decide +kernel)
theorem CW {c:iy} {a u:fq} {D:En} {τ:Sr} {J:Hq} (hc:∀ R:Bool→Hq→Prop,R false J→c τ J R) (hu:u D τ J):y0 (jm c a gC) u D τ J :=
 ⟨fun τ' J'=>τ'=τ∧J'=J,hc _ (by rw [if_neg (by decide)];exact ⟨rfl,rfl⟩),fun τ' J' h=>by obtain ⟨rfl,rfl⟩:=h;exact hu⟩
theorem iZ {c:iy} {a u:fq} {D:En} {τ:Sr} {J:Hq} (M:Sr→Hq→Prop) (hc:∀ R:Bool→Hq→Prop,R true J→c τ J R) (ha:a { D with nx:=M } τ J) (hu:∀ τ' J',M τ' J'→u D τ' J'):y0 (jm c a gC) u D τ J :=
 ⟨M,hc _ (by rw [if_pos rfl];exact ha),hu⟩
theorem hZ {x y:Str} {i:Nat} {dv:PV} {τ:Sr} {J:Hq} (h:τ[i]?=some (some dv)) (h0:dJ J dv (.int 0)=some (.str x)) (R:Bool→Hq→Prop) (hr:R (decide (x=y)) J):rB (j2 (wJ id) (j2 uE (eL i) (rC (.int 0))) (rC (.str y))) τ J R :=
 ⟨dv,h,.str x,h0,⟨rfl,by simp [fz,dep]⟩,rfl,_,rfl,by rw [eq_str];exact hr⟩
theorem fu {x y:Str} {i:Nat} {dv:PV} {τ:Sr} {J:Hq} {a u:fq} {D:En} (h:τ[i]?=some (some dv)) (h0:dJ J dv (.int 0)=some (.str x)) (n:decide (x=y)=false) (hu:u D τ J):y0 (jm (rB (j2 (wJ id) (j2 uE (eL i) (rC (.int 0))) (rC (.str y)))) a gC) u D τ J:=CW (fun R hr'=>hZ h h0 R (by rw [n];exact hr')) hu
theorem xY {x:Str} {i:Nat} {dv:PV} {τ:Sr} {J:Hq} (h:τ[i]?=some (some dv)) (h0:dJ J dv (.int 0)=some (.str x)) (R:Bool→Hq→Prop) (hr:R true J):rB (j2 (wJ id) (j2 uE (eL i) (rC (.int 0))) (rC (.str x))) τ J R:=hZ h h0 R (by rw [decide_eq_true rfl];exact hr)
def dA (t:Rat) (gs:List (Str × aP)) (i:Nat):List (Str × aP):=gi t (gs.take i) ++ gs.drop i
theorem nh (t:Rat) (gs:List (Str × aP)) (i:Nat):(dA t gs i).map (·.1)=gs.map (·.1):=by
 unfold dA gi
 rw [List.map_append,List.map_map]
 have:((gs.take i).map ((fun x:Str × aP=>x.1) ∘ fun x=>(x.1,(⟨t,x.2.at t,-x.2.v⟩:aP))))=(gs.take i).map (·.1):=List.map_congr_left fun _ _=>rfl
 rw [this,← List.map_append,List.take_append_drop]
theorem pW (t:Rat) (gs:List (Str × aP)) (hnd:(gs.map (·.1)).Nodup) (i:Nat) (h:i < gs.length):(dA t gs i).map (fun x=>if x.1=gs[i].1 then (x.1,(⟨t,gs[i].2.at t,-gs[i].2.v⟩:aP)) else x)=dA t gs (i + 1):=by
 have hd:gs.drop i=gs[i] :: gs.drop (i + 1):=List.drop_eq_getElem_cons h
 have ht:gs.take (i + 1)=gs.take i ++ [gs[i]]:=by rw [List.take_add_one,List.getElem?_eq_getElem h];rfl
 have hn2:(gs.map (·.1))=(gs.take i).map (·.1) ++ (gs[i].1 :: (gs.drop (i + 1)).map (·.1)):=by
  rw [← List.map_cons (f:=fun x:Str × aP=>x.1),← hd,← List.map_append,List.take_append_drop]
 rw [hn2,List.nodup_append] at hnd
 unfold dA gi
 rw [hd,ht,List.map_append,List.map_append,List.map_cons,if_pos rfl,List.append_assoc]
 congr 1
 ·rw [List.map_map]
  refine List.map_congr_left fun x hx=>?_
  show (if x.1=gs[i].1 then _ else _)=_
  rw [if_neg (hnd.2.2 x.1 (List.mem_map.mpr ⟨x,hx,rfl⟩) gs[i].1 (by simp))]
 ·show _ :: _=_ :: _
  congr 1
  have hno:=(List.nodup_cons.mp hnd.2.1).1
  have:∀ x∈gs.drop (i + 1),(if x.1=gs[i].1 then (x.1,(⟨t,gs[i].2.at t,-gs[i].2.v⟩:aP)) else x)=x:=fun x hx=>if_neg fun z=>hno (by rw [← z];exact List.mem_map.mpr ⟨x,hx,rfl⟩)
  rw [List.map_congr_left this,List.map_id']
  rfl
theorem Gi:(("leave":Str)="go")=False:=eq_false (by decide +kernel)
theorem wq {f:Addr} {fd:FuncData} (F:bV K "_law_acted" "_law_acted" k_ f fd) (Z:bR mg) (C_at:a7 P w K mg base 2 "_law_at" ["_law_leg","_law_moment"] mn):aI P w K mg base (cS P w) 3 f fd ["_law_legs","_law_clock","_law_deed_here"] (dz K pI):=by
 simp_arith [q9]
 ·obtain ⟨D,gs,ep,t,dv,rfl,_⟩:=h;rfl
 obtain ⟨D,gs,ep,t,dv,rfl,hD,hnd,hlen,st,sl,h⟩:=h
 refine ⟨_,(fL (aU (aD (cH hr.aT) (aq au (rv 2) ag (fun _ _=>rfl)) bD (L2.ax _)) (ak (pd lA (rv 0) (aq au (rv 2) ag (fun _ _=>rfl)) (cv (af (rv 1) (af (cv (af (aq au (rv 2) ag (fun _ _=>rfl)) (af ag ah))) (af (aq au (rv 2) ag (fun _ _=>rfl)) ah)))))) aJ)
   (fL (aU (aD (cH hr.aT) (aq au (rv 2) ag (fun _ _=>rfl)) bD (L2.ax _)) (ak (bj (kB PySem.F.plainAttrs_dict PySem.F.slot_dict_pop PySem.F.type_dict_pop AG (rv 0) (af (aq au (rv 2) ag (fun _ _=>rfl)) ah)))) aJ)
   (fL (aU (aD (cH hr.aT) (aq au (rv 2) ag (fun _ _=>rfl)) bD (L2.ax _)) (ak (pd lA (rv 0) (aq au (rv 2) ag (fun _ _=>rfl)) (cv (af (rv 1) (af (aR C_at B hr (by decide) rfl (af (aq dD (rv 0) (aq au (rv 2) ag (fun _ _=>rfl)) (fun _ _=>rfl)) (af (rv 1) ah))) (af (aq au (rv 2) ag (fun _ _=>rfl)) ah)))))) aJ)
   (fL (aU (aD (cH hr.aT) (aq au (rv 2) ag (fun _ _=>rfl)) bD (L2.ax _)) (ak (fN cy rfl (g8 (j3 (p6 rfl) rfl Z.list boot_list (af (rv 0) ah))) (bZ (i:=3) q9.nd rfl (Or.inl rfl)) (ak (pd lA (rv 0) (rv 3) (cv (af (rv 1) (af (aR C_at B hr (by decide) rfl (af (aq dD (rv 0) (rv 3) (fun _ _=>rfl)) (af (rv 1) ah))) (af (qW mC (aq au (aq dD (rv 0) (rv 3) (fun _ _=>rfl)) ag (fun _ _=>rfl))) ah)))))))) aJ)
   (ai (aU (aD (cH hr.aT) (aq au (rv 2) ag (fun _ _=>rfl)) bD (L2.ax _)) (ak (aB (aq au (rv 2) ag (fun _ _=>rfl)))) aJ)
   (ak (aB (rv 1)))))))),?_⟩
 rcases h with ⟨n,x,v,rfl,hn,q⟩ | ⟨n,v,rfl,hn,q⟩ | ⟨rfl,q⟩ | ⟨n,rfl,hn,q⟩ | ⟨m,rfl,q⟩
 ·have i0:∀ J,dJ J (eY n x v) (.int 0)=some (.str "join"):=fun J=>cO _ _
  have i1:∀ J,dJ J (eY n x v) (.int 1)=some (.str n):=fun J=>d5 _ _ _
  have i2:∀ J,dJ J (eY n x v) (.int 2)=some (.int x):=fun J=>ij _ _ _ _
  have i3:∀ J,dJ J (eY n x v) (.int 3)=some (.int v):=fun J=>rfl
  refine iZ (fun τ' J'=>∃ ep',τ'=[some (.ref D),some (fr t),some (eY n x v),none]∧J'=put J D (.dct (bJ (gs ++ [(n,⟨t,(x:Rat),v⟩)])) ep')) (xY rfl (i0 _)) ?_ ?_
  ·simp_all! only [i1,i2,i3,hD,C4,rH]
   refine ⟨aX (by unfold bJ;rw [List.length_map];omega),fun ep'=>⟨ep',?_⟩⟩
   have epu:oY (bJ gs) n (aP.mk t (x:Rat) v).V=bJ (gs ++ [(n,⟨t,(x:Rat),v⟩)]):=sW (f:=aP.V) (l:=⟨t,(x:Rat),v⟩) hn
   rw [epu]
  rintro τ' J' ⟨ep',rfl,rfl⟩
  refine fu rfl (i0 _) (by decide +kernel) ?_
  refine fu rfl (i0 _) (by decide +kernel) ?_
  refine fu rfl (i0 _) (by decide +kernel) ?_
  simp_all! only [i0,Gh,if_false]
  exact q ep'
 ·have i0:∀ J,dJ J (gH n v) (.int 0)=some (.str "turn"):=fun J=>cO _ _
  have i1:∀ J,dJ J (gH n v) (.int 1)=some (.str n):=fun J=>d5 _ _ _
  have i2:∀ J,dJ J (gH n v) (.int 2)=some (.int v):=fun J=>ij _ _ _ _
  refine fu rfl (i0 _) (by decide +kernel) ?_
  refine fu rfl (i0 _) (by decide +kernel) ?_
  refine iZ (fun τ' J'=>∃ ep',τ'=[some (.ref D),some (fr t),some (gH n v),none]∧J'=put J D (.dct (bJ (nW n t v gs)) ep')) (xY rfl (i0 _)) ?_ ?_
  ·obtain ⟨l,hl,hvl⟩:=pP (f:=aP.V) hnd hn
   have hvl:iR (bJ gs) n=some l.V:=hvl
   have sll:=sl _ hl
   simp_all! only [i1,i2,hD,hvl]
   refine ⟨l,t,rfl,sll.m,sll.p,st,sll.v,?_⟩
   simp_all! only [i1,i2,hD,rH]
   refine ⟨aX (by unfold bJ;rw [List.length_map];omega),fun ep'=>⟨ep',?_⟩⟩
   rw [yT hn]
   have:(gs.map fun x=>if x.1=n then (x.1,(⟨t,l.at t,v⟩:aP)) else x)=nW n t v gs:=List.map_congr_left fun x hx=>by
    by_cases z:x.1=n
    ·have hx':iR (bJ gs) n=some x.2.V:=gJ (f:=aP.V) hnd (by rw [← z];exact hx)
     rw [hvl] at hx'
     have ex:l=x.2:=by have:=Option.some.inj hx';rw [ED] at this;exact this
     rw [if_pos z,if_pos z,ex]
    ·rw [if_neg z,if_neg z]
   rw [this]
  rintro τ' J' ⟨ep',rfl,rfl⟩
  refine fu rfl (i0 _) (by decide +kernel) ?_
  simp_all! only [i0,Gj,if_false]
  exact q ep'
 ·have i0:∀ J,dJ J gj (.int 0)=some (.str "about"):=fun J=>cO _ _
  refine fu rfl (i0 _) (by decide +kernel) ?_
  refine fu rfl (i0 _) (by decide +kernel) ?_
  refine fu rfl (i0 _) (by decide +kernel) ?_
  refine iZ (fun τ' J'=>∃ u ep',τ'=[some (.ref D),some (fr t),some gj,u]∧J'=put J D (.dct (bJ (gi t gs)) ep')) (xY rfl (i0 _)) ?_ ?_
  ·simp_all! only [hD]
   have hkv:(bJ gs).map (fun kv=>PV.str kv.1)=gs.map fun x=>PV.str x.1:=by unfold bJ;rw [List.map_map];rfl
   rw [hkv]
   obtain ⟨Inv,hInv⟩:∃ Inv:Nat→Sr→Hq→Prop,∀ i τ J',Inv i τ J'↔∃ (u:Option PV) (ep':Nat),τ=[some (.ref D),some (fr t),some gj,u]∧J'=put J D (.dct (bJ (dA t gs i)) ep'):=⟨_,fun _ _ _=>Iff.rfl⟩
   refine iE Inv ((hInv _ _ _).mpr ⟨_,ep,rfl,by show J=put J D (.dct (bJ gs) ep);rw [sY hD]⟩) (fun _ _ _ _=>trivial) ?_ ?_
   ·intro i x τ J' hx hv
    obtain ⟨u,ep',rfl,rfl⟩:=(hInv _ _ _).mp hv
    clear hv
    have hi:i < gs.length:=by have:=(List.getElem?_eq_some_iff.mp hx).1;simpa using this
    rw [List.getElem?_map,List.getElem?_eq_getElem hi] at hx
    cases hx
    have hnd':((dA t gs i).map (·.1)).Nodup:=by rw [nh];exact hnd
    have hmem:gs[i]∈dA t gs i:=by unfold dA;rw [List.drop_eq_getElem_cons hi];exact List.mem_append.mpr (.inr List.mem_cons_self)
    have hva:iR (bJ (dA t gs i)) gs[i].1=some gs[i].2.V:=gJ (f:=aP.V) hnd' hmem
    have hstep:=pW t gs hnd i hi
    have hin:gs[i].1∈(dA t gs i).map (·.1):=List.mem_map.mpr ⟨_,hmem,rfl⟩
    have hlen':(dA t gs i).length=gs.length:=by have:=congrArg List.length (nh t gs i);rw [List.length_map,List.length_map] at this;exact this
    have sll:=sl _ (List.getElem_mem hi)
    generalize gs[i]=y at hva hstep hin sll ⊢
    simp_all! only [av,hva]
    refine ⟨y.2,t,rfl,sll.m,sll.p,st,sll.v,?_⟩
    simp_all! only [av,hva,kr,rH]
    refine ⟨aX (by unfold bJ;rw [List.length_map];omega),fun ep2=>(hInv _ _ _).mpr ⟨_,ep2,rfl,?_⟩⟩
    rw [dM,yT hin,hstep]
   ·intro τ J' hv
    obtain ⟨u,ep',rfl,rfl⟩:=(hInv _ _ _).mp hv
    refine ⟨u,rfl,ep',?_⟩
    rw [List.length_map]
    unfold dA
    rw [List.take_length,List.drop_length,List.append_nil]
  rintro τ' J' ⟨u,ep',rfl,rfl⟩
  simp_all! only [i0,Gg,if_false]
  exact q ep'
 ·have i0:∀ J,dJ J (fI n) (.int 0)=some (.str "leave"):=fun J=>cO _ _
  have i1:∀ J,dJ J (fI n) (.int 1)=some (.str n):=fun J=>d5 _ _ _
  refine fu rfl (i0 _) (by decide +kernel) ?_
  refine iZ (fun τ' J'=>∃ ep',τ'=[some (.ref D),some (fr t),some (fI n),none]∧J'=put J D (.dct (bJ (jQ n gs)) ep')) (xY rfl (i0 _)) ?_ ?_
  ·obtain ⟨l,hl,hvl⟩:=pP (f:=aP.V) hnd hn
   have hvl:iR (bJ gs) n=some l.V:=hvl
   simp_all! only [i1,hD,hvl]
   have edr:xB (bJ gs) n=bJ (jQ n gs):=by unfold xB bJ jQ;rw [List.filter_map];rfl
   intro ep'
   exact ⟨ep',by rw [edr]⟩
  rintro τ' J' ⟨ep',rfl,rfl⟩
  refine fu rfl (i0 _) (by decide +kernel) ?_
  refine fu rfl (i0 _) (by decide +kernel) ?_
  simp_all! only [i0,Gi,if_false]
  exact q ep'
 ·have i0:∀ J,dJ J (El m) (.int 0)=some (.str "go"):=fun J=>cO _ _
  have i1:∀ J,dJ J (El m) (.int 1)=some (fr m):=fun J=>d5 _ _ _
  refine fu rfl (i0 _) (by decide +kernel) ?_
  refine fu rfl (i0 _) (by decide +kernel) ?_
  refine fu rfl (i0 _) (by decide +kernel) ?_
  refine fu rfl (i0 _) (by decide +kernel) ?_
  simp_all! only [i0,i1,if_true]
  exact q
abbrev md:Stmt:=(top 55)
theorem ly:L2.aw ["_law_row","_law_mode","_law_names_here","_law_used","_law_legs","_law_clock","_law_there","_law_fresh","_law_name"] ["_law_row","_law_mode","_law_names_here","_law_used","_law_legs","_law_clock"] (L2.aj md):=dT
def xb (names used:List Str) (gs:List (Str × aP)) (t:Rat) (dv:PV):Prop :=
 (∃ n x v,dv=eY n x v∧n∈names∧n ∉ used∧gs.length < 12∧x.natAbs≤1000000∧v.natAbs≤1000) ∨
 (∃ n v,dv=gH n v∧n∈gs.map (·.1)∧v.natAbs≤1000)∨dv=gj∨(∃ n,dv=fI n∧n∈gs.map (·.1))∨∃ m,dv=El m∧Later t m
def zl:cm:=fun xs J Q _=>∃ (r0 r1 r2 r3 r4 r5 m:Int) (names used:List Str) (U D:Addr) (gs:List (Str × aP)) (ep:Nat) (t:Rat),xs=[.fl [.int r0,.int r1,.int r2,.int r3,.int r4,.int r5],.int m,.fl (names.map .str),.ref U,.ref D,fr t]∧J U=some (.lst (used.map .str))∧J D=some (.dct (bJ gs) ep)∧names.length≤40∧gs.length≤100 ∧
 0≤r1∧0≤r2∧0≤r3∧r3 < 2001∧0≤r4∧r4 < 2 ^ 60∧0≤r5∧0≤m∧m < 4∧Sz 900 t∧∀ dv,xb names used gs t dv→Q dv J
theorem og {c:iy} {a u:fq} {D:En} {τ:Sr} {J:Hq} (b:Prop) [Decidable b] (hc:∀ R:Bool→Hq→Prop,R (decide b) J→c τ J R) (h1:b→∀ N,a { D with nx:=N } τ J) (h2:¬ b→u D τ J):bK (jm c a gC) u D τ J:=by
 refine hc _ ?_
 by_cases h:b
 ·rw [decide_eq_true h,if_pos rfl];exact h1 h _
 ·rw [decide_eq_false h,if_neg (by decide)];exact h2 h
theorem Bq {R:Bool→Hq→Prop} {b c:Bool} {J:Hq} (h:R b J) (e:b=true↔c=true):R c J:=by rw [← Bool.eq_iff_iff.mpr e];exact h
theorem oU {xs:List Str} {r:Int} (h0:0≤r) (hl:0 < xs.length):∃ n∈xs,cI (xs.map PV.str) (r % (xs.length:Int))=some (.str n):=by
 obtain ⟨j,hj⟩:∃ j:Nat,r % (xs.length:Int)=j:=⟨(r % (xs.length:Int)).toNat,by have:=Int.emod_nonneg r (b:=(xs.length:Int)) (by omega);omega⟩
 have hjl:j < xs.length:=by have:=Int.emod_lt_of_pos r (b:=(xs.length:Int)) (by omega);omega
 exact ⟨xs[j],List.getElem_mem hjl,by rw [hj];exact a8 (by rw [List.getElem?_map,List.getElem?_eq_getElem hjl];rfl)⟩
theorem yv {f:Addr} {fd:FuncData} (F:bV K "_law_deed" "_law_deed" md f fd) (Z:bR mg) (C_placed:a7 P w K mg base 1 "_law_placed" ["_law_number","_law_mode"] nS) (C_paced:a7 P w K mg base 1 "_law_paced" ["_law_number","_law_mode"] rE) (C_later:a7 P w K mg base 2 "_law_later" ["_law_clock","_law_number","_law_bottom","_law_mode"] uX):aI P w K mg base (cS P w) 3 f fd ["_law_row","_law_mode","_law_names_here","_law_used","_law_legs","_law_clock"] (dz K zl):=by
 simp_arith [ly]
 ·obtain ⟨r0,r1,r2,r3,r4,r5,m,names,used,U,D,gs,ep,t,rfl,_⟩:=h;rfl
 obtain ⟨r0,r1,r2,r3,r4,r5,m,names,used,U,D,gs,ep,t,rfl,hU,hD,hnl,hgl,r10,r20,r30,r31,r40,r41,r50,m0,m1,st,q⟩:=h
 have hkv:(bJ gs).map (fun kv=>PV.str kv.1)=(gs.map (·.1)).map PV.str:=by unfold bJ;rw [List.map_map,List.map_map];rfl
 refine ⟨_,(ai (aK (i:=6) ly.nd rfl (Or.inl rfl) (j3 (p6 rfl) rfl Z.list boot_list (af (rv 4) ah)))
   (ai (DY (i:=7) (L2.aj md) ["_law_row","_law_mode","_law_names_here","_law_used","_law_legs","_law_clock","_law_there","_law_fresh","_law_name"] [("_law_used",3)] rfl rfl rfl ly.nd rfl (Or.inl rfl) (g8 (rv 2)) (fun _ _ _ _ _ _=>(rv 0)) (fun _ _ _ _ _ _=>(aD uv (rv 0) (rv 1) (by with_unfolding_all rfl))))
   (ai (aU (dm (d3 (aD ik (aM bQ rfl Z.len boot_len (af (rv 7) ah)) ag (L2.ax _)) (d3 (aD fv (aM bQ rfl Z.len boot_len (af (rv 6) ah)) ag (L2.ax _)) (dk (dm (kC (aD fv (aq au (rv 0) ag (fun _ _=>rfl)) ag (L2.ax _)) (gF (dm (d3 (aD fv (aM bQ rfl Z.len boot_len (af (rv 6) ah)) ag (L2.ax _)) (dk (aD fv (aq au (rv 0) ag (fun _ _=>rfl)) ag (L2.ax _)))))))))))) (ai (aK (i:=8) ly.nd rfl (Or.inl rfl) (aq au (rv 7) (aH dF (aq au (rv 0) ag (fun _ _=>rfl)) (aM bQ rfl Z.len boot_len (af (rv 7) ah))) (fun _ _=>rfl)))
   (ak (aB (cv (af bD (af (rv 8) (af (aR C_placed B hr (by decide) rfl (af (aq au (rv 0) ag (fun _ _=>rfl)) (af (rv 1) ah))) (af (aR C_paced B hr (by decide) rfl (af (aq au (rv 0) ag (fun _ _=>rfl)) (af (rv 1) ah))) ah)))))))) aJ)
   (ai (aU (dm (d3 (aD DE (aq au (rv 0) ag (fun _ _=>rfl)) (cv (af ag (af ag ah))) (by with_unfolding_all rfl)) (dk (aD ik (aM bQ rfl Z.len boot_len (af (rv 6) ah)) ag (L2.ax _))))) (ak (aB (cv (af bD (af (aq au (rv 6) (aH dF (aq au (rv 0) ag (fun _ _=>rfl)) (aM bQ rfl Z.len boot_len (af (rv 6) ah))) (fun _ _=>rfl)) (af (aR C_paced B hr (by decide) rfl (af (aq au (rv 0) ag (fun _ _=>rfl)) (af (rv 1) ah))) ah)))))) aJ)
   (ai (aU (dm (d3 (aD (cH hr.aT) (aq au (rv 0) ag (fun _ _=>rfl)) ag (L2.ax _)) (dk (aD ik (aM bQ rfl Z.len boot_len (af (rv 6) ah)) ag (L2.ax _))))) (ak (aB (cv (af bD (af (aq au (rv 6) (aH dF (aq au (rv 0) ag (fun _ _=>rfl)) (aM bQ rfl Z.len boot_len (af (rv 6) ah))) (fun _ _=>rfl)) ah))))) aJ)
   (ai (aU (aD (cH hr.aT) (aq au (rv 0) ag (fun _ _=>rfl)) ag (L2.ax _)) (ak (aB (cv (af bD ah)))) aJ)
   (ak (aB (cv (af bD (af (aR C_later B hr (by decide) rfl (af (rv 5) (af (aq au (rv 0) ag (fun _ _=>rfl)) (af (aq au (rv 0) ag (fun _ _=>rfl)) (af (rv 1) ah))))) ah))))))))))),?_⟩
 simp_all! only [hD,hkv,DR]
 obtain ⟨pn,hpn⟩:∃ pn:Str→Bool,∀ x,pn x=!decide (x∈used):=⟨_,fun _=>rfl⟩
 refine ⟨fun x=>match x with | .str s=>pn s | _=>false,id,⟨by rw [List.length_map];exact Nat.lt_of_le_of_lt hnl (by decide),fun J' sub=>⟨trivial,fun x hx=>?_⟩⟩,?_⟩
 ·obtain ⟨s,hs,rfl⟩:=List.mem_map.mp hx
  have hU':=sub _ _ hU
  simp_all! only [kM]
  refine ⟨⟨s,used,rfl,by show (match J' U with | some (.lst xs)=>some xs | _=>none)=_;rw [hU'],⟨_,rfl,(hpn s).symm,rfl⟩⟩,fun _=>trivial⟩
 have ef:((names.map PV.str).filter fun x=>match x with | .str s=>pn s | _=>false).map id=(names.filter pn).map PV.str:=by rw [List.map_id,List.filter_map];rfl
 rw [ef]
 have hfr:∀ n∈names.filter pn,n∈names∧n ∉ used:=fun n hn=>by
  obtain ⟨h1,h2⟩:=List.mem_filter.mp hn
  rw [hpn] at h2
  exact ⟨h1,by simpa using h2⟩
 generalize names.filter pn=fresh at hfr ⊢
 have gl:(gs.map (·.1)).length=gs.length:=List.length_map _
 generalize hgn:gs.map (·.1)=gn at gl q ⊢
 refine og (0 < fresh.length∧gs.length < 12∧(r0 < 3∨gs.length < 2∧r0 < 8)) (fun R hR=>?_) (fun hb N=>?_) (fun hb=>?_)
 ·simp_all! only [List.length_map]
  (repeat' split) <;> exact Bq hR (by simp only [decide_eq_true_eq,Bool.false_eq_true,eq_self,iff_true,iff_false];omega)
 ·obtain ⟨n,hn,ha⟩:=oU r10 hb.1
  simp_all! only [List.length_map,ha]
  refine ⟨by omega,r2,m,rfl,r20,fun x hx=>⟨r3,m,rfl,r30,r31,fun v hv=>?_⟩⟩
  exact q _ (.inl ⟨n,x,v,rfl,(hfr n hn).1,(hfr n hn).2,hb.2.1,hx,hv⟩)
 refine og ((r0=3∨r0=4)∧0 < gs.length) (fun R hR=>?_) (fun hb N=>?_) (fun hb=>?_)
 ·simp_all! only [List.length_map]
  refine ⟨r0,[3,4],rfl,rfl,_,rfl,?_⟩
  (repeat' split) <;> exact Bq hR (by simp only [decide_eq_true_eq,Bool.false_eq_true,id_eq,List.mem_cons,List.not_mem_nil,or_false,eq_self,iff_true,iff_false] at *;omega)
 ·obtain ⟨n,hn,ha⟩:=oU (xs:=gn) r10 (by omega)
  simp_all! only [List.length_map,ha]
  refine ⟨by omega,r3,m,rfl,r30,r31,fun v hv=>?_⟩
  exact q _ (.inr (.inl ⟨n,v,rfl,by rw [hgn];exact hn,hv⟩))
 refine og (r0=5∧2 < gs.length) (fun R hR=>?_) (fun hb N=>?_) (fun hb=>?_)
 ·simp_all! only [List.length_map]
  (repeat' split) <;> exact Bq hR (by simp only [decide_eq_true_eq,Bool.false_eq_true,eq_self,iff_true,iff_false];omega)
 ·obtain ⟨n,hn,ha⟩:=oU (xs:=gn) r10 (by omega)
  simp_all! only [List.length_map,ha]
  exact ⟨by omega,q _ (.inr (.inr (.inr (.inl ⟨n,rfl,by rw [hgn];exact hn⟩))))⟩
 refine og (r0=6) (fun R hR=>?_) (fun hb N=>?_) (fun hb=>?_)
 ·simp_all! only []
  exact Bq hR (by simp only [decide_eq_true_eq,Bool.false_eq_true])
 ·simp_all! only []
  exact q _ (.inr (.inr (.inl rfl)))
 simp_all! only []
 exact ⟨t,r4,r5,m,rfl,r40,r50,m0,m1,r41,st,fun m' hm'=>q _ (.inr (.inr (.inr (.inr ⟨m',rfl,hm'⟩))))⟩
theorem wB (t m:Rat) (ks:List Ky) (h:(ks.map Ky.n).Nodup) (hl:ks.length≤12):(fw t ks m).length≤900:=by
 rw [← pX h]
 have h1:=vL t (bh t m) (ks.flatMap fun a=>ks.map fun b=>(a,b))
 have h2:(ks.flatMap fun a=>ks.map fun b=>(a,b)).length=ks.length * ks.length:=by
  rw [List.length_flatMap]
  have:(ks.map fun a=>(ks.map fun b=>(a,b)).length)=List.replicate ks.length ks.length:=by
   rw [List.eq_replicate_iff]
   refine ⟨by rw [List.length_map],fun b hb=>?_⟩
   obtain ⟨_,_,rfl⟩:=List.mem_map.mp hb
   rw [List.length_map]
  rw [this,List.sum_replicate_nat]
 have h3:ks.length * ks.length≤12 * 12:=Nat.mul_le_mul hl hl
 omega
theorem xO {m:Rat} (h0:0≤m) (hd:m.den≤60) (h1:m.num≤1000000 * (m.den:Int)):f6 m.num m.den=true:=by
 refine decide_eq_true ⟨by omega,by have:=m.den_pos;omega,?_,Rat.num_nonneg.mpr h0,h1⟩
 have:=m.reduced
 unfold Int.gcd
 exact this
theorem vT {c q:Rat} (h:Later c q) (hc:c.den≤60):q.den≤60:=by
 rcases h with rfl | ⟨u,s,u0,u1,s0,s1,rfl⟩
 ·exact hc
 ·have:=oa (t:=(c.num * (u:Int)).fdiv (c.den:Int) + (s:Int)) (b:=(u:Int)) (by omega)
  omega
theorem Di {q:Rat}:q.num≤1000000 * (q.den:Int)↔q≤1000000:=by
 rw [Rat.le_iff]
 have h3:(1000000:Rat).num=1000000:=rfl
 have h4:((1000000:Rat).den:Int)=1:=rfl
 rw [h3,h4]
 omega
structure Wk (cN cL:Addr) (J0:Hq) (S0:Addr→Prop) (J:Hq) (p:Addr) (L:Ln) (D U:Addr) (gs:List (Str × aP)) (ep:Nat) (used:List Str) (k:Nat):Prop where
 b:aV cN cL J p L
 ok:bU L
 rl:Rl L gs
 hD:J D=some (.dct (bJ gs) ep)
 hU:J U=some (.lst (used.map .str))
 nD:¬ L.own p D
 nU:¬ L.own p U
 mv:Mv J0 J S0 (fun a=>L.own p a∨a=D∨a=U)
 td:L.t.den≤60
 tl:L.t≤((500 * k:Nat):Rat)
 wl:∀ c∈L.cs,c.w.length≤1 + k
theorem Rl.go {L:Ln} {gs:List (Str × aP)} (h:Rl L gs) {m:Rat} (hm:L.t≤m) {o:Addr} {row:List Str}:Rl { L with t:=m,o:=o,row:=row } gs:=⟨h.nm,h.ln,h.ck,fun x hx=>Rat.le_trans (h.le x hx) hm,h.ct⟩
theorem x_ {c q:Rat} (h:Later c q) (c0:0≤c):q≤c + 500:=by
 rcases h with rfl | ⟨u,s,u0,u1,s0,s1,rfl⟩
 ·grind
 rw [Rat.divInt_eq_div]
 have hu:(0:Rat) < ((u:Int):Rat):=by exact_mod_cast (show (0:Int) < u by omega)
 have h1:((s:Int):Rat)≤500 * ((u:Int):Rat):=by exact_mod_cast (show (s:Int)≤500 * u by omega)
 have hd:(0:Rat) < ((c.den:Int):Rat):=by exact_mod_cast (show (0:Int) < c.den by have:=c.den_pos;omega)
 have h2:((((c.num * (u:Int)).fdiv (c.den:Int)):Int):Rat)≤c * ((u:Int):Rat):=by
  have e1:(c.num * (u:Int)).fdiv (c.den:Int) * (c.den:Int)≤c.num * u:=by
   rw [Int.fdiv_eq_ediv_of_nonneg _ (by omega)]
   exact Int.ediv_mul_le _ (by have:=c.den_pos;omega)
  have e2:((((c.num * (u:Int)).fdiv (c.den:Int)):Int):Rat) * ((c.den:Int):Rat)≤(c.num:Rat) * ((u:Int):Rat):=by
   rw [← Rat.intCast_mul,← Rat.intCast_mul];exact Rat.intCast_le_intCast.mpr e1
  have e3:(c.num:Rat)=c * ((c.den:Int):Rat):=cast_eq c
  rw [e3] at e2
  generalize ((((c.num * (u:Int)).fdiv (c.den:Int)):Int):Rat)=x at e2 ⊢
  generalize ((c.den:Int):Rat)=y at e2 hd
  generalize ((u:Int):Rat)=z at e2 ⊢
  by_cases k:c * z < x
  ·have:0 < (x - c * z) * y:=Rat.mul_pos (by grind) hd
   grind
  ·grind
 rw [Rat.intCast_add]
 generalize ((((c.num * (u:Int)).fdiv (c.den:Int)):Int):Rat)=a at h2 ⊢
 generalize ((s:Int):Rat)=x at h1 ⊢
 generalize ((u:Int):Rat)=y at h1 h2 hu ⊢
 have e:(a + x) / y * y=a + x:=by grind
 generalize (a + x) / y=z at e ⊢
 by_cases k:c + 500 < z
 ·have:0 < (z - (c + 500)) * y:=Rat.mul_pos (by grind) hu
  grind
 ·grind
section
variable {cN cL:Addr} {J0 J:Hq} {S0:Addr→Prop} {p:Addr} {L:Ln} {D U:Addr} {gs:List (Str × aP)} {ep:Nat} {used:List Str} {k:Nat}
theorem Wk.ne (h:Wk cN cL J0 S0 J p L D U gs ep used k):U≠D:=fun e=>by have:=h.hU;rw [e,h.hD] at this;cases this
theorem Wk.kept (h:Wk cN cL J0 S0 J p L D U gs ep used k) {T:Addr} {o:HQ} (hT:J0 T=some o) (nT:¬ S0 T):J T=some o:=h.mv.keep _ _ hT nT
theorem Wk.next (h:Wk cN cL J0 S0 J p L D U gs ep used k) {J1:Hq} {L1:Ln} {gs1:List (Str × aP)} {k1:Nat} (b1:aV cN cL J1 p L1) (ok1:bU L1) (mv:Mv J J1 (L.own p) (L1.own p)) (rl1:Rl L1 gs1) (td:L1.t.den≤60) (tl:L1.t≤((500 * k1:Nat):Rat)) (wl:∀ c∈L1.cs,c.w.length≤1 + k1) (ep':Nat):Wk cN cL J0 S0 (put J1 D (.dct (bJ gs1) ep')) p L1 D U gs1 ep' used k1:=by
 have new:∀ {x o},J x=some o→¬ L.own p x→¬ L1.own p x:=fun hx nx z=>by
  rcases mv.own _ z with q | q
  ·exact nx q
  ·rw [hx] at q;cases q
 have nD1:=new h.hD h.nD
 have hD1:=mv.keep _ _ h.hD h.nD
 have hU1:=mv.keep _ _ h.hU h.nU
 have mv1:Mv J J1 (fun a=>L.own p a∨a=D∨a=U) (fun a=>L1.own p a∨a=D∨a=U) :=
  ⟨fun a o e n=>mv.keep a o e fun z=>n (.inl z),fun a z=>z.elim (fun z=>(mv.own a z).imp .inl id) (fun z=>.inl (.inr z)),mv.mono⟩
 refine ⟨b1.keep fun a u ow e=>?_,ok1,rl1,av,?_,nD1,new h.hU h.nU,(h.mv.trans mv1).trans (eG (.inr (.inl rfl)) fun a z=>.inl z),td,tl,wl⟩
 ·rw [ar (fun z=>by subst z;exact nD1 ow)];exact e
 ·rw [ar h.ne];exact hU1
theorem Wk.push (h:Wk cN cL J0 S0 J p L D U gs ep used k) (n:Str):Wk cN cL J0 S0 (put J U (.lst ((used ++ [n]).map .str))) p L D U gs ep (used ++ [n]) k:=by
 refine ⟨h.b.keep fun a u ow e=>?_,h.ok,h.rl,?_,av,h.nD,h.nU,h.mv.trans (eG (.inr (.inr rfl)) fun a z=>.inl z),h.td,h.tl,h.wl⟩
 ·rw [ar (fun z=>by subst z;exact h.nU ow)];exact e
 ·rw [ar (fun e=>h.ne e.symm)];exact h.hD
theorem Wk.up (h:Wk cN cL J0 S0 J p L D U gs ep used k):Sz 900 L.t∧(gs.map (·.1)).Nodup∧gs.length≤12∧∀ x∈gs,lF 900 x.2 :=
 ⟨h.ok.CC,h.rl.nd h.ok.toaQ,by rw [h.rl.len];exact h.ok.C2,fun x hx=>(h.rl.sz x hx).mono (by decide)⟩
end
theorem sF {q:Rat} {k:Nat} (hk:k≤2000) (h:q≤((500 * k:Nat):Rat)):q≤1000000:=by
 refine Rat.le_trans h ?_
 have:((500 * k:Nat):Rat)≤((1000000:Nat):Rat):=by exact_mod_cast (show 500 * k≤1000000 by omega)
 exact this
theorem vg {a b:Rat} {k:Nat} (h:b≤a + 500) (ha:a≤((500 * k:Nat):Rat)):b≤((500 * (k + 1):Nat):Rat):=by
 have e:((500 * (k + 1):Nat):Rat)=((500 * k:Nat):Rat) + 500:=by
  rw [show 500 * (k + 1)=500 * k + 500 by omega];exact Rat.natCast_add _ _
 rw [e];grind
theorem BJ {a:Rat} {k:Nat} (ha:a≤((500 * k:Nat):Rat)):a≤((500 * (k + 1):Nat):Rat):=vg (a:=a) (by grind) ha
abbrev ph:Stmt:=(top 60)
theorem BA:L2.aw ["_law_lane","_law_deed_here"] ["_law_lane","_law_deed_here"] (L2.aj ph):=dT
theorem nC {x y:Str} {i:Nat} {dv:PV} {τ:Sr} {J:Hq} {a u:fq} {D:En} (h:τ[i]?=some (some dv)) (h0:dJ J dv (.int 0)=some (.str x)) (n:decide (x=y)=false) (hu:u D τ J):bK (jm (rB (j2 (wJ id) (j2 uE (eL i) (rC (.int 0))) (rC (.str y)))) a gC) u D τ J :=
 hZ h h0 _ (by rw [n,if_neg (by decide)];exact hu)
theorem sf {y:Str} {i:Nat} {dv:PV} {τ:Sr} {J:Hq} {a u:fq} {D:En} (h:τ[i]?=some (some dv)) (h0:dJ J dv (.int 0)=some (.str y)) (ha:∀ N,a { D with nx:=N } τ J):bK (jm (rB (j2 (wJ id) (j2 uE (eL i) (rC (.int 0))) (rC (.str y)))) a gC) u D τ J :=
 hZ h h0 _ (by rw [decide_eq_true rfl,if_pos rfl];exact ha _)
def tF (cN cL T:Addr):cm:=fun xs J Q _=>∃ p L dv,xs=[.ref p,dv]∧aV cN cL J p L∧bU L ∧
 ((∃ n x v,dv=eY n x v∧J T=some .tab∧good n=true∧Em x v∧n ∉ L.cs.map Cf.n∧L.row.length < 12∧L.cs.length < 100∧n.length≤sizeLine∧∀ J' L',aV cN cL J' p L'→bU L'→L.joined n x v L'→Mv J J' (L.own p) (L'.own p)→Q (.bl true) J') ∨
  (∃ n v,dv=gH n v∧n∈L.row∧v.natAbs≤1000∧(∀ c∈L.cs,c.w.length < 200)∧∀ J' L',aV cN cL J' p L'→bU L'→L'.cs=L.cs.map (cj n L.t v)→L'.t=L.t→Mv J J' (L.own p) (L'.own p)→Q (.bl true) J') ∨
  (dv=gj∧(∀ c∈L.cs,c.w.length < 200)∧∀ J' L',aV cN cL J' p L'→bU L'→L'.cs=L.cs.map (cY L.t)→L'.t=L.t→Mv J J' (L.own p) (L'.own p)→Q (.bl true) J') ∨
  (∃ n,dv=fI n∧n∈L.row∧∀ J' L',aV cN cL J' p L'→bU L'→L'.cs=L.cs.map (bc n L.t)→L'.t=L.t→Mv J J' (L.own p) (L'.own p)→Q (.bl true) J'))
theorem yw {cN cL T eB eF eT eU eC f:Addr} {fd:FuncData} (F:bV K "_law_none" "_law_none" ph f fd) (Z:bR mg) (m_Lane_join:cX P w K mg base cN 8 "join" ["self","name","place","pace"] (vb cN cL T eB eF eT eU)) (m_Lane_leave:cX P w K mg base cN 2 "leave" ["self","name"] (rq cN cL eC)) (m_Lane_turn:cX P w K mg base cN 8 "turn" ["self","name","pace"] (vc cN cL eC eF)) (m_Lane_about:cX P w K mg base cN 8 "about" ["self"] (rp cN cL)):aI P w K mg base (cS P w) 9 f fd ["_law_lane","_law_deed_here"] (dz K (tF cN cL T)):=by
 simp_arith [BA]
 ·obtain ⟨p,L,dv,rfl,_⟩:=h;rfl
 obtain ⟨p,L,dv,rfl,b,ok,h⟩:=h
 have bo:=b.ob
 refine ⟨_,(ai (aU (aD (cH hr.aT) (aq au (rv 1) ag (fun _ _=>rfl)) bD (L2.ax _)) (ak (aB (cK qG (bx (pl:=_) m_Lane_join B hr (by decide) (rv 0) (af (aq au (rv 1) ag (fun _ _=>rfl)) (af (aq au (rv 1) ag (fun _ _=>rfl)) (af (aq au (rv 1) ag (fun _ _=>rfl)) ah)))) fi (L2.ax _)))) aJ)
   (ai (aU (aD (cH hr.aT) (aq au (rv 1) ag (fun _ _=>rfl)) bD (L2.ax _)) (ak (aB (cK qG (bx (pl:=_) m_Lane_leave B hr (by decide) (rv 0) (af (aq au (rv 1) ag (fun _ _=>rfl)) ah)) fi (L2.ax _)))) aJ)
   (ai (aU (aD (cH hr.aT) (aq au (rv 1) ag (fun _ _=>rfl)) bD (L2.ax _)) (ak (aB (cK qG (bx (pl:=_) m_Lane_turn B hr (by decide) (rv 0) (af (aq au (rv 1) ag (fun _ _=>rfl)) (af (aq au (rv 1) ag (fun _ _=>rfl)) ah))) fi (L2.ax _)))) aJ)
   (ak (aB (cK qG (fA (pl:=_) m_Lane_about B hr (by decide) (rv 0)) fi (L2.ax _))))))),?_⟩
 rcases h with ⟨n,x,v,rfl,hT,hg,hb,hn,hr12,hc,hl,q⟩ | ⟨n,v,rfl,hn,hv,hw,q⟩ | ⟨rfl,hw,q⟩ | ⟨n,rfl,hn,q⟩
 ·have i0:∀ J,dJ J (eY n x v) (.int 0)=some (.str "join"):=fun J=>cO _ _
  have i1:∀ J,dJ J (eY n x v) (.int 1)=some (.str n):=fun J=>d5 _ _ _
  have i2:∀ J,dJ J (eY n x v) (.int 2)=some (.int x):=fun J=>ij _ _ _ _
  have i3:∀ J,dJ J (eY n x v) (.int 3)=some (.int v):=fun J=>rfl
  refine sf rfl (i0 _) fun N=>?_
  simp_all! only [bo,i1,i2,i3]
  exact ⟨f' _ _ _ _,p,L,n,x,v,rfl,b,ok,hT,hl,hc,(fun z=>by rw [hg] at z;cases z),(fun _ z=>absurd hb z),(fun _ _ z=>absurd z hn),(fun _ _ _ z=>by omega),fun _ _ _ _ J1 L1 b1 ok1 jn mv=>q J1 L1 b1 ok1 jn mv⟩
 ·have i0:∀ J,dJ J (gH n v) (.int 0)=some (.str "turn"):=fun J=>cO _ _
  have i1:∀ J,dJ J (gH n v) (.int 1)=some (.str n):=fun J=>d5 _ _ _
  have i2:∀ J,dJ J (gH n v) (.int 2)=some (.int v):=fun J=>ij _ _ _ _
  refine nC rfl (i0 _) (by decide +kernel) ?_
  refine nC rfl (i0 _) (by decide +kernel) ?_
  refine sf rfl (i0 _) fun N=>?_
  simp_all! only [bo,i1,i2]
  exact ⟨f' _ _ _ _,p,L,n,v,rfl,b,ok,hw,fun z=>absurd hn z,fun _ z=>absurd hv z,fun _ _ J1 L1 b1 ok1 e t1 mv=>q J1 L1 b1 ok1 e t1 mv⟩
 ·have i0:∀ J,dJ J gj (.int 0)=some (.str "about"):=fun J=>cO _ _
  refine nC rfl (i0 _) (by decide +kernel) ?_
  refine nC rfl (i0 _) (by decide +kernel) ?_
  refine nC rfl (i0 _) (by decide +kernel) ?_
  simp_all! only [bo]
  exact ⟨f' _ _ _ _,p,L,rfl,b,ok,hw,fun J1 L1 b1 ok1 e t1 mv=>q J1 L1 b1 ok1 e t1 mv⟩
 ·have i0:∀ J,dJ J (fI n) (.int 0)=some (.str "leave"):=fun J=>cO _ _
  have i1:∀ J,dJ J (fI n) (.int 1)=some (.str n):=fun J=>d5 _ _ _
  refine nC rfl (i0 _) (by decide +kernel) ?_
  refine sf rfl (i0 _) fun N=>?_
  simp_all! only [bo,i1]
  exact ⟨f' _ _ _ _,p,L,n,rfl,b,ok,fun z=>absurd hn z,fun _ J1 L1 b1 ok1 e t1 mv=>q J1 L1 b1 ok1 e t1 mv⟩
theorem Ao {n:Str} (hg:good n=true):n.length≤sizeLine:=by
 have h8:n.cps.size≤8:=by
  unfold good at hg
  rw [Bool.and_eq_true,Bool.and_eq_true] at hg
  exact of_decide_eq_true hg.1.2
 exact Nat.le_trans h8 (by decide)
theorem pE {x y:Str} {i:Nat} {dv:PV} {τ:Sr} {J:Hq} {a e u:fq} {D:En} (h:τ[i]?=some (some dv)) (h0:dJ J dv (.int 0)=some (.str x)) (n:decide (x=y)=false) (hu:bK e u D τ J):bK (jm (rB (j2 (wJ id) (j2 uE (eL i) (rC (.int 0))) (rC (.str y)))) a e) u D τ J :=
 hZ h h0 _ (by rw [n,if_neg (by decide)];exact hu)
theorem BG {y:Str} {i:Nat} {dv:PV} {τ:Sr} {J:Hq} {a e u:fq} {D:En} (h:τ[i]?=some (some dv)) (h0:dJ J dv (.int 0)=some (.str y)) (ha:bK a u D τ J):bK (jm (rB (j2 (wJ id) (j2 uE (eL i) (rC (.int 0))) (rC (.str y)))) a e) u D τ J :=
 hZ h h0 _ (by rw [decide_eq_true rfl,if_pos rfl];exact ha)
theorem tM {cN cL T p D U:Addr} {J0 J:Hq} {S0:Addr→Prop} {L:Ln} {gs:List (Str × aP)} {ep:Nat} {used names:List Str} {i:Nat} {dv:PV} {E2:Addr→Hq→Prop} {Dn:En} {τ:Sr} {iL iU iD iC iV:Nat} {eM eP:Addr}
  (hL:τ[iL]?=some (some (.ref p))) (hU:τ[iU]?=some (some (.ref U))) (hDt:τ[iD]?=some (some (.ref D))) (hC:τ[iC]?=some (some (fr L.t))) (hV:τ[iV]?=some (some dv))
  (wk:Wk cN cL J0 S0 J p L D U gs ep used i) (hun:L.cs.map Cf.n=used) (hus:∀ n∈used,n∈names) (hul:used.length≤i) (hi:i < 90) (hng:∀ n∈names,good n=true) (hT:J0 T=some .tab) (nT:¬ S0 T) (hdv:xb names used gs L.t dv)
  (fin:∀ J1 L1 gs1 ep1 used1 t1,L1.t=t1→Wk cN cL J0 S0 J1 p L1 D U gs1 ep1 used1 (i + 1)→L1.cs.map Cf.n=used1→(∀ n∈used1,n∈names)→used1.length≤i + 1→Dn.nx (τ.set iC (some (fr t1))) J1) :
  y0 (jm (rB (j2 (wJ id) (j2 uE (eL iV) (rC (.int 0))) (rC (.str "join")))) (y2 (HW "list" o5 (eL iU) (eZ (j2 uE (eL iV) (rC (.int 1))) l9))) gC)
   (bK (jm (rB (j2 (wJ id) (j2 uE (eL iV) (rC (.int 0))) (rC (.str "go"))))
     (jm (Bo (rB (nL iN E2 (eZ (y3 cN "go_to" (zu cN cL eM eP) E2 (eL iL) (eZ (j2 uE (eL iV) (rC (.int 1))) l9)) (eZ (nL zo E2 (eZ (eL iD) (eZ (eL iC) (eZ (j2 uE (eL iV) (rC (.int 1))) l9)))) l9))))) (Bp (rC (.bl false))) gC)
     (jm (Bo (rB (nL (tF cN cL T) E2 (eZ (eL iL) (eZ (eL iV) l9))))) (Bp (rC (.bl false))) gC)) (qT (nL pI E2 (eZ (eL iD) (eZ (eL iC) (eZ (eL iV) l9)))) (C5 iC))) Dn τ J:=by
 obtain ⟨st,gnd,gl,gsz⟩:=wk.up
 have hT':∀ {J1:Hq} {L1 gs1 ep1 us k1},Wk cN cL J0 S0 J1 p L1 D U gs1 ep1 us k1→J1 T=some .tab:=fun wk'=>wk'.kept hT nT
 have hw200:∀ c∈L.cs,c.w.length < 200:=fun c hc=>by have:=wk.wl c hc;omega
 have tl1:L.t≤((500 * (i + 1):Nat):Rat):=BJ wk.tl
 have hfl:L.fs.length=gs.length:=wk.rl.len.symm
 have hrow:∀ n,n∈gs.map (·.1)→n∈L.row:=fun n hn=>(wk.ok.rm n).mpr (by rw [← wk.rl.nm];exact hn)
 rcases hdv with ⟨n,x,v,rfl,hn,hnu,hgl,hx,hv⟩ | ⟨n,v,rfl,hn,hv⟩ | rfl | ⟨n,rfl,hn⟩ | ⟨m',rfl,hm'⟩
 ·have i0:∀ J,dJ J (eY n x v) (.int 0)=some (.str "join"):=fun J=>cO _ _
  have i1:∀ J,dJ J (eY n x v) (.int 1)=some (.str n):=fun J=>d5 _ _ _
  refine iZ (fun τ' J2=>τ'=τ∧J2=put J U (.lst ((used ++ [n]).map .str))) (xY hV (i0 _)) ?_ ?_
  ·simp_all! only [hU,hV,i1,wk.hU,List.length_map]
   exact ⟨Nat.lt_of_lt_of_le (show used.length < 100 by omega) (by decide),by rw [List.map_append];rfl⟩
  rintro τ' J2 ⟨rfl,rfl⟩
  have wk2:=wk.push n
  generalize put J U (.lst ((used ++ [n]).map .str))=J2 at wk2 ⊢
  have hnc:n ∉ L.cs.map Cf.n:=by rw [hun];exact hnu
  have hcl':L.cs.length < 100:=by have:=congrArg List.length hun;rw [List.length_map] at this;omega
  have hnf:n ∉ L.fs.map (·.1):=fun z=>hnc (by
   rw [dS,List.mem_map] at z
   obtain ⟨c',hc',e'⟩:=z
   exact List.mem_map.mpr ⟨c',(Ln.cU.mp hc').1,e'⟩)
  refine pE hV (i0 _) (by decide +kernel) ?_
  simp_all! only [hL,hDt,hC,hV]
  refine ⟨p,L,_,rfl,wk2.b,wk2.ok,.inl ⟨n,x,v,rfl,hT' wk2,hng n hn,⟨hx,hv⟩,hnc,by rw [wk.ok.row,qM];omega,hcl',Ao (hng n hn),fun J3 L3 b3 ok3 jn mv3=>?_⟩⟩
  refine ⟨true,rfl,?_⟩
  rw [if_neg (by decide)]
  have rl3:=wk2.rl.join ok3.toaQ hv hx jn wk.ok.t0 wk.ok.ts hnf
  obtain ⟨a,r,ecs,et⟩:=jn
  simp_all! only [hL,hDt,hC,hV]
  refine ⟨D,gs,ep,L.t,_,rfl,mv3.keep _ _ wk2.hD wk2.nD,gnd,by omega,st,gsz,.inl ⟨n,x,v,rfl,by rw [wk.rl.nm];exact hnf,fun ep'=>?_⟩⟩
  refine fin _ L3 _ ep' (used ++ [n]) _ et (wk2.next b3 ok3 mv3 rl3 (by rw [et];exact wk.td) (by rw [et];exact tl1) (fun c hc=>?_) ep') ?_ (fun y hy=>?_) (by rw [List.length_append];show used.length + 1≤_;omega)
  ·rw [ecs] at hc
   rcases List.mem_append.mp hc with hc | hc
   ·have:=wk.wl c hc;omega
   ·rw [List.mem_singleton] at hc;subst hc;show 1≤_;omega
  ·rw [ecs,List.map_append,hun];rfl
  ·rcases List.mem_append.mp hy with hy | hy
   ·exact hus y hy
   ·rw [List.mem_singleton] at hy;subst hy;exact hn
 ·have i0:∀ J,dJ J (gH n v) (.int 0)=some (.str "turn"):=fun J=>cO _ _
  refine fu hV (i0 _) (by decide +kernel) ?_
  refine pE hV (i0 _) (by decide +kernel) ?_
  simp_all! only [hL,hDt,hC,hV]
  refine ⟨p,L,_,rfl,wk.b,wk.ok,.inr (.inl ⟨n,v,rfl,hrow n hn,hv,hw200,fun J3 L3 b3 ok3 e t1 mv3=>?_⟩)⟩
  refine ⟨true,rfl,?_⟩
  rw [if_neg (by decide)]
  simp_all! only [hL,hDt,hC,hV]
  refine ⟨D,gs,ep,L.t,_,rfl,mv3.keep _ _ wk.hD wk.nD,gnd,by omega,st,gsz,.inr (.inl ⟨n,v,rfl,hn,fun ep'=>?_⟩)⟩
  refine fin _ L3 _ ep' used _ t1 (wk.next b3 ok3 mv3 (wk.rl.turn wk.ok.toaQ hv e t1) (by rw [t1];exact wk.td) (by rw [t1];exact tl1) (fun c hc=>?_) ep') (by rw [e,df (fun c=>(jG n L.t v c).1)];exact hun) hus (by omega)
  rw [e] at hc
  obtain ⟨c0,h0,rfl⟩:=List.mem_map.mp hc
  have h1:=wk.wl c0 h0
  unfold cj
  split
  ·have:=fV c0.w L.t v
   show (turned c0.w L.t v).length≤_
   omega
  ·omega
 ·have i0:∀ J,dJ J gj (.int 0)=some (.str "about"):=fun J=>cO _ _
  refine fu hV (i0 _) (by decide +kernel) ?_
  refine pE hV (i0 _) (by decide +kernel) ?_
  simp_all! only [hL,hDt,hC,hV]
  refine ⟨p,L,_,rfl,wk.b,wk.ok,.inr (.inr (.inl ⟨rfl,hw200,fun J3 L3 b3 ok3 e t1 mv3=>?_⟩))⟩
  refine ⟨true,rfl,?_⟩
  rw [if_neg (by decide)]
  simp_all! only [hL,hDt,hC,hV]
  refine ⟨D,gs,ep,L.t,_,rfl,mv3.keep _ _ wk.hD wk.nD,gnd,by omega,st,gsz,.inr (.inr (.inl ⟨rfl,fun ep'=>?_⟩))⟩
  refine fin _ L3 _ ep' used _ t1 (wk.next b3 ok3 mv3 (wk.rl.about wk.ok.toaQ e t1) (by rw [t1];exact wk.td) (by rw [t1];exact tl1) (fun c hc=>?_) ep') (by rw [e,df (fun c=>(pV L.t c).1)];exact hun) hus (by omega)
  rw [e] at hc
  obtain ⟨c0,h0,rfl⟩:=List.mem_map.mp hc
  have h1:=wk.wl c0 h0
  unfold cY
  split
  ·have:=fV c0.w L.t (-c0.cur.v)
   show (turned c0.w L.t (-c0.cur.v)).length≤_
   omega
  ·omega
 ·have i0:∀ J,dJ J (fI n) (.int 0)=some (.str "leave"):=fun J=>cO _ _
  refine fu hV (i0 _) (by decide +kernel) ?_
  refine pE hV (i0 _) (by decide +kernel) ?_
  simp_all! only [hL,hDt,hC,hV]
  refine ⟨p,L,_,rfl,wk.b,wk.ok,.inr (.inr (.inr ⟨n,rfl,hrow n hn,fun J3 L3 b3 ok3 e t1 mv3=>?_⟩))⟩
  refine ⟨true,rfl,?_⟩
  rw [if_neg (by decide)]
  simp_all! only [hL,hDt,hC,hV]
  refine ⟨D,gs,ep,L.t,_,rfl,mv3.keep _ _ wk.hD wk.nD,gnd,by omega,st,gsz,.inr (.inr (.inr (.inl ⟨n,rfl,hn,fun ep'=>?_⟩)))⟩
  refine fin _ L3 _ ep' used _ t1 (wk.next b3 ok3 mv3 (wk.rl.leave e t1) (by rw [t1];exact wk.td) (by rw [t1];exact tl1) (fun c hc=>?_) ep') (by rw [e,df (fun c=>(dU n L.t c).1)];exact hun) hus (by omega)
  rw [e] at hc
  obtain ⟨c0,h0,rfl⟩:=List.mem_map.mp hc
  have h1:=wk.wl c0 h0
  rw [(dU n L.t c0).2.2.2];omega
 ·have i0:∀ J,dJ J (El m') (.int 0)=some (.str "go"):=fun J=>cO _ _
  refine fu hV (i0 _) (by decide +kernel) ?_
  have tl3:=vg (x_ hm' wk.ok.t0) wk.tl
  have td3:=vT hm' wk.td
  have hg:f6 m'.num m'.den=true:=xO (Rat.le_trans wk.ok.t0 (hm'.le)) td3 (Di.mpr (sF (by omega) tl3))
  have i1:∀ J,dJ J (El m') (.int 1)=some (fr m'):=fun J=>d5 _ _ _
  refine BG hV (i0 _) ?_
  simp_all! only [hL,hDt,hC,hV,i1,wk.b.ob]
  refine ⟨f' _ _ _ _,p,L,m'.num,m'.den,rfl,wk.b,wk.ok,(fun z=>by rw [hg] at z;cases z),fun m1 h1 h2 _=>?_⟩
  obtain rfl:m1=m':=Rat.ext h1 (by omega)
  refine ⟨fun z=>absurd z (Rat.not_lt.mpr hm'.le),fun _ J3 o3 b3 ok3 mv3=>?_⟩
  have hD3':=mv3.keep _ _ wk.hD wk.nD
  have st2:Sz 240 L.t:=(uo wk.ok.ts).mono (by decide)
  have epk:fw L.t (gs.map (key L.t)) m1=fw L.t (L.fs.map (key L.t)) m1:=wA fun x=>(wk.rl.same L.t x).symm
  refine ⟨D,gs,ep,L.t,m1,rfl,hD3',gnd,by omega,st2,ok3.CC,wk.rl.sz,?_⟩
  rw [epk]
  refine ⟨_,_,rfl,rfl,wB L.t m1 _ wk.ok.knd (by rw [List.length_map];exact wk.ok.C2),true,rfl,?_⟩
  rw [if_neg (by decide)]
  simp_all! only [hL,hDt,hC,hV]
  have hD3:=mv3.keep _ _ wk.hD wk.nD
  refine ⟨D,gs,ep,L.t,_,rfl,hD3,gnd,by omega,st,gsz,.inr (.inr (.inr (.inr ⟨m1,rfl,?_⟩)))⟩
  have w3:=wk.next b3 ok3 mv3 (wk.rl.go hm'.le) td3 tl3 (fun c hc=>by have:=wk.wl c hc;omega) ep
  rw [sY hD3] at w3
  exact fin _ _ _ ep used _ rfl w3 hun hus (by omega)
def B0 (ns:List Int) (k:Int):Int:=if k < (ns.length:Int) then ns.getD k.toNat 0 else 5 + 17 * k
def uS:cm:=fun xs J Q _=>∃ (ns:List Int) (k:Int),xs=[.fl (ns.map .int),.int k]∧0≤k∧k < 1000∧Q (.int (B0 ns k)) J
theorem yu {f:Addr} {fd:FuncData} (F:bV K "_law_cell" "_law_cell" pe f fd) (Z:bR mg):aI P w K mg base (cS P w) 1 f fd ["_law_script","_law_k"] (dz K uS):=by
 simp_arith [By]
 ·obtain ⟨ns,k,rfl,_⟩:=h;rfl
 obtain ⟨ns,k,rfl,h0,h1,q⟩:=h
 unfold B0 at q
 refine ⟨_,(ai (aU (aD fv (rv 1) (aM bQ rfl Z.len boot_len (af (rv 0) ah)) (L2.ax _)) (ak (aB (aq au (rv 0) (rv 1) (fun _ _=>rfl)))) aJ)
   (ak (aB (aH dh ag (aH bA ag (rv 1)))))),?_⟩
 simp_arith! only [bK,List.length_map]
 split
 ·rename_i c
  rw [if_pos c] at q
  obtain ⟨j,rfl⟩:=Int.eq_ofNat_of_zero_le h0
  have hj:j < ns.length:=by omega
  refine ⟨.int ns[j],a8 (by rw [List.getElem?_map,List.getElem?_eq_getElem hj];rfl),?_⟩
  simpa [List.getD,hj] using q
 ·rename_i c
  rw [if_neg c] at q
  exact ⟨.of (.small (x:=17) (by decide) (by decide)) (.small (x:=k) (by omega) (by omega)),q⟩
theorem FC {j:Int} (h0:0≤j) (h1:j < 8):∃ x:Int,cI [PV.int 2,PV.int 3,PV.int 4,PV.int 5,PV.int 6,PV.int 7,PV.int 9,PV.int 20] j=some (.int x)∧2≤x∧x≤20:=by
 rcases (by omega:j=0∨j=1∨j=2∨j=3∨j=4∨j=5∨j=6∨j=7) with e | e | e | e | e | e | e | e <;> subst e <;> exact ⟨_,rfl,by decide,by decide⟩
theorem Wk.start {cN cL p D U:Addr} {J:Hq} {L0:Ln} {ep:Nat} (b:aV cN cL J p L0) (ok:bU L0) (cs0:L0.cs=[]) (t0:L0.t=0) (hD:J D=none) (hU:(put J D (.dct [] ep)) U=none):Wk cN cL J (L0.own p) (put (put J D (.dct [] ep)) U (.lst [])) p L0 D U [] ep [] 0:=by
 have nDU:D≠U:=fun e=>by subst e;rw [av] at hU;cases hU
 have hU0:J U=none:=by rw [ar (fun e=>nDU e.symm)] at hU;exact hU
 refine ⟨(b.fresh hD).fresh hU,ok,⟨by unfold Ln.fs Ln.wG;rw [cs0];rfl,(by simp),(by simp),(by simp),(by rw [cs0];simp)⟩,by rw [ar nDU];exact av,av,fun z=>b.some z hD,fun z=>b.some z hU0,?_,by rw [t0];decide,by rw [t0];decide,by rw [cs0];simp⟩
 have hh:=(Mv.we (S:=L0.own p) (o:=.dct [] ep) hD).trans (Mv.we (o:=.lst []) hU)
 exact ⟨hh.keep,fun a z=>hh.own a (z.elim (fun z=>.inl (.inl z)) fun z=>z.elim (fun z=>.inl (.inr z)) .inr),hh.mono⟩
abbrev uL:Stmt:=(top 61)
theorem d4:L2.aw ["_law_script","_law_head","_law_names_here","_law_many","_law_lane","_law_legs","_law_used","_law_clock","_law_k","_law_row","_law_deed_here"] ["_law_script"] (L2.aj uL):=dT
theorem AS {cN cL T eM eP f:Addr} {fd:FuncData} (F:bV K "law" "law" uL f fd) (Z:bR mg) (C_cell:a7 P w K mg base 1 "_law_cell" ["_law_script","_law_k"] uS) (C_digits:a7 P w K mg base 1 "_law_digits" ["_law_cell_here","_law_sizes"] zm) (C_names:a7 P w K mg base 2 "_law_names" ["_law_cell_here","_law_many"] rD) (C_deed:a7 P w K mg base 3 "_law_deed" ["_law_row","_law_mode","_law_names_here","_law_used","_law_legs","_law_clock"] zl) (C_none:a7 P w K mg base 9 "_law_none" ["_law_lane","_law_deed_here"] (tF cN cL T)) (C_acted:a7 P w K mg base 3 "_law_acted" ["_law_legs","_law_clock","_law_deed_here"] pI) (M_Lane:vC P w K mg base cN 1 "Lane" ["self"] (u_ cN cL)) (C_due:a7 P w K mg base 3 "_law_due" ["_law_legs","_law_clock","_law_moment"] zo) (C_passrows:a7 P w K mg base 4 "_law_passrows" ["_law_found","_law_due_here"] iN) (m_Lane_go_to:cX P w K mg base cN 8 "go_to" ["self","moment"] (zu cN cL eM eP)) :
  aI P w K mg base (cS P w) 10 f fd ["_law_script"] (dz K (tE [T])):=by
 simp_arith [d4]
 ·obtain ⟨ns,rfl,_⟩:=h;rfl
 obtain ⟨ns,rfl,hl,hT,hJ,q⟩:=h
 have hT:J T=some .tab:=hT T (by simp)
 refine ⟨_,(ai (aK (i:=1) d4.nd rfl (Or.inl rfl) (aR C_digits B hr (by decide) rfl (af (aR C_cell B hr (by decide) rfl (af (rv 0) (af ag ah))) (af (uI (af ag (af ag (af ag ah)))) ah))))
   (ai (aK (i:=2) d4.nd rfl (Or.inl rfl) (aR C_names B hr (by decide) rfl (af (aR C_cell B hr (by decide) rfl (af (rv 0) (af ag ah))) (af (aq au (uI (sZ [.int 2,.int 3,.int 4,.int 5,.int 6,.int 7,.int 9,.int 20] rfl [.int 2,.int 3,.int 4,.int 5,.int 6,.int 7,.int 9,.int 20] rfl)) (aq au (rv 1) ag (fun _ _=>rfl)) (fun _ _=>rfl)) ah))))
   (ai (aK (i:=3) d4.nd rfl (Or.inl rfl) (aH dh (aH dh ag (aq au (rv 1) ag (fun _ _=>rfl))) (aH bA ag (aH jh (aq au (rv 1) ag (fun _ _=>rfl)) ag))))
   (ai (aK (i:=4) d4.nd rfl (Or.inl rfl) (qV M_Lane B hr (by decide) rfl))
   (ai (aK (i:=5) d4.nd rfl (Or.inl rfl) uJ)
   (ai (aK (i:=6) d4.nd rfl (Or.inl rfl) (j4 ah))
   (ai (aK (i:=7) d4.nd rfl (Or.inl rfl) (cv (af ag (af ag ah))))
   (ai (fN cy rfl (nN rfl Z.range (af (rv 3) ah)) (bZ (i:=8) d4.nd rfl (Or.inl rfl)) (ai (aK (i:=9) d4.nd rfl (Or.inl rfl) (aR C_digits B hr (by decide) rfl (af (aR C_cell B hr (by decide) rfl (af (rv 0) (af (aH dh ag (rv 8)) ah))) (af (uI (sZ [.int 10,.int 97,.int 2000001,.int 2001,.int 400000,.int 60] rfl [.int 10,.int 97,.int 2000001,.int 2001,.int 400000,.int 60] rfl)) ah))))
   (ai (aK (i:=10) d4.nd rfl (Or.inl rfl) (aR C_deed B hr (by decide) rfl (af (rv 9) (af (aq au (rv 1) ag (fun _ _=>rfl)) (af (rv 2) (af (rv 6) (af (rv 5) (af (rv 7) ah))))))))
   (fL (aU (aD (cH hr.aT) (aq au (rv 10) ag (fun _ _=>rfl)) bD (L2.ax _)) (ak (bj (kB PySem.F.plainAttrs_list PySem.F.slot_list_append PySem.F.type_list_append jS (rv 6) (af (aq au (rv 10) ag (fun _ _=>rfl)) ah)))) aJ)
   (ai (aU (aD (cH hr.aT) (aq au (rv 10) ag (fun _ _=>rfl)) bD (L2.ax _)) (ak (aU (c4 (bM (aR C_passrows B hr (by decide) rfl (af (bx (pl:=_) m_Lane_go_to B hr (by decide) (rv 4) (af (aq au (rv 10) ag (fun _ _=>rfl)) ah)) (af (aR C_due B hr (by decide) rfl (af (rv 5) (af (rv 7) (af (aq au (rv 10) ag (fun _ _=>rfl)) ah)))) ah))))) (ak (aB f7)) aJ)) (ak (aU (c4 (bM (aR C_none B hr (by decide) rfl (af (rv 4) (af (rv 10) ah))))) (ak (aB f7)) aJ)))
   (ak (aK (i:=7) d4.nd rfl (Or.inl rfl) (aR C_acted B hr (by decide) rfl (af (rv 5) (af (rv 7) (af (rv 10) ah)))))))))))
   (ak (aB f7)))))))))),?_⟩
 simp_all! only []
 refine ⟨ns,0,rfl,by decide,by decide,_,[16,8,4],rfl,mi (by decide),by decide,fun ds hD=>?_⟩
 obtain ⟨d0,ds,rfl,d00,d01,hD⟩:=hD.cons
 obtain ⟨d1,ds,rfl,d10,d11,hD⟩:=hD.cons
 obtain ⟨d2,ds,rfl,d20,d21,hD⟩:=hD.cons
 cases hD.nil
 obtain ⟨m0,hm0,m00,m01⟩:=FC d10 d11
 have q6:0≤d1.fdiv 7∧d1.fdiv 7≤1:=by rw [Int.fdiv_eq_ediv_of_nonneg _ (by decide)];omega
 simp_all! only [hm0]
 refine ⟨ns,1,rfl,by decide,by decide,_,m0,rfl,by omega,by omega,fun names nl nd ng=>?_⟩
 simp_all! only []
 generalize d1.fdiv 7=k6 at q6 ⊢
 refine ⟨⟨by decide,(Bd.small (x:=7) (by decide) (by decide)).mono (by decide)⟩,.of (.small (x:=30) (by decide) (by decide)) (.small (x:=k6) (by omega) (by omega)),?_⟩
 obtain ⟨many,hmany,mn0,mn1⟩:∃ many:Nat,4 + d0 + 30 * k6=(many:Int)∧0≤many∧many≤49:=⟨(4 + d0 + 30 * k6).toNat,by omega,by omega,by omega⟩
 rw [hmany]
 simp_all! only []
 intro p hp
 refine ⟨p,rfl,av,fun J1 d e o b mv=>?_⟩
 have mvJ:Mv J J1 (fun _=>False) (Ln.own ⟨0,d,e,o,[],[]⟩ p):=by
  refine (Mv.we (S:=fun _=>False) hp).trans ⟨fun a u h n=>mv.keep a u h fun z=>n (.inr z),fun a z=>(mv.own a z).imp .inr id,mv.mono⟩
 have ok0:bU ⟨0,d,e,o,[],[]⟩:=⟨⟨List.nodup_nil,(by simp),(by simp),(by simp),(by simp),(by simp),Rat.le_refl,Ju _,(by show 0≤100;decide),(by intro n;simp [Ln.fs,Ln.wG]),List.nodup_nil,(by show 0≤12;decide)⟩,rfl⟩
 have hT1:J1 T=some .tab:=mvJ.keep _ _ hT fun z=>z
 have nT:=b.HJ hT1
 simp_all! only []
 intro D hD ep
 simp_all! only []
 intro U hU
 have w0:=Wk.start b ok0 rfl rfl hD hU
 generalize put (put J1 D (.dct [] ep)) U (.lst [])=J2 at w0 ⊢
 generalize hL0:(⟨0,d,e,o,[],[]⟩:Ln)=L0 at b w0 nT
 have ht0:L0.t=0:=by rw [← hL0]
 have hc0:L0.cs=[]:=by rw [← hL0]
 clear mvJ mv ok0
 simp_all! only []
 refine ⟨by omega,by omega,?_⟩
 obtain ⟨Inv,hInv⟩:∃ Inv:Nat→Sr→Hq→Prop,∀ i τ J',Inv i τ J'↔∃ (L:Ln) (gs:List (Str × aP)) (ep:Nat) (used:List Str) (u8 u9 u10:Option PV),τ=[some (.fl (ns.map .int)),some (.fl [.int d0,.int d1,.int d2]),some (.fl (names.map .str)),some (.int (many:Int)),some (.ref p),some (.ref D),some (.ref U),some (fr L.t),u8,u9,u10]∧Wk cN cL J1 (L0.own p) J' p L D U gs ep used i∧L.cs.map Cf.n=used∧(∀ n∈used,n∈names)∧used.length≤i:=⟨_,fun _ _ _=>Iff.rfl⟩
 refine t4 Inv ((hInv _ _ _).mpr ⟨L0,[],ep,[],_,_,_,by rw [ht0];rfl,w0,by rw [hc0];rfl,(by simp),Nat.le_refl _⟩) ?_ ?_
 ·clear w0 ht0 hc0 hL0
  intro i τ J' hi hv
  obtain ⟨L,gs,ep,used,u8,u9,u10,rfl,wk,hun,hus,hul⟩:=(hInv _ _ _).mp hv
  clear hv
  obtain ⟨st,gnd,gl,gsz⟩:=wk.up
  simp_all! only []
  refine ⟨ns,2 + (0 + (i:Int)),rfl,by omega,by omega,_,[10,97,2000001,2001,400000,60],rfl,mi (by decide),by decide,fun ds hG=>?_⟩
  obtain ⟨r0,ds,rfl,_,_,hG⟩:=hG.cons
  obtain ⟨r1,ds,rfl,r10,_,hG⟩:=hG.cons
  obtain ⟨r2,ds,rfl,r20,_,hG⟩:=hG.cons
  obtain ⟨r3,ds,rfl,r30,r31,hG⟩:=hG.cons
  obtain ⟨r4,ds,rfl,r40,r41,hG⟩:=hG.cons
  obtain ⟨r5,ds,rfl,r50,_,hG⟩:=hG.cons
  cases hG.nil
  simp_all! only []
  refine ⟨r0,r1,r2,r3,r4,r5,d2,names,used,U,D,gs,ep,L.t,rfl,wk.hU,wk.hD,by omega,by omega,r10,r20,r30,r31,r40,by omega,r50,d20,d21,st,fun dv hdv=>?_⟩
  refine tM (eM:=eM) (eP:=eP) (iL:=4) (iU:=6) (iD:=5) (iC:=7) (iV:=10) rfl rfl rfl rfl rfl wk hun hus hul (by omega) ng hT1 nT hdv fun J3 L3 gs3 ep3 used3 t3 e3 wk3 h1 h2 h3=>?_
  subst e3
  exact (hInv _ _ _).mpr ⟨L3,gs3,ep3,used3,_,_,_,rfl,wk3,h1,h2,h3⟩
 ·intro τ J' hv
  obtain ⟨L,gs,ep,used,u8,u9,u10,rfl,wk,hun,hus,hul⟩:=(hInv _ _ _).mp hv
  simp_all! only []
  exact q J' (by simpa using wk.kept hT1 nT)
end
theorem CK {P:Program} {w:World} {K:PySem.W.Frag} {mg:Str→Option Value} (Z:bR mg) (N:lG K mg) {t_FARTHEST:Tok} (g_FARTHEST:mg "FARTHEST"=some (.int 1000000 t_FARTHEST)) {t_FASTEST:Tok} (g_FASTEST:mg "FASTEST"=some (.int 1000 t_FASTEST)) {t_FINEST:Tok} (g_FINEST:mg "FINEST"=some (.int 60 t_FINEST)) {t_LATEST:Tok} (g_LATEST:mg "LATEST"=some (.int 1000000 t_LATEST)) {t_LONGEST:Tok} (g_LONGEST:mg "LONGEST"=some (.int 8 t_LONGEST)) {t_MOST:Tok} (g_MOST:mg "MOST"=some (.int 12 t_MOST)) {t_SIGNS:Tok} (g_SIGNS:mg "SIGNS"=some (.str "abcdefghijklmnopqrstuvwxyz0123456789" t_SIGNS)) {e_BadMoment:Addr} (O_BadMoment:Own K mg "BadMoment" e_BadMoment) {e_BadName:Addr} (O_BadName:Own K mg "BadName" e_BadName) {e_Full:Addr} (O_Full:Own K mg "Full" e_Full) {e_NoCraft:Addr} (O_NoCraft:Own K mg "NoCraft" e_NoCraft) {e_NotThere:Addr} (O_NotThere:Own K mg "NotThere" e_NotThere) {e_Past:Addr} (O_Past:Own K mg "Past" e_Past) {e_Taken:Addr} (O_Taken:Own K mg "Taken" e_Taken) {e_TooFar:Addr} (O_TooFar:Own K mg "TooFar" e_TooFar) {c_Log:Addr} (KD_Log:du K mg "Log" c_Log) {c_Lane:Addr} (KD_Lane:du K mg "Lane" c_Lane) {c_Bells:Addr} (KD_Bells:du K mg "Bells" c_Bells) (NA_Log_rows:aA K c_Log "rows") (NA_Log_gone:aA K c_Log "gone") (NA_Lane_now:aA K c_Lane "now") (NA_Lane_logs:aA K c_Lane "logs") (NA_Lane_row:aA K c_Lane "row") (NA_Bells_rows:aA K c_Bells "rows") (D_cell:Def K mg "_law_cell" pe) (D_digits:Def K mg "_law_digits" jw) (D_shared:Def K mg "shared" jy) (D_fraction:Def K mg "fraction" fQ) (D_low:Def K mg "_law_low" uM) (D_less:Def K mg "less" pf) (D_plus:Def K mg "plus" pq) (D_minus:Def K mg "minus" lh) (D_times:Def K mg "times" lp) {T_good_name:Addr} (D_good_name:rO K mg "good_name" fe T_good_name) (D_names:Def K mg "_law_names" hE) (D_place_on:Def K mg "place_on" fT) (D_last_by:Def K mg "last_by" g9) (D_lies_behind:Def K mg "lies_behind" dP) (D_in_order:Def K mg "in_order" fR) (D_rings_ahead:Def K mg "rings_ahead" dQ) (D_meeting:Def K mg "meeting" g_) (D_in_lowest_terms:Def K mg "in_lowest_terms" cg) (D_good_moment:Def K mg "good_moment" dO) (D_whole:Def K mg "_law_whole" lq) (D_part:Def K mg "_law_part" pj) (D_passrow:Def K mg "_law_passrow" hW) (D_passrows:Def K mg "_law_passrows" fS) (D_placed:Def K mg "_law_placed" jx) (D_paced:Def K mg "_law_paced" lj) (D_at:Def K mg "_law_at" Bx) (D_later:Def K mg "_law_later" la) (D_before:Def K mg "_law_before" jv) (D_acted:Def K mg "_law_acted" k_) (D_none:Def K mg "_law_none" ph) (D_due:Def K mg "_law_due" uK) (D_deed:Def K mg "_law_deed" md) (MD_Log___init__:bL K c_Log "__init__" "Log.__init__" dq) (MD_Log_turn:bL K c_Log "turn" "Log.turn" fP) (MD_Log_leave:bL K c_Log "leave" "Log.leave" fb) (MD_Log_there:bL K c_Log "there" "Log.there" fc) (MD_Log_leg_at:bL K c_Log "leg_at" "Log.leg_at" eh) (MD_Lane___init__:bL K c_Lane "__init__" "Lane.__init__" cV) (MD_Lane_must_be_there:bL K c_Lane "must_be_there" "Lane.must_be_there" bO) (MD_Lane_leg_of:bL K c_Lane "leg_of" "Lane.leg_of" dN) (MD_Lane_settle:bL K c_Lane "settle" "Lane.settle" cR) (MD_Lane_join:bL K c_Lane "join" "Lane.join" e9) (MD_Bells___init__:bL K c_Bells "__init__" "Bells.__init__" cD) (MD_Bells_drop:bL K c_Bells "drop" "Bells.drop" dn) (MD_Bells_put:bL K c_Bells "put" "Bells.put" e8) (MD_Bells_told:bL K c_Bells "told" "Bells.told" d8) (MD_Lane_meets:bL K c_Lane "meets" "Lane.meets" eg) (MD_Lane_foretold:bL K c_Lane "foretold" "Lane.foretold" cW) (MD_Lane_go_to:bL K c_Lane "go_to" "Lane.go_to" d_) (MD_Lane_turn:bL K c_Lane "turn" "Lane.turn" e_) (MD_Lane_about:bL K c_Lane "about" "Lane.about" d9) (MD_Lane_leave:bL K c_Lane "leave" "Lane.leave" ed) {f:Addr} {fd:FuncData} (F:bV K "law" "law" uL f fd) (base:Heap) (Bm:BMain mg base) :
  aI P w K mg base (cS P w) 10 f fd ["_law_script"] (dz K (tE [T_good_name])):=by
 have L_cell:=D_cell.eW (P:=P) (w:=w) (base:=base) (fun _ _ F=>yu F Z) fun _ _ _ _ _ _=>iz fun _ _=>rfl
 have C_digits:=D_digits.xr (P:=P) (w:=w) (base:=base) (fun _ _ F=>wm F Z.tow8) fun _ _ _ _ _ _=>iz fun _ _=>rfl
 have L_digits:=qm C_digits
 have C_shared:=D_shared.xr (P:=P) (w:=w) (base:=base) (fun _ _ F=>wo F Z.tow8) fun _ _ _ _ _ _=>iz fun _ _=>rfl
 have L_shared:=qo C_shared
 have C_fraction:=D_fraction.xr (P:=P) (w:=w) (base:=base) (fun _ _ F=>qC F Z.tow8 C_shared) fun _ _ _ _ _ _=>iz fun _ _=>rfl
 have L_fraction:=mQ C_fraction
 have C_low:=D_low.xr (P:=P) (w:=w) (base:=base) (fun _ _ F=>Dw F Z.tow8) fun _ _ _ _ _ _=>iz fun _ _=>rfl
 have L_low:=yf C_low
 have C_less:=D_less.xr (P:=P) (w:=w) (base:=base) (fun _ _ F=>AO F Z.tow8) fun _ _ _ _ _ _=>iz fun _ _=>rfl
 have L_less:=vY C_less
 have C_plus:=D_plus.xr (P:=P) (w:=w) (base:=base) (fun _ _ F=>AQ F Z.tow8 C_fraction) fun _ _ _ _ _ _=>iz fun _ _=>rfl
 have C_minus:=D_minus.xr (P:=P) (w:=w) (base:=base) (fun _ _ F=>yq F Z.tow8 C_fraction) fun _ _ _ _ _ _=>iz fun _ _=>rfl
 have C_times:=D_times.xr (P:=P) (w:=w) (base:=base) (fun _ _ F=>yt F Z.tow8 C_fraction) fun _ _ _ _ _ _=>iz fun _ _=>rfl
 have L_plus:=vZ C_plus
 have L_minus:=sk C_minus
 have L_times:=su C_times
 have C_good_name:=D_good_name.xr (P:=P) (w:=w) (base:=base) (fun _ _ _ F=>oJ F Z.tow8 Bm g_LONGEST g_SIGNS) fun _ _ _ _ _ _=>Aa fun _=>rfl
 have L_good_name:=lW C_good_name
 have C_names:=D_names.xr (P:=P) (w:=w) (base:=base) (fun _ _ F=>yr F Z.tow8 C_digits) fun _ _ _ _ _ _=>iz fun _ _=>rfl
 have L_names:=so C_names
 have L_place_on:=D_place_on.eW (P:=P) (w:=w) (base:=base) (fun _ _ F=>oN F Z L_plus L_minus L_times) fun _ _ _ _ _ _=>iz fun _ _=>rfl
 have L_last_by:=D_last_by.eW (P:=P) (w:=w) (base:=base) (fun _ _ F=>qD F Z L_less) fun _ _ _ _ _ _=>iz fun _ _=>rfl
 have L_lies_behind:=D_lies_behind.eW (P:=P) (w:=w) (base:=base) (fun _ _ F=>kJ F Z L_place_on L_less) fun _ _ _ _ _ _=>Jf fun _ _ _ _ _=>rfl
 have L_in_order:=D_in_order.eW (P:=P) (w:=w) (base:=base) (fun _ _ F=>oK F Z L_lies_behind) fun _ _ _ _ _ _=>iz fun _ _=>rfl
 have M_Log:=MD_Log___init__.HE (P:=P) (w:=w) (base:=base) KD_Log (fun _ _ F=>qA F KD_Log NA_Log_rows NA_Log_gone) fun _ _ _ _ _ _=>GJ fun _ _ _ _=>rfl
 have m_Log_turn:=MD_Log_turn.qx (P:=P) (w:=w) (base:=base) (mg:=mg) KD_Log.cl (fun _ _ F=>qB F Z KD_Log NA_Log_rows L_place_on) fun _ _ _ _ _ _=>Ej fun _ _ _=>rfl
 have m_Log_leave:=MD_Log_leave.qx (P:=P) (w:=w) (base:=base) (mg:=mg) KD_Log.cl (fun _ _ F=>oH F Z KD_Log NA_Log_gone) fun _ _ _ _ _ _=>iz fun _ _=>rfl
 have m_Log_there:=MD_Log_there.qx (P:=P) (w:=w) (base:=base) (mg:=mg) KD_Log.cl (fun _ _ F=>oI F Z KD_Log NA_Log_rows NA_Log_gone L_less) fun _ _ _ _ _ _=>iz fun _ _=>rfl
 have m_Log_leg_at:=MD_Log_leg_at.qx (P:=P) (w:=w) (base:=base) (mg:=mg) KD_Log.cl (fun _ _ F=>mZ F Z KD_Log NA_Log_rows O_NotThere m_Log_there L_last_by) fun _ _ _ _ _ _=>iz fun _ _=>rfl
 have M_Lane:=MD_Lane___init__.HE (P:=P) (w:=w) (base:=base) KD_Lane (fun _ _ F=>oE F (cL:=c_Log) N KD_Lane NA_Lane_now NA_Lane_logs NA_Lane_row) fun _ _ _ _ _ _=>Aa fun _=>rfl
 have m_Lane_must_be_there:=MD_Lane_must_be_there.qx (P:=P) (w:=w) (base:=base) (mg:=mg) KD_Lane.cl (fun _ _ F=>gd F Z (cL:=c_Log) KD_Lane NA_Lane_row O_NoCraft) fun _ _ _ _ _ _=>iz fun _ _=>rfl
 have m_Lane_leg_of:=MD_Lane_leg_of.qx (P:=P) (w:=w) (base:=base) (mg:=mg) KD_Lane.cl (fun _ _ F=>lY F Z KD_Lane NA_Lane_logs NA_Lane_now m_Lane_must_be_there m_Log_leg_at) fun _ _ _ _ _ _=>iz fun _ _=>rfl
 have m_Lane_settle:=MD_Lane_settle.qx (P:=P) (w:=w) (base:=base) (mg:=mg) KD_Lane.cl (fun _ _ F=>lZ F Z KD_Lane NA_Lane_row NA_Lane_now m_Lane_leg_of L_in_order) fun _ _ _ _ _ _=>Aa fun _=>rfl
 have m_Lane_join:=MD_Lane_join.qx (P:=P) (w:=w) (base:=base) (mg:=mg) KD_Lane.cl (fun _ _ F=>oF F Z KD_Lane NA_Lane_row NA_Lane_now NA_Lane_logs g_FARTHEST g_FASTEST g_MOST O_BadName O_TooFar O_Taken O_Full L_good_name M_Log m_Lane_settle) fun _ _ _ _ _ _=>GJ fun _ _ _ _=>rfl
 have L_rings_ahead:=D_rings_ahead.eW (P:=P) (w:=w) (base:=base) (fun _ _ F=>kK F Z L_less) fun _ _ _ _ _ _=>iz fun _ _=>rfl
 have M_Bells:=MD_Bells___init__.HE (P:=P) (w:=w) (base:=base) KD_Bells (fun _ _ F=>mS F KD_Bells NA_Bells_rows) fun _ _ _ _ _ _=>Aa fun _=>rfl
 have m_Bells_drop:=MD_Bells_drop.qx (P:=P) (w:=w) (base:=base) (mg:=mg) KD_Bells.cl (fun _ _ F=>mR F Z KD_Bells NA_Bells_rows) fun _ _ _ _ _ _=>Ej fun _ _ _=>rfl
 have m_Bells_put:=MD_Bells_put.qx (P:=P) (w:=w) (base:=base) (mg:=mg) KD_Bells.cl (fun _ _ F=>oC F Z KD_Bells NA_Bells_rows m_Bells_drop L_rings_ahead) fun _ _ _ _ _ _=>GJ fun _ _ _ _=>rfl
 have m_Bells_told:=MD_Bells_told.qx (P:=P) (w:=w) (base:=base) (mg:=mg) KD_Bells.cl (fun _ _ F=>mT F Z KD_Bells NA_Bells_rows) fun _ _ _ _ _ _=>Aa fun _=>rfl
 have L_meeting:=D_meeting.eW (P:=P) (w:=w) (base:=base) (fun _ _ F=>qE F Z N L_place_on L_minus L_fraction) fun _ _ _ _ _ _=>iz fun _ _=>rfl
 have m_Lane_meets:=MD_Lane_meets.qx (P:=P) (w:=w) (base:=base) (mg:=mg) KD_Lane.cl (fun _ _ F=>mY F Z KD_Lane NA_Lane_now m_Lane_leg_of L_meeting L_less) fun _ _ _ _ _ _=>Ej fun _ _ _=>rfl
 have L_in_lowest_terms:=D_in_lowest_terms.eW (P:=P) (w:=w) (base:=base) (fun _ _ F=>ib F Z L_shared) fun _ _ _ _ _ _=>Aa fun _=>rfl
 have L_good_moment:=D_good_moment.eW (P:=P) (w:=w) (base:=base) (fun _ _ F=>kI F Z g_FINEST g_LATEST L_in_lowest_terms) fun _ _ _ _ _ _=>Aa fun _=>rfl
 have m_Lane_foretold:=MD_Lane_foretold.qx (P:=P) (w:=w) (base:=base) (mg:=mg) KD_Lane.cl (fun _ _ F=>jU F Z KD_Lane NA_Lane_now NA_Lane_row O_BadMoment O_Past L_good_moment L_less M_Bells m_Lane_meets m_Bells_put m_Bells_told) fun _ _ _ _ _ _=>iz fun _ _=>rfl
 have m_Lane_go_to:=MD_Lane_go_to.qx (P:=P) (w:=w) (base:=base) (mg:=mg) KD_Lane.cl (fun _ _ F=>mV F Z KD_Lane NA_Lane_now m_Lane_foretold m_Lane_settle) fun _ _ _ _ _ _=>iz fun _ _=>rfl
 have m_Lane_turn:=MD_Lane_turn.qx (P:=P) (w:=w) (base:=base) (mg:=mg) KD_Lane.cl (fun _ _ F=>oG F Z KD_Lane NA_Lane_logs NA_Lane_now g_FASTEST O_TooFar m_Lane_must_be_there m_Log_turn m_Lane_settle) fun _ _ _ _ _ _=>Ej fun _ _ _=>rfl
 have m_Lane_about:=MD_Lane_about.qx (P:=P) (w:=w) (base:=base) (mg:=mg) KD_Lane.cl (fun _ _ F=>mU F Z KD_Lane NA_Lane_row NA_Lane_logs NA_Lane_now m_Lane_leg_of m_Log_turn m_Lane_settle) fun _ _ _ _ _ _=>Aa fun _=>rfl
 have m_Lane_leave:=MD_Lane_leave.qx (P:=P) (w:=w) (base:=base) (mg:=mg) KD_Lane.cl (fun _ _ F=>mW F Z KD_Lane NA_Lane_logs NA_Lane_now NA_Lane_row m_Lane_must_be_there m_Log_leave) fun _ _ _ _ _ _=>iz fun _ _=>rfl
 have L_whole:=D_whole.eW (P:=P) (w:=w) (base:=base) (fun _ _ F=>wx F Z) fun _ _ _ _ _ _=>Aa fun _=>rfl
 have L_part:=D_part.eW (P:=P) (w:=w) (base:=base) (fun _ _ F=>yx F Z L_whole) fun _ _ _ _ _ _=>iz fun _ _=>rfl
 have L_passrow:=D_passrow.eW (P:=P) (w:=w) (base:=base) (fun _ _ F=>qF F Z L_part) fun _ _ _ _ _ _=>iz fun _ _=>rfl
 have L_passrows:=D_passrows.eW (P:=P) (w:=w) (base:=base) (fun _ _ F=>oM F Z L_passrow) fun _ _ _ _ _ _=>iz fun _ _=>rfl
 have L_placed:=D_placed.eW (P:=P) (w:=w) (base:=base) (fun _ _ F=>sI F Z) fun _ _ _ _ _ _=>iz fun _ _=>rfl
 have L_paced:=D_paced.eW (P:=P) (w:=w) (base:=base) (fun _ _ F=>wu F Z) fun _ _ _ _ _ _=>iz fun _ _=>rfl
 have L_at:=D_at.eW (P:=P) (w:=w) (base:=base) (fun _ _ F=>Dx F Z L_low) fun _ _ _ _ _ _=>iz fun _ _=>rfl
 have L_later:=D_later.eW (P:=P) (w:=w) (base:=base) (fun _ _ F=>wt F Z L_low) fun _ _ _ _ _ _=>GJ fun _ _ _ _=>rfl
 have L_before:=D_before.eW (P:=P) (w:=w) (base:=base) (fun _ _ F=>sH F Z) fun _ _ _ _ _ _=>iz fun _ _=>rfl
 have L_acted:=D_acted.eW (P:=P) (w:=w) (base:=base) (fun _ _ F=>wq F Z L_at) fun _ _ _ _ _ _=>Ej fun _ _ _=>rfl
 have L_none:=D_none.eW (P:=P) (w:=w) (base:=base) (fun _ _ F=>yw F Z m_Lane_join m_Lane_leave m_Lane_turn m_Lane_about) fun _ _ _ _ _ _=>iz fun _ _=>rfl
 have L_due:=D_due.eW (P:=P) (w:=w) (base:=base) (fun _ _ F=>AR F Z L_at L_low L_before) fun _ _ _ _ _ _=>Ej fun _ _ _=>rfl
 have L_deed:=D_deed.eW (P:=P) (w:=w) (base:=base) (fun _ _ F=>yv F Z L_placed L_paced L_later) fun _ _ _ _ _ _=>Jg fun _ _ _ _ _ _=>rfl
 exact AS F Z L_cell L_digits L_names L_deed L_none L_acted M_Lane L_due L_passrows m_Lane_go_to
end Ov
namespace PySem.W.Fast
def tw8556646217237577337:=()
def tw3586799707693438700:=()
def tw16084777700259466781:=()
def tw5459243602291291295:=()
def tw3000298598355471901:=()
def tw10249794908270062837:=()
def tw9772889661882820497:=()
def tw5462606527937965565:=()
def tw16433531261546779906:=()
def tw8600753399130003256:=()
def tw5893492185303365354:=()
def tw17485029675647241999:=()
def tw5565323710067035128:=()
def tw7571439323049855470:=()
def tw5684545457570730851:=()
def tw7551126275536329837:=()
def tw13742045165825076534:=()
def tw5309567870508730938:=()
def tw11676368232801349615:=()
def tw16208158955168171274:=()
def tw7149887552987445469:=()
def tw12888783877497124801:=()
def tw6772311349643538885:=()
def tw10762215893818687487:=()
def tw13159270898642588766:=()
def tw1511485922328116023:=()
def tw15207421601523538095:=()
def tw11499992884632633820:=()
def tw2839066060560215129:=()
def tw10123658068249491792:=()
def tw16704426640516075741:=()
def tw18207657087706583596:=()
def tw1508652960180753780:=()
def tw9786754932842937811:=()
def tw15288026508094595582:=()
def tw6128517657156355950:=()
def tw14820381426053371427:=()
def tw13485400209708127589:=()
def tw11711657496128051788:=()
def tw2445969446422576629:=()
def tw17937659302443685707:=()
def tw5348694077454861983:=()
def tw9825253501541565425:=()
def tw14103566240171164663:=()
def tw712278587084069886:=()
def tw15618751438651607373:=()
def tw7161193917641534947:=()
def tw3897836483385031954:=()
def tw2605683969401784204:=()
def tw8192947229160000231:=()
def tw552774300767299367:=()
def tw1464724197909301004:=()
def tw6497773429441972845:=()
def tw12499859540064900101:=()
def tw12192841590067565574:=()
def tw13084130353575381371:=()
def tw13055414459123571997:=()
def tw6529589898876297298:=()
def tw12928745656511806283:=()
def tw2108128871213277859:=()
def tw17576552105122860271:=()
def tw9354469466664793583:=()
def tw16414973495490503431:=()
def tw16737764665258832599:=()
def tw14795347958502871954:=()
def tw9787629301008659632:=()
def tw5427001340686105966:=()
def tw14083414900286741101:=()
def tw710530867114918318:=()
def tw18088783085755648657:=()
def tw13933075869104727149:=()
def tw2337047815916150369:=()
def tw8539409524070822109:=()
def tw9437901939797222308:=()
def tw12755030189442022428:=()
def tw7659730162878453688:=()
def tw17414770033617713148:=()
def tw11526732398988283051:=()
def tw14119548291031068053:=()
def tw11954094905096346009:=()
def tw9227898960708575924:=()
def tw5666481772682254278:=()
def tw432024130999263395:=()
def tw4591937870921546949:=()
def tw4980311586933336085:=()
def tw1370510317282862481:=()
def tw18389031948057657528:=()
def tw14082230741424572423:=()
def tw12459355300880618985:=()
def tw9999951881623434707:=()
def tw10613769524060294780:=()
def tw7560141520390099175:=()
def tw11169814355469077514:=()
def tw5815094128471823755:=()
def tw14839167824454114703:=()
def tw10679793983455257240:=()
def tw16725564586249604017:=()
def tw17851549028640667226:=()
def tw15035958211343262952:=()
def tw10679651291306534086:=()
def tw87006685285263681:=()
def tw12529706371825779479:=()
def tw5598672189626696472:=()
def tw4174650656565622360:=()
def tw4550661555995305355:=()
def tw7961305635489836803:=()
def tw4038624828779044153:=()
def tw9274631869715823442:=()
def tw5586361541260550858:=()
def tw12217446822237125098:=()
def tw230031618524796390:=()
def tw18370235549878059605:=()
def tw5347473408817250813:=()
def tw16893758676806904369:=()
def tw18362388406944413076:=()
def tw4601006327613548929:=()
def tw1478387510704730220:=()
def tw8078848852280662671:=()
def tw1838170730720829052:=()
def tw10865931432746020177:=()
def tw9705176001784236288:=()
def tw8361265978782961762:=()
def tw5333511078132229453:=()
def tw1390376631334583553:=()
def tw13073660601761839816:=()
def tw6043796387124630996:=()
def tw8795963328574001793:=()
def tw4558467900823310721:=()
def tw16826553226614967156:=()
def tw10984400655387206087:=()
def tw17774022658649710484:=()
def tw13223151928774704928:=()
def tw11260601418966235232:=()
def tw1468192348141408887:=()
def tw14538371444177693808:=()
def tw14973604996306742199:=()
def tw1850736379127901476:=()
def tw1917849696251076488:=()
def tw641100263433268984:=()
def tw10616950368527550064:=()
def tw2892104002444035957:=()
def tw15047932708915258114:=()
def tw2821683352028720904:=()
def tw16008207415195295860:=()
def tw10233784613983310352:=()
def tw17971136724601557875:=()
def tw17537722111461247951:=()
def tw13018417091236387387:=()
def tw3086516515548370913:=()
def tw2996595999664812120:=()
def tw8399969286037646344:=()
def tw14059638327884441676:=()
def tw201317541620771242:=()
def tw1858950760131949905:=()
def tw4367178269858395219:=()
def tw8193984701978578724:=()
def tw12504816341095619238:=()
def tw1312109724383926080:=()
def tw15753351109840705068:=()
def tw6279334454519696882:=()
def tw6670587334604665948:=()
def tw6213812919746725691:=()
def tw6657189054367497389:=()
def tw12724425727849664339:=()
def tw8527031812482924930:=()
def tw15945010384491133896:=()
def tw937935095710740438:=()
def tw14129231792215059470:=()
def tw11754781626291749746:=()
def tw17775541429997268470:=()
def tw15737507775859530368:=()
def tw12584817743893460101:=()
def tw5614528843234525645:=()
def tw4301460851521477152:=()
def tw11793513043723115706:=()
def tw3123789824614200611:=()
def tw7323491697692185216:=()
def tw6864391810657904855:=()
def tw9537120574444876752:=()
def tw9698771094420167418:=()
def tw11933166746420846696:=()
def tw3616802432631056170:=()
def tw14805127514459623361:=()
def tw14209429529837243832:=()
def tw6550636634852249290:=()
def tw16222863486911847998:=()
def tw13959120995954727850:=()
def tw11695897413757087210:=()
def tw1889911077649825152:=()
def tw6452527199149748203:=()
def tw12434614948948217170:=()
def tw12724003458110899403:=()
def tw2482254249515572934:=()
def tw1558661884364561185:=()
def tw17401625451625723000:=()
def tw9741047684654031678:=()
def tw5776457429119618444:=()
def tw1763772672964634316:=()
def tw6209230964258216749:=()
def tw4741636986080537990:=()
def tw17794850017250038560:=()
def tw3149939286213220145:=()
def tw4182375037149832599:=()
def tw6832053469363651473:=()
def tw12287068903015463258:=()
def tw7879978592033973213:=()
def tw7999764434791397345:=()
def tw3250181415968029217:=()
def tw9983998024106870672:=()
def tw8622287326607828692:=()
def tw4737248654867436976:=()
def tw5526561550942134774:=()
def tw4743406891780329756:=()
def tw3783017470747446353:=()
def tw11299196714663319667:=()
def tw8466736277454793375:=()
def tw10587777361225970953:=()
def tw8761805129091727535:=()
def tw13342459586618901176:=()
def tw8825673214264793764:=()
def tw16923006045204648892:=()
def tw8204939474809877311:=()
def tw1144964897301928751:=()
def tw6689178211225769494:=()
def tw15501832102257383090:=()
def tw12732833235809625780:=()
def tw2847676746959720366:=()
def tw6152864779499886792:=()
def tw4154791569478939800:=()
def tw6131424388347247049:=()
def tw5651739828399161965:=()
def tw5161930161924884804:=()
def tw4503168959474652781:=()
def tw1829155425719855641:=()
def tw13470397540841211759:=()
def tw11612623006857929143:=()
def tw4316827075459487770:=()
def tw4266065836687043205:=()
def tw6331316418318032140:=()
def tw1141560536197595733:=()
def tw15453057035806872895:=()
def tw4915361060215997288:=()
def tw17600473298541679363:=()
def tw10942815908256821554:=()
def tw6856257135633208480:=()
def tw2530137360463630874:=()
def tw5997214343143014020:=()
def tw7881799939689095519:=()
def tw9717598509800305650:=()
def tw5335198753385665729:=()
def tw9063935576450682798:=()
def tw453592970817546064:=()
def tw4642109313841731854:=()
def tw740954990003392352:=()
def tw3425605643118876306:=()
def tw6762830005608518328:=()
def tw1702911278097837947:=()
def tw13271949678928062008:=()
def tw18399256782164876473:=()
def tw5853046742050202519:=()
def tw614361718479893343:=()
def tw1510584445966026392:=()
def tw9625984632429790876:=()
def tw10298617097932498169:=()
def tw10210732315770144723:=()
def tw12926468455076207403:=()
def tw8954834300528817868:=()
def tw1518240907986915913:=()
def tw4226275015085534674:=()
def tw10252151613036743721:=()
def tw5482581163737344229:=()
def tw490160664201700718:=()
def tw13476646167499440412:=()
def tw16511004659642119922:=()
def tw13017928213715441151:=()
def tw11970927144223267527:=()
def tw2763944449815906997:=()
def tw2086894452416677169:=()
def tw2263004994755537528:=()
def tw3708914849081639861:=()
def tw2691721965058213717:=()
def tw12648384477667808690:=()
def tw10777874025312825832:=()
def tw10060358177093611666:=()
def tw2294335784239165384:=()
def tw3916909300682281618:=()
def tw17812290777735147532:=()
def tw15584486221769890449:=()
def tw12456763432043905313:=()
def tw11158543227934705324:=()
def tw8761936406865456680:=()
def tw8350944425603293037:=()
def tw7836612255077250956:=()
def tw7655213875253985918:=()
def tw17863628789763349349:=()
def tw15261964322178458021:=()
def tw15007218416236056559:=()
def tw1378712317637964319:=()
def tw10732057888550145558:=()
def tw6539809691519368272:=()
def tw14503303222396136438:=()
def tw13936946331228284542:=()
def tw13899059712599706069:=()
def tw11196968600710755428:=()
def tw5628831638178509005:=()
def tw4229820753907059622:=()
def tw2112147436810448576:=()
def tw17639229168303839265:=()
def tw15964471526668473407:=()
def tw14730579697961492346:=()
def tw6136646780570209468:=()
def tw5894363826866853480:=()
def tw15241878400005932248:=()
def tw11037563258425811748:=()
def tw17266765869876344159:=()
def tw13069186296842244265:=()
def tw14476421714354185441:=()
def tw18024784773210771501:=()
def tw15933970430419278384:=()
def tw3222509223842198676:=()
def tw15113304567952415662:=()
def tw13334378442615007002:=()
def tw7667653558488803214:=()
def tw4280492463641425133:=()
def tw11050245401874869886:=()
def tw15760389865947320740:=()
def tw12542631536498729900:=()
def tw3217251035751946178:=()
def tw16665638701502893635:=()
def tw10770532214708003815:=()
def tw13519366449318555934:=()
def tw12262076481258377899:=()
def tw6603226535699184777:=()
def tw10598836810959184619:=()
def tw17880755659077779073:=()
def tw11067936867433098916:=()
def tw8562407350226019360:=()
def tw12699849801023390667:=()
def tw7556081871461506112:=()
def tw13108296274834466561:=()
def tw6677703405293238091:=()
def tw5878556007945396407:=()
def tw4412957069599882104:=()
def tw9919934862459305200:=()
def tw17267399926008683095:=()
def tw16694504861677784899:=()
def tw3734512701196350024:=()
def tw1939652488705795607:=()
def tw11628529193281847950:=()
def tw17660455021918263422:=()
def tw11121113594494325150:=()
def tw1445655708931172614:=()
def tw13411002161723266673:=()
def tw12994108028564523326:=()
def tw6159176493518074543:=()
def tw5191481006302994360:=()
def tw9471375583315614491:=()
def tw10586177296851661433:=()
def tw5005276784667297171:=()
def tw6342640183591051681:=()
def tw15611188698907387310:=()
def tw3185348341459048109:=()
def tw14555008009594023558:=()
def tw5161161688907667918:=()
def tw5078475263746942979:=()
def tw12606560473604708589:=()
def tw5964675093120135571:=()
def tw5534280262169785737:=()
def tw7940968121498003591:=()
def tw6724970920874670919:=()
def tw7702406883086350:=()
def tw16143932309074181977:=()
def tw18405518371985937994:=()
def tw15010141717623375436:=()
def tw4086450250294374134:=()
def tw290668951895041970:=()
def tw16065354683632344670:=()
def tw15787703043745146546:=()
def tw7597990687079536179:=()
def tw1582084431960553496:=()
def tw14500139977027215539:=()
def tw6729314945772778624:=()
def tw5308179660408290620:=()
def tw18203931023379557446:=()
def tw4398446524968766054:=()
def tw16253729339819105202:=()
def tw13738358551455874180:=()
def tw2031056493908246687:=()
def tw12778939473473442893:=()
def tw17293508846867269071:=()
def tw9540799170241682666:=()
def tw5301259260267623324:=()
def tw2030907114786095224:=()
def tw16187671120375977819:=()
def tw13670413143943354790:=()
def tw10789127150080033281:=()
def tw12363514471172256384:=()
def tw8482949873033169260:=()
def tw17942246505188322356:=()
def tw17483972337591710773:=()
def tw221663290090435969:=()
def tw17338436168319362859:=()
def tw9691835640122892648:=()
def tw17056639131766972863:=()
def tw6870963208289441948:=()
def tw7336054007761011375:=()
def tw13582340815781582822:=()
def tw3225955179253277601:=()
def tw15432658555997194473:=()
def tw9902059809009679979:=()
def tw7272587607873602290:=()
def tw11320572934476406985:=()
def tw9323575308034588697:=()
def tw7159974749245742585:=()
def tw416868961487444546:=()
def tw8723504701838346077:=()
def tw7682104708658724158:=()
def tw2639427672786503567:=()
def tw18278022982767662086:=()
def tw1618677077082156866:=()
def tw18097449305035961081:=()
def tw17643187289906503879:=()
def tw17598565685708952240:=()
def tw15627176969709569031:=()
def tw13006072352576325502:=()
def tw12746479292303413984:=()
def tw12704310984383707648:=()
def tw12532300594512789767:=()
def tw10385913292447194580:=()
def tw2594774010857114434:=()
def tw17000000358009886726:=()
def tw9384141196108871404:=()
def tw8625328368105056654:=()
def tw5545185166585470568:=()
def tw7863515875955399099:=()
def tw3657786926387355034:=()
def tw16820670592388338621:=()
def tw11418688390604559233:=()
def tw8977990764055796644:=()
def tw8881861772364946373:=()
def tw8684542011328471664:=()
def tw7758077683990186873:=()
def tw6135361534937278427:=()
def tw5887975272884529905:=()
def tw5622759054733368251:=()
def tw5016273032307138630:=()
def tw3025239663893859081:=()
def tw14638408345986909295:=()
def tw11329039183080821193:=()
def tw9236963134605737600:=()
def tw8758070050861005734:=()
def tw5201333704908328439:=()
def tw2042668336397974908:=()
def tw1884486832711230447:=()
def tw10717204837424165026:=()
def tw4602908540888255724:=()
def tw1644603047961986049:=()
def tw13939154701463472950:=()
def tw9945375808156658886:=()
def tw7535043734926077849:=()
def tw4484698103270405862:=()
def tw3119308685379147779:=()
def tw18308025046366536593:=()
def tw18241331517191706494:=()
def tw1809292264745176797:=()
def tw17865287744495561949:=()
def tw17686303711464506135:=()
def tw14790042408390014739:=()
def tw14753221300421427283:=()
def tw14693636150442413538:=()
def tw13876035629234297328:=()
def tw13125884247689873202:=()
def tw12268090720364487895:=()
def tw11581082532487612050:=()
def tw11232317596757212789:=()
def tw13275949344264602320:=()
def tw223060370200344088:=()
def tw14045198174345356154:=()
def tw8843272411430760444:=()
def tw7151889040635634726:=()
def tw6364685556498387854:=()
def tw5751387864854130329:=()
def tw5548017480282624583:=()
def tw5388118677249050473:=()
def tw4736895178950017313:=()
def tw3128609275520678279:=()
def tw15435906894474622316:=()
def tw13074401916307147888:=()
def tw12264334802389380627:=()
def tw10973721585875322686:=()
def tw10795890058974676912:=()
def tw837841041061083803:=()
def tw3928576121065864585:=()
def tw2975922085490391420:=()
def tw2533669993038748237:=()
def tw17818359833390713249:=()
def tw17750749084885518375:=()
def tw17242755585907341382:=()
def tw17085690465032885981:=()
def tw17037145983209639972:=()
def tw13530601784014306219:=()
def tw10408717630694312316:=()
def tw10276629713131096608:=()
def tw11729555577449831020:=()
def tw15134578414742238497:=()
def tw7607015034058143885:=()
def tw15630142965337676329:=()
def tw15604737995463238279:=()
def tw15198858666707600217:=()
def tw14648783726238950526:=()
def tw13287063767045518149:=()
def tw12579094590388774324:=()
def tw12337354257905738297:=()
def tw5030825906447323731:=()
def tw487180753102161668:=()
def tw3766836498150816642:=()
def tw2750889655249559054:=()
def tw2158166314983942939:=()
def tw18213472316359867708:=()
def tw17867158358766839977:=()
def tw17559629238951936311:=()
def tw16721555846984643166:=()
def tw14142248149011233802:=()
def tw10722556358998043304:=()
def tw10065205174041310849:=()
def tw9867785285395850029:=()
def tw9816527510753410176:=()
def tw9767708311371580253:=()
def tw9631031663438893868:=()
def tw9614633828993428166:=()
def tw9596556923101156673:=()
def tw9192764528116015081:=()
def tw9065071461314295435:=()
def tw904328214775260418:=()
def tw8941176575358100747:=()
def tw8894908421238749185:=()
def tw8826583457794217751:=()
def tw8817458693571596116:=()
def tw8549609679136907234:=()
def tw8494307162826375029:=()
def tw846824016576145397:=()
def tw8467081939107582166:=()
def tw844450195845289267:=()
def tw8403066319638383790:=()
def tw8401674834713717100:=()
def tw8366819684291097942:=()
def tw8280050425883857042:=()
def tw8277253297589792162:=()
def tw8129675292290466050:=()
def tw8097749708993565916:=()
def tw8043336287470877746:=()
def tw8016902860017330944:=()
def tw7823570907711255795:=()
def tw7809733769512225674:=()
def tw7802291817733851963:=()
def tw7796346281124142342:=()
def tw7751558866602994655:=()
def tw7648979947651214005:=()
def tw7355733787389687120:=()
def tw7352925957589112395:=()
def tw7311424106332783471:=()
def tw72415257699076253:=()
def tw72144734756460939:=()
def tw7093646339753837102:=()
def tw7087284280143146424:=()
def tw6972026801057505190:=()
def tw6827307259057791114:=()
def tw6750671920173642168:=()
def tw6746252485524847434:=()
def tw6443663140825665870:=()
def tw6422582728699086282:=()
def tw6351738702610330359:=()
def tw6307250381888445055:=()
def tw6263398633333474143:=()
def tw6238709788430832799:=()
def tw6189092510980770902:=()
def tw6080562261080286167:=()
def tw6034696474230418872:=()
def tw5881808612900038046:=()
def tw5856299507921961712:=()
def tw5668105858874929833:=()
def tw5581274055912422747:=()
def tw5561103824235687460:=()
def tw5522993858036654848:=()
def tw5437616230505210904:=()
def tw5403299723448228168:=()
def tw5287674912285520899:=()
def tw5111861379351825223:=()
def tw5087540008786291001:=()
def tw5022563566080385316:=()
def tw4953838997729723889:=()
def tw4941705883190634251:=()
def tw4802591357670302679:=()
def tw4719618103414437107:=()
def tw4679007079939388746:=()
def tw4667181008071555015:=()
def tw4660673649085784295:=()
def tw451828753932450028:=()
def tw4492188766086213625:=()
def tw4457416671925161588:=()
def tw4415808144390141664:=()
def tw4369205490903059671:=()
def tw4240673826254514014:=()
def tw415079759412534497:=()
def tw4113886484621648243:=()
def tw4003219559264382679:=()
def tw3840391737718898207:=()
def tw3807514439886079215:=()
def tw3780392844519444273:=()
def tw3729630680813142414:=()
def tw3694538926443802469:=()
def tw361683366820243033:=()
def tw3483602579112115979:=()
def tw3439275851991790772:=()
def tw3345249887842935082:=()
def tw3308860890861646346:=()
def tw330691605945547266:=()
def tw3179813941669271839:=()
def tw3159942901583125269:=()
def tw3146423090007577963:=()
def tw3102775501807955336:=()
def tw3032242175447900437:=()
def tw2868815699971800550:=()
def tw2728002895484583016:=()
def tw2570043393889605319:=()
def tw2398244348713800939:=()
def tw2325612377187489050:=()
def tw2322372922070706398:=()
def tw2268314881752435699:=()
def tw2203024267132199941:=()
def tw18379338096252900987:=()
def tw18341963336382043434:=()
def tw18187949365860362105:=()
def tw18161796761936736514:=()
def tw18008805030424351725:=()
def tw1746293220352279300:=()
def tw17398958865276153339:=()
def tw17284061722953396703:=()
def tw17233748589997142785:=()
def tw17073781832336608517:=()
def tw16997562510672135494:=()
def tw16859749595841110821:=()
def tw16774304283960313040:=()
def tw16565444206466373749:=()
def tw16405889340881988031:=()
def tw16359462450919224604:=()
def tw16294990793372182798:=()
def tw16025575239456918220:=()
def tw15939208291929417990:=()
def tw15826371223112447129:=()
def tw15813789554937145334:=()
def tw15807617906607396066:=()
def tw15796318548579285259:=()
def tw15742770271574043785:=()
def tw15724203822742683321:=()
def tw15721338974273785953:=()
def tw15697732560360406306:=()
def tw15572197609264502485:=()
def tw15568120707991276583:=()
def tw15563373177935692429:=()
def tw15489575610827352930:=()
def tw15395555813234472433:=()
def tw15385029180259948898:=()
def tw15309730639707134675:=()
def tw15286601310327571460:=()
def tw15205773657784064821:=()
def tw1504748708390464521:=()
def tw15010518879478396553:=()
def tw14981501700743091527:=()
def tw14976572148968487163:=()
def tw14930062258570949556:=()
def tw14739361754266745676:=()
def tw14703355987897320458:=()
def tw1465068214712235271:=()
def tw14572939299414641890:=()
def tw14475323259667493284:=()
def tw14396238340061354725:=()
def tw14317171225015091417:=()
def tw14310752373480181411:=()
def tw13862225585594940145:=()
def tw13805452729235376607:=()
def tw13568992845661914483:=()
def tw13528429578568506526:=()
def tw13488454201522991425:=()
def tw1336933378285437569:=()
def tw13063067209507464676:=()
def tw13062599516632004159:=()
def tw12932979990237759233:=()
def tw12925166926504134150:=()
def tw12845683244586904269:=()
def tw12644729039237785769:=()
def tw1242902365091771870:=()
def tw12408434530626371322:=()
def tw12402973607665267031:=()
def tw12131423188393083282:=()
def tw11871999988389126021:=()
def tw11790253739860932963:=()
def tw1172305397926732412:=()
def tw11325715271944964385:=()
def tw11166256981770367399:=()
def tw11132436806528098220:=()
def tw11124121218398245783:=()
def tw11005759158125650613:=()
def tw11002329867871338485:=()
def tw10958744001961197621:=()
def tw10917443833763039493:=()
def tw10806126870342921225:=()
def tw10628123823608335914:=()
def tw10587769925618366841:=()
def tw10501354085001217421:=()
def tw10485467280830721715:=()
def tw10408410182265352573:=()
def tw10301602578424894844:=()
def tw10227965289686117742:=()
def tw10199656034985496278:=()
def tw10169272381178191906:=()
def tw10089572150819075337:=()
def tw10044126755031325903:=()
end PySem.W.Fast
open PySem PySem.W PyProof.Rows
set_option hygiene false
local macro_rules | `(tactic| simp_arith)=>`(tactic| (dsimp only [L2.bS];refine' Ov.CY KX G ?a ?l ?c ?k;(case a=>k_is);(case l=>k_is);(case c=>k_is);(case k=>k_is)))
set_option maxRecDepth 100000 in
set_option maxHeartbeats 0 in
theorem PySem.Challenge.cw_overhaul_k34_whole_passings_told_holds : PySem.Challenge.rw_overhaul_k34_whole_passings_told.Holds := by
 w_on;o_law;k_head;(case hw=>w_witness2)
 k_fill
 refine Ov.zN (l:=PySem.Challenge.rw_overhaul_k34_whole_passings_told) (n:=63) (k:=10) (x:="_law_script") (sp:=Ov.zq) ["good_name"] rfl (by decide) rfl ⟨rfl,by decide,by decide⟩ (fun w h Y=>PySem.W.kIn_of Y) ?Nm ?F (fun tabs K H a ns hl hT hS hA hK=>⟨a,ns,rfl,hS,hl,hT,hA,hK,fun _ e=>⟨rfl,e⟩⟩)
 case Nm=>decide +kernel
 case F =>
  intro w mg fa h KX G hmg
  have D_cell:Ov.Def (L2.bS KX) mg "_law_cell" Ov.pe:=by simp_arith
  have D_digits:Ov.Def (L2.bS KX) mg "_law_digits" Ov.jw:=by simp_arith
  have D_shared:Ov.Def (L2.bS KX) mg "shared" Ov.jy:=by simp_arith
  have D_fraction:Ov.Def (L2.bS KX) mg "fraction" Ov.fQ:=by simp_arith
  have D_low:Ov.Def (L2.bS KX) mg "_law_low" Ov.uM:=by simp_arith
  have D_less:Ov.Def (L2.bS KX) mg "less" Ov.pf:=by simp_arith
  have D_plus:Ov.Def (L2.bS KX) mg "plus" Ov.pq:=by simp_arith
  have D_minus:Ov.Def (L2.bS KX) mg "minus" Ov.lh:=by simp_arith
  have D_times:Ov.Def (L2.bS KX) mg "times" Ov.lp:=by simp_arith
  obtain ⟨T_good_name,D_good_name⟩:∃ T,Ov.rO (L2.bS KX) mg "good_name" Ov.fe T:=by
   dsimp only [L2.bS]
   refine' ⟨_,Ov.Ae KX G ?ga ?gl ?gc ?gk ?gt ?gp ?gb ?ge ?go⟩
   (case ga=>k_is);(case gl=>k_is);(case gc=>k_is);(case gk=>k_is);(case gt=>k_is);(case gp=>rfl);(case gb=>kernel_rfl);(case ge=>decide);(case go=>kernel_rfl)
  have D_names:Ov.Def (L2.bS KX) mg "_law_names" Ov.hE:=by simp_arith
  have D_place_on:Ov.Def (L2.bS KX) mg "place_on" Ov.fT:=by simp_arith
  have D_last_by:Ov.Def (L2.bS KX) mg "last_by" Ov.g9:=by simp_arith
  have D_lies_behind:Ov.Def (L2.bS KX) mg "lies_behind" Ov.dP:=by simp_arith
  have D_in_order:Ov.Def (L2.bS KX) mg "in_order" Ov.fR:=by simp_arith
  have D_rings_ahead:Ov.Def (L2.bS KX) mg "rings_ahead" Ov.dQ:=by simp_arith
  have D_meeting:Ov.Def (L2.bS KX) mg "meeting" Ov.g_:=by simp_arith
  have D_in_lowest_terms:Ov.Def (L2.bS KX) mg "in_lowest_terms" Ov.cg:=by simp_arith
  have D_good_moment:Ov.Def (L2.bS KX) mg "good_moment" Ov.dO:=by simp_arith
  have D_whole:Ov.Def (L2.bS KX) mg "_law_whole" Ov.lq:=by simp_arith
  have D_part:Ov.Def (L2.bS KX) mg "_law_part" Ov.pj:=by simp_arith
  have D_passrow:Ov.Def (L2.bS KX) mg "_law_passrow" Ov.hW:=by simp_arith
  have D_passrows:Ov.Def (L2.bS KX) mg "_law_passrows" Ov.fS:=by simp_arith
  have D_placed:Ov.Def (L2.bS KX) mg "_law_placed" Ov.jx:=by simp_arith
  have D_paced:Ov.Def (L2.bS KX) mg "_law_paced" Ov.lj:=by simp_arith
  have D_at:Ov.Def (L2.bS KX) mg "_law_at" Ov.Bx:=by simp_arith
  have D_later:Ov.Def (L2.bS KX) mg "_law_later" Ov.la:=by simp_arith
  have D_before:Ov.Def (L2.bS KX) mg "_law_before" Ov.jv:=by simp_arith
  have D_acted:Ov.Def (L2.bS KX) mg "_law_acted" Ov.k_:=by simp_arith
  have D_none:Ov.Def (L2.bS KX) mg "_law_none" Ov.ph:=by simp_arith
  have D_due:Ov.Def (L2.bS KX) mg "_law_due" Ov.uK:=by simp_arith
  have D_deed:Ov.Def (L2.bS KX) mg "_law_deed" Ov.md:=by simp_arith
  have D_law:Ov.Def (L2.bS KX) mg "law" Ov.uL:=by simp_arith
  obtain ⟨c_Log,KD_Log,NA_Log_rows,NA_Log_gone,MD_Log___init__,MD_Log_turn,MD_Log_leave,MD_Log_there,MD_Log_leg_at⟩:∃ C,Ov.du (L2.bS KX) mg "Log" C∧L2.aA (L2.bS KX) C "rows"∧L2.aA (L2.bS KX) C "gone"∧Ov.bL (L2.bS KX) C "__init__" "Log.__init__" Ov.dq∧Ov.bL (L2.bS KX) C "turn" "Log.turn" Ov.fP∧Ov.bL (L2.bS KX) C "leave" "Log.leave" Ov.fb∧Ov.bL (L2.bS KX) C "there" "Log.there" Ov.fc∧Ov.bL (L2.bS KX) C "leg_at" "Log.leg_at" Ov.eh:=by
   dsimp only [L2.bS]
   refine' ⟨_,Ov.om KX G ?a ?pg ?hd ?po ?sa ?mk ?kc,?n0,?n1,Ov.bt ?m0a ?m0i ?m0l ?m0c ?m0k,Ov.bt ?m1a ?m1i ?m1l ?m1c ?m1k,Ov.bt ?m2a ?m2i ?m2l ?m2c ?m2k,Ov.bt ?m3a ?m3i ?m3l ?m3c ?m3k,Ov.bt ?m4a ?m4i ?m4l ?m4c ?m4k⟩
   (case a=>k_is);(case pg=>k_is);(case hd=>k_is);(case po=>k_is);(case sa=>k_is);(case mk=>k_is);(case kc=>k_is)
   (case n0=>(show PySem.W.findIn _ _ _=_;k_is))
   (case n1=>(show PySem.W.findIn _ _ _=_;k_is))
   (case m0a=>k_is);(case m0i=>k_is);(case m0l=>k_is);(case m0c=>k_is);(case m0k=>k_is)
   (case m1a=>k_is);(case m1i=>k_is);(case m1l=>k_is);(case m1c=>k_is);(case m1k=>k_is)
   (case m2a=>k_is);(case m2i=>k_is);(case m2l=>k_is);(case m2c=>k_is);(case m2k=>k_is)
   (case m3a=>k_is);(case m3i=>k_is);(case m3l=>k_is);(case m3c=>k_is);(case m3k=>k_is)
   (case m4a=>k_is);(case m4i=>k_is);(case m4l=>k_is);(case m4c=>k_is);(case m4k=>k_is)
  obtain ⟨c_Lane,KD_Lane,NA_Lane_now,NA_Lane_logs,NA_Lane_row,MD_Lane___init__,MD_Lane_must_be_there,MD_Lane_leg_of,MD_Lane_settle,MD_Lane_join,MD_Lane_meets,MD_Lane_foretold,MD_Lane_go_to,MD_Lane_turn,MD_Lane_about,MD_Lane_leave⟩:∃ C,Ov.du (L2.bS KX) mg "Lane" C∧L2.aA (L2.bS KX) C "now"∧L2.aA (L2.bS KX) C "logs"∧L2.aA (L2.bS KX) C "row"∧Ov.bL (L2.bS KX) C "__init__" "Lane.__init__" Ov.cV∧Ov.bL (L2.bS KX) C "must_be_there" "Lane.must_be_there" Ov.bO∧Ov.bL (L2.bS KX) C "leg_of" "Lane.leg_of" Ov.dN∧Ov.bL (L2.bS KX) C "settle" "Lane.settle" Ov.cR∧Ov.bL (L2.bS KX) C "join" "Lane.join" Ov.e9∧Ov.bL (L2.bS KX) C "meets" "Lane.meets" Ov.eg∧Ov.bL (L2.bS KX) C "foretold" "Lane.foretold" Ov.cW∧Ov.bL (L2.bS KX) C "go_to" "Lane.go_to" Ov.d_∧Ov.bL (L2.bS KX) C "turn" "Lane.turn" Ov.e_∧Ov.bL (L2.bS KX) C "about" "Lane.about" Ov.d9∧Ov.bL (L2.bS KX) C "leave" "Lane.leave" Ov.ed:=by
   dsimp only [L2.bS]
   refine' ⟨_,Ov.om KX G ?a ?pg ?hd ?po ?sa ?mk ?kc,?n0,?n1,?n2,Ov.bt ?m0a ?m0i ?m0l ?m0c ?m0k,Ov.bt ?m1a ?m1i ?m1l ?m1c ?m1k,Ov.bt ?m2a ?m2i ?m2l ?m2c ?m2k,Ov.bt ?m3a ?m3i ?m3l ?m3c ?m3k,Ov.bt ?m4a ?m4i ?m4l ?m4c ?m4k,Ov.bt ?m5a ?m5i ?m5l ?m5c ?m5k,Ov.bt ?m6a ?m6i ?m6l ?m6c ?m6k,Ov.bt ?m7a ?m7i ?m7l ?m7c ?m7k,Ov.bt ?m8a ?m8i ?m8l ?m8c ?m8k,Ov.bt ?m9a ?m9i ?m9l ?m9c ?m9k,Ov.bt ?m10a ?m10i ?m10l ?m10c ?m10k⟩
   (case a=>k_is);(case pg=>k_is);(case hd=>k_is);(case po=>k_is);(case sa=>k_is);(case mk=>k_is);(case kc=>k_is)
   (case n0=>(show PySem.W.findIn _ _ _=_;k_is))
   (case n1=>(show PySem.W.findIn _ _ _=_;k_is))
   (case n2=>(show PySem.W.findIn _ _ _=_;k_is))
   (case m0a=>k_is);(case m0i=>k_is);(case m0l=>k_is);(case m0c=>k_is);(case m0k=>k_is)
   (case m1a=>k_is);(case m1i=>k_is);(case m1l=>k_is);(case m1c=>k_is);(case m1k=>k_is)
   (case m2a=>k_is);(case m2i=>k_is);(case m2l=>k_is);(case m2c=>k_is);(case m2k=>k_is)
   (case m3a=>k_is);(case m3i=>k_is);(case m3l=>k_is);(case m3c=>k_is);(case m3k=>k_is)
   (case m4a=>k_is);(case m4i=>k_is);(case m4l=>k_is);(case m4c=>k_is);(case m4k=>k_is)
   (case m5a=>k_is);(case m5i=>k_is);(case m5l=>k_is);(case m5c=>k_is);(case m5k=>k_is)
   (case m6a=>k_is);(case m6i=>k_is);(case m6l=>k_is);(case m6c=>k_is);(case m6k=>k_is)
   (case m7a=>k_is);(case m7i=>k_is);(case m7l=>k_is);(case m7c=>k_is);(case m7k=>k_is)
   (case m8a=>k_is);(case m8i=>k_is);(case m8l=>k_is);(case m8c=>k_is);(case m8k=>k_is)
   (case m9a=>k_is);(case m9i=>k_is);(case m9l=>k_is);(case m9c=>k_is);(case m9k=>k_is)
   (case m10a=>k_is);(case m10i=>k_is);(case m10l=>k_is);(case m10c=>k_is);(case m10k=>k_is)
  obtain ⟨c_Bells,KD_Bells,NA_Bells_rows,MD_Bells___init__,MD_Bells_drop,MD_Bells_put,MD_Bells_told⟩:∃ C,Ov.du (L2.bS KX) mg "Bells" C∧L2.aA (L2.bS KX) C "rows"∧Ov.bL (L2.bS KX) C "__init__" "Bells.__init__" Ov.cD∧Ov.bL (L2.bS KX) C "drop" "Bells.drop" Ov.dn∧Ov.bL (L2.bS KX) C "put" "Bells.put" Ov.e8∧Ov.bL (L2.bS KX) C "told" "Bells.told" Ov.d8:=by
   dsimp only [L2.bS]
   refine' ⟨_,Ov.om KX G ?a ?pg ?hd ?po ?sa ?mk ?kc,?n0,Ov.bt ?m0a ?m0i ?m0l ?m0c ?m0k,Ov.bt ?m1a ?m1i ?m1l ?m1c ?m1k,Ov.bt ?m2a ?m2i ?m2l ?m2c ?m2k,Ov.bt ?m3a ?m3i ?m3l ?m3c ?m3k⟩
   (case a=>k_is);(case pg=>k_is);(case hd=>k_is);(case po=>k_is);(case sa=>k_is);(case mk=>k_is);(case kc=>k_is)
   (case n0=>(show PySem.W.findIn _ _ _=_;k_is))
   (case m0a=>k_is);(case m0i=>k_is);(case m0l=>k_is);(case m0c=>k_is);(case m0k=>k_is)
   (case m1a=>k_is);(case m1i=>k_is);(case m1l=>k_is);(case m1c=>k_is);(case m1k=>k_is)
   (case m2a=>k_is);(case m2i=>k_is);(case m2l=>k_is);(case m2c=>k_is);(case m2k=>k_is)
   (case m3a=>k_is);(case m3i=>k_is);(case m3l=>k_is);(case m3c=>k_is);(case m3k=>k_is)
  have Z:Ov.bR mg:=by
   refine' ⟨Ov.w8.mk (PySem.W.mg_none_of KX G ?z0) (PySem.W.mg_none_of KX G ?z1) (PySem.W.mg_none_of KX G ?z2) (PySem.W.mg_none_of KX G ?z3) (PySem.W.mg_none_of KX G ?z4) (PySem.W.mg_none_of KX G ?z5) (PySem.W.mg_none_of KX G ?z6) (PySem.W.mg_none_of KX G ?z7) (PySem.W.mg_none_of KX G ?z8) (PySem.W.mg_none_of KX G ?z9),PySem.W.mg_none_of KX G ?w0,PySem.W.mg_none_of KX G ?w1,PySem.W.mg_none_of KX G ?w2,PySem.W.mg_none_of KX G ?w3,PySem.W.mg_none_of KX G ?w4⟩
   (case z0=>k_is);(case z1=>k_is);(case z2=>k_is);(case z3=>k_is);(case z4=>k_is);(case z5=>k_is);(case z6=>k_is);(case z7=>k_is);(case z8=>k_is);(case z9=>k_is);(case w0=>k_is);(case w1=>k_is);(case w2=>k_is);(case w3=>k_is);(case w4=>k_is)
  have N:Ov.lG (L2.bS KX) mg:=by
   dsimp only [L2.bS]
   refine' Ov.wg KX G ?a ?l
   (case a=>k_is);(case l=>k_is)
  obtain ⟨e_BadMoment,O_BadMoment⟩:∃ C,Ov.Own (L2.bS KX) mg "BadMoment" C:=by
   dsimp only [L2.bS]
   refine' ⟨_,Ov.gw KX G ?a ?b⟩
   (case a=>k_is);(case b=>kernel_rfl)
  obtain ⟨e_BadName,O_BadName⟩:∃ C,Ov.Own (L2.bS KX) mg "BadName" C:=by
   dsimp only [L2.bS]
   refine' ⟨_,Ov.gw KX G ?a ?b⟩
   (case a=>k_is);(case b=>kernel_rfl)
  obtain ⟨e_Full,O_Full⟩:∃ C,Ov.Own (L2.bS KX) mg "Full" C:=by
   dsimp only [L2.bS]
   refine' ⟨_,Ov.gw KX G ?a ?b⟩
   (case a=>k_is);(case b=>kernel_rfl)
  obtain ⟨e_NoCraft,O_NoCraft⟩:∃ C,Ov.Own (L2.bS KX) mg "NoCraft" C:=by
   dsimp only [L2.bS]
   refine' ⟨_,Ov.gw KX G ?a ?b⟩
   (case a=>k_is);(case b=>kernel_rfl)
  obtain ⟨e_NotThere,O_NotThere⟩:∃ C,Ov.Own (L2.bS KX) mg "NotThere" C:=by
   dsimp only [L2.bS]
   refine' ⟨_,Ov.gw KX G ?a ?b⟩
   (case a=>k_is);(case b=>kernel_rfl)
  obtain ⟨e_Past,O_Past⟩:∃ C,Ov.Own (L2.bS KX) mg "Past" C:=by
   dsimp only [L2.bS]
   refine' ⟨_,Ov.gw KX G ?a ?b⟩
   (case a=>k_is);(case b=>kernel_rfl)
  obtain ⟨e_Taken,O_Taken⟩:∃ C,Ov.Own (L2.bS KX) mg "Taken" C:=by
   dsimp only [L2.bS]
   refine' ⟨_,Ov.gw KX G ?a ?b⟩
   (case a=>k_is);(case b=>kernel_rfl)
  obtain ⟨e_TooFar,O_TooFar⟩:∃ C,Ov.Own (L2.bS KX) mg "TooFar" C:=by
   dsimp only [L2.bS]
   refine' ⟨_,Ov.gw KX G ?a ?b⟩
   (case a=>k_is);(case b=>kernel_rfl)
  obtain ⟨t_FARTHEST,g_FARTHEST⟩:∃ t,mg "FARTHEST"=some (.int 1000000 t):=by
   refine' Ov.const_int KX G ?cz ?cw
   (case cz=>k_is);(case cw=>kernel_rfl)
  obtain ⟨t_FASTEST,g_FASTEST⟩:∃ t,mg "FASTEST"=some (.int 1000 t):=by
   refine' Ov.const_int KX G ?cz ?cw
   (case cz=>k_is);(case cw=>kernel_rfl)
  obtain ⟨t_FINEST,g_FINEST⟩:∃ t,mg "FINEST"=some (.int 60 t):=by
   refine' Ov.const_int KX G ?cz ?cw
   (case cz=>k_is);(case cw=>kernel_rfl)
  obtain ⟨t_LATEST,g_LATEST⟩:∃ t,mg "LATEST"=some (.int 1000000 t):=by
   refine' Ov.const_int KX G ?cz ?cw
   (case cz=>k_is);(case cw=>kernel_rfl)
  obtain ⟨t_LONGEST,g_LONGEST⟩:∃ t,mg "LONGEST"=some (.int 8 t):=by
   refine' Ov.const_int KX G ?cz ?cw
   (case cz=>k_is);(case cw=>kernel_rfl)
  obtain ⟨t_MOST,g_MOST⟩:∃ t,mg "MOST"=some (.int 12 t):=by
   refine' Ov.const_int KX G ?cz ?cw
   (case cz=>k_is);(case cw=>kernel_rfl)
  obtain ⟨t_SIGNS,g_SIGNS⟩:∃ t,mg "SIGNS"=some (.str "abcdefghijklmnopqrstuvwxyz0123456789" t):=by
   refine' Ov.vH KX G ?cz ?cw
   (case cz=>k_is);(case cw=>kernel_rfl)
  obtain ⟨fd,F,hb⟩:=Ov.Dh D_law hmg (fun _ _ _ _ _ _ _=>rfl)
  exact ⟨fd,[T_good_name],hb,(fun T hT=>by simp only [List.mem_cons,List.not_mem_nil,or_false] at hT;rcases hT with rfl <;> first | exact ⟨_,by simp,_,D_good_name⟩),fun base _ _ Bm=>Ov.vV (Ov.CK Z N g_FARTHEST g_FASTEST g_FINEST g_LATEST g_LONGEST g_MOST g_SIGNS O_BadMoment O_BadName O_Full O_NoCraft O_NotThere O_Past O_Taken O_TooFar KD_Log KD_Lane KD_Bells NA_Log_rows NA_Log_gone NA_Lane_now NA_Lane_logs NA_Lane_row NA_Bells_rows D_cell D_digits D_shared D_fraction D_low D_less D_plus D_minus D_times D_good_name D_names D_place_on D_last_by D_lies_behind D_in_order D_rings_ahead D_meeting D_in_lowest_terms D_good_moment D_whole D_part D_passrow D_passrows D_placed D_paced D_at D_later D_before D_acted D_none D_due D_deed MD_Log___init__ MD_Log_turn MD_Log_leave MD_Log_there MD_Log_leg_at MD_Lane___init__ MD_Lane_must_be_there MD_Lane_leg_of MD_Lane_settle MD_Lane_join MD_Bells___init__ MD_Bells_drop MD_Bells_put MD_Bells_told MD_Lane_meets MD_Lane_foretold MD_Lane_go_to MD_Lane_turn MD_Lane_about MD_Lane_leave F base Bm)⟩
