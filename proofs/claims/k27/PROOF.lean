import PyProof.Rows.All
import Wide.All
import OpenK.AllK
import Wide.FinOn
import Lean
import PyProof.EqAt
import PyProof.EqKinds
import PyProof.TupleCall
import PyProof.NeKinds
import PyProof.CompFree
import PyProof.ListRange
import PyProof.Rows.SortWalk
import PyProof.ExcArgsOwn
import PyProof.ExcAttrAll.ValueError
import KE.KTryMore
import PyProof.GenCompD
import PyProof.StrWalks
import PyProof.ConsumeS
import PyProof.StrOps2
import PyProof.CompMap
import KE.KRevIter
import PyProof.ZipIter
import PyProof.DictWalks
import PyProof.DictCompW
import PyProof.DictRoads
import PyProof.MeetsDictList
import KE.KDictList
import PyProof.EnumFor
import PyProof.EnumMake
import PyProof.WalksEnum
import PySem.Challenge.RW_overhaul_k27_foretold
noncomputable section
set_option compiler.extract_closed false
set_option Elab.async false
set_option linter.all false
set_option maxRecDepth 100000
namespace L2
open PySem PySem.Spec PyProof.Rows
abbrev Key:=Sum Int Str
def Hh:Key→Value→Bool
 | .inl k,v=>Value.isInt k v
 | .inr x,v=>Value.isStrOf x v
def NC (w:World):Key→Int
 | .inl k=>hashInt k
 | .inr x=>hashStr w x
theorem cy:∀ {k:Key} {v:Value},Hh k v=true→(∃ i t,k=Sum.inl i∧v=Value.int i t)∨(∃ x t,k=Sum.inr x∧v=Value.str x t)
 | .inl i,v,h=>by
  obtain ⟨t,e⟩:=Value.isInt_shape (k:=i) (v:=v) h
  exact .inl ⟨i,t,rfl,e⟩
 | .inr x,v,h=>by
  obtain ⟨t,e⟩:=Value.isStrOf_shape (x:=x) (v:=v) h
  exact .inr ⟨x,t,rfl,e⟩
theorem IW (a b:Int):decide ((Sum.inl a:Key)=Sum.inl b)=(a == b):=by
 by_cases e:a=b
 ·subst e;simp
 ·have h:¬ (Sum.inl a:Key)=Sum.inl b:=fun q=>e (Sum.inl.inj q)
  rw [decide_eq_false h]
  exact (beq_eq_false_iff_ne.mpr e).symm
theorem IZ (a b:Str):decide ((Sum.inr a:Key)=Sum.inr b)=decide (a=b):=by
 by_cases e:a=b
 ·subst e;simp
 ·have h:¬ (Sum.inr a:Key)=Sum.inr b:=fun q=>e (Sum.inr.inj q)
  rw [decide_eq_false h,decide_eq_false e]
theorem IX (a:Int) (b:Str):decide ((Sum.inl a:Key)=Sum.inr b)=false:=decide_eq_false (fun q=>nomatch q)
theorem IY (a:Str) (b:Int):decide ((Sum.inr a:Key)=Sum.inl b)=false:=decide_eq_false (fun q=>nomatch q)
def FQ (prog:Program) (w:World):PySem.KeyKind prog w Key where
 is:=Hh
 hash:=NC w
 inj:=fun v a b ha hb=>by
  rcases cy ha with ⟨i,t,rfl,rfl⟩ | ⟨x,t,rfl,rfl⟩
  ·rcases cy hb with ⟨j,u,rfl,e⟩ | ⟨y,u,rfl,e⟩
   ·injection e with e1 _;rw [e1]
   ·exact nomatch e
  ·rcases cy hb with ⟨j,u,rfl,e⟩ | ⟨y,u,rfl,e⟩
   ·exact nomatch e
   ·injection e with e1 _;rw [e1]
 byValue:=fun k v h=>by
  rcases cy h with ⟨i,t,rfl,rfl⟩ | ⟨x,t,rfl,rfl⟩ <;> rfl
 pyHash:=fun hv h=>by
  rcases cy hv with ⟨i,t,rfl,rfl⟩ | ⟨x,t,rfl,rfl⟩
  ·exact wpAny_pyHash_int h
  ·exact wpAny_pyHash_str h
 eqBool:=fun hu hv h=>by
  rcases cy hu with ⟨i,t,rfl,rfl⟩ | ⟨x,t,rfl,rfl⟩
  ·rcases cy hv with ⟨j,u,rfl,rfl⟩ | ⟨y,u,rfl,rfl⟩
   ·rw [IW] at h;exact wpAny_eqBool_int h
   ·rw [IX] at h;exact SeqAt.EqAt.int_str i t y u _ _ _ _ h
  ·rcases cy hv with ⟨j,u,rfl,rfl⟩ | ⟨y,u,rfl,rfl⟩
   ·rw [IY] at h;exact SeqAt.EqAt.str_int x t j u _ _ _ _ h
   ·rw [IZ] at h;exact wpAny_eqBool_str h
 «strs»:=fun k x t v h=>by
  rcases cy h with ⟨i,u,rfl,e⟩ | ⟨y,u,rfl,e⟩
  ·exact nomatch e
  ·injection e with e1 _
   subst e1
   cases v <;> rfl
end L2
namespace L2
open PySem PySem.Spec PyProof.Rows
inductive V where
 | non | bl (b:Bool) | int (i:Int) | str (x:Str) | byt (b:Array UInt8) | flt (b:UInt64) | ref (a:Addr) | ty (n:String)
 deriving DecidableEq
def RelV:V→Value→Prop
 | .non,u=>u=Value.none
 | .bl b,u=>u=Value.bool b
 | .int i,u=>∃ t,u=Value.int i t
 | .str x,u=>∃ t,u=Value.str x t
 | .byt b,u=>∃ t,u=Value.bytes b t
 | .flt b,u=>∃ t,u=Value.float b t
 | .ref a,u=>u=Value.ref a
 | .ty n,u=>u=Value.type n
abbrev Vals:List V→List Value→Prop:=Paired RelV
theorem Vals.length {xs:List V} {us:List Value} (r:Vals xs us):xs.length=us.length:=Paired.length r
theorem Vals.get:∀ {xs:List V} {us:List Value} {i:Nat} {x:V},Vals xs us→xs[i]?=some x→∃ u,us[i]?=some u∧RelV x u
 | _,_,_,_,.nil,e=>by simp at e
 | _,_,0,_,.cons r _,e=>by simp at e;subst e;exact ⟨_,rfl,r⟩
 | _,_,i + 1,x,.cons _ t,e=>by
  obtain ⟨u,h1,h2⟩:=Vals.get (i:=i) (x:=x) t (by simpa using e)
  exact ⟨u,by simpa using h1,h2⟩
theorem Vals.set {x:V} {u:Value} (r:RelV x u):∀ {xs:List V} {us:List Value} (i:Nat),Vals xs us→Vals (xs.set i x) (us.set i u)
 | _,_,_,.nil=>.nil
 | _,_,0,.cons _ t=>.cons r t
 | _,_,i + 1,.cons q t=>.cons q (Vals.set r i t)
theorem Vals.append:∀ {xs ys:List V} {us ws:List Value},Vals xs us→Vals ys ws→Vals (xs ++ ys) (us ++ ws)
 | _,_,_,_,.nil,s=>s
 | _,_,_,_,.cons r t,s=>.cons r (Vals.append t s)
theorem Vals.take:∀ {xs:List V} {us:List Value} (n:Nat),Vals xs us→Vals (xs.take n) (us.take n)
 | _,_,0,_=>.nil
 | _,_,_ + 1,.nil=>.nil
 | _,_,n + 1,.cons r t=>.cons r (Vals.take n t)
theorem Vals.drop:∀ {xs:List V} {us:List Value} (n:Nat),Vals xs us→Vals (xs.drop n) (us.drop n)
 | _,_,0,r=>r
 | _,_,_ + 1,.nil=>.nil
 | _,_,n + 1,.cons _ t=>Vals.drop n t
def rJ:Option V→Option Value→Prop
 | some v,some u=>RelV v u
 | none,none=>True
 | _,_=>False
def KV {κ:Type}:List (κ × V)→List (κ × Value)→Prop:=Paired fun (p:κ × V) (q:κ × Value)=>p.1=q.1∧RelV p.2 q.2
def kV:Key→V
 | .inl i=>.int i
 | .inr x=>.str x
inductive HO where
 | lst (xs:List V)
 | tup (xs:List V)
 | dK (kvs:List (Key × V)) | dE (kvs:List (Str × V)) (ep:Nat)
 | set (S:Int→Bool) (n:Nat)
 | ins (C dx:Addr) (fs:List (Str × V))
 | own (x:Addr)
 | xd (fs:List (Str × V))
 | met (f x:Addr)
 | Kt (lo hi:Int)
 | oJ (o:Obj) (u:HO)
 | tbl (ps:Array Value)
 | ext (φ:Heap→Prop)
abbrev Hp:=Addr→Option HO
def upd (H:Hp) (a:Addr) (o:HO):Hp:=fun b=>if b=a then some o else H b
theorem aJ {H:Hp} {a:Addr} {o:HO}:upd H a o a=some o:=by unfold upd;rw [if_pos rfl]
theorem aQ {H:Hp} {a b:Addr} {o:HO} (h:b≠a):upd H a o b=H b:=by unfold upd;rw [if_neg h]
theorem cg {H:Hp} {a b:Addr} {o:HO} (h:H a=some o) (h':H b=none):a≠b:=by
 intro e;subst e;rw [h] at h';cases h'
section
variable (P:Program) (w:World)
def c9 (H:Hp) (h:Heap) (a:Addr):HO→Prop
 | .lst xs=>xs.length≤sizeLine∧∃ (its:List Value) (n:Nat),Vals xs its∧h.get? a=some { cls:=.type "list",data:=.seq its.toArray n }
 | .tup xs=>xs.length≤sizeLine∧∃ its:List Value,Vals xs its∧IsTup h a its.toArray
 | .dK kvs=>kvs.length≤sizeLine∧(a == sysModules)=false∧∃ vs,KV kvs vs∧h.DictOf (FQ P w) a vs
 | .dE kvs ep=>kvs.length≤sizeLine∧(a == sysModules)=false∧∃ vs,KV kvs vs∧h.DictAt (strKind P w) a vs ep
 | .set S n=>h.SetOf (intKind P w) a S n
 | .ins C dx fs=>H dx=some (.own a)∧fs.length≤1000∧dx≠a∧h.get? a=some (PySem.W.instObj C dx) ∧
   ∃ mA,h.Ns1 dx mA∧(∀ f,rJ (fs.lookup f) (mA f))∧PySem.Within mA (fs.map (·.1))
 | .own _=>∃ o,h.get? a=some o
 | .xd fs=>∃ mA,h.Ns1 a mA∧∀ f,rJ (fs.lookup f) (mA f)
 | .Kt lo hi=>∃ t u v,h.get? a=some { cls:=.type "range",data:=.fields #[.int lo t,.int hi u,.int 1 v] }
 | .oJ o u=>h.get? a=some o∧c9 H h a u
 | .tbl ps=>h.get? a=some { cls:=.none,data:=.fields ps }
 | .met f x=>h.get? a=some (PySem.W.methodObj (.ref f) (.ref x))
 | .ext φ=>φ h∧(∃ o,h.get? a=some o)∧∀ h1 h2:Heap,φ h1→(∀ o,h1.get? a=some o→h2.get? a=some o)→φ h2
def l6 (H:Hp) (h:Heap):Prop:=∀ a o,H a=some o→c9 P w H h a o
end
section
variable {P:Program} {w:World} {H H':Hp} {h h':Heap} {a:Addr} {o:HO}
theorem c9.lt (x:c9 P w H h a o):a < h.objs.size:=by
 cases o with
 | lst xs=>obtain ⟨_,_,_,_,e⟩:=x;exact Heap.lt_size e
 | tup xs=>obtain ⟨_,_,_,p⟩:=x;exact p.lt
 | dK kvs=>obtain ⟨_,_,_,_,o,_,_,e,_⟩:=x;exact Heap.lt_size e
 | dE kvs ep=>obtain ⟨_,_,_,_,o,_,e,_⟩:=x;exact Heap.lt_size e
 | set S n=>obtain ⟨o,_,_,_,e,_⟩:=x;exact Heap.lt_size e
 | ins C dx fs=>obtain ⟨_,_,_,e,_⟩:=x;exact Heap.lt_size e
 | own y=>obtain ⟨_,e⟩:=x;exact Heap.lt_size e
 | xd fs=>obtain ⟨_,⟨_,_,_,e,_⟩,_⟩:=x;exact Heap.lt_size e
 | Kt lo hi=>obtain ⟨_,_,_,e⟩:=x;exact Heap.lt_size e
 | oJ ob u=>obtain ⟨e,_⟩:=x;exact Heap.lt_size e
 | tbl ps=>exact Heap.lt_size (show h.get? a=some _ from x)
 | met f y=>exact Heap.lt_size (show h.get? a=some _ from x)
 | ext φ=>obtain ⟨_,⟨_,e⟩,_⟩:=x;exact Heap.lt_size e
theorem c9.lZ (x:c9 P w H h a o) (k:∀ b u,(b=a∨H b=some (.own a))→h.get? b=some u→h'.get? b=some u)
  (ho:∀ b,H b=some (.own a)→H' b=some (.own a)) (ht:∀ b xs,H b=some (.tup xs)→H' b=some (.tup xs)):c9 P w H' h' a o:=by
 induction o with
 | lst xs=>obtain ⟨z,its,n,r,e⟩:=x;exact ⟨z,its,n,r,k _ _ (.inl rfl) e⟩
 | tup xs=>obtain ⟨z,its,r,ob,e,c⟩:=x;exact ⟨z,its,r,ob,k _ _ (.inl rfl) e,c⟩
 | dK kvs=>obtain ⟨z,y,vs,r,ob,es,ep,e,c⟩:=x;exact ⟨z,y,vs,r,ob,es,ep,k _ _ (.inl rfl) e,c⟩
 | dE kvs ep=>obtain ⟨z,y,vs,r,ob,es,e,c⟩:=x;exact ⟨z,y,vs,r,ob,es,k _ _ (.inl rfl) e,c⟩
 | set S n=>obtain ⟨ob,es,ep,t,e,c⟩:=x;exact ⟨ob,es,ep,t,k _ _ (.inl rfl) e,c⟩
 | ins C dx fs =>
  obtain ⟨d,z,ne,e,mA,⟨od,es,ep,e2,c⟩,r⟩:=x
  exact ⟨ho _ d,z,ne,k _ _ (.inl rfl) e,mA,⟨od,es,ep,k _ _ (.inr d) e2,c⟩,r⟩
 | own y=>obtain ⟨ob,e⟩:=x;exact ⟨ob,k _ _ (.inl rfl) e⟩
 | xd fs=>obtain ⟨mA,⟨od,es,ep,e,c⟩,r⟩:=x;exact ⟨mA,⟨od,es,ep,k _ _ (.inl rfl) e,c⟩,r⟩
 | Kt lo hi=>obtain ⟨t,u,v,e⟩:=x;exact ⟨t,u,v,k _ _ (.inl rfl) e⟩
 | oJ ob u ih=>obtain ⟨e,q⟩:=x;exact ⟨k _ _ (.inl rfl) e,ih q⟩
 | tbl ps =>
  have e:h.get? a=some { cls:=.none,data:=.fields ps }:=x
  show h'.get? a=some { cls:=.none,data:=.fields ps }
  exact k a _ (.inl rfl) e
 | met f y =>
  have e:h.get? a=some (PySem.W.methodObj (.ref f) (.ref y)):=x
  show h'.get? a=some (PySem.W.methodObj (.ref f) (.ref y))
  exact k a _ (.inl rfl) e
 | ext φ=>obtain ⟨p,⟨o,e⟩,st⟩:=x;exact ⟨st _ _ p fun o q=>k _ _ (.inl rfl) q,⟨o,k _ _ (.inl rfl) e⟩,st⟩
theorem l6.lt (x:l6 P w H h) (e:H a=some o):a < h.objs.size:=(x a o e).lt
theorem l6.fresh (x:l6 P w H h) (e:h.objs.size≤a):H a=none:=by
 cases q:H a with
 | none=>rfl
 | some u=>exact absurd (Nat.lt_of_lt_of_le (x.lt q) e) (Nat.lt_irrefl _)
theorem l6.kept (x:l6 P w H h) (k:∀ b u,h.get? b=some u→h'.get? b=some u):l6 P w H h':=fun a o e =>
 (x a o e).lZ (fun b u _ q=>k b u q) (fun _ q=>q) fun _ _ q=>q
theorem l6.laid (x:l6 P w H h) (k:∀ b u,h.get? b=some u→h'.get? b=some u) (hp:h.objs.size≤a) (new:c9 P w (upd H a o) h' a o):l6 P w (upd H a o) h':=fun b u e=>by
 have hn:=x.fresh hp
 by_cases hb:b=a
 ·subst hb;rw [aJ] at e;cases e;exact new
 ·rw [aQ hb] at e
  exact (x b u e).lZ (fun c v _ q=>k c v q) (fun c q=>by rw [aQ (cg q hn)];exact q) fun c xs q=>by rw [aQ (cg q hn)];exact q
end
def Rd (H:Hp) (a:Addr) (u:HO):Prop:=H a=some u∨∃ o,H a=some (.oJ o u)
theorem Rd.ok {P:Program} {w:World} {H:Hp} {h:Heap} {a:Addr} {u:HO} (r:Rd H a u) (x:l6 P w H h):c9 P w H h a u:=by
 rcases r with r | ⟨o,r⟩
 ·exact x a u r
 ·obtain ⟨_,q⟩:=x a _ r
  exact q
def MN:Option HO→Prop
 | some (.lst _)=>True
 | some (.dK _)=>True
 | some (.dE _ _)=>True
 | some (.set _ _)=>True
 | some (.ins _ _ _)=>True
 | some (.ext _)=>True
 | _=>False
section
variable {P:Program} {w:World} {H:Hp} {h h':Heap} {x e:Addr} {o':HO}
theorem l6.write (ok:l6 P w H h) (mu:MN (H x)) (he:e=x∨H e=some (.own x)) (k:∀ b u,b≠e→h.get? b=some u→h'.get? b=some u) (heo:∃ u,h'.get? e=some u)
  (new:c9 P w (upd H x o') h' x o'):l6 P w (upd H x o') h':=fun b u q=>by
 have nown:∀ c y,H c=some (.own y)→c≠x:=fun c y r z=>by subst z;rw [r] at mu;exact mu
 have ntup:∀ c xs,H c=some (.tup xs)→c≠x:=fun c xs r z=>by subst z;rw [r] at mu;exact mu
 by_cases hb:b=x
 ·subst hb;rw [aJ] at q;cases q;exact new
 ·rw [aQ hb] at q
  by_cases hbe:b=e
  ·have q':H b=some (.own x):=by
    rcases he with z | z
    ·exact absurd (hbe.trans z) hb
    ·rw [hbe];exact z
   rw [q] at q';cases q'
   obtain ⟨v,hv⟩:=heo
   exact ⟨v,by rw [hbe];exact hv⟩
  ·refine (ok b u q).lZ (fun c v hc r=>k c v ?_ r) (fun c r=>by rw [aQ (nown c b r)];exact r) fun c xs r=>by rw [aQ (ntup c xs r)];exact r
   rcases hc with rfl | hc
   ·exact hbe
   ·rintro rfl
    rcases he with z | z
    ·exact nown c b hc z
    ·rw [hc] at z;cases z;exact hb rfl
end
structure Un (fs ex:List Addr) (H H':Hp) (h h':Heap):Prop where
 keep:∀ b o,h.get? b=some o→H b=none→b ∉ fs→b ∉ ex→h'.get? b=some o
 slot:∀ b o,h.get? b=some o→H b=none→b∈fs→b ∉ ex→∃ sl,h'.get? b=some { o with slots:=sl }
 free:∀ b o,h.get? b=some o→H b=none→b ∉ ex→H' b=none
 there:∀ b o,h.get? b=some o→b ∉ ex→∃ o',h'.get? b=some o'
 tups:∀ b xs,H b=some (.tup xs)→H' b=some (.tup xs)
 frzs:∀ b o u,H b=some (.oJ o u)→H' b=some (.oJ o u)
 tbls:∀ b ps,H b=some (.tbl ps)→∃ more,H' b=some (.tbl (ps ++ more))
section
variable {fs fs' ex ex':List Addr} {H H1 H2:Hp} {h h1 h2 h':Heap} {a x e:Addr} {o:HO}
theorem Un.any (u:Un fs ex H H1 h h1) {b:Addr} {ob:Obj} (q:h.get? b=some ob) (n:H b=none) (hx:b ∉ ex):∃ sl,h1.get? b=some { ob with slots:=sl }:=by
 by_cases hb:b∈fs
 ·exact u.slot b ob q n hb hx
 ·exact ⟨ob.slots,u.keep b ob q n hb hx⟩
theorem Un.kept (k:∀ b u,h.get? b=some u→h'.get? b=some u):Un fs ex H H h h' :=
 ⟨fun b ob q _ _ _=>k b ob q,fun b ob q _ _ _=>⟨ob.slots,k b ob q⟩,fun _ _ _ n _=>n,fun b ob q _=>⟨ob,k b ob q⟩,fun _ _ q=>q,fun _ _ _ q=>q,fun _ ps q=>⟨#[],by rw [q];simp⟩⟩
theorem Un.refl:Un fs ex H H h h:=Un.kept fun _ _ q=>q
theorem Un.laid (k:∀ b u,h.get? b=some u→h'.get? b=some u) (hp:h.objs.size≤a) (hn:H a=none):Un fs ex H (upd H a o) h h' where
 keep:=fun b u q _ _ _=>k b u q
 slot:=fun b u q _ _ _=>⟨u.slots,k b u q⟩
 free:=fun b u q n _=>by rw [aQ (Nat.ne_of_lt (Nat.lt_of_lt_of_le (Heap.lt_size q) hp))];exact n
 there:=fun b u q _=>⟨u,k b u q⟩
 tups:=fun b xs q=>by rw [aQ (cg q hn)];exact q
 frzs:=fun b u xs q=>by rw [aQ (cg q hn)];exact q
 tbls:=fun b ps q=>⟨#[],by rw [aQ (cg q hn),q];simp⟩
theorem Un.write (mu:MN (H x)) (he:e=x∨H e=some (.own x)) (k:∀ b u,b≠e→h.get? b=some u→h'.get? b=some u) (heo:∃ u,h'.get? e=some u):Un fs ex H (upd H x o) h h':=by
 have hx:∀ b,H b=none→b≠x:=fun b n z=>by subst z;rw [n] at mu;exact mu
 have hb:∀ b,H b=none→b≠e:=fun b n z=>by
  subst z
  rcases he with r | r
  ·exact hx b n r
  ·rw [n] at r;cases r
 have hm:∀ b u,H b=some u→¬ MN (some u)→b≠x:=fun b u q nm z=>by subst z;rw [q] at mu;exact nm mu
 refine ⟨fun b u q n _ _=>k b u (hb b n) q,fun b u q n _ _=>⟨u.slots,k b u (hb b n) q⟩,fun b u q n _=>by rw [aQ (hx b n)];exact n,fun b u q _=>?_,
  fun b xs q=>by rw [aQ (hm b _ q fun z=>z)];exact q,fun b u xs q=>by rw [aQ (hm b _ q fun z=>z)];exact q,fun b ps q=>⟨#[],by rw [aQ (hm b _ q fun z=>z),q];simp⟩⟩
 by_cases hbe:b=e
 ·subst hbe;exact heo
 ·exact ⟨u,k b u hbe q⟩
end
def M3 (h:Heap) (H:Hp):List Addr:=(List.range h.objs.size).filter fun a=>(H a).isSome
def rL (h:Heap) (H:Hp):Heap:=PySem.W.hideAll h (M3 h H)
theorem Bq (h:Heap) (H:Hp):(rL h H).objs.size=h.objs.size:=PySem.W.hideAll_size _ _
theorem C6 {h:Heap} {H:Hp} {b:Addr} {o:Obj} (e:h.get? b=some o) (n:H b=none):(rL h H).get? b=some o :=
 PySem.W.hideAll_get _ e fun hm=>by
  have q:(H b).isSome=true:=(List.mem_filter.mp hm).2
  rw [n] at q;simp at q
theorem FZ {h:Heap} {H:Hp} {b:Addr} {o:Obj} (e:(rL h H).get? b=some o):h.get? b=some o∧H b=none:=by
 have e':h.get? b=some o:=PySem.W.of_hideAll (M3 h H) e
 refine ⟨e',?_⟩
 cases q:H b with
 | none=>rfl
 | some x =>
  have hm:b∈M3 h H:=List.mem_filter.mpr ⟨List.mem_range.mpr (Heap.lt_size e'),by simp [q]⟩
  have z:(rL h H).get? b=none:=PySem.W.hideAll_none (M3 h H) hm
  rw [z] at e;cases e
def Fm (g h:Heap) (L:Addr):List (Addr × Obj):=(List.range h.objs.size).filterMap fun a=>if a=L∨(g.get? a).isSome=true then none else (h.get? a).map fun o=>(a,o)
def rest (g h:Heap) (L d:Addr):List (Addr × Obj):=(Fm g h L).filter fun p=>decide (p.1≠d)
end L2
namespace L2
open PySem PySem.Spec PyProof.Rows
structure Mod (K:PySem.W.Frag) (mg:Str→Option Value) (base:Heap):Prop where
 kin:K.In base
 glob:base.Ns mainGlobals mg
 blt:∃ mb,base.Ns builtinsNs mb∧∀ x:Str,x≠"__name__"→mb x=bootBuiltins x
 nolimit:base.NoLimit
structure Cx where
 prog:Program
 w:World
 K:PySem.W.Frag
 mg:Str→Option Value
 base:Heap
 A:Around
 N:List Str
 s₀:Shared
 H₀:Hp
 env:Env
 outer:List Env
 stack:List Env
 ex:List Addr
 fn:Str→Bool
 calm:Bool
 pn:List (Addr × Obj)
 xe:Value→Shared→Prop
def jN (l:List Env):List Addr:=l.filterMap (·.frame)
abbrev Cx.fs (X:Cx):List Addr:=jN X.outer
def vS (sc:Scope) (x:Str):Prop:=sc.names.lookup x=some .local∨sc.names.lookup x=some .cell∨sc.names.lookup x=some .free
def Loc (sc:Scope) (x:Str):Prop:=sc.names.lookup x=some .local∨sc.names.lookup x=some .cell
def Look (env:Env) (h:Heap) (m:Str→Option Value) (x:Str) (u:Value):Prop :=
 (env.kindOf x=some .local∧m x=some u)∨((env.kindOf x=some .cell∨env.kindOf x=some .free)∧∃ c,env.cells.lookup x=some c∧h.IsCell c (some u))
structure Cx.Ok (X:Cx):Prop where
 mod:Mod X.K X.mg X.base
 kind:X.env.scope.kind=.function
 glob:X.env.globals=mainGlobals
 blt:X.env.builtins=builtinsNs
 above:X.s₀.heap.objs.size≤X.env.locals
 inj:∀ x y c,X.env.cells.lookup x=some c→X.env.cells.lookup y=some c→x=y
 has:∀ x,(X.env.kindOf x=some .cell∨X.env.kindOf x=some .free)→∃ c,X.env.cells.lookup x=some c
 cab:∀ x c,X.fn x=true→X.env.cells.lookup x=some c→X.s₀.heap.objs.size≤c
 hd:X.calm=true→X.A.handled=none
 frames:X.A.frames=some X.stack
 stk:X.stack=X.outer∨(X.stack=X.env :: X.outer∧X.env.frame=some X.env.locals)
 exf:∀ b∈X.ex,b≠X.env.locals∧∀ x c,X.env.cells.lookup x=some c→c≠b
 bs:∀ b o,X.base.get? b=some o→X.s₀.heap.get? b=some o∧X.H₀ b=none
 bsz:X.base.objs.size≤X.s₀.heap.objs.size
 noex:∀ b o,X.base.get? b=some o→b ∉ X.ex
 exfs:∀ b∈X.ex,b ∉ X.fs
 nG:X.s₀.heap.FunFrames X.base X.outer
 frf:∀ b∈X.fs,X.H₀ b=none
structure Inv (X:Cx) (pins:List (Addr × Obj)) (σ:List (Option V)) (H:Hp) (s:Shared):Prop where
 ok:X.Ok
 os:s.os=X.s₀.os
 bare:AllBare s.gens
 base:Un X.fs X.ex X.H₀ H X.s₀.heap s.heap
 loc:∃ m,s.heap.Ns X.env.locals m∧∀ (i:Nat) (x:Str) (v:V),X.N[i]?=some x→σ[i]?=some (some v)→vS X.env.scope x→∃ u,RelV v u∧Look X.env s.heap m x u
 cell:∀ x c,X.env.cells.lookup x=some c→∃ v,s.heap.IsCell c v
 free:H X.env.locals=none
 freeC:∀ x c,X.env.cells.lookup x=some c→H c=none
 pin:∀ p∈X.pn ++ pins,s.heap.get? p.1=some p.2∧H p.1=none∧p.1≠X.env.locals∧p.1 ∉ X.fs∧∀ v,p.2.data≠.cell v
 hok:l6 X.prog X.w H s.heap
 len:σ.length=X.N.length
section
variable {X:Cx} {pins:List (Addr × Obj)} {σ:List (Option V)} {H H':Hp} {s:Shared} {h':Heap}
theorem Cx.Ok.NP (ok:X.Ok) {b:Addr} {o:Obj} (e:X.base.get? b=some o):b ∉ X.fs:=fun hb=>by
 have:=(ok.nG.mem hb).1
 rw [e] at this;cases this
theorem Inv.bs (I:Inv X pins σ H s):∀ b o,X.base.get? b=some o→s.heap.get? b=some o∧H b=none:=fun b o e =>
 ⟨I.base.keep b o (I.ok.bs b o e).1 (I.ok.bs b o e).2 (I.ok.NP e) (I.ok.noex b o e),I.base.free b o (I.ok.bs b o e).1 (I.ok.bs b o e).2 (I.ok.noex b o e)⟩
theorem Inv.bk (I:Inv X pins σ H s):∀ b o,X.base.get? b=some o→s.heap.get? b=some o:=fun b o e=>(I.bs b o e).1
theorem Inv.mod (I:Inv X pins σ H s):Mod X.K X.mg X.base:=I.ok.mod
theorem Inv.mx (I:Inv X pins σ H s):X.K.In s.heap:=I.ok.mod.kin.keeps I.bk
theorem Inv.nolimit (I:Inv X pins σ H s):s.heap.NoLimit:=I.ok.mod.nolimit.keeps I.bk
theorem Inv.fr (I:Inv X pins σ H s):∃ m,Fr X.base X.env.locals s.heap m :=
 let ⟨m,hn,_⟩:=I.loc
 ⟨m,hn,I.bk,Nat.le_trans I.ok.bsz I.ok.above⟩
theorem Inv.lt (I:Inv X pins σ H s):X.env.locals < s.heap.objs.size:=let ⟨_,hn,_⟩:=I.loc;hn.lt
theorem Inv.sz (I:Inv X pins σ H s):X.s₀.heap.objs.size≤s.heap.objs.size:=Nat.le_trans I.ok.above (Nat.le_of_lt I.lt)
theorem Inv.NQ (I:Inv X pins σ H s) {a:Addr} (h:s.heap.objs.size≤a):a ∉ X.fs:=fun hb=>by
 obtain ⟨_,o,ho,_⟩:=I.ok.nG.mem hb
 exact absurd (Nat.lt_of_lt_of_le (Heap.lt_size ho) (Nat.le_trans I.sz h)) (Nat.lt_irrefl _)
theorem Inv.IB (I:Inv X pins σ H s):∀ x c,X.env.cells.lookup x=some c→c≠X.env.locals:=fun x c e z=>by
 obtain ⟨v,o,ho,hd⟩:=I.cell x c e
 obtain ⟨m,⟨o',es,ep,ho',hd',_⟩,_⟩:=I.loc
 rw [z,ho'] at ho;cases ho;rw [hd'] at hd;cases hd
theorem Inv.nG (I:Inv X pins σ H s):s.heap.FunFrames X.base X.outer:=by
 have all:∀ (l:List Env),(∀ b∈jN l,b∈X.fs)→X.s₀.heap.FunFrames X.base l→s.heap.FunFrames X.base l:=by
  intro l
  induction l with
  | nil=>intro _ _;trivial
  | cons env r ih =>
   intro hs hl
   obtain ⟨hk,⟨L,o,hf,hn,ho,hd⟩,hr⟩:=hl
   have hL:L∈X.fs:=hs L (by unfold jN;rw [List.filterMap_cons,hf];exact List.mem_cons_self)
   obtain ⟨sl,e⟩:=I.base.slot L o ho (I.ok.frf L hL) hL fun z=>I.ok.exfs L z hL
   exact ⟨hk,⟨L,_,hf,hn,e,hd⟩,ih (fun b hb=>hs b (by unfold jN;rw [List.filterMap_cons,hf];exact List.mem_cons_of_mem _ hb)) hr⟩
 exact all X.outer (fun _ hb=>hb) I.ok.nG
theorem Inv.stack (I:Inv X pins σ H s):s.heap.FunFrames X.base X.stack:=by
 rcases I.ok.stk with e | ⟨e,hf⟩
 ·rw [e];exact I.nG
 ·rw [e]
  obtain ⟨m,hn,_⟩:=I.loc
  refine .cons (by rw [I.ok.kind];decide) hf hn ?_ I.nG
  exact Heap.get?_none_of_le (Nat.le_trans I.ok.bsz I.ok.above)
theorem Inv.l3 (I:Inv X pins σ H s):∀ b∈jN X.stack,b∈X.env.locals :: X.fs:=fun b hb=>by
 rcases I.ok.stk with e | ⟨e,hf⟩
 ·rw [e] at hb;exact List.mem_cons_of_mem _ hb
 ·rw [e] at hb
  unfold jN at hb
  rw [List.filterMap_cons,hf] at hb
  exact hb
theorem Inv.vE (I:Inv X pins σ H s):∀ b∈jN X.stack,H b=none:=fun b hb=>by
 rcases List.mem_cons.mp (I.l3 b hb) with e | hb
 ·rw [e];exact I.free
 ·obtain ⟨_,o,ho,_⟩:=I.ok.nG.mem hb
  exact I.base.free b o ho (I.ok.frf b hb) fun z=>I.ok.exfs b z hb
theorem Inv.step {g':Array GenState} {t':Nat} {d':Drawn} {ch:List Addr} (I:Inv X pins σ H s)
  (hch:∀ b∈ch,(b∈X.ex∨X.s₀.heap.objs.size≤b)∧b≠X.env.locals∧(∀ x c,X.env.cells.lookup x=some c→c≠b)∧∀ p∈X.pn ++ pins,p.1≠b)
  (keep:∀ b o,b≠X.env.locals→b ∉ X.fs→b ∉ ch→s.heap.get? b=some o→H b=none→h'.get? b=some o)
  (slot:∀ b o,b≠X.env.locals→b∈X.fs→b ∉ ch→s.heap.get? b=some o→H b=none→∃ sl,h'.get? b=some { o with slots:=sl }) (free:∀ b o,b ∉ ch→s.heap.get? b=some o→H b=none→H' b=none)
  (there:∀ b o,b ∉ ch→s.heap.get? b=some o→∃ o',h'.get? b=some o')
  (tups:∀ b xs,H b=some (.tup xs)→H' b=some (.tup xs)) (frzs:∀ b o u,H b=some (.oJ o u)→H' b=some (.oJ o u)) (tbls:∀ b ps,H b=some (.tbl ps)→∃ more,H' b=some (.tbl (ps ++ more)))
  (ns:∀ m,s.heap.Ns X.env.locals m→h'.Ns X.env.locals m) (hok:l6 X.prog X.w H' h') (hg:AllBare g') :
  Inv X pins σ H' { s with heap:=h',gens:=g',drawn:=d',toks:=t' }:=by
 have neL:∀ b o,X.s₀.heap.get? b=some o→b≠X.env.locals:=fun b o e=>Nat.ne_of_lt (Nat.lt_of_lt_of_le (Heap.lt_size e) I.ok.above)
 have neC:∀ b o,X.s₀.heap.get? b=some o→b ∉ X.ex→b ∉ ch:=fun b o e hx hb=>by
  rcases (hch b hb).1 with z | z
  ·exact hx z
  ·exact absurd (Nat.lt_of_lt_of_le (Heap.lt_size e) z) (Nat.lt_irrefl _)
 have cellK:∀ x c,X.env.cells.lookup x=some c→∀ v,s.heap.IsCell c v→h'.IsCell c v:=fun x c e v ⟨o,ho,hd⟩=>by
  have nch:c ∉ ch:=fun z=>(hch c z).2.2.1 x c e rfl
  by_cases hc:c∈X.fs
  ·obtain ⟨sl,q⟩:=slot c o (I.IB x c e) hc nch ho (I.freeC x c e)
   exact ⟨_,q,hd⟩
  ·exact ⟨o,keep c o (I.IB x c e) hc nch ho (I.freeC x c e),hd⟩
 refine ⟨I.ok,I.os,hg,⟨fun b o e n hb hx=>?_,fun b o e n hb hx=>?_,fun b o e n hx=>?_,fun b o e hx=>?_,fun b xs e=>tups b xs (I.base.tups b xs e),fun b o xs e=>frzs b o xs (I.base.frzs b o xs e),fun b ps e=>?_⟩,?_,fun x c e=>?_,?_,fun x c e=>?_,fun p hp=>?_,hok,I.len⟩
 ·exact keep b o (neL b o e) hb (neC b o e hx) (I.base.keep b o e n hb hx) (I.base.free b o e n hx)
 ·obtain ⟨sl,e1⟩:=I.base.slot b o e n hb hx
  obtain ⟨sl',e2⟩:=slot b _ (neL b o e) hb (neC b o e hx) e1 (I.base.free b o e n hx)
  exact ⟨sl',e2⟩
 ·obtain ⟨o',e1⟩:=I.base.there b o e hx
  exact free b o' (neC b o e hx) e1 (I.base.free b o e n hx)
 ·obtain ⟨o',e1⟩:=I.base.there b o e hx
  exact there b o' (neC b o e hx) e1
 ·obtain ⟨m1,e1⟩:=I.base.tbls b ps e
  obtain ⟨m2,e2⟩:=tbls b _ e1
  exact ⟨m1 ++ m2,by rw [e2,Array.append_assoc]⟩
 ·obtain ⟨m,hn,hl⟩:=I.loc
  refine ⟨m,ns m hn,fun i x v e1 e2 e3=>?_⟩
  obtain ⟨u,r,l⟩:=hl i x v e1 e2 e3
  refine ⟨u,r,?_⟩
  rcases l with l | ⟨k,c,e,z⟩
  ·exact .inl l
  ·exact .inr ⟨k,c,e,cellK x c e _ z⟩
 ·obtain ⟨v,z⟩:=I.cell x c e
  exact ⟨v,cellK x c e v z⟩
 ·obtain ⟨m,⟨o,_,_,ho,_⟩,_⟩:=I.loc
  exact free _ o (fun z=>(hch _ z).2.1 rfl) ho I.free
 ·obtain ⟨v,o,ho,hd⟩:=I.cell x c e
  exact free c o (fun z=>(hch c z).2.2.1 x c e rfl) ho (I.freeC x c e)
 ·obtain ⟨e,n,ne,nf,d⟩:=I.pin p hp
  have nch:p.1 ∉ ch:=fun z=>(hch p.1 z).2.2.2 p hp rfl
  exact ⟨keep p.1 p.2 ne nf nch e n,free p.1 p.2 nch e n,ne,nf,d⟩
theorem Inv.un {t':Nat} (I:Inv X pins σ H s) (u:Un X.fs [] H H' s.heap h') (hok:l6 X.prog X.w H' h'):Inv X pins σ H' { s with heap:=h',toks:=t' }:=by
 obtain ⟨m,⟨o,es,ep,ho,r⟩,_⟩:=id I.loc
 obtain ⟨sl,hL⟩:=u.any ho I.free (by simp)
 exact I.step (g':=s.gens) (d':=s.drawn) (ch:=[]) (fun _ z=>nomatch z) (fun b o _ hb _ e n=>u.keep b o e n hb (by simp)) (fun b o _ hb _ e n=>u.slot b o e n hb (by simp)) (fun b o _ e n=>u.free b o e n (by simp)) (fun b o _ e=>u.there b o e (by simp)) u.tups u.frzs u.tbls (fun m' hm=>by
  obtain ⟨o',es',ep',ho',r'⟩:=hm
  rw [ho] at ho';cases ho'
  exact ⟨_,es',ep',hL,r'⟩) hok I.bare
theorem Inv.call {g':Array GenState} {t':Nat} {d':Drawn} {ch:List Addr} (I:Inv X pins σ H s) (u:Un (jN X.stack) ch H H' s.heap h') (hok:l6 X.prog X.w H' h') (hg:AllBare g')
  (hch:∀ b∈ch,(b∈X.ex∨X.s₀.heap.objs.size≤b)∧b≠X.env.locals∧(∀ x c,X.env.cells.lookup x=some c→c≠b)∧∀ p∈X.pn ++ pins,p.1≠b) :
  Inv X pins σ H' { s with heap:=h',gens:=g',drawn:=d',toks:=t' }:=by
 obtain ⟨m,⟨o,es,ep,ho,r⟩,_⟩:=id I.loc
 obtain ⟨sl,hL⟩:=u.any ho I.free fun z=>(hch _ z).2.1 rfl
 exact I.step (ch:=ch) hch (fun b o hL hb hc e n=>u.keep b o e n (fun z=>(List.mem_cons.mp (I.l3 b z)).elim hL hb) hc) (fun b o _ _ hc e n=>u.any e n hc) (fun b o hc e n=>u.free b o e n hc) (fun b o hc e=>u.there b o e hc) u.tups u.frzs u.tbls (fun m' hm=>by
  obtain ⟨o',es',ep',ho',r'⟩:=hm
  rw [ho] at ho';cases ho'
  exact ⟨_,es',ep',hL,r'⟩) hok hg
theorem Inv.turned {t':Nat} {it:Addr} (I:Inv X pins σ H s) (k:∀ b o,b≠it→s.heap.get? b=some o→h'.get? b=some o) (hn:H it=none) (hL:it≠X.env.locals)
  (h1:it∈X.ex∨X.s₀.heap.objs.size≤it) (h2:∀ x c,X.env.cells.lookup x=some c→c≠it) (h3:∀ p∈X.pn ++ pins,p.1≠it):Inv X pins σ H { s with heap:=h',toks:=t' }:=by
 have nit:∀ b u,H b=some u→b≠it:=fun b u e z=>by rw [z,hn] at e;cases e
 refine I.step (g':=s.gens) (d':=s.drawn) (ch:=[it]) (fun b hb=>?_) (fun b o _ _ hc e _=>k b o (fun z=>hc (by simp [z])) e) (fun b o _ _ hc e _=>⟨o.slots,k b o (fun z=>hc (by simp [z])) e⟩) (fun _ _ _ _ n=>n)
  (fun b o hc e=>⟨o,k b o (fun z=>hc (by simp [z])) e⟩) (fun _ _ e=>e) (fun _ _ _ e=>e) (fun b ps e=>⟨#[],by rw [e];simp⟩) (fun m hm=>?_) (fun b u e=>?_) I.bare
 ·have e:b=it:=by simpa using hb
  subst e
  exact ⟨h1,hL,h2,h3⟩
 ·obtain ⟨o,es,ep,ho,r⟩:=hm
  exact ⟨o,es,ep,k _ o (Ne.symm hL) ho,r⟩
 ·refine (I.hok b u e).lZ (fun c v hc q=>k c v ?_ q) (fun _ q=>q) fun _ _ q=>q
  rcases hc with z | z
  ·rw [z];exact nit b u e
  ·exact nit c _ z
theorem Inv.tok (I:Inv X pins σ H s) (t:Nat):Inv X pins σ H { s with toks:=t }:=I.un (h':=s.heap) (t':=t) Un.refl I.hok
theorem Inv.kept {t':Nat} (I:Inv X pins σ H s) (k:∀ b u,s.heap.get? b=some u→h'.get? b=some u):Inv X pins σ H { s with heap:=h',toks:=t' }:=I.un (Un.kept k) (I.hok.kept k)
theorem Inv.laid {a:Addr} {o:HO} {t':Nat} (I:Inv X pins σ H s) (k:∀ b u,s.heap.get? b=some u→h'.get? b=some u) (hp:s.heap.objs.size≤a) (new:c9 X.prog X.w (upd H a o) h' a o) :
  Inv X pins σ (upd H a o) { s with heap:=h',toks:=t' }:=I.un (Un.laid k hp (I.hok.fresh hp)) (I.hok.laid k hp new)
theorem Inv.write {x e:Addr} {o:HO} {t':Nat} (I:Inv X pins σ H s) (mu:MN (H x)) (he:e=x∨H e=some (.own x)) (k:∀ b u,b≠e→s.heap.get? b=some u→h'.get? b=some u) (heo:∃ u,h'.get? e=some u)
  (new:c9 X.prog X.w (upd H x o) h' x o):Inv X pins σ (upd H x o) { s with heap:=h',toks:=t' }:=I.un (Un.write mu he k heo) (I.hok.write mu he k heo new)
theorem Inv.Al {pins':List (Addr × Obj)} (I:Inv X pins σ H s) (h:∀ p∈pins',s.heap.get? p.1=some p.2∧H p.1=none∧p.1≠X.env.locals∧p.1 ∉ X.fs∧∀ v,p.2.data≠.cell v):Inv X pins' σ H s :=
 ⟨I.ok,I.os,I.bare,I.base,I.loc,I.cell,I.free,I.freeC,fun p hp=>(List.mem_append.mp hp).elim (fun z=>I.pin p (List.mem_append_left _ z)) (h p),I.hok,I.len⟩
theorem wF {N:List Str} (hN:N.Nodup) {i j:Nat} {x:Str} (a:N[i]?=some x) (b:N[j]?=some x):i=j:=by
 obtain ⟨h1,e1⟩:=List.getElem?_eq_some_iff.mp a
 obtain ⟨h2,e2⟩:=List.getElem?_eq_some_iff.mp b
 exact (List.getElem_inj hN).mp (e1.trans e2.symm)
theorem ot {M:Model} {A:Around} {E:Value→Shared→Prop} {i:Nat} {x:Str} {v:V} {u:Value} {Q:Unit→Shared→Prop} (I:Inv X pins σ H s) (hN:X.N.Nodup) (hi:X.N[i]?=some x) (hx:Loc X.env.scope x) (r:RelV v u)
  (h:∀ s',Inv X pins (σ.set i (some v)) H s'→(∃ a,Heap.SameBut a s.heap s'.heap∧(a=X.env.locals∨X.env.cells.lookup x=some a))→Q () s') (hf:X.fn x=true∨X.env.scope.names.lookup x=some .local:=by first | exact .inl rfl | exact .inr rfl | assumption):wpAny M A (storeName X.env x u) Q E s:=by
 obtain ⟨m,hn,hl⟩:=id I.loc
 have hcls:(X.env.scope.kind == .class || (X.env.scope.kind == .module && X.env.locals != X.env.globals))=false:=by rw [I.ok.kind];rfl
 have hiσ:i < σ.length:=by rw [I.len];exact (List.getElem?_eq_some_iff.mp hi).1
 have IB:=I.IB
 have tracked:∀ {a:Addr} {h':Heap},(∃ o,s.heap.get? a=some o∧H a=none)→Heap.SameBut a s.heap h'→l6 X.prog X.w H h':=fun {a h'} ha hs b ob e=>by
  obtain ⟨_,_,hfree⟩:=ha
  refine (I.hok b ob e).lZ (fun c w' hc q=>(hs.2 c ?_).trans q) (fun _ q=>q) fun _ _ q=>q
  rintro rfl
  rcases hc with rfl | hc
  ·rw [hfree] at e;cases e
  ·rw [hfree] at hc;cases hc
 rcases hx with hk | hk
 ·refine wpAny_storeName_local hk hn (fun h' hn' hs=>?_) hcls
  obtain ⟨oL,_,_,hoL,_⟩:=id hn
  refine h _ ⟨I.ok,I.os,I.bare,⟨fun b o e n hb hx=>?_,fun b o e n hb hx=>?_,I.base.free,fun b o e hx=>?_,I.base.tups,I.base.frzs,I.base.tbls⟩,⟨_,hn',fun j y v' e1 e2 e3=>?_⟩,fun y c e=>?_,I.free,I.freeC,fun p hp=>?_,tracked ⟨oL,hoL,I.free⟩ hs,by simpa using I.len⟩ ⟨_,hs,.inl rfl⟩
  ·exact (hs.2 b (Nat.ne_of_lt (Nat.lt_of_lt_of_le (Heap.lt_size e) I.ok.above))).trans (I.base.keep b o e n hb hx)
  ·obtain ⟨sl,e1⟩:=I.base.slot b o e n hb hx
   exact ⟨sl,(hs.2 b (Nat.ne_of_lt (Nat.lt_of_lt_of_le (Heap.lt_size e) I.ok.above))).trans e1⟩
  ·obtain ⟨o',e1⟩:=I.base.there b o e hx
   exact ⟨o',(hs.2 b (Nat.ne_of_lt (Nat.lt_of_lt_of_le (Heap.lt_size e) I.ok.above))).trans e1⟩
  ·by_cases hj:j=i
   ·subst hj
    rw [hi] at e1;cases e1
    rw [List.getElem?_set_self hiσ] at e2
    cases e2
    exact ⟨u,r,.inl ⟨hk,by simp⟩⟩
   ·rw [List.getElem?_set_ne (Ne.symm hj)] at e2
    obtain ⟨u',r',q⟩:=hl j y v' e1 e2 e3
    refine ⟨u',r',?_⟩
    rcases q with ⟨k,e⟩ | ⟨k,c,e,z⟩
    ·refine .inl ⟨k,?_⟩
     have:y≠x:=fun e=>hj (wF hN e1 (e ▸ hi))
     simp [this,e]
    ·exact .inr ⟨k,c,e,z.sameBut hs (IB y c e)⟩
  ·obtain ⟨w',z⟩:=I.cell y c e
   exact ⟨w',z.sameBut hs (IB y c e)⟩
  ·obtain ⟨e,n,ne,nf,d⟩:=I.pin p hp
   exact ⟨(hs.2 p.1 ne).trans e,n,ne,nf,d⟩
 ·have hfn:X.fn x=true:=by
   rcases hf with z | z
   ·exact z
   ·rw [z] at hk;cases hk
  obtain ⟨c,hc⟩:=I.ok.has x (.inl hk)
  obtain ⟨w',z⟩:=I.cell x c hc
  refine wpAny_storeName_cell I.ok.kind hk hc z (fun h' hc' hs=>?_)
  obtain ⟨oc,hoc,hocd⟩:=id z
  refine h { s with heap:=h' } ⟨I.ok,I.os,I.bare,⟨fun b o e n hb hx=>?_,fun b o e n hb hx=>?_,I.base.free,fun b o e hx=>?_,I.base.tups,I.base.frzs,I.base.tbls⟩,⟨m,hn.sameBut hs (Ne.symm (IB x c hc)),fun j y v' e1 e2 e3=>?_⟩,fun y c' e=>?_,I.free,I.freeC,fun p hp=>?_,tracked ⟨oc,hoc,I.freeC x c hc⟩ hs,by simpa using I.len⟩ ⟨c,hs,.inr hc⟩
  ·exact (hs.2 b (Nat.ne_of_lt (Nat.lt_of_lt_of_le (Heap.lt_size e) (I.ok.cab x c hfn hc)))).trans (I.base.keep b o e n hb hx)
  ·obtain ⟨sl,e1⟩:=I.base.slot b o e n hb hx
   exact ⟨sl,(hs.2 b (Nat.ne_of_lt (Nat.lt_of_lt_of_le (Heap.lt_size e) (I.ok.cab x c hfn hc)))).trans e1⟩
  ·obtain ⟨o',e1⟩:=I.base.there b o e hx
   exact ⟨o',(hs.2 b (Nat.ne_of_lt (Nat.lt_of_lt_of_le (Heap.lt_size e) (I.ok.cab x c hfn hc)))).trans e1⟩
  ·by_cases hj:j=i
   ·subst hj
    rw [hi] at e1;cases e1
    rw [List.getElem?_set_self hiσ] at e2
    cases e2
    exact ⟨u,r,.inr ⟨.inl hk,c,hc,hc'⟩⟩
   ·rw [List.getElem?_set_ne (Ne.symm hj)] at e2
    obtain ⟨u',r',q⟩:=hl j y v' e1 e2 e3
    refine ⟨u',r',?_⟩
    rcases q with q | ⟨k,c',e,z'⟩
    ·exact .inl q
    ·refine .inr ⟨k,c',e,z'.sameBut hs ?_⟩
     rintro rfl
     exact hj (wF hN e1 (I.ok.inj _ _ _ e hc ▸ hi))
  ·by_cases hcc:c'=c
   ·subst hcc;exact ⟨_,hc'⟩
   ·obtain ⟨w2,z2⟩:=I.cell y c' e
    exact ⟨w2,z2.sameBut hs hcc⟩
  ·obtain ⟨e,n,ne,nf,d⟩:=I.pin p hp
   refine ⟨(hs.2 p.1 ?_).trans e,n,ne,nf,d⟩
   intro q
   rw [q,hoc] at e
   have q':oc=p.2:=Option.some.inj e
   exact d w' (by rw [← q'];exact hocd)
theorem fC {M:Model} {A:Around} {E:Value→Shared→Prop} {i:Nat} {x:Str} {v:V} {u:Value} {Q:Unit→Shared→Prop} (I:Inv X pins σ H s) (hN:X.N.Nodup) (hi:X.N[i]?=some x) (hx:Loc X.env.scope x) (r:RelV v u)
  (h:∀ s',Inv X pins (σ.set i (some v)) H s'→Q () s') (hf:X.fn x=true∨X.env.scope.names.lookup x=some .local:=by first | exact .inl rfl | exact .inr rfl | assumption):wpAny M A (storeName X.env x u) Q E s :=
 ot I hN hi hx r (fun s' I' _=>h s' I') hf
theorem Inv.KU {s':Shared} {ch:List Addr} (I:Inv X pins σ H s) (ho:s'.os=s.os) (u:Un (jN X.stack) ch H H' s.heap s'.heap) (hok:l6 X.prog X.w H' s'.heap) (hg:AllBare s'.gens)
  (hch:∀ b∈ch,(b∈X.ex∨X.s₀.heap.objs.size≤b)∧b≠X.env.locals∧(∀ x c,X.env.cells.lookup x=some c→c≠b)∧∀ p∈X.pn ++ pins,p.1≠b):Inv X pins σ H' s':=by
 obtain ⟨h',g',d',t',o'⟩:=s'
 have e:o'=s.os:=ho
 subst e
 exact I.call (g':=g') (t':=t') (d':=d') u hok hg hch
end
abbrev XK:=Value→Option Addr→Hp→Prop
abbrev St:=List (Option V)
abbrev VK:=V→Hp→Prop
abbrev TE:=St→Hp→VK→Prop
abbrev TT:=St→Hp→(Bool→Hp→Prop)→Prop
abbrev TA:=St→Hp→(List V→Hp→Prop)→Prop
structure Ends where
 nx:St→Hp→Prop
 rt:VK
 bk:St→Hp→Prop:=fun _ _=>False
 ct:St→Hp→Prop:=fun _ _=>False
abbrev TS:=Ends→St→Hp→Prop
def EP (X:Cx) (pins:List (Addr × Obj)) (σ:St) (Q:VK) (u:Value) (s':Shared):Prop:=∃ v H',Inv X pins σ H' s'∧RelV v u∧Q v H'
def TP (X:Cx) (pins:List (Addr × Obj)) (σ:St) (Q:Bool→Hp→Prop) (b:Bool) (s':Shared):Prop:=∃ H',Inv X pins σ H' s'∧Q b H'
def AP (X:Cx) (pins:List (Addr × Obj)) (σ:St) (Q:List V→Hp→Prop) (us:List Value) (s':Shared):Prop:=∃ vs H',Inv X pins σ H' s'∧Vals vs us∧Q vs H'
def SP (X:Cx) (pins:List (Addr × Obj)) (D:Ends) (f:Flow) (s':Shared):Prop :=
 match f with
 | .next=>∃ σ' H',Inv X pins σ' H' s'∧D.nx σ' H'
 | .brk=>∃ σ' H',Inv X pins σ' H' s'∧D.bk σ' H'
 | .cont=>∃ σ' H',Inv X pins σ' H' s'∧D.ct σ' H'
 | .ret u=>∃ v σ' H',Inv X pins σ' H' s'∧RelV v u∧D.rt v H'
def PE (X:Cx) (e:Expr) (t:TE):Prop :=
 ∀ (pins:List (Addr × Obj)) (s:Shared) (σ:St) (H:Hp) (Q:VK),Inv X pins σ H s→t σ H Q→wpAny (model X.prog X.w) X.A (eval e X.env) (EP X pins σ Q) X.xe s
def PT (X:Cx) (e:Expr) (t:TT):Prop :=
 ∀ (pins:List (Addr × Obj)) (s:Shared) (σ:St) (H:Hp) (Q:Bool→Hp→Prop),Inv X pins σ H s→t σ H Q→wpAny (model X.prog X.w) X.A (isTrue e X.env (eval e X.env)) (TP X pins σ Q) X.xe s
def PW (X:Cx) (e:Expr) (t:TT):Prop :=
 ∀ (whole:Sem Value) (pins:List (Addr × Obj)) (s:Shared) (σ:St) (H:Hp) (Q:Bool→Hp→Prop),Inv X pins σ H s→t σ H Q→wpAny (model X.prog X.w) X.A (isTrue e X.env whole) (TP X pins σ Q) X.xe s
theorem PW.pt {X:Cx} {e:Expr} {t:TT} (h:PW X e t):PT X e t:=h _
def PA (X:Cx) (es:List Expr) (t:TA):Prop :=
 ∀ (pos:Pos) (pins:List (Addr × Obj)) (s:Shared) (σ:St) (H:Hp) (Q:List V→Hp→Prop),Inv X pins σ H s→t σ H Q→wpAny (model X.prog X.w) X.A (spliced (backTo pos (starEach es X.env))) (AP X pins σ Q) X.xe s
def PS (X:Cx) (st:Stmt) (t:TS):Prop :=
 ∀ (pins:List (Addr × Obj)) (s:Shared) (σ:St) (H:Hp) (D:Ends),Inv X pins σ H s→t D σ H→wpAny (model X.prog X.w) X.A (exec st X.env) (SP X pins D) X.xe s
def sF (X:Cx) (st:List Stmt) (t:TS):Prop :=
 ∀ (pins:List (Addr × Obj)) (s:Shared) (σ:St) (H:Hp) (D:Ends),Inv X pins σ H s→t D σ H→wpAny (model X.prog X.w) X.A (execs st X.env) (SP X pins D) X.xe s
theorem b7 {α:Type} {t:Sem α} {Q Q':α→Shared→Prop} {M:Model} {A:Around} {E:Value→Shared→Prop} {s:Shared} (h:wpAny M A t Q E s) (hQ:∀ a s,Q a s→Q' a s):wpAny M A t Q' E s:=wpAny_mono h hQ fun _ _ x=>x
end L2
namespace L2
open PySem PySem.Spec PyProof.Rows
section
variable {X:Cx}
def B7 (i:Nat):TE:=fun σ H Q=>∃ v,σ[i]?=some (some v)∧Q v H
def tC (v:V):TE:=fun _ H Q=>Q v H
theorem yR {i:Nat} {x:Str} {pos:Pos} (hN:X.N[i]?=some x) (hv:vS X.env.scope x) (hd:(x == ("__debug__":Str))=false:=by decide) (hcd:(x == ("__classdict__":Str))=false:=by decide):PE X (.Name x pos) (B7 i):=by
 intro pins s σ H Q I h
 obtain ⟨v,e,h⟩:=h
 obtain ⟨m,hn,hl⟩:=I.loc
 obtain ⟨u,r,l⟩:=hl i x v hN e hv
 have fin:EP X pins σ Q u s:=⟨v,H,I,r,h⟩
 rcases l with ⟨hk,hm⟩ | ⟨hk,c,hc,hcell⟩
 ·exact wpAny_Name (wpAny_loadName_local I.ok.kind hk hn hm fin) hd
 ·rcases hk with hk | hk
  ·exact wpAny_Name (wpAny_loadName_cell I.ok.kind hk hc hcell fin) hd
  ·exact wpAny_Name (wpAny_loadName_free I.ok.kind hk hc hcell fin hcd) hd
theorem aP {i j pos}:PE X (.Constant (.int i) j pos) (tC (.int i)):=fun _ _ _ H _ I h=>wpAny_Constant_int ⟨.int i,H,I.tok _,⟨_,rfl⟩,h⟩
theorem w6 {b j pos}:PE X (.Constant (.bool b) j pos) (tC (.bl b)):=fun _ _ _ H _ I h=>Constant_bool ⟨.bl b,H,I,rfl,h⟩
theorem yO {j pos}:PE X (.Constant .none j pos) (tC .non):=fun _ _ _ H _ I h=>Constant_none ⟨.non,H,I,rfl,h⟩
theorem nW {x j pos}:PE X (.Constant (.str x) j pos) (tC (.str x)):=fun _ _ _ H _ I h=>Calls.Constant_str ⟨.str x,H,I.tok _,⟨_,rfl⟩,h⟩
def Gl (X:Cx) (x:Str):Prop:=X.env.kindOf x=some .globalImplicit
theorem my {E:Value→Shared→Prop} {pins:List (Addr × Obj)} {s:Shared} {σ:St} {H:Hp} {x:Str} {u:Value} {pos:Pos} {Q:Value→Shared→Prop} (I:Inv X pins σ H s) (hg:Gl X x) (hm:X.mg x=some u) (h:Q u s)
  (hd:(x == ("__debug__":Str))=false:=by decide):wpAny (model X.prog X.w) X.A (eval (.Name x pos) X.env) Q E s :=
 Calls.Name_function_global I.ok.kind hg (Calls.loadGlobal_global (by rw [I.ok.glob];exact I.mod.glob.keeps I.bk) hm h) hd
theorem lN {E:Value→Shared→Prop} {pins:List (Addr × Obj)} {s:Shared} {σ:St} {H:Hp} {x:Str} {u:Value} {pos:Pos} {Q:Value→Shared→Prop} (I:Inv X pins σ H s) (hg:Gl X x) (hm:X.mg x=none) (hv:bootBuiltins x=some u) (h:Q u s)
  (hn:x≠"__name__":=by decide) (hd:(x == ("__debug__":Str))=false:=by decide):wpAny (model X.prog X.w) X.A (eval (.Name x pos) X.env) Q E s:=by
 obtain ⟨mb,h1,h2⟩:=I.mod.blt
 exact Calls.Name_function_global I.ok.kind hg (Calls.loadGlobal_builtin (by rw [I.ok.glob];exact I.mod.glob.keeps I.bk) hm (by rw [I.ok.blt];exact h1.keeps I.bk) ((h2 x hn).trans hv) h) hd
theorem o8 {x:Str} {v:V} {u:Value} {pos:Pos} (hg:Gl X x) (hm:X.mg x=some u) (r:RelV v u) (hd:(x == ("__debug__":Str))=false:=by decide):PE X (.Name x pos) (tC v) :=
 fun _ _ _ H _ I h=>my I hg hm ⟨v,H,I,r,h⟩ hd
theorem uG {x:Str} {v:V} {u:Value} {pos:Pos} (hg:Gl X x) (hm:X.mg x=none) (hv:bootBuiltins x=some u) (r:RelV v u) (hn:x≠"__name__":=by decide) (hd:(x == ("__debug__":Str))=false:=by decide):PE X (.Name x pos) (tC v) :=
 fun _ _ _ H _ I h=>lN I hg hm hv ⟨v,H,I,r,h⟩ hn hd
variable {a b:Expr} {ta tb:TE} {pos:Pos}
def tB (t:TE):TT:=fun σ H Q=>t σ H fun x H1=>∃ c,x=.bl c∧Q c H1
theorem yX {e:Expr} {t:TE} (h:PE X e t) (he:∀ whole,isTrue e X.env whole=(do let v ← whole;standAt e.pos;holding [v] (truthy v)):=by intro _;rfl):PT X e (tB t):=by
 intro pins s σ H Q I hw
 refine isTrue_plain (b7 (h pins s σ H _ I hw) fun v s1 ⟨x,H1,I1,r1,q1⟩=>?_) (he _)
 obtain ⟨d,rfl,q⟩:=q1
 cases r1
 exact wpAny_truthy_bool ⟨H1,I1,q⟩
variable {tA tB':TT} {rest:List Expr}
def EM (t u:TT):TT:=fun σ H Q=>t σ H fun c H1=>if c=true then u σ H1 Q else Q false H1
def My (t u:TT):TT:=fun σ H Q=>t σ H fun c H1=>if c=true then Q true H1 else u σ H1 Q
def GV (t:TT):TT:=fun σ H Q=>t σ H fun c H1=>Q (!c) H1
theorem o_ (ha:PT X a tA):PW X (.BoolOp .And [a] pos) tA:=by
 intro wh pins s σ H Q I h
 refine isTrue_and (b7 (ha pins s σ H Q I h) fun c s1 e=>?_)
 cases c with
 | true=>exact isTrue_and_nil e
 | false=>exact e
theorem uR (ha:PT X a tA):PW X (.BoolOp .Or [a] pos) tA:=by
 intro wh pins s σ H Q I h
 refine isTrue_or (b7 (ha pins s σ H Q I h) fun c s1 e=>?_)
 cases c with
 | false=>exact isTrue_or_nil e
 | true=>exact e
theorem uQ (ha:PT X a tA) (hb:PW X (.BoolOp .And (b :: rest) pos) tB'):PW X (.BoolOp .And (a :: b :: rest) pos) (EM tA tB'):=by
 intro wh pins s σ H Q I h
 refine isTrue_and (b7 (ha pins s σ H _ I h) fun c s1 ⟨H1,I1,q1⟩=>?_)
 cases c with
 | true=>exact hb wh pins s1 σ H1 Q I1 q1
 | false=>exact ⟨H1,I1,q1⟩
theorem Ap (ha:PT X a tA) (hb:PW X (.BoolOp .Or (b :: rest) pos) tB'):PW X (.BoolOp .Or (a :: b :: rest) pos) (My tA tB'):=by
 intro wh pins s σ H Q I h
 refine isTrue_or (b7 (ha pins s σ H _ I h) fun c s1 ⟨H1,I1,q1⟩=>?_)
 cases c with
 | true=>exact ⟨H1,I1,q1⟩
 | false=>exact hb wh pins s1 σ H1 Q I1 q1
theorem yW (ha:PT X a tA):PT X (.UnaryOp .Not a pos) (GV tA):=by
 intro pins s σ H Q I h
 exact isTrue_not (ha pins s σ H (fun c H1=>Q (!c) H1) I h)
def AU (ta tb:TE):TE:=fun σ H Q=>ta σ H fun x H1=>∃ c,x=.bl c∧if c=true then tb σ H1 Q else Q (.bl false) H1
def GW (ta tb:TE):TE:=fun σ H Q=>ta σ H fun x H1=>∃ c,x=.bl c∧if c=true then Q (.bl true) H1 else tb σ H1 Q
def AX (ta:TE):TE:=fun σ H Q=>ta σ H fun x H1=>∃ c,x=.bl c∧Q (.bl (!c)) H1
theorem yQ {op} {t:TE} (h:PE X a t):PE X (.BoolOp op [a] pos) t:=fun pins s σ H Q I hw=>BoolOp_one (h pins s σ H Q I hw)
theorem yN (ha:PE X a ta) (hb:PE X (.BoolOp .And (b :: rest) pos) tb):PE X (.BoolOp .And (a :: b :: rest) pos) (AU ta tb):=by
 intro pins s σ H Q I h
 refine BoolOp_and (b7 (ha pins s σ H _ I h) fun v s1 ⟨x,H1,I1,r1,q1⟩=>?_)
 obtain ⟨c,rfl,q1⟩:=q1
 cases r1
 refine wpAny_truthy_bool ?_
 cases c with
 | true=>exact hb pins s1 σ H1 Q I1 q1
 | false=>exact ⟨.bl false,H1,I1,rfl,q1⟩
theorem D1 (ha:PE X a ta) (hb:PE X (.BoolOp .Or (b :: rest) pos) tb):PE X (.BoolOp .Or (a :: b :: rest) pos) (GW ta tb):=by
 intro pins s σ H Q I h
 refine BoolOp_or (b7 (ha pins s σ H _ I h) fun v s1 ⟨x,H1,I1,r1,q1⟩=>?_)
 obtain ⟨c,rfl,q1⟩:=q1
 cases r1
 refine wpAny_truthy_bool ?_
 cases c with
 | false=>exact hb pins s1 σ H1 Q I1 q1
 | true=>exact ⟨.bl true,H1,I1,rfl,q1⟩
theorem yP (ha:PE X a ta):PE X (.UnaryOp .Not a pos) (AX ta):=by
 intro pins s σ H Q I h
 refine UnaryOp_ (b7 (ha pins s σ H _ I h) fun v s1 ⟨x,H1,I1,r1,q1⟩=>?_)
 obtain ⟨c,rfl,q1⟩:=q1
 cases r1
 exact not_of (wpAny_truthy_bool ⟨.bl (!c),H1,I1,rfl,q1⟩)
def MY (t:TT) (ta tb:TE):TE:=fun σ H Q=>t σ H fun c H1=>if c=true then ta σ H1 Q else tb σ H1 Q
theorem qF {c:Expr} (hc:PT X c tA) (ha:PE X a ta) (hb:PE X b tb):PE X (.IfExp c a b pos) (MY tA ta tb):=by
 intro pins s σ H Q I h
 refine wpAny_IfExp (b7 (hc pins s σ H _ I h) fun d s1 ⟨H1,I1,q1⟩=>?_)
 cases d with
 | true=>exact ha pins s1 σ H1 Q I1 q1
 | false=>exact hb pins s1 σ H1 Q I1 q1
end
end L2
namespace L2
open PySem PySem.Spec PyProof.Rows
def c7 (K:PySem.W.Frag) (H:Hp) (a:Addr) (xs:List V):Prop :=
 Rd H a (.lst xs) ∨
  ∃ (o:Obj) (its:Array Value) (n:Nat),K.lookup a=some o∧o.cls=.type "list"∧o.dict=none∧o.data=.seq its n∧its.size≤sizeLine∧Vals xs its.toList
def gM (K:PySem.W.Frag) (H:Hp) (a:Addr) (xs:List V):Prop :=
 Rd H a (.tup xs) ∨
  ∃ (o:Obj) (its:Array Value) (n:Nat),K.lookup a=some o∧o.cls=.type "tuple"∧o.data=.seq its n∧its.size≤sizeLine∧Vals xs its.toList
def Nc:Value→Option V
 | .none=>some .non
 | .bool b=>some (.bl b)
 | .int i _=>some (.int i)
 | .str x _=>some (.str x)
 | .bytes b _=>some (.byt b)
 | .float b _=>some (.flt b)
 | .ref a=>some (.ref a)
 | .type n=>some (.ty n)
 | _=>none
theorem RelV.abs {x:V} {u:Value} (r:RelV x u):Nc u=some x:=by
 cases x with
 | non=>cases r;rfl
 | bl _=>cases r;rfl
 | int _=>obtain ⟨t,rfl⟩:=r;rfl
 | str _=>obtain ⟨t,rfl⟩:=r;rfl
 | byt _=>obtain ⟨t,rfl⟩:=r;rfl
 | flt _=>obtain ⟨t,rfl⟩:=r;rfl
 | ref _=>cases r;rfl
 | ty _=>cases r;rfl
theorem RelV.inj {x y:V} {u:Value} (r:RelV x u) (q:RelV y u):x=y:=Option.some.inj (r.abs.symm.trans q.abs)
theorem Vals.inj:∀ {xs ys:List V} {us:List Value},Vals xs us→Vals ys us→xs=ys
 | _,_,_,.nil,.nil=>rfl
 | _,_,_,.cons r t,.cons r' t'=>by rw [r.inj r',Vals.inj t t']
section
variable {X:Cx} {pins:List (Addr × Obj)} {σ:St} {H:Hp} {s:Shared} {a:Addr} {xs ys:List V}
theorem c7.of {K:PySem.W.Frag} (h:H a=some (.lst xs)):c7 K H a xs:=.inl (.inl h)
theorem gM.of {K:PySem.W.Frag} (h:H a=some (.tup xs)):gM K H a xs:=.inl (.inl h)
theorem Inv.list (I:Inv X pins σ H s) (h:c7 X.K H a xs):∃ its:List Value,Vals xs its∧PlainL s.heap a its.toArray∧xs.length≤sizeLine:=by
 rcases h with h | ⟨o,its,n,hk,hc,hd,hs,hz,r⟩
 ·obtain ⟨z,its,n,r,e⟩:=h.ok I.hok
  exact ⟨its,r,⟨_,n,e,rfl,rfl,rfl⟩,z⟩
 ·refine ⟨its.toList,r,⟨o,n,I.mx a o hk,hc,hd,by simpa using hs⟩,?_⟩
  have e:=r.length
  simp only [Array.length_toList] at e
  omega
theorem Inv.tuple (I:Inv X pins σ H s) (h:gM X.K H a xs):∃ its:List Value,Vals xs its∧IsTup s.heap a its.toArray∧xs.length≤sizeLine:=by
 rcases h with h | ⟨o,its,n,hk,hc,hs,hz,r⟩
 ·obtain ⟨z,its,r,p⟩:=h.ok I.hok
  exact ⟨its,r,p,z⟩
 ·refine ⟨its.toList,r,⟨o,I.mx a o hk,hc,n,by simpa using hs⟩,?_⟩
  have e:=r.length
  simp only [Array.length_toList] at e
  omega
theorem Inv.j1 (I:Inv X pins σ H s) (h:c7 X.K H a xs) (h':c7 X.K H a ys):xs=ys:=by
 obtain ⟨its,r,⟨o,n,e,_,_,d⟩,_⟩:=I.list h
 obtain ⟨its',r',⟨o',n',e',_,_,d'⟩,_⟩:=I.list h'
 rw [e] at e';cases e'
 rw [d] at d'
 injection d' with d1 _
 have:its=its':=by simpa using congrArg Array.toList d1
 subst this
 exact r.inj r'
theorem Inv.tI (I:Inv X pins σ H s) (h:gM X.K H a xs) (h':gM X.K H a ys):xs=ys:=by
 obtain ⟨its,r,⟨o,e,_,n,d⟩,_⟩:=I.tuple h
 obtain ⟨its',r',⟨o',e',_,n',d'⟩,_⟩:=I.tuple h'
 rw [e] at e';cases e'
 rw [d] at d'
 injection d' with d1 _
 have:its=its':=by simpa using congrArg Array.toList d1
 subst this
 exact r.inj r'
end
abbrev Cx.ra (X:Cx) (E:Value→Shared→Prop):Cx:={ X with xe:=E }
abbrev Cx.Jk (X:Cx):Cx:=X.ra fun _ _=>False
theorem Cx.Ok.ra {X:Cx} (ok:X.Ok) (E:Value→Shared→Prop):(X.ra E).Ok :=
 ⟨ok.mod,ok.kind,ok.glob,ok.blt,ok.above,ok.inj,ok.has,ok.cab,ok.hd,ok.frames,ok.stk,ok.exf,ok.bs,ok.bsz,ok.noex,ok.exfs,ok.nG,ok.frf⟩
theorem Cx.Ok.ku {X:Cx} {E:Value→Shared→Prop} (ok:(X.ra E).Ok):X.Ok :=
 ⟨ok.mod,ok.kind,ok.glob,ok.blt,ok.above,ok.inj,ok.has,ok.cab,ok.hd,ok.frames,ok.stk,ok.exf,ok.bs,ok.bsz,ok.noex,ok.exfs,ok.nG,ok.frf⟩
section
variable {X:Cx} {pins:List (Addr × Obj)} {σ:St} {H:Hp} {s:Shared} {E:Value→Shared→Prop}
theorem Inv.ra (I:Inv X pins σ H s) (E:Value→Shared→Prop):Inv (X.ra E) pins σ H s:=⟨I.ok.ra E,I.os,I.bare,I.base,I.loc,I.cell,I.free,I.freeC,I.pin,I.hok,I.len⟩
theorem Inv.ku (I:Inv (X.ra E) pins σ H s):Inv X pins σ H s:=⟨I.ok.ku,I.os,I.bare,I.base,I.loc,I.cell,I.free,I.freeC,I.pin,I.hok,I.len⟩
theorem SP.ku {D:Ends} {f:Flow} {s':Shared} (h:SP (X.ra E) pins D f s'):SP X pins D f s':=by
 cases f with
 | next=>obtain ⟨σ',H',I,q⟩:=h;exact ⟨σ',H',I.ku,q⟩
 | brk=>obtain ⟨σ',H',I,q⟩:=h;exact ⟨σ',H',I.ku,q⟩
 | cont=>obtain ⟨σ',H',I,q⟩:=h;exact ⟨σ',H',I.ku,q⟩
 | ret u=>obtain ⟨v,σ',H',I,r,q⟩:=h;exact ⟨v,σ',H',I.ku,r,q⟩
theorem sF.Jk {st:List Stmt} {t:TS} (h:sF X.Jk st t):sF X st t:=fun pins s σ H D I hw =>
 wpAny_mono (h pins s σ H D (I.ra _) hw) (fun _ _ q=>q.ku) fun _ _ z=>False.elim z
end
section
variable {X:Cx} {st:Stmt} {rest:List Stmt} {t u:TS} {e:Expr} {te:TE} {pos:Pos}
def AW:TS:=fun D σ H=>D.nx σ H
def GZ (t u:TS):TS:=fun D σ H=>t { D with nx:=u D } σ H
theorem fR:sF X [] AW:=fun _ _ σ H _ I h=>wpAny_execs_nil ⟨σ,H,I,h⟩
theorem aZ (h1:PS X st t) (h2:sF X rest u):sF X (st :: rest) (GZ t u):=by
 intro pins s σ H D I h
 refine wpAny_execs_cons (b7 (h1 pins s σ H { D with nx:=u D } I h) fun f s1 q=>?_)
 cases f with
 | next =>
  obtain ⟨σ',H',I',q⟩:=q
  exact h2 pins s1 σ' H' D I' q
 | ret v=>exact q
 | brk=>exact q
 | cont=>exact q
theorem bL (h1:PS X st t):sF X [st] t:=by
 intro pins s σ H D I h
 refine wpAny_execs_cons (b7 (h1 pins s σ H D I h) fun f s1 q=>?_)
 cases f with
 | next=>exact wpAny_execs_nil q
 | ret v=>exact q
 | brk=>exact q
 | cont=>exact q
def JZ:TS:=fun D σ H=>D.bk σ H
def Mt:TS:=fun D σ H=>D.ct σ H
theorem Inv.quiet {pins:List (Addr × Obj)} {σ:St} {H:Hp} {s:Shared} (I:Inv X pins σ H s):interactive X.env=false:=by simp [interactive,I.ok.kind]
def AV (te:TE):TS:=fun D σ H=>te σ H fun _ H1=>D.nx σ H1
theorem kO (he:PE X e te) (hs:swapsWith e none pos.line X.env=pure false:=by rfl):PS X (.Expr e pos) (AV te):=by
 intro pins s σ H D I h
 exact wpAny_Expr_any (b7 (he pins s σ H _ I h) fun v s1 ⟨x,H1,I1,r1,q1⟩=>⟨σ,H1,I1,q1⟩) I.quiet hs
def GY (te:TE):TS:=fun D σ H=>te σ H D.rt
theorem dN (he:PE X e te):PS X (.Return (some e) pos) (GY te):=by
 intro pins s σ H D I h
 exact wpAny_Return_some (b7 (he pins s σ H _ I h) fun v s1 ⟨x,H1,I1,r1,q1⟩=>⟨x,σ,H1,I1,r1,q1⟩)
def AZ:TS:=fun D _ H=>D.rt .non H
theorem uM:PS X (.Return none pos) AZ:=fun _ _ σ H _ I h=>wpAny_Return_none ⟨.non,σ,H,I,rfl,h⟩
def GU (c:TT) (t u:TS):TS:=fun D σ H=>c σ H fun b H1=>if b=true then t D σ H1 else u D σ H1
theorem mG {c:Expr} {a b:List Stmt} {tc:TT} (hc:PT X c tc) (ha:sF X a t) (hb:sF X b u):PS X (.If c a b pos) (GU tc t u):=by
 intro pins s σ H D I h
 refine wpAny_If (b7 (hc pins s σ H _ I h) fun d s1 ⟨H1,I1,q1⟩=>?_)
 cases d with
 | true=>exact ha pins s1 σ H1 D I1 q1
 | false=>exact hb pins s1 σ H1 D I1 q1
def zj:TS:=fun _ _ _=>False
theorem nZ {sts:List Stmt}:sF X sts zj:=fun _ _ _ _ _ _ h=>h.elim
end
abbrev TG:=V→St→Hp→(St→Hp→Prop)→Prop
abbrev pX:=List V→St→Hp→(St→Hp→Prop)→Prop
def PG (X:Cx) (target:Expr) (t:TG):Prop :=
 ∀ (pins:List (Addr × Obj)) (s:Shared) (σ:St) (H:Hp) (v:V) (u:Value) (Q:St→Hp→Prop),Inv X pins σ H s→RelV v u→t v σ H Q →
  wpAny (model X.prog X.w) X.A (assign target X.env u) (fun _ s'=>∃ σ' H',Inv X pins σ' H' s'∧Q σ' H') X.xe s
def G9 (X:Cx) (ts:List Expr) (t:pX):Prop :=
 ∀ (pins:List (Addr × Obj)) (s:Shared) (σ:St) (H:Hp) (vs:List V) (us:List Value) (Q:St→Hp→Prop),Inv X pins σ H s→Vals vs us→t vs σ H Q →
  wpAny (model X.prog X.w) X.A (assignInOrder ((assignEach ts X.env).map (·.2)) us) (fun _ s'=>∃ σ' H',Inv X pins σ' H' s'∧Q σ' H') X.xe s
abbrev k9:=V→V→V→Hp→(Hp→Prop)→Prop
def k8 (X:Cx) (t:k9):Prop :=
 ∀ (pins:List (Addr × Obj)) (s:Shared) (σ:St) (H:Hp) (o i v:V) (ov iv u:Value) (Q:Hp→Prop),Inv X pins σ H s→RelV o ov→RelV i iv→RelV v u→t o i v H Q →
  wpAny (model X.prog X.w) X.A (setItem ov iv u) (fun _ s'=>∃ H',Inv X pins σ H' s'∧Q H') X.xe s
abbrev MQ:=V→V→Hp→VK→Prop
def M_ (X:Cx) (op:Operator) (t:MQ):Prop :=
 ∀ (pins:List (Addr × Obj)) (s:Shared) (σ:St) (H:Hp) (x y:V) (v u:Value) (Q:VK),Inv X pins σ H s→RelV x v→RelV y u→t x y H Q →
  wpAny (model X.prog X.w) X.A (inplaceOp op v u) (EP X pins σ Q) X.xe s
section
variable {X:Cx} {pos:Pos}
def qa (i:Nat):TG:=fun v σ H Q=>Q (σ.set i (some v)) H
theorem kL {i:Nat} {x:Str} (hN:X.N.Nodup) (hi:X.N[i]?=some x) (hx:Loc X.env.scope x) (hf:X.fn x=true∨X.env.scope.names.lookup x=some .local:=by first | exact .inl rfl | exact .inr rfl | assumption):PG X (.Name x pos) (qa i):=by
 intro pins s σ H v u Q I r h
 exact wpAny_assign_Name (fC I hN hi hx r (fun s' I'=>⟨_,H,I',h⟩) hf)
def Fx:pX:=fun vs σ H Q=>vs=[]∧Q σ H
def zS (t:TG) (u:pX):pX:=fun vs σ H Q=>∃ v r,vs=v :: r∧t v σ H fun σ' H'=>u r σ' H' Q
theorem uI:G9 X [] Fx:=by
 intro pins s σ H vs us Q I r h
 obtain ⟨e,h⟩:=h
 subst e
 cases r
 exact assignInOrder_nil ⟨σ,H,I,h⟩
theorem qH {e:Expr} {es:List Expr} {t:TG} {u:pX} (h1:PG X e t) (h2:G9 X es u)
  (hs:(assignEach (e :: es) X.env).map (·.2)=assign e X.env :: (assignEach es X.env).map (·.2):=by rfl):G9 X (e :: es) (zS t u):=by
 intro pins s σ H vs us Q I r h
 obtain ⟨v,vr,e1,h⟩:=h
 subst e1
 cases r with
 | cons r rr =>
  rw [hs]
  refine assignInOrder_cons (b7 (h1 pins s σ H _ _ _ I r h) fun _ s1 ⟨σ1,H1,I1,q1⟩=>?_)
  exact h2 pins s1 σ1 H1 _ _ Q I1 rr q1
def FA (K:PySem.W.Frag) (n:Nat) (t:pX):TG:=fun v σ H Q=>∃ a xs,v=.ref a∧gM K H a xs∧xs.length=n∧t xs σ H Q
theorem yS {es:List Expr} {k:Nat} {t:pX} {n:Nat} (hc:X.calm=true) (h:G9 X es t)
  (hn:(assignEach es X.env).length=n:=by rfl) (hst:(assignEach es X.env).findIdx? (·.1)=none:=by rfl):PG X (.Tuple es k pos) (FA X.K n t):=by
 intro pins s σ H v u Q I r hw
 obtain ⟨a,xs,e1,hq,hl,hw⟩:=hw
 subst e1
 cases r
 obtain ⟨its,rv,ht,hz⟩:=I.tuple hq
 refine assign_Tuple_tuple (I.ok.hd hc) ht (by simp [hn,← hl,rv.length]) hst fun h' hx=>?_
 have I1:Inv X pins σ H { s with heap:=h' }:=I.kept (t':=s.toks) fun b o e=>hx b o (Nat.ne_of_lt (Heap.lt_size e)) e
 exact h pins _ σ H xs _ Q I1 (by simpa using rv) hw
def Fz (to ti:TE) (t:k9):TG:=fun v σ H Q=>to σ H fun o H1=>ti σ H1 fun i H2=>t o i v H2 fun H3=>Q σ H3
theorem uH {o i:Expr} {to ti:TE} {t:k9} (ho:PE X o to) (hi:PE X i ti) (hs:k8 X t)
  (ha:∀ v,assign (.Subscript o i pos) X.env v=(do
   let ov ← holding [v] (eval o X.env)
   let iv ← holding [v,ov] (eval i X.env)
   standAt pos
   holding [v,ov,iv] (setItem ov iv v)
   release [v,ov,iv] []):=by intro _;rfl):PG X (.Subscript o i pos) (Fz to ti t):=by
 intro pins s σ H v u Q I r h
 rw [ha]
 refine wpAny_bind (wpAny_holding (b7 (ho pins s σ H _ I h) fun ov s1 ⟨x,H1,I1,r1,q1⟩=>?_))
 refine wpAny_bind (wpAny_holding (b7 (hi pins s1 σ H1 _ I1 q1) fun iv s2 ⟨y,H2,I2,r2,q2⟩=>?_))
 refine wpAny_bind (wpAny_standAt (wpAny_bind (wpAny_holding (b7 (hs pins s2 σ H2 x y v ov iv u _ I2 r1 r2 r q2) fun _ s3 ⟨H3,I3,q3⟩=>?_))))
 exact wpAny_release ⟨σ,H3,I3,q3⟩
def zi (te:TE) (g:TG):TS:=fun D σ H=>te σ H fun x H1=>g x σ H1 D.nx
theorem uL {tg e:Expr} {te:TE} {g:TG} (he:PE X e te) (hg:PG X tg g) (hs:swapsWithSole [tg] e pos.line X.env=pure false:=by rfl) (hw:swappedStores [tg] e X.env=pure none:=by rfl)
  (h1:(assignEach [tg] X.env).map (·.2)=[assign tg X.env]:=by rfl):PS X (.Assign [tg] e pos) (zi te g):=by
 intro pins s σ H D I h
 refine wpAny_Assign_stores (b7 (he pins s σ H _ I h) fun v s1 ⟨x,H1,I1,r1,q1⟩=>?_) hs hw
 rw [h1]
 exact b7 (hg pins s1 σ H1 x v _ I1 r1 q1) fun _ s2 q=>q
theorem cV {i:Nat} {x:Str} {e:Expr} {te:TE} {pos':Pos} (hN:X.N.Nodup) (hi:X.N[i]?=some x) (hx:Loc X.env.scope x) (he:PE X e te) (hs:swapsWith e (some (.Name x pos')) pos.line X.env=pure false:=by rfl) (hf:X.fn x=true∨X.env.scope.names.lookup x=some .local:=by first | exact .inl rfl | exact .inr rfl | assumption) :
  PS X (.Assign [.Name x pos'] e pos) (zi te (qa i)):=by
 intro pins s σ H D I h
 refine wpAny_Assign_Name (b7 (he pins s σ H _ I h) fun v s1 ⟨y,H1,I1,r1,q1⟩=>?_) hs
 exact fC I1 hN hi hx r1 (fun s2 I2=>⟨_,H1,I2,q1⟩) hf
def GX (i j:Nat) (ta:TA):TS:=fun D σ H=>ta σ H fun vs H1=>∃ v w,vs=[v,w]∧D.nx ((σ.set i (some v)).set j (some w)) H1
theorem nY {i j:Nat} {x y:Str} {a b:Expr} {ta:TA} {px py pt:Pos} {kt k2 pt2} (hc:X.calm=true) (hN:X.N.Nodup) (hi:X.N[i]?=some x) (hj:X.N[j]?=some y) (hij:i≠j)
  (hx:X.env.scope.names.lookup x=some .local) (hy:X.env.scope.names.lookup y=some .local) (ha:PA X [a,b] ta)
  (hw:swappedStores [.Tuple [.Name x px,.Name y py] kt pt] (.Tuple [a,b] k2 pt2) X.env=pure (some [x,y]))
  (hs:swapsWithSole [.Tuple [.Name x px,.Name y py] kt pt] (.Tuple [a,b] k2 pt2) pos.line X.env=pure false:=by rfl) :
  PS X (.Assign [.Tuple [.Name x px,.Name y py] kt pt] (.Tuple [a,b] k2 pt2) pos) (GX i j ta):=by
 intro pins s σ H D I h
 rw [exec_Assign_arm]
 refine wpAny_bind (wpAny_standAt ?_)
 rw [hs]
 refine wpAny_bind (wpAny_pure ?_)
 rw [if_neg (by decide)]
 refine wpAny_bind (Tuple_ (b7 (ha _ pins s σ H _ I h) fun us s1 ⟨vs,H1,I1,r1,q1⟩=>?_))
 obtain ⟨v,w,e1,q1⟩:=q1
 subst e1
 obtain ⟨u1,u2,rfl,rv,rw'⟩:∃ u1 u2,us=[u1,u2]∧RelV v u1∧RelV w u2:=by
  cases r1 with
  | cons p q =>
   cases q with
   | cons p' q' =>
    cases q'
    exact ⟨_,_,rfl,p,p'⟩
 refine wpAny_newObj_type ?_ (by show 2≤sizeLine;decide)
 have I2:Inv X pins σ H1 { s1 with heap:=s1.heap.push { cls:=.type "tuple",data:=.seq [u1,u2].toArray } }:=I1.kept (t':=s1.toks) fun b o e=>Heap.get?_push_of_some _ e
 rw [hw]
 refine wpAny_bind (wpAny_pure ?_)
 show wpAny (model X.prog X.w) X.A (do rule "assign.swapped-stores";let items ← unpackItems (.ref s1.heap.objs.size) 2 none;assignInOrder [fun v=>bindName X.env y v,fun v=>bindName X.env x v] items.reverse;pure Flow.next) _ _ _
 refine wpAny_bind (wpAny_rule (wpAny_bind (unpackItems_tuple (items:=#[u1,u2]) (I.ok.hd hc) (IsTup.new s1.heap _) fun h' hx'=>?_)))
 have I3:=I2.kept (h':=h') (t':=s1.toks) fun b o e=>hx' b o (Nat.ne_of_lt (Heap.lt_size e)) e
 show wpAny _ _ (assignInOrder [fun v=>bindName X.env y v,fun v=>bindName X.env x v] [u2,u1] >>= fun _=>pure Flow.next) _ _ _
 refine wpAny_bind (assignInOrder_cons (wpAny_bindName (fC I3 hN hj (.inl hy) rw' (fun s2 I4=>?_) (.inr hy))))
 refine assignInOrder_cons (wpAny_bindName (fC I4 hN hi (.inl hx) rv (fun s3 I5=>assignInOrder_nil (wpAny_pure ?_)) (.inr hx)))
 rw [List.set_comm _ _ (Ne.symm hij)] at I5
 exact ⟨_,H1,I5,q1⟩
def N9 (i:Nat) (te:TE) (ti:MQ):TS:=fun D σ H=>∃ x,σ[i]?=some (some x)∧te σ H fun y H1=>ti x y H1 fun z H2=>D.nx (σ.set i (some z)) H2
theorem JA {i:Nat} {x:Str} {e:Expr} {te:TE} {op:Operator} {ti:MQ} {pos':Pos} (hN:X.N.Nodup) (hi:X.N[i]?=some x) (hx:Loc X.env.scope x) (he:PE X e te) (ho:M_ X op ti) (hf:X.fn x=true∨X.env.scope.names.lookup x=some .local:=by first | exact .inl rfl | exact .inr rfl | assumption) :
  PS X (.AugAssign (.Name x pos') op e pos) (N9 i te ti):=by
 intro pins s σ H D I h
 obtain ⟨v,e1,h⟩:=h
 obtain ⟨m,hn,hl⟩:=I.loc
 have vis:vS X.env.scope x:=by rcases hx with k | k;exact .inl k;exact .inr (.inl k)
 obtain ⟨u,r,l⟩:=hl i x v hi e1 vis
 refine wpAny_AugAssign_Name ?_
 have go:wpAny (model X.prog X.w) X.A (eval e X.env) (fun w s₂=>wpAny (model X.prog X.w) X.A (inplaceOp op u w) (fun r s₃=>wpAny (model X.prog X.w) X.A (storeName X.env x r) (fun _=>SP X pins D .next) X.xe s₃) X.xe s₂) X.xe s:=by
  refine b7 (he pins s σ H _ I h) fun w s1 ⟨y,H1,I1,r1,q1⟩=>?_
  refine b7 (ho pins s1 σ H1 v y u w _ I1 r r1 q1) fun z s2 ⟨zv,H2,I2,r2,q2⟩=>?_
  exact fC I2 hN hi hx r2 (fun s3 I3=>⟨_,H2,I3,q2⟩) hf
 rcases l with ⟨hk,hm⟩ | ⟨hk,c,hc,hcell⟩
 ·exact wpAny_loadName_local I.ok.kind hk hn hm go
 ·rcases hk with hk | hk
  ·exact wpAny_loadName_cell I.ok.kind hk hc hcell go
  ·rcases hx with k | k
   ·have:X.env.scope.names.lookup x=some .free:=hk
    rw [k] at this;cases this
   ·have:X.env.scope.names.lookup x=some .free:=hk
    rw [k] at this;cases this
def O9 (f:Int→Int→Int):MQ:=fun x y H Q=>∃ i j,x=.int i∧y=.int j∧Q (.int (f i j)) H
theorem IS:M_ X .Sub (O9 fun i j=>i - j):=by
 intro pins s σ H x y v u Q I r1 r2 h
 obtain ⟨i,j,e1,e2,q⟩:=h
 subst e1;subst e2
 obtain ⟨t,rfl⟩:=r1
 obtain ⟨t',rfl⟩:=r2
 exact isub_int ⟨.int _,H,I.tok _,⟨_,rfl⟩,q⟩
end
section
variable {X:Cx} {pos:Pos}
def vF (c:TT) (tb:TS):TS:=fun D σ H=>∃ W:Nat→St→Hp→Prop,(∃ m,W m σ H)∧∀ m σ H,W m σ H →
 c σ H fun b H1=>if b=true then ∃ N:St→Hp→Prop,(∀ σ' H',N σ' H'→∃ m',m' < m∧W m' σ' H')∧tb { D with nx:=N,ct:=N,bk:=D.nx } σ H1 else D.nx σ H1
theorem kb {c:Expr} {body:List Stmt} {tc:TT} {tb:TS} (hp:PassesOwn (model X.prog X.w) X.A X.env X.xe) (hc:PT X c tc) (hb:sF X body tb):PS X (.While c body [] pos) (vF tc tb):=by
 intro pins s σ H D I h
 obtain ⟨W,⟨m0,w0⟩,turn⟩:=h
 refine wpAny_While (codeAny_whileLoop (fun n s'=>∃ σ' H',Inv X pins σ' H' s'∧W n σ' H') ?_ m0 ⟨σ,H,I,w0⟩)
 rintro n s1 ⟨σ1,H1,I1,w1⟩
 refine wpAny_passesOwn hp (b7 (hc pins s1 σ1 H1 _ I1 (turn n σ1 H1 w1)) fun b s2 ⟨H2,I2,q2⟩=>?_)
 cases b with
 | true =>
  obtain ⟨N,hN,q2⟩:=q2
  rw [if_pos rfl]
  refine wpAny_passesOwn hp (b7 (hb pins s2 σ1 H2 _ I2 q2) fun f s3 q3=>?_)
  cases f with
  | next =>
   obtain ⟨σ3,H3,I3,n3⟩:=q3
   obtain ⟨m',hm,w3⟩:=hN σ3 H3 n3
   exact ⟨m',hm,σ3,H3,I3,w3⟩
  | cont =>
   obtain ⟨σ3,H3,I3,n3⟩:=q3
   obtain ⟨m',hm,w3⟩:=hN σ3 H3 n3
   exact ⟨m',hm,σ3,H3,I3,w3⟩
  | brk=>exact q3
  | ret v=>exact q3
 | false =>
  rw [if_neg Bool.false_ne_true]
  exact wpAny_execs_nil ⟨σ1,H2,I2,q2⟩
end
structure It where
 go:Nat→Hp→Prop
 yld:Nat→Hp→V→Hp→Prop
 stop:Nat→Hp→Prop
def i4 (X:Cx) (pins:List (Addr × Obj)) (H:Hp) (b:Addr):Prop :=
 H b=none∧b≠X.env.locals∧b ∉ X.fs∧(b∈X.ex∨X.s₀.heap.objs.size≤b)∧(∀ x c,X.env.cells.lookup x=some c→c≠b)∧∀ p∈X.pn ++ pins,p.1≠b
theorem Inv.Bo {X:Cx} {pins:List (Addr × Obj)} {σ:St} {H H':Hp} {s:Shared} {b:Addr} (I:Inv X pins σ H s) (hb:s.heap.objs.size≤b) (hn:H' b=none):i4 X pins H' b:=by
 refine ⟨hn,Nat.ne_of_gt (Nat.lt_of_lt_of_le I.lt hb),I.NQ hb,.inr (Nat.le_trans I.sz hb),fun x c e z=>?_,fun p hp z=>?_⟩
 ·obtain ⟨v,q⟩:=I.cell x c e
  exact absurd (Nat.lt_of_lt_of_le q.lt (by rw [z];exact hb)) (Nat.lt_irrefl _)
 ·exact absurd (Nat.lt_of_lt_of_le (Heap.lt_size (I.pin p hp).1) (by rw [z];exact hb)) (Nat.lt_irrefl _)
structure Turn (P:Program) (w:World) (K:PySem.W.Frag) (tg:Expr) (J:It) (fp:List Addr) (it:Addr) (tn:Nat→Heap→Prop):Prop where
 mem:it∈fp
 obj:∀ i h,tn i h→∀ b∈fp,∃ o,h.get? b=some o∧∀ v,o.data≠.cell v
 keep:∀ i h h',tn i h→(∀ b∈fp,∀ o,h.get? b=some o→h'.get? b=some o)→tn i h'
 item:∀ (X:Cx),X.prog=P→X.w=w→X.K=K→X.calm=true→∀ (i:Nat) (pins:List (Addr × Obj)) (s:Shared) (σ:St) (H:Hp) (E:Value→Shared→Prop),Inv X pins σ H s→(∀ b∈fp,i4 X pins H b)→tn i s.heap→J.go i H →
  wpAny (model P w) X.A (pyNext (.ref it)) (fun r s1=>∃ u,r=some u ∧
   wpAny (model P w) X.A (letOwnedTupleGo tg (.ref it) u) (fun _ s2=>∃ x H',Inv X pins σ H' s2∧RelV x u∧J.yld i H x H'∧tn (i + 1) s2.heap∧∀ b∈fp,H' b=none) E s1) E s
 done:∀ (X:Cx),X.prog=P→X.w=w→X.K=K→X.calm=true→∀ (i:Nat) (pins:List (Addr × Obj)) (s:Shared) (σ:St) (H:Hp) (E:Value→Shared→Prop),Inv X pins σ H s→(∀ b∈fp,i4 X pins H b)→tn i s.heap→J.stop i H →
  wpAny (model P w) X.A (pyNext (.ref it)) (fun r s1=>r=none∧Inv X pins σ H s1) E s
 self:∀ (A:Around) (i:Nat) (s:Shared) (Q:Value→Shared→Prop) (E:Value→Shared→Prop),tn i s.heap→Q (.ref it) s→wpAny (model P w) A (pyIter (.ref it)) Q E s
abbrev TI:=St→Hp→(It→Hp→Prop)→Prop
def Ow (X:Cx) (pins:List (Addr × Obj)) (σ:St) (tg:Expr) (R:It→Hp→Prop) (itv:Value) (s2:Shared):Prop :=
 ∃ (it:Addr) (fp:List Addr) (tn:Nat→Heap→Prop) (J:It) (H':Hp),itv=.ref it∧Inv X pins σ H' s2∧Turn X.prog X.w X.K tg J fp it tn∧tn 0 s2.heap∧(∀ b∈fp,i4 X pins H' b)∧R J H'
def PI (X:Cx) (tg iter:Expr) (wi:TI):Prop :=
 ∀ (pins:List (Addr × Obj)) (s:Shared) (σ:St) (H:Hp) (R:It→Hp→Prop),Inv X pins σ H s→wi σ H R →
  wpAny (model X.prog X.w) X.A (eval iter X.env) (fun v s1=>wpAny (model X.prog X.w) X.A (pyIter v) (Ow X pins σ tg R) X.xe s1) X.xe s
theorem zV {M:Model} {A:Around} {E:Value→Shared→Prop} {s:Shared} {tg:Expr} {it:Addr} {u:Value} {o:Obj} {n:String} {vs:Array Value} {Q:Unit→Shared→Prop} (ho:s.heap.get? it=some o) (hc:o.cls=.type n) (hd:o.data=.fields vs)
  (hn:["enumerate","zip","dict_itemiterator","dict_reverseitemiterator","odict_iterator","itertools.zip_longest","itertools.pairwise"].contains n=false) (hQ:Q () s):wpAny M A (letOwnedTupleGo tg (.ref it) u) Q E s:=by
 unfold letOwnedTupleGo
 cases tg <;> first
  | exact wpAny_pure hQ
  | (cases u <;> first
    | exact wpAny_pure hQ
    | (refine wpAny_bind (wpAny_load ho ?_)
       rw [hc,hd]
       show wpAny M A (if (["enumerate","zip","dict_itemiterator","dict_reverseitemiterator","odict_iterator","itertools.zip_longest","itertools.pairwise"].contains n && vs[0]? == some (rawInt _))=true then _ else _) Q E s
       rw [if_neg (by intro h;rw [hn,Bool.false_and] at h;cases h)]
       exact wpAny_pure hQ))
def Fd (K:PySem.W.Frag) (a:Addr):It :=
 ⟨fun i H=>∃ xs x,c7 K H a xs∧xs[i]?=some x,fun i H x H'=>H'=H∧∀ xs,c7 K H a xs→xs[i]?=some x,fun i H=>∃ xs,c7 K H a xs∧xs.length≤i⟩
def Oq (K:PySem.W.Frag) (a:Addr):It :=
 ⟨fun i H=>∃ xs x,gM K H a xs∧xs[i]?=some x,fun i H x H'=>H'=H∧∀ xs,gM K H a xs→xs[i]?=some x,fun i H=>∃ xs,gM K H a xs∧xs.length≤i⟩
def Cs (lo:Int) (n:Nat):It:=⟨fun i _=>i < n,fun i H x H'=>H'=H∧x=.int (lo + i),fun i _=>n≤i⟩
theorem B_ {P:Program} {w:World} {K:PySem.W.Frag} {tg:Expr} (a it:Addr):Turn P w K tg (Fd K a) [it] it (fun i h=>h.IsListIter it a i) where
 mem:=by simp
 obj:=fun i h st b hb=>by
  have e:b=it:=by simpa using hb
  subst e
  obtain ⟨o,e,c,d⟩:=st
  exact ⟨o,e,fun v z=>by rw [d] at z;cases z⟩
 keep:=fun i h h' st k=>st.at fun o e=>k it (by simp) o e
 item:=by
  intro X hP hw hK hc i pins s σ H E I hf st hg
  subst hP hw hK
  obtain ⟨xs,x,hq,hx⟩:=hg
  obtain ⟨its,rv,p,hz⟩:=I.list hq
  obtain ⟨u,hu,ru⟩:=rv.get hx
  obtain ⟨f0,f1,f2,f3,f4,f5⟩:=hf it (by simp)
  refine wpAny_pyNext_list_item st p.isList (x:=u) (by simpa using hu) fun h' st' sb=>?_
  have I1:Inv X pins σ H { s with heap:=h' }:=I.turned (t':=s.toks) (fun b o hb e=>(sb.2 b hb).trans e) f0 f1 f3 f4 f5
  obtain ⟨o,e,c,d⟩:=id st'
  exact ⟨u,rfl,zV (s:={ s with heap:=h' }) e c d (by decide) ⟨x,H,I1,ru,⟨rfl,fun ys hy=>by rw [I.j1 hy hq];exact hx⟩,st',fun b hb=>(hf b hb).1⟩⟩
 done:=by
  intro X hP hw hK hc i pins s σ H E I hf st hg
  subst hP hw hK
  obtain ⟨xs,hq,hx⟩:=hg
  obtain ⟨its,rv,p,hz⟩:=I.list hq
  obtain ⟨f0,f1,f2,f3,f4,f5⟩:=hf it (by simp)
  have hl:=rv.length
  exact wpAny_pyNext_list_end (I.ok.hd hc) st p.isList (by simp;omega) fun h' eb=>⟨rfl,I.turned (t':=s.toks) (fun b o hb e=>eb b o hb e) f0 f1 f3 f4 f5⟩
 self:=fun _ _ _ _ _ st h=>wpAny_pyIter_listiter st h
theorem zm {P:Program} {w:World} {K:PySem.W.Frag} {tg:Expr} (a it:Addr):Turn P w K tg (Oq K a) [it] it (fun i h=>h.IsTupleIter it a i) where
 mem:=by simp
 obj:=fun i h st b hb=>by
  have e:b=it:=by simpa using hb
  subst e
  obtain ⟨o,e,c,d⟩:=st
  exact ⟨o,e,fun v z=>by rw [d] at z;cases z⟩
 keep:=fun i h h' st k=>st.at fun o e=>k it (by simp) o e
 item:=by
  intro X hP hw hK hc i pins s σ H E I hf st hg
  subst hP hw hK
  obtain ⟨xs,x,hq,hx⟩:=hg
  obtain ⟨its,rv,p,hz⟩:=I.tuple hq
  obtain ⟨u,hu,ru⟩:=rv.get hx
  obtain ⟨f0,f1,f2,f3,f4,f5⟩:=hf it (by simp)
  refine wpAny_pyNext_tuple_item st (show s.heap.IsTuple a its.toArray from p) (x:=u) (by simpa using hu) fun h' st' sb=>?_
  have I1:Inv X pins σ H { s with heap:=h' }:=I.turned (t':=s.toks) (fun b o hb e=>(sb.2 b hb).trans e) f0 f1 f3 f4 f5
  obtain ⟨o,e,c,d⟩:=id st'
  exact ⟨u,rfl,zV (s:={ s with heap:=h' }) e c d (by decide) ⟨x,H,I1,ru,⟨rfl,fun ys hy=>by rw [I.tI hy hq];exact hx⟩,st',fun b hb=>(hf b hb).1⟩⟩
 done:=by
  intro X hP hw hK hc i pins s σ H E I hf st hg
  subst hP hw hK
  obtain ⟨xs,hq,hx⟩:=hg
  obtain ⟨its,rv,p,hz⟩:=I.tuple hq
  obtain ⟨f0,f1,f2,f3,f4,f5⟩:=hf it (by simp)
  have hl:=rv.length
  exact wpAny_pyNext_tuple_end (I.ok.hd hc) st (show s.heap.IsTuple a its.toArray from p) (by simp;omega) fun h' eb=>⟨rfl,I.turned (t':=s.toks) (fun b o hb e=>eb b o hb e) f0 f1 f3 f4 f5⟩
 self:=fun _ _ _ _ _ st h=>wpAny_pyIter_tupleiter st h
theorem zl {P:Program} {w:World} {K:PySem.W.Frag} {tg:Expr} (it:Addr) (lo:Int) (n:Nat):Turn P w K tg (Cs lo n) [it] it (fun i h=>IsRangeIter h it (lo + (i:Nat) * 1) ((n:Int) - (i:Nat)) 1) where
 mem:=by simp
 obj:=fun i h st b hb=>by
  have e:b=it:=by simpa using hb
  subst e
  exact ⟨_,st,fun v z=>by
   have z':Data.fields _=Data.cell v:=z
   cases z'⟩
 keep:=fun i h h' st k=>k it (by simp) _ st
 item:=by
  intro X hP hw hK hc i pins s σ H E I hf st hg
  subst hP hw hK
  obtain ⟨f0,f1,f2,f3,f4,f5⟩:=hf it (by simp)
  have W:=Walks.range (prog:=X.prog) (w:=X.w) (I.ok.hd hc) it lo 1 n
  refine W.item i s _ _ hg st fun v h' tk hv st' kk=>?_
  obtain ⟨t,rfl⟩:=hv
  have I1:Inv X pins σ H { s with heap:=h',toks:=tk }:=I.turned (fun b o hb e=>kk b o (by simpa using hb) e) f0 f1 f3 f4 f5
  refine ⟨_,rfl,zV (s:={ s with heap:=h',toks:=tk }) (n:="range_iterator") st' rfl rfl (by decide) ⟨.int (lo + i),H,I1,⟨t,?_⟩,⟨rfl,rfl⟩,st',fun b hb=>(hf b hb).1⟩⟩
  rw [Int.mul_one]
 done:=by
  intro X hP hw hK hc i pins s σ H E I hf st hg
  subst hP hw hK
  obtain ⟨f0,f1,f2,f3,f4,f5⟩:=hf it (by simp)
  exact wpAny_pyNext_range_end (I.ok.hd hc) st (by have:n≤i:=hg;omega) fun h' eb=>⟨rfl,I.turned (t':=s.toks) (fun b o hb e=>eb b o hb e) f0 f1 f3 f4 f5⟩
 self:=fun _ _ _ _ _ st h=>wpAny_pyIter_rangeiter st h
end L2
namespace L2
open PySem PySem.Spec PyProof.Rows
section
variable {X:Cx} {tg:Expr}
def zY (K:PySem.W.Frag) (tl:TE):TI:=fun σ H R=>tl σ H fun x H1=>∃ a,x=.ref a∧(∃ xs,c7 K H1 a xs)∧R (Fd K a) H1
def IP (K:PySem.W.Frag) (tl:TE):TI:=fun σ H R=>tl σ H fun x H1=>∃ a,x=.ref a∧(∃ xs,gM K H1 a xs)∧R (Oq K a) H1
theorem mF {l:Expr} {tl:TE} (hl:PE X l tl):PI X tg l (zY X.K tl):=by
 intro pins s σ H R I h
 refine b7 (hl pins s σ H _ I h) fun v s1 ⟨x,H1,I1,r1,q1⟩=>?_
 obtain ⟨a,e,⟨xs,hq⟩,q⟩:=q1
 subst e
 cases r1
 obtain ⟨its,rv,p,hz⟩:=I1.list hq
 refine wpAny_pyIter_list p.isList ?_
 refine ⟨s1.heap.objs.size,[s1.heap.objs.size],_,_,H1,rfl,I1.kept (t':=s1.toks) fun b o e=>Heap.get?_push_of_some _ e,B_ a _,⟨_,Heap.get?_push_size _ rfl,rfl,rfl⟩,fun b hb=>?_,q⟩
 have e:b=s1.heap.objs.size:=by simpa using hb
 subst e
 exact I1.Bo (Nat.le_refl _) (I1.hok.fresh (Nat.le_refl _))
theorem yT {l:Expr} {tl:TE} (hl:PE X l tl):PI X tg l (IP X.K tl):=by
 intro pins s σ H R I h
 refine b7 (hl pins s σ H _ I h) fun v s1 ⟨x,H1,I1,r1,q1⟩=>?_
 obtain ⟨a,e,⟨xs,hq⟩,q⟩:=q1
 subst e
 cases r1
 obtain ⟨its,rv,p,hz⟩:=I1.tuple hq
 refine wpAny_pyIter_tuple (show s1.heap.IsTuple a its.toArray from p) ?_
 refine ⟨s1.heap.objs.size,[s1.heap.objs.size],_,_,H1,rfl,I1.kept (t':=s1.toks) fun b o e=>Heap.get?_push_of_some _ e,zm a _,⟨_,Heap.get?_push_size _ rfl,rfl,rfl⟩,fun b hb=>?_,q⟩
 have e:b=s1.heap.objs.size:=by simpa using hb
 subst e
 exact I1.Bo (Nat.le_refl _) (I1.hok.fresh (Nat.le_refl _))
theorem Eh {pins:List (Addr × Obj)} {σ:St} {H:Hp} {s:Shared} {R:It→Hp→Prop} {E:Value→Shared→Prop} {lo hi:Int} {t u v:Tok} {tk:Nat} (I:Inv X pins σ H s) (h1:-(2 ^ 62)≤lo) (h2:lo < 2 ^ 62) (h3:-(2 ^ 62)≤hi) (h4:hi < 2 ^ 62)
  (q:R (Cs lo (hi - lo).toNat) H):wpAny (model X.prog X.w) X.A (pyIter (.ref s.heap.objs.size)) (Ow X pins σ tg R) E { s with heap:=s.heap.push { cls:=.type "range",data:=.fields #[.int lo t,.int hi u,.int 1 v] },toks:=tk }:=by
 refine wpAny_pyIter_range (IsRange.new ..) (small_one h1 h2 h3 h4) ?_
 have I1:Inv X pins σ H { s with heap:=s.heap.push { cls:=.type "range",data:=.fields #[.int lo t,.int hi u,.int 1 v] },toks:=tk }:=I.kept fun b o e=>Heap.get?_push_of_some _ e
 refine ⟨(s.heap.push { cls:=.type "range",data:=.fields #[.int lo t,.int hi u,.int 1 v] }).objs.size,[(s.heap.push { cls:=.type "range",data:=.fields #[.int lo t,.int hi u,.int 1 v] }).objs.size],_,_,H,rfl,
  I1.kept (t':=tk) fun b o e=>Heap.get?_push_of_some _ e,zl _ lo (hi - lo).toNat,?_,fun b hb=>?_,q⟩
 ·have e1:lo + ((0:Nat):Int) * 1=lo:=by simp
  have e2:(((hi - lo).toNat:Nat):Int) - ((0:Nat):Int)=Builtin.Range.rangeSize lo hi 1:=by rw [rangeSize_one];split <;> omega
  show IsRangeIter _ _ (lo + ((0:Nat):Int) * 1) ((((hi - lo).toNat:Nat):Int) - ((0:Nat):Int)) 1
  rw [e1,e2]
  exact Heap.get?_push_size _ rfl
 ·have e:b=(s.heap.push { cls:=.type "range",data:=.fields #[.int lo t,.int hi u,.int 1 v] }).objs.size:=by simpa using hb
  subst e
  exact I1.Bo (Nat.le_refl _) (I1.hok.fresh (Nat.le_refl _))
def zZ (ta:TA):TI:=fun σ H R=>ta σ H fun vs H1=>∃ j:Int,vs=[.int j]∧-(2 ^ 62)≤j∧j < 2 ^ 62∧R (Cs 0 j.toNat) H1
def Hd (ta:TA):TI:=fun σ H R=>ta σ H fun vs H1=>∃ i j:Int,vs=[.int i,.int j]∧(-(2 ^ 62)≤i∧i < 2 ^ 62∧-(2 ^ 62)≤j∧j < 2 ^ 62)∧R (Cs i (j - i).toNat) H1
theorem gd {a:Expr} {ta:TA} {p pos:Pos} (hg:Gl X "range") (hm:X.mg "range"=none) (ha:PA X [a] ta) (hs:starEach [a] X.env=[(false,eval a X.env)]:=by rfl):PI X tg (.Call (.Name "range" p) [a] [] pos) (zZ ta):=by
 intro pins s σ H R I h
 refine Call_ (lN I hg hm boot_range (PyProof.Rows.callWith_type1 (b7 (ha pos pins s σ H _ I h) fun us s1 ⟨vs,H1,I1,r1,q1⟩=>?_) hs rfl))
 obtain ⟨j,e,q1,q2,q⟩:=q1
 subst e
 cases r1 with
 | cons r rr =>
  cases rr
  obtain ⟨t,rfl⟩:=r
  exact call_range_1 (Eh I1 (by omega) (by omega) q1 q2 (by simpa using q))
def J_ (wi:TI) (g:TG) (tb:TS):TS:=fun D σ H=>wi σ H fun J H1=>∃ W:Nat→Nat→St→Hp→Prop,(∃ m,W 0 m σ H1)∧∀ i m σ H,W i m σ H →
 (J.stop i H∧D.nx σ H)∨(J.go i H∧∃ N:St→Hp→Prop,(∀ σ' H',N σ' H'→∃ m',m' < m∧W (i + 1) m' σ' H')∧∀ x H',J.yld i H x H'→g x σ H' fun σ2 H2=>tb { D with nx:=N,ct:=N,bk:=D.nx } σ2 H2)
def uK (fp:List Addr) (h:Heap):List (Addr × Obj):=fp.filterMap fun b=>(h.get? b).map fun o=>(b,o)
theorem bZ {fp:List Addr} {h:Heap} {b:Addr} {o:Obj} (hb:b∈fp) (e:h.get? b=some o):(b,o)∈uK fp h:=List.mem_filterMap.mpr ⟨b,hb,by rw [e];rfl⟩
theorem BH {fp:List Addr} {h:Heap} {p:Addr × Obj} (hp:p∈uK fp h):p.1∈fp∧h.get? p.1=some p.2:=by
 obtain ⟨b,hb,e⟩:=List.mem_filterMap.mp hp
 cases q:h.get? b with
 | none=>rw [q] at e;cases e
 | some o =>
  rw [q] at e
  have e':(b,o)=p:=Option.some.inj e
  subst e'
  exact ⟨hb,q⟩
theorem Inv.pinned {pins:List (Addr × Obj)} {σ:St} {H:Hp} {s:Shared} {fp:List Addr} (I:Inv X pins σ H s) (hf:∀ b∈fp,i4 X pins H b) (ho:∀ b∈fp,∃ o,s.heap.get? b=some o∧∀ v,o.data≠.cell v):Inv X (pins ++ uK fp s.heap) σ H s :=
 I.Al fun p hp=>(List.mem_append.mp hp).elim (fun z=>I.pin p (List.mem_append_right _ z)) fun z=>by
  obtain ⟨hb,e⟩:=BH z
  obtain ⟨f0,f1,f2,_⟩:=hf p.1 hb
  obtain ⟨o,e',d⟩:=ho p.1 hb
  rw [e] at e';cases e'
  exact ⟨e,f0,f1,f2,d⟩
theorem Inv.fE {pins pl:List (Addr × Obj)} {σ:St} {H:Hp} {s:Shared} (I:Inv X (pins ++ pl) σ H s):Inv X pins σ H s:=I.Al fun p hp=>I.pin p (List.mem_append_right _ (List.mem_append_left _ hp))
theorem nX {iter:Expr} {body:List Stmt} {wi:TI} {g:TG} {tb:TS} {pos:Pos} (hp:PassesOwn (model X.prog X.w) X.A X.env X.xe) (hc:X.calm=true) (hi:PI X tg iter wi) (hg:PG X tg g) (hb:sF X body tb)
  (hs:∀ x,foldedSetIterable iter X.env x=pure x:=by intro _;rfl):PS X (.For tg iter body [] pos) (J_ wi g tb):=by
 intro pins s σ H D I h
 refine wpAny_For (b7 (hi pins s σ H _ I h) fun v s1 h1=>b7 h1 fun itv s2 h2=>?_) hs
 obtain ⟨it,fp,tn,J,H2,e,I2,T,st2,f2,W,⟨m0,w0⟩,turn⟩:=h2
 subst e
 have stat:∀ {H':Hp},(∀ b∈fp,H' b=none)→∀ b∈fp,i4 X pins H' b:=fun hn b hb=>⟨hn b hb,(f2 b hb).2⟩
 refine codeAny_forLoop_any (fun n s'=>∃ i σ' H',Inv X pins σ' H' s'∧tn i s'.heap∧(∀ b∈fp,H' b=none)∧W i n σ' H') ?_ m0 ⟨0,σ,H2,I2,st2,fun b hb=>(f2 b hb).1,w0⟩
 rintro n s3 ⟨i,σ3,H3,I3,st3,fr3,w3⟩
 rcases turn i n σ3 H3 w3 with ⟨stop,qn⟩ | ⟨go,N,hN,step⟩
 ·refine wpAny_passesOwn hp (b7 (T.done X rfl rfl rfl hc i pins s3 σ3 H3 X.xe I3 (stat fr3) st3 stop) fun r s4 ⟨hr,I4⟩=>?_)
  subst hr
  exact wpAny_execs_nil ⟨σ3,H3,I4,qn⟩
 ·refine wpAny_passesOwn hp (b7 (T.item X rfl rfl rfl hc i pins s3 σ3 H3 X.xe I3 (stat fr3) st3 go) fun r s4 ⟨u,hr,h4⟩=>?_)
  subst hr
  refine wpAny_passesOwn hp (b7 h4 fun _ s5 ⟨x,H5,I5,r5,y5,st5,fr5⟩=>?_)
  have I5':=I5.pinned (stat fr5) (T.obj _ _ st5)
  refine wpAny_passesOwn hp (b7 (hg _ s5 σ3 H5 x u _ I5' r5 (step x H5 y5)) fun _ s6 ⟨σ6,H6,I6,q6⟩=>?_)
  refine wpAny_passesOwn hp (b7 (hb _ s6 σ6 H6 _ I6 q6) fun f s7 q7=>?_)
  have again:∀ {σ7:St} {H7:Hp},Inv X (pins ++ uK fp s5.heap) σ7 H7 s7→N σ7 H7→∃ m,m < n∧∃ i σ' H',Inv X pins σ' H' s7∧tn i s7.heap∧(∀ b∈fp,H' b=none)∧W i m σ' H':=fun {σ7 H7} I7 n7=>by
   obtain ⟨m',hm,w7⟩:=hN σ7 H7 n7
   refine ⟨m',hm,i + 1,σ7,H7,I7.fE,T.keep _ _ _ st5 fun b hb o e=>(I7.pin (b,o) (List.mem_append_right _ (List.mem_append_right _ (bZ hb e)))).1,fun b hb=>?_,w7⟩
   obtain ⟨o,e,d⟩:=T.obj _ _ st5 b hb
   exact (I7.pin (b,o) (List.mem_append_right _ (List.mem_append_right _ (bZ hb e)))).2.1
  cases f with
  | next=>obtain ⟨σ7,H7,I7,n7⟩:=q7;exact again I7 n7
  | cont=>obtain ⟨σ7,H7,I7,n7⟩:=q7;exact again I7 n7
  | brk=>obtain ⟨σ7,H7,I7,q7⟩:=q7;exact ⟨σ7,H7,I7.fE,q7⟩
  | ret v=>obtain ⟨x7,σ7,H7,I7,r7,q7⟩:=q7;exact ⟨x7,σ7,H7,I7.fE,r7,q7⟩
end
theorem C0 {K:PySem.W.Frag} {a:Addr} {xs:List V} {g:TG} {tb:TS} {D:Ends} {σ:St} {H:Hp} (Pv:Nat→St→Hp→Prop) (h0:Pv 0 σ H) (hl:∀ i σ H,i≤xs.length→Pv i σ H→c7 K H a xs)
  (hs:∀ i x σ H,xs[i]?=some x→Pv i σ H→g x σ H fun σ2 H2=>tb { D with nx:=Pv (i + 1),ct:=Pv (i + 1),bk:=D.nx } σ2 H2) (hd:∀ σ H,Pv xs.length σ H→D.nx σ H) :
  ∃ W:Nat→Nat→St→Hp→Prop,(∃ m,W 0 m σ H)∧∀ i m σ H,W i m σ H →
   ((Fd K a).stop i H∧D.nx σ H)∨((Fd K a).go i H∧∃ N:St→Hp→Prop,(∀ σ' H',N σ' H'→∃ m',m' < m∧W (i + 1) m' σ' H')∧∀ x H',(Fd K a).yld i H x H'→g x σ H' fun σ2 H2=>tb { D with nx:=N,ct:=N,bk:=D.nx } σ2 H2):=by
 refine ⟨fun i m σ H=>m=xs.length - i∧i≤xs.length∧Pv i σ H,⟨xs.length,by simp,Nat.zero_le _,h0⟩,?_⟩
 rintro i m σ H ⟨rfl,hi,p⟩
 have q:=hl i σ H hi p
 by_cases hlt:i < xs.length
 ·refine .inr ⟨⟨xs,xs[i],q,by simp [hlt]⟩,Pv (i + 1),fun σ' H' p'=>⟨xs.length - (i + 1),by omega,rfl,hlt,p'⟩,fun x H' y=>?_⟩
  obtain ⟨e,y⟩:=y
  subst e
  exact hs i x σ _ (y xs q) p
 ·have e:i=xs.length:=by omega
  subst e
  exact .inl ⟨⟨xs,q,Nat.le_refl _⟩,hd σ H p⟩
theorem sW {lo:Int} {n:Nat} {g:TG} {tb:TS} {D:Ends} {σ:St} {H:Hp} (Pv:Nat→St→Hp→Prop) (h0:Pv 0 σ H)
  (hs:∀ i σ H,i < n→Pv i σ H→g (.int (lo + i)) σ H fun σ2 H2=>tb { D with nx:=Pv (i + 1),ct:=Pv (i + 1),bk:=D.nx } σ2 H2) (hd:∀ σ H,Pv n σ H→D.nx σ H) :
  ∃ W:Nat→Nat→St→Hp→Prop,(∃ m,W 0 m σ H)∧∀ i m σ H,W i m σ H →
   ((Cs lo n).stop i H∧D.nx σ H)∨((Cs lo n).go i H∧∃ N:St→Hp→Prop,(∀ σ' H',N σ' H'→∃ m',m' < m∧W (i + 1) m' σ' H')∧∀ x H',(Cs lo n).yld i H x H'→g x σ H' fun σ2 H2=>tb { D with nx:=N,ct:=N,bk:=D.nx } σ2 H2):=by
 refine ⟨fun i m σ H=>m=n - i∧i≤n∧Pv i σ H,⟨n,by simp,Nat.zero_le _,h0⟩,?_⟩
 rintro i m σ H ⟨rfl,hi,p⟩
 by_cases hlt:i < n
 ·refine .inr ⟨hlt,Pv (i + 1),fun σ' H' p'=>⟨n - (i + 1),by omega,rfl,hlt,p'⟩,fun x H' y=>?_⟩
  obtain ⟨e,y⟩:=y
  subst e y
  exact hs i σ _ hlt p
 ·have e:i=n:=by omega
  subst e
  exact .inl ⟨Nat.le_refl _,hd σ H p⟩
theorem xN {c:TT} {tb:TS} {D:Ends} {σ:St} {H:Hp} (Pv:St→Hp→Prop) (μ:St→Hp→Nat) (h0:Pv σ H)
  (hs:∀ σ H,Pv σ H→c σ H fun b H1=>if b=true then tb { D with nx:=fun σ' H'=>Pv σ' H'∧μ σ' H' < μ σ H,ct:=fun σ' H'=>Pv σ' H'∧μ σ' H' < μ σ H,bk:=D.nx } σ H1 else D.nx σ H1)
  (mono:∀ σ H Q Q',(∀ b H1,Q b H1→Q' b H1)→c σ H Q→c σ H Q'):vF c tb D σ H:=by
 refine ⟨fun m σ H=>m=μ σ H∧Pv σ H,⟨_,rfl,h0⟩,?_⟩
 rintro m σ H ⟨rfl,p⟩
 refine mono σ H _ _ (fun b H1 q=>?_) (hs σ H p)
 cases b with
 | true=>exact ⟨_,fun σ' H' ⟨p',l⟩=>⟨_,l,rfl,p'⟩,q⟩
 | false=>exact q
end L2
namespace L2
open PySem PySem.Spec PyProof.Rows
abbrev R2:=V→V→Hp→VK→Prop
def fF (X:Cx) (f:Value→Value→Sem Value) (r:R2):Prop :=
 ∀ (pins:List (Addr × Obj)) (s:Shared) (σ:St) (H:Hp) (x y:V) (v u:Value) (Q:VK),Inv X pins σ H s→RelV x v→RelV y u→r x y H Q →
  wpAny (model X.prog X.w) X.A (f v u) (EP X pins σ Q) X.xe s
def xO (X:Cx) (f:Value→Sem Value) (r:V→Hp→VK→Prop):Prop :=
 ∀ (pins:List (Addr × Obj)) (s:Shared) (σ:St) (H:Hp) (x:V) (v:Value) (Q:VK),Inv X pins σ H s→RelV x v→r x H Q →
  wpAny (model X.prog X.w) X.A (f v) (EP X pins σ Q) X.xe s
def cx (X:Cx) (f:Value) (r:List V→Hp→VK→Prop):Prop :=
 ∀ (pins:List (Addr × Obj)) (s:Shared) (σ:St) (H:Hp) (xs:List V) (us:List Value) (Q:VK),Inv X pins σ H s→Vals xs us→r xs H Q →
  wpAny (model X.prog X.w) X.A (call f us) (EP X pins σ Q) X.xe s
def Nb (X:Cx) (r:V→Hp→(Bool→Hp→Prop)→Prop):Prop :=
 ∀ (pins:List (Addr × Obj)) (s:Shared) (σ:St) (H:Hp) (x:V) (v:Value) (Q:Bool→Hp→Prop),Inv X pins σ H s→RelV x v→r x H Q →
  wpAny (model X.prog X.w) X.A (truthy v) (TP X pins σ Q) X.xe s
def ET (r:R2) (ta tb:TE):TE:=fun σ H Q=>ta σ H fun x H1=>tb σ H1 fun y H2=>r x y H2 Q
def M1 (r:V→Hp→VK→Prop) (ta:TE):TE:=fun σ H Q=>ta σ H fun x H1=>r x H1 Q
def rI (C:Int→Int→Prop) (g:Int→Int→V):R2:=fun x y H Q=>∃ i j,x=.int i∧y=.int j∧C i j∧Q (g i j) H
def E8 (g:Int→Int→V):R2:=fun x y H Q=>∃ i j,x=.int i∧y=.int j∧Q (g i j) H
def rU (g:Int→V):V→Hp→VK→Prop:=fun x H Q=>∃ i,x=.int i∧Q (g i) H
section
variable {X:Cx} {a b c:Expr} {ta tb tc:TE} {pos:Pos}
theorem Iw (ha:PE X a ta) (hb:PE X b tb) {pins:List (Addr × Obj)} {s:Shared} {σ:St} {H:Hp} {R:V→V→Hp→Prop} (I:Inv X pins σ H s)
  (h:ta σ H fun x H1=>tb σ H1 fun y H2=>R x y H2) {Q:Value→Shared→Prop} {f:Value→Value→Sem Value}
  (hf:∀ v u s2 x y H2,Inv X pins σ H2 s2→RelV x v→RelV y u→R x y H2→wpAny (model X.prog X.w) X.A (f v u) Q X.xe s2) :
  wpAny (model X.prog X.w) X.A (eval a X.env) (fun v s₁=>wpAny (model X.prog X.w) X.A (eval b X.env) (fun u s₂=>wpAny (model X.prog X.w) X.A (f v u) Q X.xe s₂) X.xe s₁) X.xe s:=by
 refine b7 (ha pins s σ H _ I h) fun v s1 ⟨x,H1,I1,r1,q1⟩=>?_
 refine b7 (hb pins s1 σ H1 _ I1 q1) fun u s2 ⟨y,H2,I2,r2,q2⟩=>?_
 exact hf v u s2 x y H2 I2 r1 r2 q2
theorem bB {op:Operator} {r:R2} (ho:fF X (binaryOp op) r) (ha:PE X a ta) (hb:PE X b tb):PE X (.BinOp a op b pos) (ET r ta tb):=by
 intro pins s σ H Q I h
 exact wpAny_BinOp (Iw ha hb I h fun v u s2 x y H2 I2 rx ry q=>ho pins s2 σ H2 x y v u Q I2 rx ry q)
theorem Ak {op:UnaryOp} {r:V→Hp→VK→Prop} (ho:xO X (unaryOp op) r) (ha:PE X a ta):PE X (.UnaryOp op a pos) (M1 r ta):=by
 intro pins s σ H Q I h
 exact UnaryOp_ (b7 (ha pins s σ H _ I h) fun v s1 ⟨x,H1,I1,r1,q1⟩=>ho pins s1 σ H1 x v Q I1 r1 q1)
theorem MV {f:Value→Value→Sem Value} {C:Int→Int→Prop} {g:Int→Int→Int}
  (rule:∀ (i j:Int) (t u:Tok) (s:Shared) (Q:Value→Shared→Prop) (E:Value→Shared→Prop),C i j→Q (.int (g i j) s.toks) { s with toks:=s.toks + 1 }→wpAny (model X.prog X.w) X.A (f (.int i t) (.int j u)) Q E s) :
  fF X f (rI C fun i j=>.int (g i j)):=by
 intro pins s σ H x y v u Q I rx ry h
 obtain ⟨i,j,rfl,rfl,hc,q⟩:=h
 obtain ⟨t,rfl⟩:=rx
 obtain ⟨t',rfl⟩:=ry
 exact rule i j t t' s _ _ hc ⟨.int (g i j),H,I.tok _,⟨_,rfl⟩,q⟩
theorem LB {f:Value→Value→Sem Value} {g:Int→Int→Int}
  (rule:∀ (i j:Int) (t u:Tok) (s:Shared) (Q:Value→Shared→Prop) (E:Value→Shared→Prop),Q (.int (g i j) s.toks) { s with toks:=s.toks + 1 }→wpAny (model X.prog X.w) X.A (f (.int i t) (.int j u)) Q E s) :
  fF X f (E8 fun i j=>.int (g i j)):=by
 intro pins s σ H x y v u Q I rx ry h
 obtain ⟨i,j,rfl,rfl,q⟩:=h
 obtain ⟨t,rfl⟩:=rx
 obtain ⟨t',rfl⟩:=ry
 exact rule i j t t' s _ _ ⟨.int (g i j),H,I.tok _,⟨_,rfl⟩,q⟩
theorem F4 {f:Value→Value→Sem Value} {g:Int→Int→Bool}
  (rule:∀ (i j:Int) (t u:Tok) (s:Shared) (Q:Value→Shared→Prop) (E:Value→Shared→Prop),Q (.bool (g i j)) s→wpAny (model X.prog X.w) X.A (f (.int i t) (.int j u)) Q E s) :
  fF X f (E8 fun i j=>.bl (g i j)):=by
 intro pins s σ H x y v u Q I rx ry h
 obtain ⟨i,j,rfl,rfl,q⟩:=h
 obtain ⟨t,rfl⟩:=rx
 obtain ⟨t',rfl⟩:=ry
 exact rule i j t t' s _ _ ⟨.bl (g i j),H,I,rfl,q⟩
def M5 (i j:Int):Prop:=0≤j∧j≤1000000∧i.natAbs < 2 ^ 64
theorem jv:fF X (binaryOp .Add) (E8 fun i j=>.int (i + j)):=LB fun _ _ _ _ _ _ _ q=>add_int q
theorem yL:fF X (binaryOp .Sub) (E8 fun i j=>.int (i - j)):=LB fun _ _ _ _ _ _ _ q=>sub_int q
theorem gB:fF X (binaryOp .Mod) (rI (fun _ j=>0 < j) fun i j=>.int (i % j)):=MV fun i j _ _ _ _ _ hc q=>by
 have h1:(0:Int) < j:=hc
 exact mod_int' (by omega) (by rw [Int.fmod_eq_emod_of_nonneg i (by omega)];exact q)
theorem DR:fF X (binaryOp .Pow) (rI M5 fun i j=>.int (i ^ j.toNat)):=MV fun _ _ _ _ _ _ _ hc q=>pow_int_small hc.1 hc.2.1 hc.2.2 q
theorem Ph {f:Value→Sem Value} {g:Int→Int}
  (rule:∀ (i:Int) (t:Tok) (s:Shared) (Q:Value→Shared→Prop) (E:Value→Shared→Prop),Q (.int (g i) s.toks) { s with toks:=s.toks + 1 }→wpAny (model X.prog X.w) X.A (f (.int i t)) Q E s) :
  xO X f (rU fun i=>.int (g i)):=by
 intro pins s σ H x v Q I rx h
 obtain ⟨i,rfl,q⟩:=h
 obtain ⟨t,rfl⟩:=rx
 exact rule i t s _ _ ⟨.int (g i),H,I.tok _,⟨_,rfl⟩,q⟩
theorem EZ:xO X (unaryOp .USub) (rU fun i=>.int (-i)):=Ph fun _ _ _ _ _ q=>neg_int q
end
def Et:V→V→Bool
 | .non,.non=>true | .non,.int _=>true | .int _,.non=>true | .non,.bl _=>true | .bl _,.non=>true | .non,.str _=>true | .str _,.non=>true
 | .int _,.int _=>true | .bl _,.bl _=>true | .str _,.str _=>true | .byt _,.byt _=>true
 | .int _,.str _=>true | .str _,.int _=>true | .bl _,.str _=>true | .str _,.bl _=>true
 | _,_=>false
def OS:R2:=fun x y H Q=>Et x y=true∧Q (.bl (decide (x=y))) H
def OW:R2:=fun x y H Q=>Et x y=true∧Q (.bl (!decide (x=y))) H
theorem zL {i j:Int}:decide (V.int i=V.int j)=(i == j):=by
 rw [Bool.eq_iff_iff]
 simp
theorem CO {i j:Bool}:decide (V.bl i=V.bl j)=(i == j):=by
 rw [Bool.eq_iff_iff]
 simp
theorem zM {i j:Str}:decide (V.str i=V.str j)=(i == j):=by
 rw [Bool.eq_iff_iff]
 simp
theorem zK {i j:Array UInt8}:decide (V.byt i=V.byt j)=(i.toList == j.toList):=by
 rw [Bool.eq_iff_iff]
 cases i
 cases j
 simp
section
variable {X:Cx} {a b c:Expr} {ta tb tc:TE} {pos:Pos}
theorem bD {pins:List (Addr × Obj)} {σ:St} {H:Hp} {s:Shared} {Q:VK} {k k':Bool} (I:Inv X pins σ H s) (q:Q (.bl k) H) (e:k=k'):EP X pins σ Q (.bool k') s:=by
 subst e
 exact ⟨.bl k,H,I,rfl,q⟩
theorem DQ:fF X (compareOp .Eq) OS:=by
 intro pins s σ H x y v u Q I rx ry h
 obtain ⟨hs,q⟩:=h
 cases x with
 | non =>
  cases rx
  cases y with
  | non=>cases ry;exact PySem.EqNone.eq_none_none (bD I q (by simp))
  | bl j=>cases ry;exact PySem.EqNone.eq_none_bool (bD I q (by simp))
  | int j=>obtain ⟨t',rfl⟩:=ry;exact PySem.EqNone.eq_none_int (bD I q (by simp))
  | str j=>obtain ⟨t',rfl⟩:=ry;exact PySem.EqNone.eq_none_str (bD I q (by simp))
  | _=>exact absurd (show false=true from hs) Bool.false_ne_true
 | bl i =>
  cases rx
  cases y with
  | non=>cases ry;exact PySem.EqNone.eq_bool_none (bD I q (by simp))
  | bl j=>cases ry;exact eq_bool (bD I q CO)
  | str j=>obtain ⟨t',rfl⟩:=ry;exact PySem.EqMixed.eq_bool_str (bD I q (by simp))
  | _=>exact absurd (show false=true from hs) Bool.false_ne_true
 | int i =>
  obtain ⟨t,rfl⟩:=rx
  cases y with
  | non=>cases ry;exact PySem.EqNone.eq_int_none (bD I q (by simp))
  | int j=>obtain ⟨t',rfl⟩:=ry;exact eq_int (bD I q zL)
  | str j=>obtain ⟨t',rfl⟩:=ry;exact PySem.EqMixed.eq_int_str (bD I q (by simp))
  | _=>exact absurd (show false=true from hs) Bool.false_ne_true
 | str i =>
  obtain ⟨t,rfl⟩:=rx
  cases y with
  | non=>cases ry;exact PySem.EqNone.eq_str_none (bD I q (by simp))
  | bl j=>cases ry;exact PySem.EqMixed.eq_str_bool (bD I q (by simp))
  | int j=>obtain ⟨t',rfl⟩:=ry;exact PySem.EqMixed.eq_str_int (bD I q (by simp))
  | str j=>obtain ⟨t',rfl⟩:=ry;exact eq_str (bD I q zM)
  | _=>exact absurd (show false=true from hs) Bool.false_ne_true
 | byt i =>
  obtain ⟨t,rfl⟩:=rx
  cases y with
  | byt j=>obtain ⟨t',rfl⟩:=ry;exact PySem.W.eq_bytes (bD I q zK)
  | _=>exact absurd (show false=true from hs) Bool.false_ne_true
 | _=>cases y <;> exact absurd (show false=true from hs) Bool.false_ne_true
theorem Hy:fF X (compareOp .NotEq) OW:=by
 intro pins s σ H x y v u Q I rx ry h
 obtain ⟨hs,q⟩:=h
 cases x with
 | non =>
  cases rx
  cases y with
  | non=>cases ry;exact PySem.EqNone.ne_none_none (bD I q (by simp))
  | bl j=>cases ry;exact PySem.EqNone.ne_none_bool (bD I q (by simp))
  | int j=>obtain ⟨t',rfl⟩:=ry;exact PySem.EqNone.ne_none_int (bD I q (by simp))
  | str j=>obtain ⟨t',rfl⟩:=ry;exact PySem.EqNone.ne_none_str (bD I q (by simp))
  | _=>exact absurd (show false=true from hs) Bool.false_ne_true
 | bl i =>
  cases rx
  cases y with
  | non=>cases ry;exact PySem.EqNone.ne_bool_none (bD I q (by simp))
  | bl j=>cases ry;exact ne_bool (bD I q (congrArg not CO))
  | str j=>obtain ⟨t',rfl⟩:=ry;exact PySem.EqMixed.ne_bool_str (bD I q (by simp))
  | _=>exact absurd (show false=true from hs) Bool.false_ne_true
 | int i =>
  obtain ⟨t,rfl⟩:=rx
  cases y with
  | non=>cases ry;exact PySem.EqNone.ne_int_none (bD I q (by simp))
  | int j=>obtain ⟨t',rfl⟩:=ry;exact ne_int (bD I q (congrArg not zL))
  | str j=>obtain ⟨t',rfl⟩:=ry;exact PySem.EqMixed.ne_int_str (bD I q (by simp))
  | _=>exact absurd (show false=true from hs) Bool.false_ne_true
 | str i =>
  obtain ⟨t,rfl⟩:=rx
  cases y with
  | non=>cases ry;exact PySem.EqNone.ne_str_none (bD I q (by simp))
  | bl j=>cases ry;exact PySem.EqMixed.ne_str_bool (bD I q (by simp))
  | int j=>obtain ⟨t',rfl⟩:=ry;exact PySem.EqMixed.ne_str_int (bD I q (by simp))
  | str j=>obtain ⟨t',rfl⟩:=ry;exact ne_str (bD I q (congrArg not zM))
  | _=>exact absurd (show false=true from hs) Bool.false_ne_true
 | byt i =>
  obtain ⟨t,rfl⟩:=rx
  cases y with
  | byt j=>obtain ⟨t',rfl⟩:=ry;exact PySem.W.ne_bytes (bD I q (congrArg not zK))
  | _=>exact absurd (show false=true from hs) Bool.false_ne_true
 | _=>cases y <;> exact absurd (show false=true from hs) Bool.false_ne_true
theorem Ah:fF X (compareOp .Lt) (E8 fun i j=>.bl (decide (i < j))):=F4 fun _ _ _ _ _ _ _ q=>lt_int q
theorem Hx:fF X (compareOp .LtE) (E8 fun i j=>.bl (decide (i≤j))):=F4 fun _ _ _ _ _ _ _ q=>le_int q
theorem Hw:fF X (compareOp .Gt) (E8 fun i j=>.bl (decide (j < i))):=F4 fun _ _ _ _ _ _ _ q=>gt_int q
theorem Hv:fF X (compareOp .GtE) (E8 fun i j=>.bl (decide (j≤i))):=F4 fun _ _ _ _ _ _ _ q=>ge_int q
theorem BR:fF X (compareOp .Lt) (fun x y H Q=>∃ i j,x=.str i∧y=.str j∧Q (.bl (decide (i.cps.toList < j.cps.toList))) H):=by
 intro pins s σ H x y v u Q I rx ry h
 obtain ⟨i,j,rfl,rfl,q⟩:=h
 obtain ⟨t,rfl⟩:=rx
 obtain ⟨t',rfl⟩:=ry
 exact lt_str (bD I q rfl)
theorem Jr:fF X (compareOp .Is) (fun x y H Q=>y=.non∧Q (.bl (decide (x=.non))) H):=by
 intro pins s σ H x y v u Q I rx ry h
 obtain ⟨rfl,q⟩:=h
 cases ry
 refine is_none_gen (bD I q ?_)
 cases x <;> first
  | (cases rx;rfl)
  | (obtain ⟨t,rfl⟩:=rx;rfl)
theorem F6:fF X (compareOp .IsNot) (fun x y H Q=>y=.non∧Q (.bl (!decide (x=.non))) H):=by
 intro pins s σ H x y v u Q I rx ry h
 obtain ⟨rfl,q⟩:=h
 cases ry
 refine isnot_none_gen (bD I q ?_)
 cases x <;> first
  | (cases rx;rfl)
  | (obtain ⟨t,rfl⟩:=rx;rfl)
theorem fF.or {f:Value→Value→Sem Value} {r r':R2} (h:fF X f r) (h':fF X f r'):fF X f (fun x y H Q=>r x y H Q∨r' x y H Q):=by
 intro pins s σ H x y v u Q I rx ry q
 rcases q with q | q
 ·exact h pins s σ H x y v u Q I rx ry q
 ·exact h' pins s σ H x y v u Q I rx ry q
theorem ay (b:Expr) {op:CmpOp} (h:op≠.In:=by decide) (h2:op≠.NotIn:=by decide):behindInMarks op b=false:=by
 have e1:(op == CmpOp.In)=false:=by cases op <;> first | rfl | exact absurd rfl h
 have e2:(op == CmpOp.NotIn)=false:=by cases op <;> first | rfl | exact absurd rfl h2
 cases b <;> simp [behindInMarks,e1,e2]
theorem o7 {op:CmpOp} {r:R2} (ho:fF X (compareOp op) r) (ha:PE X a ta) (hb:PE X b tb) (hm:behindInMarks op b=false):PE X (.Compare a [op] [b] pos) (ET r ta tb):=by
 intro pins s σ H Q I h
 exact wpAny_Compare1 (Iw ha hb I h fun v u s2 x y H2 I2 rx ry q=>ho pins s2 σ H2 x y v u Q I2 rx ry q) hm
def A2 (t:TE):TT:=fun σ H Q=>t σ H fun x H'=>∃ k,x=.bl k∧Q k H'
theorem dA {op:CmpOp} {r:R2} (ho:fF X (compareOp op) r) (ha:PE X a ta) (hb:PE X b tb) (hm:behindInMarks op b=false):PT X (.Compare a [op] [b] pos) (A2 (ET r ta tb)):=by
 intro pins s σ H Q I h
 refine wpAny_isTrue_Compare1 (b7 (ha pins s σ H _ I h) fun v s1 ⟨x,H1,I1,r1,q1⟩=>b7 (hb pins s1 σ H1 _ I1 q1) fun u s2 ⟨y,H2,I2,r2,q2⟩ =>
  b7 (ho pins s2 σ H2 x y v u _ I2 r1 r2 q2) fun c s3 ⟨z,H3,I3,r3,k,e,q3⟩=>?_) hm
 subst e
 cases r3
 exact wpAny_truthy_bool ⟨H3,I3,q3⟩
def EN (r r':R2) (ta tb tc:TE):TE:=fun σ H Q=>ta σ H fun x H1=>tb σ H1 fun y H2=>r x y H2 fun z H3=>∃ k,z=.bl k ∧
 (if k=true then tc σ H3 fun w' H4=>r' y w' H4 Q else Q (.bl false) H3)
theorem DY {op op':CmpOp} {r r':R2} (ho:fF X (compareOp op) r) (ho':fF X (compareOp op') r') (ha:PE X a ta) (hb:PE X b tb) (hc:PE X c tc)
  (hm:lastMarks [op,op'] [b,c]=false:=by with_unfolding_all rfl):PE X (.Compare a [op,op'] [b,c] pos) (EN r r' ta tb tc):=by
 intro pins s σ H Q I h
 refine Compare_chain (b7 (ha pins s σ H _ I h) fun v s1 ⟨x,H1,I1,r1,q1⟩=>chain_link (b7 (hb pins s1 σ H1 _ I1 q1) fun u s2 ⟨y,H2,I2,r2,q2⟩ =>
  b7 (ho pins s2 σ H2 x y v u _ I2 r1 r2 q2) fun d s3 ⟨z,H3,I3,r3,k,e,q3⟩=>?_)) hm
 subst e
 cases r3
 refine wpAny_truthy_bool ?_
 cases k with
 | false=>exact ite_ff ⟨.bl false,H3,I3,rfl,q3⟩
 | true=>exact ite_tt (chain_last (b7 (hc pins s3 σ H3 _ I3 q3) fun w' s4 ⟨z',H4,I4,r4,q4⟩=>ho' pins s4 σ H4 y z' u w' Q I4 r2 r4 q4))
def Ip (K:PySem.W.Frag) (x:V) (H:Hp) (k:Bool):Prop :=
 match x with
 | .non=>k=false
 | .bl b=>k=b
 | .int i=>k=(i != 0)
 | .str y=>y.length≤sizeLine∧k=((y.length:Int) != 0)
 | .byt y=>y.size≤sizeLine∧k=((y.size:Int) != 0)
 | .ref p=>(∃ xs,c7 K H p xs∧k=!xs.isEmpty)∨(∃ xs,gM K H p xs∧k=!xs.isEmpty)∨∃ kvs ep,H p=some (.dE kvs ep)∧k=!kvs.isEmpty
 | _=>False
theorem yu {κ:Type} {kvs:List (κ × V)} {vs:List (κ × Value)} (r:KV kvs vs):(!vs.isEmpty)=!kvs.isEmpty:=by
 cases r <;> rfl
theorem qo {xs:List V} {its:List Value} (r:Vals xs its):(!its.toArray.isEmpty)=!xs.isEmpty:=by
 cases r <;> simp
theorem lP:(sizeLine:Nat) < 2 ^ 63:=by rw [sizeLine_eq];decide
theorem Ke:Nb X (fun x H Q=>∃ k,Ip X.K x H k∧Q k H):=by
 intro pins s σ H x v Q I rx h
 obtain ⟨k,e,q⟩:=h
 have hl:=lP
 have hs:sizeLine=16777216:=sizeLine_eq
 cases x with
 | non =>
  cases rx
  have e':k=false:=e
  subst e'
  exact truthy_none ⟨H,I,q⟩
 | bl b =>
  cases rx
  have e':k=b:=e
  subst e'
  exact wpAny_truthy_bool ⟨H,I,q⟩
 | int i =>
  obtain ⟨t,rfl⟩:=rx
  have e':k=(i != 0):=e
  subst e'
  exact PySem.P.truthy_int ⟨H,I,q⟩
 | str y =>
  obtain ⟨t,rfl⟩:=rx
  obtain ⟨hy,e'⟩:y.length≤sizeLine∧k=((y.length:Int) != 0):=e
  subst e'
  exact PySem.P.truthy_str (by omega) ⟨H,I.tok _,q⟩
 | byt y =>
  obtain ⟨t,rfl⟩:=rx
  obtain ⟨hy,e'⟩:y.size≤sizeLine∧k=((y.size:Int) != 0):=e
  subst e'
  exact PySem.W.truthy_bytes (by omega) ⟨H,I.tok _,q⟩
 | ref p =>
  cases rx
  have e':(∃ xs,c7 X.K H p xs∧k=!xs.isEmpty)∨(∃ xs,gM X.K H p xs∧k=!xs.isEmpty)∨∃ kvs ep,H p=some (.dE kvs ep)∧k=!kvs.isEmpty:=e
  rcases e' with ⟨xs,hx,e'⟩ | ⟨xs,hx,e'⟩ | ⟨kvs,ep,hx,e'⟩
  ·subst e'
   obtain ⟨its,r,pl,hz⟩:=I.list hx
   have hlen:=r.length
   exact wpAny_truthy_list pl.isList (by simp only [List.size_toArray];omega) ⟨H,I.tok _,by rw [qo r];exact q⟩
  ·subst e'
   obtain ⟨its,r,pl,hz⟩:=I.tuple hx
   have hlen:=r.length
   exact truthy_tuple pl (by simp only [List.size_toArray];omega) ⟨H,I.tok _,by rw [qo r];exact q⟩
  ·subst e'
   obtain ⟨hz,hS,vs,r,m⟩:kvs.length≤sizeLine∧(p == sysModules)=false∧∃ vs,KV kvs vs∧s.heap.DictAt (strKind X.prog X.w) p vs ep:=I.hok p _ hx
   have hlen:kvs.length=vs.length:=Paired.length r
   exact wpAny_truthy_dict hS m.dictOf (by omega) ⟨H,I.tok _,by rw [yu r];exact q⟩
 | _=>exact (show False from e).elim
theorem D6 (ha:PE X a ta) (he:∀ whole,isTrue a X.env whole=(do let v ← whole;standAt a.pos;holding [v] (truthy v))) :
  PT X a (fun σ H Q=>ta σ H fun x H'=>∃ k,Ip X.K x H' k∧Q k H'):=by
 intro pins s σ H Q I h
 exact isTrue_plain (b7 (ha pins s σ H _ I h) fun v s1 ⟨x,H1,I1,r1,q1⟩=>Ke pins s1 σ H1 x v Q I1 r1 q1) (he _)
theorem vals1 {x:V} {us:List Value} (r:Vals [x] us):∃ u,us=[u]∧RelV x u:=by
 cases r with
 | cons r1 r2=>cases r2;exact ⟨_,rfl,r1⟩
theorem vals2 {x y:V} {us:List Value} (r:Vals [x,y] us):∃ u w',us=[u,w']∧RelV x u∧RelV y w':=by
 cases r with
 | cons r1 r2 =>
  cases r2 with
  | cons r3 r4=>cases r4;exact ⟨_,_,rfl,r1,r3⟩
theorem mi:cx X (.builtin "abs") (fun xs H Q=>∃ i,xs=[.int i]∧Q (.int (if i < 0 then -i else i)) H):=by
 intro pins s σ H xs us Q I r h
 obtain ⟨i,rfl,q⟩:=h
 obtain ⟨u,rfl,t,rfl⟩:=vals1 r
 exact call_abs_int fun u tk=>⟨.int (if i < 0 then -i else i),H,I.tok _,⟨_,rfl⟩,q⟩
end
end L2
namespace L2
open PySem PySem.Spec PyProof.Rows
structure yb (h:Heap) (x dx C:Addr) (mA:Str→Option Value):Prop where
 obj:h.get? x=some (PySem.W.instObj C dx)
 ns:h.Ns1 dx mA
 ne:dx≠x
theorem BA {h:Heap} {dx:Addr} {mA:Str→Option Value} (n:h.Ns1 dx mA):∃ od,h.get? dx=some od∧∀ name,PySem.W.lookIn name od=some (mA name):=by
 obtain ⟨o,es,ep,ho,hd,hk,_,hm⟩:=n
 refine ⟨o,ho,fun name=>?_⟩
 have e:=hm name
 unfold nsFind findBy at e
 rw [← Array.find?_toList] at e
 unfold PySem.W.lookIn
 rw [hd]
 dsimp only
 split
 ·rename_i y q
  rw [q] at e
  exact congrArg some e
 ·rename_i q
  rw [q] at e
  have a:es.toList.any (·.refKey)=false:=by
   rw [List.any_eq_false]
   intro y hy
   obtain ⟨z,t,hkey⟩:=hk y (Array.mem_toList_iff.mp hy)
   simp [DictEntry.refKey,hkey]
  have a':¬ es.toList.any (·.refKey)=true:=by rw [a];exact Bool.false_ne_true
  rw [if_neg a']
  exact congrArg some e
theorem yb.look {h:Heap} {x dx C:Addr} {mA:Str→Option Value} (I:yb h x dx C mA):∃ od,PySem.W.InstAt h x (PySem.W.instObj C dx) C (some od)∧∀ name,PySem.W.lookIn name od=some (mA name) :=
 let ⟨od,ho,hl⟩:=BA I.ns
 ⟨od,⟨I.obj,rfl,rfl,ho⟩,hl⟩
section
variable {prog:Program} {w:World} {A:Around} {E:Value→Shared→Prop} {s:Shared} {K:PySem.W.Frag} {x dx C f:Addr} {mA:Str→Option Value} {name:Str} {v:Value}
theorem get_map {expr:Bool} {Q:Value→Shared→Prop} (X:K.In s.heap) (I:yb s.heap x dx C mA) (hg:PySem.W.plainGet K C name=true) (hh:PySem.W.hasDictIn K C=true)
  (ha:PySem.W.findIn K (.ref C) name=some none) (hv:mA name=some v) (hv':PySem.W.handedIn v=true) (h:Q v { s with toks:=s.toks + 1 }) :
  wpAny (model prog w) A (getAttr (.ref x) name expr) Q E s:=by
 obtain ⟨od,J,hl⟩:=I.look
 exact PySem.W.get_value X J (PySem.W.plainGet_of hg).1 (PySem.W.findObj_own hh ha rfl (by rw [hl,hv])) hv' h
theorem C5 {pl:Sem Bool} {Q:Value × List Value→Shared→Prop} (X:K.In s.heap) (I:yb s.heap x dx C mA) (hg:PySem.W.plainGet K C name=true)
  (hf:PySem.W.findIn K (.ref C) name=some (some (.ref f))) (ht:PySem.W.isFn K (.ref f)=true) (hv:mA name=none) (h:Q (.ref f,[.ref x]) s) :
  wpAny (model prog w) A (getMethod (.ref x) name pl) Q E s:=by
 obtain ⟨od,J,hl⟩:=I.look
 exact PySem.W.method_fn X J (PySem.W.plainGet_of hg).1 (PySem.W.plainGet_of hg).2 hf (beq_iff_eq.mp ht) (by show (PySem.W.lookIn name od).map (·.isSome)=some false;rw [hl,hv];rfl) h
theorem GR {ns:List Str} {Q:Unit→Shared→Prop} (X:K.In s.heap) (I:yb s.heap x dx C mA)
  (hs:PySem.W.findIn K (.ref C) "__setattr__"=some (some (.builtin "object.__setattr__"))) (hp:PySem.W.plainOver K C=true) (ht:PySem.W.takerIn K C name=some none) (hh:PySem.W.hasDictIn K C=true)
  (hw:PySem.Within mA ns) (hsz:ns.length≤sizeLine)
  (h:∀ h',yb h' x dx C (fun y=>if y=name then some v else mA y)→Heap.SameBut dx s.heap h'→Q () { s with heap:=h',toks:=s.toks + 2 }) :
  wpAny (model prog w) A (setAttr (.ref x) name v) Q E s:=by
 obtain ⟨od,J,hl⟩:=I.look
 refine PySem.W.set_plain X J hs (PySem.W.osa_open (s:={ s with toks:=s.toks + 1 }) (r:=none) X J hp ht fun b=>?_)
 obtain ⟨cd,hc,hd'⟩:=PySem.W.any_some hh
 have hx:s.heap.get? x=some ⟨.ref C,some dx,.plain,#[]⟩:=I.obj
 refine wpAny_bind (wpAny_pure (wpAny_bind (wpAny_bind (wpAny_loadPart hx (wpAny_bind (PySem.W.Looks.here (s:={ s with toks:=s.toks + 1 }) (PySem.W.looks_clsIn X hc) ?_))))))
 rw [hd']
 refine wpAny_pure (a:=some dx) (wpAny_bind (wpAny_pure (wpAny_bind ?_)))
 refine wpAny_nsSet1 (s:={ s with toks:=s.toks + 1 }) I.ns fun h' hn2 hs2=>?_
 obtain ⟨oD,esD,epD,hoD,hdD,hcD⟩:=hn2.count (PySem.Within.cons name v hw)
 refine wpAny_bind (wpAny_lookBehind hoD (by rw [hdD];exact pastItsLine_dict (Nat.le_trans hcD (by rw [List.length_cons];omega))) ?_)
 exact wpAny_pure (h _ ⟨(hs2.2 _ (Ne.symm I.ne)).trans I.obj,hn2,I.ne⟩ hs2)
theorem DA {R:Result→Shared→Prop} {vs:List Value} {kw:List (Str × Value)} (X:K.In s.heap) (hm:PySem.W.makesIn K C=true)
  (hi:PySem.W.findIn K (.ref C) "__init__"=some (some (.ref f))) (hf:PySem.W.typeIn K (.ref f)=some (.type "function"))
  (h:codeAny (model prog w) (A.under (.builtin "type.__call__" ⟨.ref C :: vs,kw⟩)) (.call (.ref f) ⟨.ref (s.heap.objs.size + 1) :: vs,kw⟩) (PySem.W.InitBack (s.heap.objs.size + 1) R)
   { s with heap:=(s.heap.push PySem.W.emptyDict).push (PySem.W.instObj C s.heap.objs.size) }) :
  codeAny (model prog w) A (.call (.ref C) ⟨vs,kw⟩) R s:=by
 obtain ⟨hh,g,d,t,os⟩:=s
 exact PySem.W.make_core (PySem.W.makes_of X hm) (PySem.W.looks_findIn X hi) (fun self=>PySem.W.bind_fn X self hf) (.inl rfl) h
end
def fg (f:Str) (v:V):List (Str × V)→List (Str × V)
 | []=>[(f,v)]
 | (g,x) :: r=>if g=f then (g,v) :: r else (g,x) :: fg f v r
theorem oF (f g:Str) (v:V):∀ fs:List (Str × V),(fg f v fs).lookup g=if g=f then some v else fs.lookup g
 | []=>by
  show List.lookup g [(f,v)]=_
  by_cases h:g=f
  ·have hb:(g == f)=true:=beq_iff_eq.mpr h
   simp only [List.lookup,hb,if_pos h]
  ·have hb:(g == f)=false:=beq_eq_false_iff_ne.mpr h
   simp only [List.lookup,hb,if_neg h]
 | (k,x) :: r=>by
  have ih:=oF f g v r
  rw [show fg f v ((k,x) :: r)=(if k=f then (k,v) :: r else (k,x) :: fg f v r) from rfl]
  by_cases hk:k=f
  ·rw [if_pos hk]
   by_cases h:g=k
   ·have hb:(g == k)=true:=beq_iff_eq.mpr h
    simp only [List.lookup,hb,if_pos (h.trans hk)]
   ·have hb:(g == k)=false:=beq_eq_false_iff_ne.mpr h
    simp only [List.lookup,hb,if_neg (fun e:g=f=>h (e.trans hk.symm))]
  ·rw [if_neg hk]
   by_cases h:g=k
   ·have hb:(g == k)=true:=beq_iff_eq.mpr h
    simp only [List.lookup,hb,if_neg (fun e:g=f=>hk (h.symm.trans e))]
   ·have hb:(g == k)=false:=beq_eq_false_iff_ne.mpr h
    simp only [List.lookup,hb]
    exact ih
theorem nI (f:Str) (v:V):∀ fs:List (Str × V),f∈(fg f v fs).map (·.1)∧∀ g,g∈fs.map (·.1)→g∈(fg f v fs).map (·.1)
 | []=>⟨by simp [fg],fun g h=>by simp at h⟩
 | (k,x) :: r=>by
  obtain ⟨i1,i2⟩:=nI f v r
  rw [show fg f v ((k,x) :: r)=(if k=f then (k,v) :: r else (k,x) :: fg f v r) from rfl]
  by_cases hk:k=f
  ·rw [if_pos hk]
   subst hk
   exact ⟨by simp,fun g h=>by simpa using h⟩
  ·rw [if_neg hk]
   refine ⟨?_,fun g h=>?_⟩
   ·rw [List.map_cons]
    exact List.mem_cons_of_mem _ i1
   ·rw [List.map_cons] at h ⊢
    rcases List.mem_cons.mp h with e | e
    ·exact List.mem_cons.mpr (.inl e)
    ·exact List.mem_cons_of_mem _ (i2 g e)
theorem oE (f:Str) (v:V):∀ fs:List (Str × V),(fg f v fs).length≤fs.length + 1
 | []=>by simp [fg]
 | (k,x) :: r=>by
  have ih:=oE f v r
  rw [show fg f v ((k,x) :: r)=(if k=f then (k,v) :: r else (k,x) :: fg f v r) from rfl]
  by_cases hk:k=f
  ·rw [if_pos hk,List.length_cons,List.length_cons];omega
  ·rw [if_neg hk,List.length_cons,List.length_cons];omega
theorem rJ.some_of {v:V} {o:Option Value} (r:rJ (some v) o):∃ u,o=some u∧RelV v u:=by
 cases o with
 | none=>exact (show False from r).elim
 | some u=>exact ⟨u,rfl,r⟩
theorem rJ.none_of {o:Option Value} (r:rJ none o):o=none:=by
 cases o with
 | none=>rfl
 | some u=>exact (show False from r).elim
theorem Bp {v:V} {u:Value} (r:RelV v u):PySem.W.handedIn u=true:=by
 cases v with
 | non=>cases (show u=Value.none from r);rfl
 | bl b=>cases (show u=Value.bool b from r);rfl
 | int i=>obtain ⟨t,e⟩:=(show ∃ t,u=Value.int i t from r);cases e;rfl
 | str x=>obtain ⟨t,e⟩:=(show ∃ t,u=Value.str x t from r);cases e;rfl
 | byt b=>obtain ⟨t,e⟩:=(show ∃ t,u=Value.bytes b t from r);cases e;rfl
 | flt b=>obtain ⟨t,e⟩:=(show ∃ t,u=Value.float b t from r);cases e;rfl
 | ref a=>cases (show u=Value.ref a from r);rfl
 | ty n=>cases (show u=Value.type n from r);rfl
section
variable {P:Program} {w:World} {H H':Hp} {h h':Heap} {a C dx:Addr} {fs fs':List (Str × V)}
theorem oZ (hok:l6 P w H h) (e:H a=some (.ins C dx fs)):∃ mA,yb h a dx C mA∧(∀ f,rJ (fs.lookup f) (mA f))∧PySem.Within mA (fs.map (·.1))∧fs.length≤1000∧H dx=some (.own a):=by
 obtain ⟨d,z,ne,ob,mA,n,r,q⟩:=(show c9 P w H h a (.ins C dx fs) from hok a _ e)
 exact ⟨mA,⟨ob,n,ne⟩,r,q,z,d⟩
end
structure oV (K:PySem.W.Frag) (C:Addr):Prop where
 pg:PySem.W.plainGet K C Str.empty=true
 hd:PySem.W.hasDictIn K C=true
 po:PySem.W.plainOver K C=true
 sa:PySem.W.findIn K (.ref C) "__setattr__"=some (some (.builtin "object.__setattr__"))
theorem oV.get {K:PySem.W.Frag} {C:Addr} (c:oV K C) (f:Str):PySem.W.plainGet K C f=true:=c.pg
def aF (K:PySem.W.Frag) (C:Addr) (f:Str):Prop:=PySem.W.findIn K (.ref C) f=some none
theorem aF.Mz {K:PySem.W.Frag} {C:Addr} {f:Str} (n:aF K C f):PySem.W.takerIn K C f=some none:=by
 unfold PySem.W.takerIn
 rw [show PySem.W.findIn K (.ref C) f=some none from n]
 rfl
structure Meth (K:PySem.W.Frag) (C:Addr) (m:Str) (f:Addr):Prop where
 at_:PySem.W.findIn K (.ref C) m=some (some (.ref f))
 fn:PySem.W.isFn K (.ref f)=true
 kp:PySem.W.keepIn K (.ref f)=true
section
variable {X:Cx} {pins:List (Addr × Obj)} {σ:St} {H:Hp} {s:Shared} {a C dx:Addr} {fs:List (Str × V)} {f:Str} {v:V} {A:Around} {E:Value→Shared→Prop}
theorem yr {b:Bool} {Q:Value→Shared→Prop} (I:Inv X pins σ H s) (e:H a=some (.ins C dx fs)) (c:oV X.K C) (n:aF X.K C f) (l:fs.lookup f=some v)
  (h:∀ u s',Inv X pins σ H s'→RelV v u→Q u s'):wpAny (model X.prog X.w) A (getAttr (.ref a) f b) Q E s:=by
 obtain ⟨mA,O,r,_,_,_⟩:=oZ I.hok e
 obtain ⟨u,hu,ru⟩:=rJ.some_of (v:=v) (o:=mA f) (by rw [← l];exact r f)
 exact get_map I.mx O (c.get f) c.hd n hu (Bp ru) (h u _ (I.tok _) ru)
theorem qg {m:Str} {g:Addr} {pl:Sem Bool} {Q:Value × List Value→Shared→Prop} (I:Inv X pins σ H s) (e:H a=some (.ins C dx fs)) (c:oV X.K C) (k:Meth X.K C m g) (l:fs.lookup m=none)
  (h:Q (.ref g,[.ref a]) s):wpAny (model X.prog X.w) A (getMethod (.ref a) m pl) Q E s:=by
 obtain ⟨mA,O,r,_,_,_⟩:=oZ I.hok e
 have hn:mA m=none:=rJ.none_of (by rw [← l];exact r m)
 exact C5 I.mx O (c.get m) k.at_ k.fn hn h
theorem y9 {y:V} {u:Value} {Q:Unit→Shared→Prop} (I:Inv X pins σ H s) (e:H a=some (.ins C dx fs)) (c:oV X.K C) (n:aF X.K C f) (hl:fs.length < 1000) (ry:RelV y u)
  (h:∀ s',Inv X pins σ (upd H a (.ins C dx (fg f y fs))) s'→Q () s'):wpAny (model X.prog X.w) A (setAttr (.ref a) f u) Q E s:=by
 obtain ⟨mA,O,r,wi,_,ho⟩:=oZ I.hok e
 have hz:(fs.map (·.1)).length≤sizeLine:=by rw [List.length_map,sizeLine_eq];omega
 refine GR I.mx O c.sa c.po n.Mz c.hd wi hz fun h' O' sb=>h _ ?_
 have hd:∃ o,h'.get? dx=some o:=let ⟨o,_,_,e',_⟩:=O'.ns;⟨o,e'⟩
 refine I.write (x:=a) (e:=dx) (by rw [e];exact True.intro) (.inr ho) (fun b q hb z=>(sb.2 b hb).trans z) hd ?_
 refine ⟨by rw [aQ O.ne];exact ho,?_,O.ne,O'.obj,_,O'.ns,fun g=>?_,fun g hg=>?_⟩
 ·have:=oE f y fs;omega
 ·show rJ ((fg f y fs).lookup g) (if g=f then some u else mA g)
  rw [oF]
  by_cases q:g=f
  ·rw [if_pos q,if_pos q];exact ry
  ·rw [if_neg q,if_neg q];exact r g
 ·by_cases q:g=f
  ·rw [q];exact (nI f y fs).1
  ·refine (nI f y fs).2 g (wi g fun z=>hg ?_)
   show (if g=f then some u else mA g)=none
   rw [if_neg q];exact z
theorem Inv.made (I:Inv X pins σ H s):Inv X pins σ (upd (upd H s.heap.objs.size (.own (s.heap.objs.size + 1))) (s.heap.objs.size + 1) (.ins C s.heap.objs.size []))
  { s with heap:=(s.heap.push PySem.W.emptyDict).push (PySem.W.instObj C s.heap.objs.size) }:=by
 have e1:(s.heap.push PySem.W.emptyDict).get? s.heap.objs.size=some PySem.W.emptyDict:=Heap.get?_push_size s.heap rfl
 have e2:((s.heap.push PySem.W.emptyDict).push (PySem.W.instObj C s.heap.objs.size)).get? (s.heap.objs.size + 1)=some (PySem.W.instObj C s.heap.objs.size):=by
  have:=Heap.get?_push_size (s.heap.push PySem.W.emptyDict) (o:=PySem.W.instObj C s.heap.objs.size) rfl
  rwa [Heap.size_push] at this
 have e3:(s.heap.push PySem.W.emptyDict).Ns s.heap.objs.size (fun _=>none):=⟨PySem.W.emptyDict,#[],_,e1,rfl,(fun e he=>absurd he (by simp)),fun _=>rfl⟩
 have I1:=I.laid (a:=s.heap.objs.size) (o:=.own (s.heap.objs.size + 1)) (h':=s.heap.push PySem.W.emptyDict) (t':=s.toks) (fun b u q=>Heap.get?_push_of_some _ q) (Nat.le_refl _) ⟨_,e1⟩
 refine I1.laid (a:=s.heap.objs.size + 1) (o:=.ins C s.heap.objs.size []) (t':=s.toks) (fun b u q=>Heap.get?_push_of_some _ q) (Nat.le_of_eq (Heap.size_push _ _)) ?_
 have ne:s.heap.objs.size≠s.heap.objs.size + 1:=Nat.ne_of_lt (Nat.lt_succ_self _)
 refine ⟨by rw [aQ ne,aJ],Nat.zero_le _,ne,e2,fun _=>none,(Heap.Ns1.of_empty e3).at fun o q=>Heap.get?_push_of_some _ q,fun _=>True.intro,fun y hy=>absurd rfl hy⟩
theorem Fp {prog:Program} {w:World} {env:Env} {e:Expr} {f:Str} {pos:Pos} {s:Shared} {Q:Value→Shared→Prop} (hb:attributeBase e f env (eval e env)=eval e env)
  (h:wpAny (model prog w) A (eval e env) (fun o s₁=>wpAny (model prog w) A (getAttr o f true) Q E s₁) E s):wpAny (model prog w) A (eval (.Attribute e f pos) env) Q E s :=
 Attribute_any_ h (by rw [arm_eval_Attribute,hb])
end
def N' (K:PySem.W.Frag) (ta:TE) (f:Str):TE:=fun σ H Q=>ta σ H fun x H1=>∃ a C dx fs v,x=.ref a∧H1 a=some (.ins C dx fs)∧oV K C∧aF K C f∧fs.lookup f=some v∧Q v H1
def N8 (K:PySem.W.Frag) (ta tv:TE) (f:Str):TS:=fun D σ H=>tv σ H fun y H1=>ta σ H1 fun x H2=>∃ a C dx fs,x=.ref a∧H2 a=some (.ins C dx fs)∧oV K C∧aF K C f∧fs.length < 1000 ∧
 D.nx σ (upd H2 a (.ins C dx (fg f y fs)))
section
variable {X:Cx} {o e value:Expr} {f:Str} {pos pos' tpos:Pos} {ta tv:TE}
theorem Jy (he:PE X e ta) (hb:attributeBase e f X.env (eval e X.env)=eval e X.env):PE X (.Attribute e f pos) (N' X.K ta f):=by
 intro pins s σ H Q I h
 refine Fp hb (b7 (he pins s σ H _ I h) fun u s1 ⟨x,H1,I1,rx,a,C,dx,fs,v,ex,ea,c,n,l,q⟩=>?_)
 subst ex
 obtain rfl:u=Value.ref a:=rx
 exact yr I1 ea c n l fun u' s2 I2 ru=>⟨v,H1,I2,ru,q⟩
theorem JB (ha:PE X o ta) (hv:PE X value tv) (hs:swapsWith value (some (.Attribute o f pos')) pos.line X.env=pure false):PS X (.Assign [.Attribute o f pos'] value pos) (N8 X.K ta tv f):=by
 intro pins s σ H D I h
 refine plainObj_wpAny_Assign_Attribute (b7 (hv pins s σ H _ I h) fun u s1 ⟨y,H1,I1,ry,q⟩=>b7 (ha pins s1 σ H1 _ I1 q) fun ov s2 ⟨x,H2,I2,rx,a,C,dx,fs,ex,ea,c,n,l,q2⟩=>?_) hs
 subst ex
 obtain rfl:ov=Value.ref a:=rx
 exact y9 I2 ea c n l ry fun s3 I3=>⟨σ,_,I3,q2⟩
end
section
variable {X:Cx} {pins:List (Addr × Obj)} {σ:St} {H:Hp} {s:Shared} {A:Around} {E:Value→Shared→Prop} {Q:Value→Shared→Prop} {c:Value} {b:Bool}
inductive gK (K:PySem.W.Frag) (H:Hp):V→Value→Prop where
 | non:gK K H .non (.type "NoneType")
 | bl (x:Bool):gK K H (.bl x) (.type "bool")
 | int (i:Int):gK K H (.int i) (.type "int")
 | str (x:Str):gK K H (.str x) (.type "str")
 | flt (x:UInt64):gK K H (.flt x) (.type "float")
 | lst {a:Addr} {xs:List V} (e:H a=some (.lst xs)):gK K H (.ref a) (.type "list")
 | oJ {a:Addr} {o:Obj} {xs:List V} (e:H a=some (.oJ o (.lst xs))):gK K H (.ref a) (.type "list")
 | tup {a:Addr} {xs:List V} (e:H a=some (.tup xs)):gK K H (.ref a) (.type "tuple")
 | dK {a:Addr} {kvs:List (Key × V)} (e:H a=some (.dK kvs)):gK K H (.ref a) (.type "dict")
 | dE {a:Addr} {kvs:List (Str × V)} {ep:Nat} (e:H a=some (.dE kvs ep)):gK K H (.ref a) (.type "dict")
 | ins {a C dx:Addr} {fs:List (Str × V)} (e:H a=some (.ins C dx fs)) (cl:oV K C) (ha:PySem.W.findIn K (.ref C) "__class__"=some (some (.builtin "object.__class__")))
   (hn:PySem.W.specialIn K (.builtin "object.__class__") "__get__"=some (some (.builtin "getset_descriptor.__get__"))) (htk:PySem.W.takesIn K (.builtin "object.__class__")=some true)
   (hm:PySem.W.mroIn K C (.type "object")=some true):gK K H (.ref a) (.ref C)
theorem Bs {x:V} {u t:Value} (I:Inv X pins σ H s) (rx:RelV x u) (ty:gK X.K H x t) (e:PySem.W.kitOne X.K t c=some b) (h:∀ tk,Q (.bool b) { s with toks:=tk }) :
  wpAny (model X.prog X.w) A (call (.builtin "isinstance") [u,c]) Q E s:=by
 cases ty with
 | non=>cases (show u=Value.none from rx);exact PySem.W.kia_one PySem.W.kitx_none I.mx True.intro e (fun z=>nomatch z) h
 | bl y=>cases (show u=Value.bool y from rx);exact PySem.W.kia_one PySem.W.kitx_bool I.mx True.intro e (fun z=>nomatch z) h
 | int i=>obtain ⟨t,q⟩:=(show ∃ t,u=Value.int i t from rx);cases q;exact PySem.W.kia_one PySem.W.kitx_int I.mx True.intro e (fun z=>nomatch z) h
 | str y=>obtain ⟨t,q⟩:=(show ∃ t,u=Value.str y t from rx);cases q;exact PySem.W.kia_one PySem.W.kitx_str I.mx True.intro e (fun z=>nomatch z) h
 | flt y=>obtain ⟨t,q⟩:=(show ∃ t,u=Value.float y t from rx);cases q;exact PySem.W.kia_one PySem.W.kitx_float I.mx True.intro e (fun z=>nomatch z) h
 | @lst a xs ea =>
  cases (show u=Value.ref a from rx)
  obtain ⟨_,_,n,_,h1⟩:=(show c9 X.prog X.w H s.heap a (.lst xs) from I.hok a _ ea)
  exact PySem.W.kia_one PySem.W.kitx_list I.mx ⟨_,h1,rfl⟩ e (fun z=>nomatch z) h
 | @oJ a ob xs ea =>
  cases (show u=Value.ref a from rx)
  obtain ⟨_,_,_,n,_,h1⟩:=(show c9 X.prog X.w H s.heap a (.oJ ob (.lst xs)) from I.hok a _ ea)
  exact PySem.W.kia_one PySem.W.kitx_list I.mx ⟨_,h1,rfl⟩ e (fun z=>nomatch z) h
 | @tup a xs ea =>
  cases (show u=Value.ref a from rx)
  obtain ⟨_,_,_,p⟩:=(show c9 X.prog X.w H s.heap a (.tup xs) from I.hok a _ ea)
  obtain ⟨o,h1,h2,_⟩:=p
  exact PySem.W.kia_one PySem.W.kitx_tuple I.mx ⟨o,h1,h2⟩ e (fun z=>nomatch z) h
 | @dK a kvs ea =>
  cases (show u=Value.ref a from rx)
  obtain ⟨_,_,vs,_,p⟩:=(show c9 X.prog X.w H s.heap a (.dK kvs) from I.hok a _ ea)
  obtain ⟨o,es,ep,h1,h2,_⟩:=p
  exact PySem.W.kia_one PySem.W.kitx_dict I.mx ⟨o,h1,h2.1⟩ e (fun z=>nomatch z) h
 | @dE a kvs ep ea =>
  cases (show u=Value.ref a from rx)
  obtain ⟨_,_,vs,_,o,es,h1,h2,_⟩:=(show c9 X.prog X.w H s.heap a (.dE kvs ep) from I.hok a _ ea)
  exact PySem.W.kia_one PySem.W.kitx_dict I.mx ⟨o,h1,h2.1⟩ e (fun z=>nomatch z) h
 | @ins a C dx fs ea cl ha hn htk hm =>
  cases (show u=Value.ref a from rx)
  obtain ⟨mA,O,_⟩:=oZ I.hok ea
  obtain ⟨od,J,_⟩:=O.look
  exact PySem.W.kia_one (PySem.W.kitx_own (cl.get _) cl.hd ha hn htk hm) I.mx J e (fun z=>nomatch z) h
end
end L2
namespace L2
open PySem PySem.Spec PyProof.Rows
structure bX (k:Nat) (A:Around):Prop where
 hd:A.handled=none
 dp:A.depth + 3 * k + 5 < recursionLimit
 un:A.units + 16 * k + 200 < cLine
theorem bX.mono {j k:Nat} {A:Around} (r:bX k A) (h:j≤k):bX j A:=⟨r.hd,by have:=r.dp;omega,by have:=r.un;omega⟩
theorem bX.deeper {k:Nat} {A:Around} (r:bX (k + 1) A) (env:Env):bX k (A.deeper env) :=
 ⟨r.hd,by have:=r.dp;show A.depth + 1 + 3 * k + 5 < _;omega,by have:=r.un;show A.units + 3 + 16 * k + 200 < _;omega⟩
theorem yD {A:Around} {C:Addr} {us:List Value} {kw:List (Str × Value)}:(A.under (.builtin "type.__call__" ⟨.ref C :: us,kw⟩)).depth=A.depth + 1:=by
 first | rfl | simp [Around.under,Code.weight,Code.isCreation,Code.isGuard,Code.isCaller,Code.frames,Code.isFrame,guardIds]
theorem yE {A:Around} {C:Addr} {us:List Value} {kw:List (Str × Value)}:(A.under (.builtin "type.__call__" ⟨.ref C :: us,kw⟩)).units=A.units + 1:=by
 first | rfl | simp [Around.under,Code.cUnits,Code.frames,Code.isFrame]
theorem bX.make {k:Nat} {A:Around} (r:bX (k + 1) A) (C:Addr) (us:List Value) (kw:List (Str × Value)):bX k (A.under (.builtin "type.__call__" ⟨.ref C :: us,kw⟩)) :=
 ⟨r.hd,by have:=r.dp;rw [yD];omega,by have:=r.un;rw [yE];omega⟩
theorem bX.depth {k:Nat} {A:Around} (r:bX k A):A.depth < recursionLimit:=by have:=r.dp;omega
theorem bX.Kh {k:Nat} {A:Around} (r:bX k A):A.units < cLine:=by have:=r.un;omega
def zk:TA:=fun _ H Q=>Q [] H
def xK (ta:TE) (tr:TA):TA:=fun σ H Q=>ta σ H fun x H1=>tr σ H1 fun xs H2=>Q (x :: xs) H2
section
variable {X:Cx} {e:Expr} {es:List Expr} {te:TE} {t:TA} {pos:Pos}
theorem bK:PA X [] zk:=fun _ _ _ _ H Q I h=>Calls.spliced_nil ⟨[],H,I,.nil,h⟩
theorem aW (ha:PE X e te) (hr:PA X es t) (hs:starEach (e :: es) X.env=(false,eval e X.env) :: starEach es X.env:=by rfl):PA X (e :: es) (xK te t):=by
 intro pos pins s σ H Q I h
 rw [hs]
 show wpAny _ _ (spliced ((false,eval e X.env) :: backTo pos (starEach es X.env))) _ _ s
 refine Calls.spliced_cons (b7 (ha pins s σ H _ I h) fun u s1 ⟨x,H1,I1,r1,q1⟩=>?_)
 exact b7 (hr pos pins s1 σ H1 _ I1 q1) fun us s2 ⟨xs,H2,I2,r2,q2⟩=>⟨x :: xs,H2,I2,.cons r1 r2,q2⟩
def G0 (t:TA):TE:=fun σ H Q=>t σ H fun xs H1=>xs.length≤sizeLine∧∀ p,H1 p=none→Q (.ref p) (upd H1 p (.tup xs))
def EO (t:TA):TE:=fun σ H Q=>t σ H fun xs H1=>xs.length≤sizeLine∧∀ p,H1 p=none→Q (.ref p) (upd H1 p (.lst xs))
theorem qG {x1} (h:PA X es t):PE X (.Tuple es x1 pos) (G0 t):=by
 intro pins s σ H Q I hq
 refine wpAny_Tuple_spliced (b7 (h pos pins s σ H _ I hq) fun us s1 ⟨xs,H1,I1,r,z,q⟩=>⟨by rw [← r.length];exact z,?_⟩)
 have hf:H1 s1.heap.objs.size=none:=I1.hok.fresh (Nat.le_refl _)
 refine ⟨.ref s1.heap.objs.size,upd H1 s1.heap.objs.size (.tup xs),I1.laid (t':=s1.toks) (fun b u e=>Heap.get?_push_of_some _ e) (Nat.le_refl _) ?_,rfl,q _ hf⟩
 exact ⟨z,us,r,⟨_,Heap.get?_push_size _ rfl,rfl,_,rfl⟩⟩
theorem j_ (h:PA X es t):PE X (.List es pos) (EO t):=by
 intro pins s σ H Q I hq
 refine wpAny_List_spliced (b7 (h pos pins s σ H _ I hq) fun us s1 ⟨xs,H1,I1,r,z,q⟩=>⟨by rw [← r.length];exact z,?_⟩)
 have hf:H1 s1.heap.objs.size=none:=I1.hok.fresh (Nat.le_refl _)
 refine ⟨.ref s1.heap.objs.size,upd H1 s1.heap.objs.size (.lst xs),I1.laid (t':=s1.toks) (fun b u e=>Heap.get?_push_of_some _ e) (Nat.le_refl _) ?_,rfl,q _ hf⟩
 exact ⟨z,us,0,r,Heap.get?_push_size _ rfl⟩
end
abbrev Sp:=List V→Hp→VK→XK→Prop
abbrev rj:=List Env→Hp→Shared→XK→Value→Shared→Prop
structure x4 (P:Program) (w:World) (K:PySem.W.Frag) (mg:Str→Option Value) (base:Heap) (A:Around) (outer:List Env) (s:Shared) (H:Hp):Prop where
 frames:A.frames=some outer
 mod:Mod K mg base
 bs:∀ b o,base.get? b=some o→s.heap.get? b=some o∧H b=none
 bsz:base.objs.size≤s.heap.objs.size
 nG:s.heap.FunFrames base outer
 frf:∀ b∈jN outer,H b=none
 hok:l6 P w H s.heap
 bare:AllBare s.gens
def CE (outer:List Env) (P:Program) (w:World) (H:Hp) (s:Shared) (Q:VK) (u:Value) (s':Shared):Prop :=
 ∃ v H',s'.os=s.os∧AllBare s'.gens∧Un (jN outer) [] H H' s.heap s'.heap∧l6 P w H' s'.heap∧RelV v u∧Q v H'
def CR (CX:rj) (outer:List Env) (P:Program) (w:World) (H:Hp) (s:Shared) (Q:VK) (E:XK) (r:Result) (s':Shared):Prop :=
 match r with
 | .ok (.ret u)=>CE outer P w H s Q u s'
 | .ok _=>False
 | .error e=>CX outer H s E e s'
structure aO (P:Program) (w:World) (K:PySem.W.Frag) (mg:Str→Option Value) (base:Heap) (CX:rj) (k:Nat) (f:Addr) (fd:FuncData) (ps:List Str) (sp:Sp):Prop where
 len:∀ vs H Q E,sp vs H Q E→vs.length=ps.length
 run:∀ (A:Around) (outer:List Env) (s:Shared) (H:Hp) (args:Args) (us:List Value) (vs:List V) (Q:VK) (E:XK),bX k A→x4 P w K mg base A outer s H→BindsTo s fd args (ps.zip us)→Vals vs us→sp vs H Q E →
  codeAny (model P w) A (.call (.ref f) args) (CR CX outer P w H s Q E) s
theorem aO.imp {P:Program} {w:World} {K:PySem.W.Frag} {mg:Str→Option Value} {base:Heap} {CX:rj} {k:Nat} {f:Addr} {fd:FuncData} {ps:List Str} {sp sp':Sp} (F:aO P w K mg base CX k f fd ps sp)
  (h:∀ vs H Q E,sp' vs H Q E→sp vs H Q E):aO P w K mg base CX k f fd ps sp' :=
 ⟨fun vs H Q E q=>F.len vs H Q E (h _ _ _ _ q),fun A outer s H args us vs Q E hr he hb hv hs=>F.run A outer s H args us vs Q E hr he hb hv (h _ _ _ _ hs)⟩
theorem x4.make {P:Program} {w:World} {K:PySem.W.Frag} {mg:Str→Option Value} {base:Heap} {A:Around} {outer:List Env} {s:Shared} {H:Hp} (e:x4 P w K mg base A outer s H) (C:Addr) (us:List Value) (kw:List (Str × Value)) :
  x4 P w K mg base (A.under (.builtin "type.__call__" ⟨.ref C :: us,kw⟩)) outer s H:=⟨by first | exact e.frames | (simpa [Around.under,Code.envs,Code.isFrame,pushEnvs] using e.frames),e.mod,e.bs,e.bsz,e.nG,e.frf,e.hok,e.bare⟩
section
variable {X:Cx} {pins:List (Addr × Obj)} {σ:St} {H:Hp} {s s':Shared}
theorem Inv.KZ (I:Inv X pins σ H s):x4 X.prog X.w X.K X.mg X.base X.A X.stack s H :=
 ⟨I.ok.frames,I.ok.mod,I.bs,Nat.le_trans I.ok.bsz I.sz,I.stack,I.vE,I.hok,I.bare⟩
theorem Inv.after {Q:VK} {u:Value} (I:Inv X pins σ H s) (h:CE X.stack X.prog X.w H s Q u s'):EP X pins σ Q u s':=by
 obtain ⟨v,H',os,bare,un,hok,r,q⟩:=h
 obtain ⟨hh,g,d,t,os'⟩:=s'
 obtain rfl:os'=s.os:=os
 exact ⟨v,H',I.call (h':=hh) (g':=g) (d':=d) (t':=t) (ch:=[]) un hok bare (fun b z=>absurd z (by simp)),r,q⟩
end
def q_ (sp:Sp) (dvs:List V) (E:XK) (t:TA):TE:=fun σ H Q=>t σ H fun vs H1=>sp (vs ++ dvs) H1 Q E
def ES (C:Addr) (m:Str) (sp:Sp) (dvs:List V) (E:XK) (ta:TE) (t:TA):TE:=fun σ H Q=>ta σ H fun x H1=>∃ a dx fs,x=.ref a∧H1 a=some (.ins C dx fs)∧fs.lookup m=none ∧
 t σ H1 fun vs H2=>sp (x :: (vs ++ dvs)) H2 Q E
def ER (C:Addr) (sp:Sp) (dvs:List V) (E:XK) (t:TA):TE:=fun σ H Q=>t σ H fun vs H1=>∀ x dx,H1 x=none→H1 dx=none→dx≠x →
 sp (.ref x :: (vs ++ dvs)) (upd (upd H1 dx (.own x)) x (.ins C dx [])) (fun v H2=>v=.non∧Q (.ref x) H2) E
def Binds (K:PySem.W.Frag) (fd:FuncData) (ps:List Str) (ds:List Value):Prop :=
 ∀ (s:Shared) (us:List Value),K.In s.heap→(us ++ ds).length=ps.length→BindsTo s fd ⟨us,[]⟩ (ps.zip (us ++ ds))
theorem Binds.all {K:PySem.W.Frag} {fd:FuncData} {ps:List Str} (h:∀ us:List Value,us.length=ps.length→bindArgs fd ⟨us,[]⟩=pure (ps.zip us)):Binds K fd ps []:=fun s us _ hl=>by
 rw [List.append_nil] at hl ⊢
 exact .of_eq (h us hl)
def Passes (CX:rj) (X:Cx) (E:XK):Prop:=∀ (pins:List (Addr × Obj)) (σ:St) (H:Hp) (s:Shared) (e:Value) (s':Shared),Inv X pins σ H s→CX X.stack H s E e s'→X.xe e s'
section
variable {X:Cx} {CX:rj} {k:Nat} {f C:Addr} {fd:FuncData} {ps:List Str} {sp:Sp} {dvs:List V} {ds:List Value} {E:XK} {x m:Str} {p pos apos:Pos} {e o:Expr} {es:List Expr} {ta:TE} {t:TA}
theorem y6 {pins:List (Addr × Obj)} {σ:St} {H:Hp} {s:Shared} {Q:VK} {us:List Value} {vs:List V} (F:aO X.prog X.w X.K X.mg X.base CX k f fd ps sp) (hr:bX k X.A) (hb:Binds X.K fd ps ds) (hd:Vals dvs ds) (hx:Passes CX X E)
  (I:Inv X pins σ H s) (r:Vals vs us) (h:sp (vs ++ dvs) H Q E):wpAny (model X.prog X.w) X.A (call (.ref f) us) (EP X pins σ Q) X.xe s:=by
 have r2:Vals (vs ++ dvs) (us ++ ds):=r.append hd
 have hl:(us ++ ds).length=ps.length:=by rw [← r2.length];exact F.len _ _ _ _ h
 refine wpAny_call (codeAny_mono (F.run X.A X.stack s H ⟨us,[]⟩ (us ++ ds) (vs ++ dvs) Q E hr I.KZ (hb s us I.mx hl) r2 h) fun r s' hq=>?_)
 cases r with
 | error e=>exact hx pins σ H s e s' I hq
 | ok fl =>
  cases fl with
  | ret u=>exact I.after hq
  | next=>exact False.elim hq
  | brk=>exact False.elim hq
  | cont=>exact False.elim hq
theorem Aj (F:aO X.prog X.w X.K X.mg X.base CX k f fd ps sp) (hr:bX k X.A) (hg:Gl X x) (hm:X.mg x=some (.ref f)) (hk:PySem.W.keepIn X.K (.ref f)=true) (hb:Binds X.K fd ps ds) (hd:Vals dvs ds) (hx:Passes CX X E)
  (ha:PA X (e :: es) t) (hdb:(x == ("__debug__":Str))=false:=by decide) (he:starEach (e :: es) X.env=(false,eval e X.env) :: starEach es X.env:=by rfl) (hpl:(backTo pos (starEach es X.env)).any (·.1)=false:=by rfl) :
  PE X (.Call (.Name x p) (e :: es) [] pos) (q_ sp dvs E t):=by
 intro pins s σ H Q I h
 refine wpAny_Call_Name_kw (my I hg hm ?_ hdb)
 refine PySem.W.callWith_K (h₀:=X.base) I.ok.mod.kin hk (b7 (ha pos pins s σ H _ I h) fun us s1 ⟨vs,H1,I1,r,q⟩=>⟨I1.mx,?_⟩) he hpl
 exact y6 F hr hb hd hx I1 r q
theorem Ge {pl:Sem Bool} (he:PE X o ta) (c:oV X.K C) (hm:Meth X.K C m f) (F:aO X.prog X.w X.K X.mg X.base CX k f fd ps sp) (hr:bX k X.A) (hb:Binds X.K fd ps ds) (hd:Vals dvs ds) (hx:Passes CX X E) (ha:PA X (e :: es) t)
  (hst:starEach (e :: es) X.env=(false,eval e X.env) :: starEach es X.env:=by rfl) (hpl:(backTo pos (starEach es X.env)).any (·.1)=false:=by rfl)
  (ht:eval (.Call (.Attribute o m apos) (e :: es) [] pos) X.env=(do
   let ov ← eval o X.env
   standAt apos.atName
   let (f,first) ← holding [ov] (getMethod ov m pl)
   callWith pos f first (backTo pos (starEach (e :: es) X.env)) (backToKw pos (keywordEach [] X.env))):=by rfl) :
  PE X (.Call (.Attribute o m apos) (e :: es) [] pos) (ES C m sp dvs E ta t):=by
 intro pins s σ H Q I h
 refine PySem.W.methodCall_KW (pl:=pl) (b7 (he pins s σ H _ I h) fun u s1 ⟨x,H1,I1,rx,a,dx,fs,ex,ea,l,q⟩=>?_) ht
 subst ex
 obtain rfl:u=Value.ref a:=rx
 refine qg I1 ea c hm l ?_
 refine PySem.W.callWith_K (first:=[.ref a]) (h₀:=X.base) I.ok.mod.kin hm.kp (b7 (ha pos pins s1 σ H1 _ I1 q) fun us s2 ⟨vs,H2,I2,r,q2⟩=>⟨I2.mx,?_⟩) hst hpl
 exact y6 (us:=.ref a :: us) (vs:=.ref a :: vs) F hr hb hd hx I2 (.cons rfl r) q2
theorem D0 {pl:Sem Bool} (he:PE X o ta) (c:oV X.K C) (hm:Meth X.K C m f) (F:aO X.prog X.w X.K X.mg X.base CX k f fd ps sp) (hr:bX k X.A) (hb:Binds X.K fd ps ds) (hd:Vals dvs ds) (hx:Passes CX X E)
  (ht:eval (.Call (.Attribute o m apos) [] [] pos) X.env=(do
   let ov ← eval o X.env
   standAt apos.atName
   let (f,first) ← holding [ov] (getMethod ov m pl)
   callWith pos f first (backTo pos (starEach [] X.env)) (backToKw pos (keywordEach [] X.env))):=by rfl) :
  PE X (.Call (.Attribute o m apos) [] [] pos) (ES C m sp dvs E ta zk):=by
 intro pins s σ H Q I h
 refine PySem.W.methodCall_KW (pl:=pl) (b7 (he pins s σ H _ I h) fun u s1 ⟨x,H1,I1,rx,a,dx,fs,ex,ea,l,q⟩=>?_) ht
 subst ex
 obtain rfl:u=Value.ref a:=rx
 refine qg I1 ea c hm l ?_
 exact PySem.W.callWith_K0 (first:=[.ref a]) I1.mx hm.kp (y6 (us:=[.ref a]) (vs:=[.ref a]) F hr hb hd hx I1 (.cons rfl .nil) q)
structure Mk (K:PySem.W.Frag) (C f:Addr):Prop where
 makes:PySem.W.makesIn K C=true
 init:PySem.W.findIn K (.ref C) "__init__"=some (some (.ref f))
 fn:PySem.W.isFn K (.ref f)=true
 kp:PySem.W.keepIn K (.ref C)=true
theorem xk {pins:List (Addr × Obj)} {σ:St} {H:Hp} {s:Shared} {Q:VK} {us:List Value} {vs:List V} (M:Mk X.K C f) (F:aO X.prog X.w X.K X.mg X.base CX k f fd ps sp) (hr:bX (k + 1) X.A) (hb:Binds X.K fd ps ds) (hd:Vals dvs ds)
  (hx:Passes CX X E) (I:Inv X pins σ H s) (r:Vals vs us)
  (h:∀ x dx,H x=none→H dx=none→dx≠x→sp (.ref x :: (vs ++ dvs)) (upd (upd H dx (.own x)) x (.ins C dx [])) (fun v H2=>v=.non∧Q (.ref x) H2) E) :
  wpAny (model X.prog X.w) X.A (call (.ref C) us) (EP X pins σ Q) X.xe s:=by
 have hq:=h (s.heap.objs.size + 1) s.heap.objs.size (I.hok.fresh (Nat.le_succ _)) (I.hok.fresh (Nat.le_refl _)) (Nat.ne_of_lt (Nat.lt_succ_self _))
 have I2:=Inv.made (C:=C) I
 have r2:Vals (V.ref (s.heap.objs.size + 1) :: (vs ++ dvs)) (Value.ref (s.heap.objs.size + 1) :: (us ++ ds)):=.cons rfl (r.append hd)
 have hl:(Value.ref (s.heap.objs.size + 1) :: us ++ ds).length=ps.length:=by
  have e:=r2.length
  rw [F.len _ _ _ _ hq] at e
  exact e.symm
 refine wpAny_call (DA (f:=f) I.mx M.makes M.init (beq_iff_eq.mp M.fn) (codeAny_mono (F.run _ X.stack _ _ ⟨Value.ref (s.heap.objs.size + 1) :: us,[]⟩ (Value.ref (s.heap.objs.size + 1) :: (us ++ ds)) _ _ E (hr.make C us [])
  (I2.KZ.make C us []) (hb _ (Value.ref (s.heap.objs.size + 1) :: us) I2.mx hl) r2 hq) fun r s' hq'=>?_))
 cases r with
 | error e=>exact hx pins σ _ _ e s' I2 hq'
 | ok fl =>
  cases fl with
  | ret u =>
   obtain ⟨v,H',I3,rv,ev,q3⟩:=I2.after hq'
   subst ev
   exact ⟨rv,⟨V.ref (s.heap.objs.size + 1),H',I3,rfl,q3⟩⟩
  | next=>exact False.elim hq'
  | brk=>exact False.elim hq'
  | cont=>exact False.elim hq'
theorem Gb (M:Mk X.K C f) (F:aO X.prog X.w X.K X.mg X.base CX k f fd ps sp) (hr:bX (k + 1) X.A) (hg:Gl X x) (hm:X.mg x=some (.ref C)) (hb:Binds X.K fd ps ds) (hd:Vals dvs ds) (hx:Passes CX X E)
  (ha:PA X (e :: es) t) (hdb:(x == ("__debug__":Str))=false:=by decide) (he:starEach (e :: es) X.env=(false,eval e X.env) :: starEach es X.env:=by rfl) (hpl:(backTo pos (starEach es X.env)).any (·.1)=false:=by rfl) :
  PE X (.Call (.Name x p) (e :: es) [] pos) (ER C sp dvs E t):=by
 intro pins s σ H Q I h
 refine wpAny_Call_Name_kw (my I hg hm ?_ hdb)
 refine PySem.W.callWith_K (h₀:=X.base) I.ok.mod.kin M.kp (b7 (ha pos pins s σ H _ I h) fun us s1 ⟨vs,H1,I1,r,q⟩=>⟨I1.mx,?_⟩) he hpl
 exact xk M F hr hb hd hx I1 r q
theorem DZ (M:Mk X.K C f) (F:aO X.prog X.w X.K X.mg X.base CX k f fd ps sp) (hr:bX (k + 1) X.A) (hg:Gl X x) (hm:X.mg x=some (.ref C)) (hb:Binds X.K fd ps ds) (hd:Vals dvs ds) (hx:Passes CX X E)
  (hdb:(x == ("__debug__":Str))=false:=by decide):PE X (.Call (.Name x p) [] [] pos) (ER C sp dvs E zk):=by
 intro pins s σ H Q I h
 refine wpAny_Call_Name_kw (my I hg hm ?_ hdb)
 exact PySem.W.callWith_K0 I.mx M.kp (xk (us:=[]) M F hr hb hd hx I .nil h)
end
section
variable {X:Cx} {CX:rj} {k:Nat} {f C:Addr} {fd:FuncData} {ps ks:List Str} {sp:Sp} {E:XK} {x m:Str} {p pos apos kpos:Pos} {e o:Expr} {es:List Expr} {kws:List Keyword} {te ta:TE} {t tk:TA} {nm:Option Str}
variable {g:List Value→List Value→List Value} {gV:List V→List V→List V}
end
structure aw (N P:List Str) (sc:Scope):Prop where
 kind:sc.kind=.function
 co:sc.isCoroutine=false
 gen:sc.isGenerator=false
 nd:N.Nodup
 pre:N.take P.length=P
 par:∀ x∈P,sc.names.lookup x=some .local∨sc.names.lookup x=some .cell
 nofree:∀ y∈sc.names,y.2≠.free
theorem sM {kindOf:Str→Option NameKind} {x:Str}:∀ {binds:List (Str × Value)} {m:Str→Option Value},(∀ v,(x,v) ∉ binds)→bindL kindOf binds m x=m x
 | [],_,_=>rfl
 | (n,v) :: r,m,h=>by
  unfold bindL
  rw [sM fun w hw=>h w (List.mem_cons_of_mem _ hw)]
  split
  ·have:x≠n:=by rintro rfl;exact h v List.mem_cons_self
   simp [this]
  ·rfl
theorem sJ {kindOf:Str→Option NameKind} {x:Str}:∀ {binds:List (Str × Value)} {m:Str→Option Value},(∀ v,(x,v) ∉ binds)→bindC kindOf binds m x=m x
 | [],_,_=>rfl
 | (n,v) :: r,m,h=>by
  unfold bindC
  rw [sJ fun w hw=>h w (List.mem_cons_of_mem _ hw)]
  split
  ·rfl
  ·have:x≠n:=by rintro rfl;exact h v List.mem_cons_self
   simp [this]
theorem sL {kindOf:Str→Option NameKind} {x:Str} {v:Value}:∀ {P:List Str} {vs:List Value} {i:Nat} {m:Str→Option Value},P.Nodup→P[i]?=some x→vs[i]?=some v→kindOf x=some .local →
  bindL kindOf (P.zip vs) m x=some v
 | [],_,_,_,_,h,_,_=>by simp at h
 | _ :: _,[],_,_,_,_,h,_=>by simp at h
 | p :: P,w :: vs,0,m,nd,h1,h2,hk=>by
  simp at h1 h2;subst h1;subst h2
  show bindL kindOf ((p,w) :: P.zip vs) m p=_
  unfold bindL
  rw [sM fun v hv=>(List.nodup_cons.mp nd).1 (List.of_mem_zip hv).1,if_pos hk]
  simp
 | p :: P,w :: vs,i + 1,m,nd,h1,h2,hk=>by
  show bindL kindOf ((p,w) :: P.zip vs) m x=_
  unfold bindL
  exact sL (i:=i) (List.nodup_cons.mp nd).2 (by simpa using h1) (by simpa using h2) hk
theorem sI {kindOf:Str→Option NameKind} {x:Str} {v:Value}:∀ {P:List Str} {vs:List Value} {i:Nat} {m:Str→Option Value},P.Nodup→P[i]?=some x→vs[i]?=some v→kindOf x≠some .local →
  bindC kindOf (P.zip vs) m x=some v
 | [],_,_,_,_,h,_,_=>by simp at h
 | _ :: _,[],_,_,_,_,h,_=>by simp at h
 | p :: P,w :: vs,0,m,nd,h1,h2,hk=>by
  simp at h1 h2;subst h1;subst h2
  show bindC kindOf ((p,w) :: P.zip vs) m p=_
  unfold bindC
  rw [sJ fun v hv=>(List.nodup_cons.mp nd).1 (List.of_mem_zip hv).1,if_neg hk]
  simp
 | p :: P,w :: vs,i + 1,m,nd,h1,h2,hk=>by
  show bindC kindOf ((p,w) :: P.zip vs) m x=_
  unfold bindC
  exact sI (i:=i) (List.nodup_cons.mp nd).2 (by simpa using h1) (by simpa using h2) hk
def start (N:List Str) (vs:List V):St:=vs.map some ++ List.replicate (N.length - vs.length) none
def t_ (CX:rj) (P:Program) (w:World) (K:PySem.W.Frag) (mg:Str→Option Value) (base:Heap) (N:List Str) (qual:Str) (scope:Scope) (f:Addr) (cd:Value) (A:Around) (outer:List Env) (s:Shared) (H:Hp) (E:XK):Cx where
 prog:=P
 w:=w
 K:=K
 mg:=mg
 base:=base
 A:=A.deeper (envOfC qual scope s.heap.objs.size f cd)
 N:=N
 s₀:=s
 H₀:=H
 env:=envOfC qual scope s.heap.objs.size f cd
 outer:=outer
 stack:=envOfC qual scope s.heap.objs.size f cd :: outer
 ex:=[]
 calm:=true
 fn:=fun _=>true
 pn:=[]
 xe:=fun e s'=>wpAny (model P w) (A.deeper (envOfC qual scope s.heap.objs.size f cd)) (leaving (envOfC qual scope s.heap.objs.size f cd) e) (fun _ s''=>CX outer H s E e s'') (fun e' s''=>CX outer H s E e' s'') s'
theorem vZ {sc:Scope} {n:Nat} {x:Str} (h:sc.names.lookup x=some .cell):∃ c,(cellsFrom n sc.names []).lookup x=some c:=by
 have q:=PySem.W.cellsFrom_some sc.names n [] (.inl h)
 exact Option.isSome_iff_exists.mp q
theorem Br {CX:rj} {P:Program} {w:World} {K:PySem.W.Frag} {mg:Str→Option Value} {base:Heap} {N ps:List Str} {qual:Str} {scope:Scope} {f:Addr} {cd:Value} {A:Around} {outer:List Env} {s s1:Shared} {H:Hp} {E:XK} {us:List Value} {vs:List V}
  (S:aw N ps scope) (hd:A.handled=none) (e0:x4 P w K mg base A outer s H) (hl:vs.length=ps.length) (r:Vals vs us)
  (x:InCallC s s.heap.objs.size (bindL (envOfC qual scope s.heap.objs.size f cd).kindOf (ps.zip us) fun _=>none) (cellsFrom (s.heap.objs.size + 1) scope.names []) (bindC (envOfC qual scope s.heap.objs.size f cd).kindOf (ps.zip us) fun _=>none) s1) :
  Inv (t_ CX P w K mg base N qual scope f cd A outer s H E) [] (start N vs) H s1:=by
 have hpl:ps.length≤N.length:=by have:=congrArg List.length S.pre;rw [List.length_take] at this;omega
 obtain ⟨h1,tk,rfl,hk⟩:=x.done
 have noA:∀ b:Addr,b ∉ (t_ CX P w K mg base N qual scope f cd A outer s H E).ex:=fun b z=>absurd (show b∈([]:List Addr) from z) (by simp)
 refine ⟨⟨e0.mod,S.kind,rfl,rfl,Nat.le_refl _,fun y z c h1 h2=>?_,fun y hy=>?_,fun y c _ h=>?_,fun _=>hd,Around.frames_deeper e0.frames,.inr ⟨rfl,rfl⟩,fun b z=>absurd z (noA b),e0.bs,e0.bsz,fun b _ _=>noA b,fun b z=>absurd z (noA b),e0.nG,e0.frf⟩,
  rfl,e0.bare,Un.kept hk,⟨_,x.toInCall.ns,fun i y v h1 h2 h3=>?_⟩,fun y c h=>⟨_,x.cell y c h⟩,e0.hok.fresh (Nat.le_refl _),fun y c h=>?_,fun p hp=>absurd (show p∈([]:List (Addr × Obj)) from hp) (by simp),e0.hok.kept hk,?_⟩
 ·exact name_of_addr x.apart (PySem.mem_of_lookup h1) (PySem.mem_of_lookup h2)
 ·have hy:scope.names.lookup y=some .cell∨scope.names.lookup y=some .free:=hy
  rcases hy with hy | hy
  ·exact vZ hy
  ·exact absurd rfl (S.nofree _ (PySem.mem_of_lookup hy))
 ·exact Nat.le_of_lt (x.above y c (PySem.mem_of_lookup h))
 ·have hi:i < vs.length:=by
   unfold start at h2
   by_cases hi:i < vs.length
   ·exact hi
   ·rw [List.getElem?_append_right (by simpa using hi)] at h2
    rw [List.getElem?_replicate] at h2
    split at h2 <;> cases h2
  have ha:vs[i]?=some v:=by
   unfold start at h2
   rw [List.getElem?_append_left (by simpa using hi),List.getElem?_map] at h2
   cases e:vs[i]? with
   | none=>rw [e] at h2;cases h2
   | some a=>rw [e] at h2;cases h2;rfl
  obtain ⟨u,hu,rv⟩:=r.get ha
  have hp:ps[i]?=some y:=by
   rw [← S.pre,List.getElem?_take_of_lt (by omega)];exact h1
  have ndP:ps.Nodup:=by rw [← S.pre];exact S.nd.sublist (List.take_sublist _ _)
  refine ⟨u,rv,?_⟩
  rcases S.par y (List.mem_of_getElem? hp) with k | k
  ·exact .inl ⟨k,sL ndP hp hu k⟩
  ·obtain ⟨c,e⟩:=vZ (n:=s.heap.objs.size + 1) k
   refine .inr ⟨.inl k,c,e,?_⟩
   have q:=x.cell y c e
   rw [sI ndP hp hu (by show scope.names.lookup y≠_;rw [k];decide)] at q
   exact q
 ·exact e0.hok.fresh (Nat.le_of_lt (x.above y c (PySem.mem_of_lookup h)))
 ·unfold start
  show _=N.length
  rw [List.length_append,List.length_map,List.length_replicate]
  omega
theorem CZ {CX:rj} {P:Program} {w:World} {K:PySem.W.Frag} {mg:Str→Option Value} {base:Heap} {k:Nat} {f:Addr} {name qual:Str} {params:Arguments} {body:List Stmt} {scope:Scope} {dV kV doc pm cdv ct oc:Value} {an od:Option Addr}
  {osl:Array (Option Value)} {N ps:List Str} {sp:Sp} (lk:K.lookup f=some ⟨oc,od,.func (PySem.W.fnOf name qual params body scope dV kV doc pm an cdv ct),osl⟩) (hcd:PySem.W.codeIn K cdv qual=true) (S:aw N ps scope)
  (len:∀ vs H Q E,sp vs H Q E→vs.length=ps.length)
  (hbody:∀ (A:Around) (outer:List Env) (s:Shared) (H:Hp) (vs:List V) (Q:VK) (E:XK),bX k (A.deeper (envOfC qual scope s.heap.objs.size f cdv))→sp vs H Q E →
   ∃ t,sF (t_ CX P w K mg base N qual scope f cdv A outer s H E) body t∧t { nx:=fun _ H'=>Q .non H',rt:=Q } (start N vs) H) :
  aO P w K mg base CX (k + 1) f (PySem.W.fnOf name qual params body scope dV kV doc pm an cdv ct) ps sp:=by
 refine ⟨len,fun A outer s H args us vs Q E hr e0 hb r hsp=>?_⟩
 have hl:=len _ _ _ _ hsp
 have KX:K.In s.heap:=e0.mod.kin.keeps fun b o e=>(e0.bs b o e).1
 have lim:s.heap.NoLimit:=e0.mod.nolimit.keeps fun b o e=>(e0.bs b o e).1
 have hkind:∀ y∈ps.zip us,scope.names.lookup y.1=some .local∨(scope.names.lookup y.1=some .cell∧((cellsFrom (s.heap.objs.size + 1) scope.names []).lookup y.1).isSome=true):=fun ⟨n,v⟩ hy=>by
  rcases S.par n (List.of_mem_zip hy).1 with q | q
  ·exact .inl q
  ·exact .inr ⟨q,PySem.W.cellsFrom_some _ _ _ (.inl q)⟩
 refine codeAny_call_function hr.depth (KX _ _ lk) rfl S.co S.gen rfl (PySem.W.codeRec_of KX hcd) (hb _ _ _ _ ?_)
 refine wpAny_newFunctionEnv_cells S.kind hkind fun env he s1 x=>?_
 subst he
 refine ⟨lim.keeps x.toInCall.keep,codeAny_func ?_⟩
 obtain ⟨t,ht,hq⟩:=hbody A outer s H vs Q E (hr.deeper _) hsp
 have I:Inv (t_ CX P w K mg base N qual scope f cdv A outer s H E) [] (start N vs) H s1:=Br S hr.hd e0 hl r x
 refine wpAny_mono (ht [] s1 (start N vs) H _ I hq) (fun fl s' hs=>?_) fun e s' hs=>hs
 have fin:∀ {σ':St} {H':Hp} {v:V} {u:Value},Inv (t_ CX P w K mg base N qual scope f cdv A outer s H E) [] σ' H' s'→RelV v u→Q v H'→CE outer P w H s Q u s' :=
  fun {σ' H' v u} J rv q=>⟨v,H',J.os,J.bare,J.base,J.hok,rv,q⟩
 cases fl with
 | ret u =>
  obtain ⟨v,σ',H',J,rv,q⟩:=hs
  exact fin J rv q
 | next =>
  obtain ⟨σ',H',J,q⟩:=hs
  exact fin (v:=V.non) (u:=Value.none) J rfl q
 | brk =>
  obtain ⟨_,_,_,q⟩:=hs
  exact False.elim q
 | cont =>
  obtain ⟨_,_,_,q⟩:=hs
  exact False.elim q
end L2
namespace L2
open PySem PySem.Spec PyProof.Rows
section
variable {X:Cx} {x:Str} {p pos:Pos} {e:Expr} {es:List Expr} {t:TA} {id T:String} {r:List V→Hp→VK→Prop}
def H0 (r:List V→Hp→VK→Prop) (t:TA):TE:=fun σ H Q=>t σ H fun vs H1=>r vs H1 Q
theorem dU (hc:cx X (.builtin id) r) (hg:Gl X x) (hm:X.mg x=none) (hv:bootBuiltins x=some (.builtin id)) (ha:PA X (e :: es) t) (hn:x≠"__name__":=by decide) (hdb:(x == ("__debug__":Str))=false:=by decide)
  (he:starEach (e :: es) X.env=(false,eval e X.env) :: starEach es X.env:=by rfl) (hpl:(backTo pos (starEach es X.env)).any (·.1)=false:=by rfl):PE X (.Call (.Name x p) (e :: es) [] pos) (H0 r t):=by
 intro pins s σ H Q I h
 refine wpAny_Call_Name_kw (lN I hg hm hv ?_ hn hdb)
 exact PyProof.Rows.callWith_builtin1 (b7 (ha pos pins s σ H _ I h) fun us s1 ⟨vs,H1,I1,r1,q1⟩=>hc pins s1 σ H1 vs us Q I1 r1 q1) he hpl
theorem nV (hc:cx X (.type T) r) (hg:Gl X x) (hm:X.mg x=none) (hv:bootBuiltins x=some (.type T)) (ha:PA X (e :: es) t) (hn:x≠"__name__":=by decide) (hdb:(x == ("__debug__":Str))=false:=by decide)
  (he:starEach (e :: es) X.env=(false,eval e X.env) :: starEach es X.env:=by rfl) (hpl:(backTo pos (starEach es X.env)).any (·.1)=false:=by rfl):PE X (.Call (.Name x p) (e :: es) [] pos) (H0 r t):=by
 intro pins s σ H Q I h
 refine wpAny_Call_Name_kw (lN I hg hm hv ?_ hn hdb)
 exact PyProof.Rows.callWith_type1 (b7 (ha pos pins s σ H _ I h) fun us s1 ⟨vs,H1,I1,r1,q1⟩=>hc pins s1 σ H1 vs us Q I1 r1 q1) he hpl
end
end L2
namespace HT
open PySem PyProof.Rows
def lexLt:List Int→List Int→Bool
 | [],[]=>false
 | [],_ :: _=>true
 | _ :: _,[]=>false
 | x :: xs,y :: ys=>if x=y then lexLt xs ys else decide (x < y)
section
open PySem.SeqAt
open PySem.AutoSeq1 (wpAny_loadPart')
open PySem.MeetsSeq PySem.MeetsSeq2 PySem.MeetsSeq3
end
section
variable {prog:Program} {w:World} {A:Around} {E:Value→Shared→Prop} {s:Shared}
def d_ (n d:Nat):Option Int→Nat
 | none=>d
 | some v=>if v < 0 then (v + (n:Int)).toNat else min v.toNat n
theorem xm (n d:Nat):d_ n d none=d:=rfl
theorem uZ (n d k:Nat):d_ n d (some (k:Int))=min k n:=by
 show (if (k:Int) < 0 then ((k:Int) + (n:Int)).toNat else min (k:Int).toNat n)=min k n
 rw [if_neg (by omega),Int.toNat_natCast]
theorem JS (n d:Nat) (hd:d≤n) (o:Option Int):d_ n d o≤n:=by
 cases o with
 | none=>exact hd
 | some v =>
  show (if v < 0 then (v + (n:Int)).toNat else min v.toNat n)≤n
  by_cases hv:v < 0
  ·rw [if_pos hv];omega
  ·rw [if_neg hv];exact Nat.min_le_right _ _
theorem zF (v:Int) (n d:Nat):(if v < 0 then max (v + (n:Int)) 0 else min v (n:Int))=((d_ n d (some v):Nat):Int):=by
 show (if v < 0 then max (v + (n:Int)) 0 else min v (n:Int))=(((if v < 0 then (v + (n:Int)).toNat else min v.toNat n):Nat):Int)
 by_cases hv:v < 0
 ·simp only [if_pos hv];omega
 ·simp only [if_neg hv];omega
theorem yd (lo hi:Option Int) (n:Nat):Builtin.Slice.sliceAdjust lo hi 1 (n:Int)=(((d_ n 0 lo:Nat):Int),((d_ n n hi:Nat):Int)):=by
 have h1:¬ ((1:Int) < 0):=by omega
 unfold Builtin.Slice.sliceAdjust
 simp only [h1,if_false]
 refine Prod.ext ?_ ?_
 ·cases lo with
  | none=>rfl
  | some v=>exact zF v n 0
 ·cases hi with
  | none=>rfl
  | some v=>exact zF v n n
theorem yU (i j:Nat):Builtin.Slice.slicePlaces (i:Int) (j:Int) 1=j - i:=by
 unfold Builtin.Slice.slicePlaces
 have h1:(1:Int) > 0:=by omega
 simp only [h1,if_true,Int.ediv_one]
 split <;> omega
theorem qS {v:Value} {o:Option Int} {Q:Option Int→Shared→Prop} (p:IsPart v o) (h:Q o s):wpAny (model prog w) A (Builtin.Slice.slicePartIndex v) Q E s:=by
 cases p with
 | none=>exact slicePart_none h
 | int i t=>exact slicePart_int h
theorem oi {sl:Addr} {vl vu:Value} {lo hi:Option Int} {n:Nat} {Q:Int × Int × Nat→Shared→Prop} (hs:s.heap.IsSliceOf sl vl vu .none) (pl:IsPart vl lo) (pu:IsPart vu hi)
  (h:Q (((d_ n 0 lo:Nat):Int),1,d_ n n hi - d_ n 0 lo) s):wpAny (model prog w) A (Builtin.Slice.sliceApplied (.ref sl) (pure (n:Int))) Q E s:=by
 obtain ⟨os,hos,hcs,hds⟩:=id hs
 unfold Builtin.Slice.sliceApplied Builtin.Slice.sliceFields
 refine wpAny_bind (wpAny_bind (wpAny_field hos hds (x:=vl) rfl (wpAny_bind (wpAny_field hos hds (x:=vu) rfl (wpAny_bind (wpAny_field hos hds (x:=.none) rfl (wpAny_pure ?_)))))))
 refine wpAny_bind (slicePart_none ?_)
 show wpAny _ _ (if ((1:Int) == 0)=true then _ else _) _ _ s
 rw [if_neg (by decide)]
 refine wpAny_bind (qS pl (wpAny_bind (qS pu (wpAny_bind (wpAny_pure ?_)))))
 show wpAny _ _ (match Builtin.Slice.sliceAdjust lo hi 1 (n:Int) with | (lo,hi)=>pure (lo,(1:Int),Builtin.Slice.slicePlaces lo hi 1)) _ _ s
 rw [yd lo hi n]
 show wpAny _ _ (pure (((d_ n 0 lo:Nat):Int),(1:Int),Builtin.Slice.slicePlaces ((d_ n 0 lo:Nat):Int) ((d_ n n hi:Nat):Int) 1)) _ _ s
 rw [yU]
 exact wpAny_pure h
theorem D3 (xs:Array Value) (i k:Nat):((List.range k).filterMap fun (m:Nat)=>xs[((i:Int) + (m:Int) * 1).toNat]?).toArray=((xs.toList.drop i).take k).toArray:=by
 have e:(fun (m:Nat)=>xs[((i:Int) + (m:Int) * 1).toNat]?)=fun m=>xs[i + m]?:=by
  funext m
  have:((i:Int) + (m:Int) * 1).toNat=i + m:=by omega
  rw [this]
 rw [e]
 have:=pick_run xs i k
 rw [List.filterMap_map] at this
 have e2:((fun x=>xs[x]?) ∘ fun x=>i + x)=fun m=>xs[i + m]?:=rfl
 rw [e2] at this
 rw [this]
theorem mr {t sl:Addr} {items:Array Value} {vl vu:Value} {lo hi:Option Int} {Q:Value→Shared→Prop} (ht:IsTup s.heap t items) (hs:s.heap.IsSliceOf sl vl vu .none) (pl:IsPart vl lo) (pu:IsPart vu hi)
  (hw:¬ (d_ items.size 0 lo=0∧d_ items.size items.size hi=items.size))
  (h:Q (.ref s.heap.objs.size) { s with heap:=s.heap.push { cls:=.type "tuple",data:=.seq ((items.toList.drop (d_ items.size 0 lo)).take (d_ items.size items.size hi - d_ items.size 0 lo)).toArray } })
  (hsz:items.size≤sizeLine):wpAny (model prog w) A (getItem (.ref t) (.ref sl)) Q E s:=by
 have htake:sizeOk (.seq ((items.toList.drop (d_ items.size 0 lo)).take (d_ items.size items.size hi - d_ items.size 0 lo)).toArray):=by
  show ((items.toList.drop (d_ items.size 0 lo)).take (d_ items.size items.size hi - d_ items.size 0 lo)).toArray.size≤sizeLine
  rw [List.size_toArray,List.length_take,List.length_drop,Array.length_toList]
  omega
 have hj:d_ items.size items.size hi≤items.size:=JS _ _ (Nat.le_refl _) hi
 obtain ⟨os,hos,hcs,hds⟩:=id hs
 have hTs:s.TypeIs (.ref sl) "slice":=⟨os,hos,hcs⟩
 unfold getItem
 try with_reducible refine wpAny_holding ?_
 first | refine wpAny_bind (wpAny_pure ?_) | skip
 refine wpAny_bind (wpAny_sequenceKey ht.typeIs (by decide) ?_)
 refine wpAny_bind (wpAny_callSpecial?_slot (name:=Str.ofString "__getitem__") ht.typeIs PyProof.Rows.slot_tuple_getitem
  (wpAny_call_entry PyProof.Rows.slot_tuple_getitem ht.typeIs entry_tuple_getitem ?_ (args_tuple_getitem _ _)))
 show wpAny _ _ (Builtin.Tuple.tupleItemsOf (.ref t) >>= _) _ _ s
 refine wpAny_bind (tupleItemsOf_ ht ?_)
 refine wpAny_bind (wpAny_typeOf hTs ?_)
 rw [if_pos (by decide)]
 refine wpAny_bind (oi hs pl pu ?_)
 have hno:¬ ((((d_ items.size 0 lo:Nat):Int) == 0 && (1:Int) == 1 && (d_ items.size items.size hi - d_ items.size 0 lo) == items.size)=true):=by
  intro q
  rw [Bool.and_eq_true,Bool.and_eq_true] at q
  have q1:((d_ items.size 0 lo:Nat):Int)=0:=eq_of_beq q.1.1
  have q2:d_ items.size items.size hi - d_ items.size 0 lo=items.size:=eq_of_beq q.2
  exact hw ⟨by omega,by omega⟩
 show wpAny _ _ (if (((d_ items.size 0 lo:Nat):Int) == 0 && (1:Int) == 1 && (d_ items.size items.size hi - d_ items.size 0 lo) == items.size)=true then _ else _) _ _ s
 rw [if_neg hno,D3]
 first
  | exact wpAny_bind (m:=Builtin.Tuple.tupleExact _) (wpAny_newObj_type (wpAny_pure ⟨_,rfl,wpAny_pure h⟩) htake)
  | exact wpAny_bind (m:=Builtin.Tuple.tupleExact _) (wpAny_newObj_type (wpAny_bind (wpAny_pure (wpAny_pure ⟨_,rfl,wpAny_pure h⟩))) htake)
  | exact wpAny_bind (wpAny_bind (m:=Builtin.Tuple.tupleExact _) (wpAny_newObj_type (wpAny_pure (wpAny_pure ⟨_,rfl,wpAny_pure h⟩)) htake))
  | exact wpAny_bind (wpAny_bind (m:=Builtin.Tuple.tupleExact _) (wpAny_newObj_type (wpAny_pure ⟨_,rfl,wpAny_pure h⟩) htake))
end
end HT
namespace L2
open PySem PySem.Spec PyProof.Rows
abbrev TO:=St→Hp→(Option Int→Hp→Prop)→Prop
def PO (X:Cx) (e:Option Expr) (t:TO):Prop :=
 ∀ (pins:List (Addr × Obj)) (s:Shared) (σ:St) (H:Hp) (Q:Option Int→Hp→Prop),Inv X pins σ H s→t σ H Q →
  wpAny (model X.prog X.w) X.A (evalPart e X.env) (fun u s'=>∃ o H',Inv X pins σ H' s'∧IsPart u o∧Q o H') X.xe s
def pG:TO:=fun _ H Q=>Q none H
def AY (t:TE):TO:=fun σ H Q=>t σ H fun x H1=>∃ i,x=.int i∧Q (some i) H1
theorem intsAre_of {ns:List Int}:∀ {us:List Value},Vals (ns.map V.int) us→IntsAre us ns:=by
 induction ns with
 | nil=>intro us r;rw [List.map_nil] at r;cases r;exact .nil
 | cons n ns ih =>
  intro us r
  rw [List.map_cons] at r
  cases r with
  | cons r1 r2 =>
   obtain ⟨t,e⟩:=r1
   subst e
   exact .cons n t (ih r2)
section
variable {X:Cx} {e:Expr} {te:TE} {lo hi:Option Expr} {tl th:TO} {pos p2:Pos}
theorem o9:PO X none pG:=by
 intro pins s σ H Q I h
 rw [evalPart_none]
 exact wpAny_pure ⟨none,H,I,.none,h⟩
theorem kM (h:PE X e te):PO X (some e) (AY te):=by
 intro pins s σ H Q I hw
 rw [evalPart_some]
 refine b7 (h pins s σ H _ I hw) fun u s1 ⟨x,H1,I1,r1,q1⟩=>?_
 obtain ⟨i,rfl,q⟩:=q1
 obtain ⟨t,rfl⟩:=r1
 exact ⟨some i,H1,I1,.int i t,q⟩
def sG (X:Cx) (r:V→Option Int→Option Int→Hp→VK→Prop):Prop :=
 ∀ (pins:List (Addr × Obj)) (s:Shared) (σ:St) (H:Hp) (x:V) (v vl vu:Value) (lo hi:Option Int) (sl:Addr) (Q:VK),Inv X pins σ H s→RelV x v→s.heap.IsSliceOf sl vl vu .none→IsPart vl lo→IsPart vu hi→r x lo hi H Q →
  ∃ T id,typeLookup (.type T) "__getitem__"=pure (some (.builtin id))∧s.TypeIs v T∧wpAny (model X.prog X.w) X.A (getItem v (.ref sl)) (EP X pins σ Q) X.xe s
theorem sG.or {r r':V→Option Int→Option Int→Hp→VK→Prop} (h:sG X r) (h':sG X r'):sG X (fun x lo hi H Q=>r x lo hi H Q∨r' x lo hi H Q):=by
 intro pins s σ H x v vl vu lo hi sl Q I rx hs pl pu q
 rcases q with q | q
 ·exact h pins s σ H x v vl vu lo hi sl Q I rx hs pl pu q
 ·exact h' pins s σ H x v vl vu lo hi sl Q I rx hs pl pu q
def M0 (r:V→Option Int→Option Int→Hp→VK→Prop) (te:TE) (tl th:TO):TE:=fun σ H Q=>te σ H fun x H1=>tl σ H1 fun l H2=>th σ H2 fun u H3=>r x l u H3 Q
theorem ka {r:V→Option Int→Option Int→Hp→VK→Prop} (hr:sG X r) (he:PE X e te) (hl:PO X lo tl) (hu:PO X hi th):PE X (.Subscript e (.Slice lo hi none p2) pos) (M0 r te tl th):=by
 intro pins s σ H Q I h
 refine Subscript_ (b7 (he pins s σ H _ I h) fun v s1 ⟨x,H1,I1,r1,q1⟩=>?_)
 refine wpAny_Slice (b7 (hl pins s1 σ H1 _ I1 q1) fun vl s2 ⟨l,H2,I2,pl,q2⟩=>b7 (hu pins s2 σ H2 _ I2 q2) fun vu s3 ⟨u,H3,I3,pu,q3⟩=>?_)
 rw [evalPart_none]
 refine wpAny_pure ?_
 have I4:Inv X pins σ H3 { s3 with heap:=s3.heap.push { cls:=.type "slice",data:=.fields #[vl,vu,.none] } }:=I3.kept (t':=s3.toks) fun b ob q=>Heap.get?_push_of_some _ q
 obtain ⟨T,id,hT,ht,hg⟩:=hr pins { s3 with heap:=s3.heap.push { cls:=.type "slice",data:=.fields #[vl,vu,.none] } } σ H3 x v vl vu l u s3.heap.objs.size Q I4 r1 (Heap.IsSliceOf.new ..) pl pu q3
 show wpAny (model X.prog X.w) X.A (subscriptTail e (.Slice lo hi none p2) v (.ref s3.heap.objs.size)) (EP X pins σ Q) X.xe { s3 with heap:=s3.heap.push { cls:=.type "slice",data:=.fields #[vl,vu,.none] } }
 exact tail_any (ops:=[.ref s3.heap.objs.size,v]) ht hT hg (by with_unfolding_all rfl)
def nB (xs:List V) (lo hi:Option Int):List V:=(xs.drop (HT.d_ xs.length 0 lo)).take (HT.d_ xs.length xs.length hi - HT.d_ xs.length 0 lo)
theorem oA (xs:List V) (lo hi:Option Int):(nB xs lo hi).length≤xs.length:=by
 unfold nB
 rw [List.length_take,List.length_drop]
 omega
def N5 (K:PySem.W.Frag):V→Option Int→Option Int→Hp→VK→Prop:=fun x lo hi H Q=>∃ a xs,x=.ref a∧gM K H a xs ∧
 ¬ (HT.d_ xs.length 0 lo=0∧HT.d_ xs.length xs.length hi=xs.length)∧∀ p,H p=none→Q (.ref p) (upd H p (.tup (nB xs lo hi)))
theorem JW:sG X (N5 X.K):=by
 intro pins s σ H x v vl vu lo hi sl Q I rx hs pl pu h
 obtain ⟨a,xs,rfl,hx,hw,q⟩:=h
 cases rx
 obtain ⟨its,r,ht,hz⟩:=I.tuple hx
 have hlen:its.toArray.size=xs.length:=by rw [List.size_toArray];exact r.length.symm
 refine ⟨"tuple",_,PyProof.Rows.slot_tuple_getitem.lookup,ht.typeIs,?_⟩
 refine HT.mr ht hs pl pu (by rw [hlen];exact hw) ?_ (by rw [hlen];exact hz)
 rw [hlen]
 refine ⟨.ref s.heap.objs.size,_,I.laid (t':=s.toks) (o:=.tup (nB xs lo hi)) (fun b ob q=>Heap.get?_push_of_some _ q) (Nat.le_refl _) ?_,rfl,q _ (I.hok.fresh (Nat.le_refl _))⟩
 exact ⟨Nat.le_trans (oA xs lo hi) hz,_,(r.drop (HT.d_ xs.length 0 lo)).take (HT.d_ xs.length xs.length hi - HT.d_ xs.length 0 lo),IsTup.new _ _⟩
end
end L2
namespace L2
open PySem PySem.Spec PyProof.Rows
def Ci (n:Nat) (i:Int):Option Nat:=if 0≤i then (if i < n then some i.toNat else none) else if -(n:Int)≤i then some (i + n).toNat else none
def c_ {α:Type} (xs:List α) (i:Int):Option α:=(Ci xs.length i).bind fun j=>xs[j]?
theorem Ac {n:Nat} {i:Int} {j:Nat} (h:Ci n i=some j):seqIndex? i n=some j∧j < n∧-(n:Int)≤i∧i < n:=by
 unfold Ci at h
 by_cases h0:0≤i
 ·rw [if_pos h0] at h
  by_cases h1:i < n
  ·rw [if_pos h1] at h
   have e:i.toNat=j:=Option.some.inj h
   exact ⟨by rw [seqIndex_of h0 h1,e],by omega,by omega,h1⟩
  ·rw [if_neg h1] at h;cases h
 ·rw [if_neg h0] at h
  by_cases h1:-(n:Int)≤i
  ·rw [if_pos h1] at h
   have e:(i + n).toNat=j:=Option.some.inj h
   exact ⟨by rw [seqIndex_neg (by omega) h1,e],by omega,h1,by omega⟩
  ·rw [if_neg h1] at h;cases h
theorem t4 {α:Type} {xs:List α} {i:Int} {v:α} (h:c_ xs i=some v):∃ j,seqIndex? i xs.length=some j∧xs[j]?=some v∧j < xs.length∧-(xs.length:Int)≤i∧i < xs.length:=by
 unfold c_ at h
 cases e:Ci xs.length i with
 | none=>rw [e] at h;cases h
 | some j =>
  rw [e] at h
  obtain ⟨h1,h2,h3,h4⟩:=Ac e
  exact ⟨j,h1,h,h2,h3,h4⟩
theorem ba {α:Type} {xs:List α} {j:Nat} {v:α} (h:xs[j]?=some v):c_ xs (j:Int)=some v:=by
 have hj:j < xs.length:=(List.getElem?_eq_some_iff.mp h).1
 have e:Ci xs.length (j:Int)=some j:=by
  unfold Ci
  rw [if_pos (by omega),if_pos (by omega)];simp
 unfold c_;rw [e];exact h
def du (b:Expr):Prop:=∀ o i,subscripted b false o i=operate [o,i] (getItem o i)
def pQ (X:Cx) (r:R2):Prop :=
 ∀ (value slice:Expr) (pins:List (Addr × Obj)) (s:Shared) (σ:St) (H:Hp) (x y:V) (v u:Value) (Q:VK),Inv X pins σ H s→RelV x v→RelV y u→r x y H Q →
  subscripted slice false v u=operate [v,u] (getItem v u)→wpAny (model X.prog X.w) X.A (subscriptTail value slice v u) (EP X pins σ Q) X.xe s
def pT (X:Cx) (id:String) (r:V→List V→Hp→VK→Prop):Prop :=
 ∀ (pins:List (Addr × Obj)) (s:Shared) (σ:St) (H:Hp) (x:V) (xs:List V) (v:Value) (us:List Value) (Q:VK),Inv X pins σ H s→RelV x v→Vals xs us→r x xs H Q →
  wpAny (model X.prog X.w) X.A (call (.builtin id) (v :: us)) (EP X pins σ Q) X.xe s
section
variable {X:Cx} {a b:Expr} {ta tb:TE} {pos:Pos}
theorem pQ.or {r r':R2} (h:pQ X r) (h':pQ X r'):pQ X (fun x y H Q=>r x y H Q∨r' x y H Q):=by
 intro value slice pins s σ H x y v u Q I rx ry q hs
 rcases q with q | q
 ·exact h value slice pins s σ H x y v u Q I rx ry q hs
 ·exact h' value slice pins s σ H x y v u Q I rx ry q hs
theorem pT.or {id:String} {r r':V→List V→Hp→VK→Prop} (h:pT X id r) (h':pT X id r'):pT X id (fun x xs H Q=>r x xs H Q∨r' x xs H Q):=by
 intro pins s σ H x xs v us Q I rx rs q
 rcases q with q | q
 ·exact h pins s σ H x xs v us Q I rx rs q
 ·exact h' pins s σ H x xs v us Q I rx rs q
theorem cj {r:R2} (hr:pQ X r) (ha:PE X a ta) (hb:PE X b tb) (hs:du b):PE X (.Subscript a b pos) (ET r ta tb):=by
 intro pins s σ H Q I h
 exact Subscript_ (Iw ha hb I h fun v u s2 x y H2 I2 rx ry q=>hr a b pins s2 σ H2 x y v u Q I2 rx ry q (hs _ _))
def L8 (K:PySem.W.Frag):R2:=fun x y H Q=>∃ p xs i v,x=.ref p∧y=.int i∧c7 K H p xs∧c_ xs i=some v∧Q v H
def L_ (K:PySem.W.Frag):R2:=fun x y H Q=>∃ p xs i v,x=.ref p∧y=.int i∧gM K H p xs∧c_ xs i=some v∧Q v H
def L9:R2:=fun x y H Q=>∃ z i c,x=.str z∧y=.int i∧z.length≤sizeLine∧c_ z.cps.toList i=some c∧Q (.str ⟨#[c]⟩) H
theorem uf:pQ X (L8 X.K):=by
 intro value slice pins s σ H x y v u Q I rx ry h hs
 obtain ⟨p,xs,i,z,rfl,rfl,hq,he,q⟩:=h
 cases rx
 obtain ⟨t,rfl⟩:=ry
 obtain ⟨its,r,pl,hz⟩:=I.list hq
 obtain ⟨j,h1,h2,h3,h4,h5⟩:=t4 he
 obtain ⟨w,ew,rw'⟩:=r.get h2
 have hl:=r.length
 have hn:=lP
 have fin:EP X pins σ Q w s:=⟨z,H,I,rw',q⟩
 by_cases h0:0≤i
 ·have hj:i.toNat=j:=by
   rw [seqIndex_of h0 h5] at h1
   exact Option.some.inj h1
  exact item_listR pl.isList h0 (by omega) (by rw [hj];simpa using ew) fin hs
 ·have hj:(i + (its.toArray.size:Int)).toNat=j:=by
   rw [seqIndex_neg (by omega) h4] at h1
   rw [List.size_toArray,← hl]
   exact Option.some.inj h1
  exact subscriptTail_builtinR (x:=w) pl.isList.typeIs slot_list_getitem.lookup
   (wpAny_getItem_list_neg (Q:=fun r s'=>r=w∧EP X pins σ Q r s') pl.isList (by omega) (by rw [List.size_toArray] <;> omega) (by omega) (by rw [hj];simpa using ew) ⟨rfl,fin⟩) hs
theorem cT:pQ X (L_ X.K):=by
 intro value slice pins s σ H x y v u Q I rx ry h hs
 obtain ⟨p,xs,i,z,rfl,rfl,hq,he,q⟩:=h
 cases rx
 obtain ⟨t,rfl⟩:=ry
 obtain ⟨its,r,pl,hz⟩:=I.tuple hq
 obtain ⟨j,h1,h2,h3,h4,h5⟩:=t4 he
 obtain ⟨w,ew,rw'⟩:=r.get h2
 have hl:=r.length
 have hn:=lP
 have fin:EP X pins σ Q w s:=⟨z,H,I,rw',q⟩
 exact subscriptTail_builtinR (x:=w) pl.typeIs slot_tuple_getitem.lookup
  (getItem_tuple (j:=j) (Q:=fun r s'=>r=w∧EP X pins σ Q r s') pl (by omega) (by omega) (by rw [List.size_toArray,← hl];exact h1) (by simpa using ew) ⟨rfl,fin⟩) hs
theorem Dk:pQ X L9:=by
 intro value slice pins s σ H x y v u Q I rx ry h hs
 obtain ⟨z,i,c,rfl,rfl,hz,he,q⟩:=h
 obtain ⟨t,rfl⟩:=rx
 obtain ⟨t',rfl⟩:=ry
 obtain ⟨j,h1,h2,h3,h4,h5⟩:=t4 he
 have hl:z.cps.toList.length=z.length:=by simp [Str.length]
 rw [hl] at h1 h4 h5
 have hn:=lP
 exact tail_any (typeIs_str s z t) slot_str_getitem.lookup (getItem_str (c:=c) (by
  have e1:decide (i < -(2 ^ 63:Int))=false:=decide_eq_false (by omega)
  have e2:decide (i ≥ 2 ^ 63)=false:=decide_eq_false (by omega)
  rw [e1,e2,Bool.or_false]) (by rw [h1];simpa using h2) ⟨.str ⟨#[c]⟩,H,I.tok _,⟨_,rfl⟩,q⟩) hs
theorem yF (its:List Value) (n j:Nat) (u:Value):Obj.mapSeq (·.setIfInBounds j u) { cls:=.type "list",data:=.seq its.toArray n }={ cls:=.type "list",data:=.seq (its.set j u).toArray n }:=by
 simp [Obj.mapSeq]
theorem Inv.lst {pins:List (Addr × Obj)} {σ:St} {H:Hp} {s:Shared} {p:Addr} {xs:List V} (I:Inv X pins σ H s) (h:H p=some (.lst xs)) :
  ∃ (its:List Value) (n:Nat),Vals xs its∧s.heap.get? p=some { cls:=.type "list",data:=.seq its.toArray n }∧xs.length≤sizeLine:=by
 obtain ⟨z,its,n,r,e⟩:=I.hok p _ h
 exact ⟨its,n,r,e,z⟩
theorem Inv.Jg {pins:List (Addr × Obj)} {σ:St} {H:Hp} {s:Shared} {p:Addr} {xs ys:List V} {its its':List Value} {n n':Nat} {f:Obj→Obj} (I:Inv X pins σ H s) (h:H p=some (.lst xs))
  (ho:s.heap.get? p=some { cls:=.type "list",data:=.seq its.toArray n }) (hf:f { cls:=.type "list",data:=.seq its.toArray n }={ cls:=.type "list",data:=.seq its'.toArray n' }) (r:Vals ys its') (hz:ys.length≤sizeLine) (t:Nat) :
  Inv X pins σ (upd H p (.lst ys)) { s with heap:=s.heap.update p f,toks:=t }:=by
 have e:(s.heap.update p f).get? p=some { cls:=.type "list",data:=.seq its'.toArray n' }:=by
  rw [Heap.get?_update_self f ho (by rw [hf] <;> rfl),hf]
 refine I.write (x:=p) (e:=p) (by rw [h];trivial) (.inl rfl) (fun b u hb q=>(Heap.get?_update_other _ _ (Ne.symm hb)).trans q) ⟨_,e⟩ ?_
 exact ⟨hz,its',n',r,e⟩
def HS:V→V→V→Hp→(Hp→Prop)→Prop:=fun o i v H Q=>∃ p xs k j,o=.ref p∧i=.int k∧H p=some (.lst xs)∧Ci xs.length k=some j∧Q (upd H p (.lst (xs.set j v)))
theorem set_list:k8 X HS:=by
 intro pins s σ H o i v ov iv u Q I ro ri rv h
 obtain ⟨p,xs,k,j,rfl,rfl,hp,hj,q⟩:=h
 cases ro
 obtain ⟨t,rfl⟩:=ri
 obtain ⟨its,n,r,ho,hz⟩:=I.lst hp
 obtain ⟨h1,h2,h3,h4⟩:=Ac hj
 have hl:=r.length
 have hn:=lP
 have I':Inv X pins σ (upd H p (.lst (xs.set j v))) { s with heap:=s.heap.update p (Obj.mapSeq (·.setIfInBounds j u)) } :=
  I.Jg hp ho (yF its n j u) (r.set rv j) (by rw [List.length_set];exact hz) s.toks
 by_cases h0:0≤k
 ·have hk:k.toNat=j:=by
   rw [seqIndex_of h0 h4] at h1
   exact Option.some.inj h1
  exact PySem.W.ki_setAt ho h0 (by omega) (by rw [List.size_toArray,← hl];exact h4) (by rw [hk];exact ⟨_,I',q⟩)
 ·have hk:(k + (its.toArray.size:Int)).toNat=j:=by
   rw [seqIndex_neg (by omega) h3] at h1
   rw [List.size_toArray,← hl]
   exact Option.some.inj h1
  exact PySem.W.ki_setBack ho (by omega) (by rw [List.size_toArray,← hl];exact h3) (by omega) (by rw [hk];exact ⟨_,I',q⟩)
theorem vo (lo hi:Option Int) (n:Nat):(sliceBounds lo hi none n).1=((HT.d_ n 0 lo:Nat):Int)∧(sliceBounds lo hi none n).2.1=((HT.d_ n n hi:Nat):Int)∧(sliceBounds lo hi none n).2.2=1:=by
 refine ⟨?_,?_,rfl⟩
 ·cases lo with
  | none=>simp [sliceBounds,HT.d_]
  | some i =>
   simp only [sliceBounds,HT.d_,Option.getD_none,show (1:Int) > 0 by decide,if_true]
   by_cases h:i < 0
   ·simp only [h,if_true] <;> omega
   ·simp only [h,if_false] <;> omega
 ·cases hi with
  | none=>simp [sliceBounds,HT.d_]
  | some i =>
   simp only [sliceBounds,HT.d_,Option.getD_none,show (1:Int) > 0 by decide,if_true]
   by_cases h:i < 0
   ·simp only [h,if_true] <;> omega
   ·simp only [h,if_false] <;> omega
theorem sy (its:List Value) (lo hi:Option Int):slicePick its.toArray lo hi none=((its.drop (HT.d_ its.length 0 lo)).take (HT.d_ its.length its.length hi - HT.d_ its.length 0 lo)).toArray:=by
 obtain ⟨h1,h2,h3⟩:=vo lo hi its.toArray.size
 unfold slicePick
 rw [h1,h2,h3]
 simp only [sliceRange_one,pick_run,List.size_toArray] <;> rfl
def Mi (K:PySem.W.Frag):V→Option Int→Option Int→Hp→VK→Prop:=fun x lo hi H Q=>∃ a xs,x=.ref a∧c7 K H a xs∧∀ p,H p=none→Q (.ref p) (upd H p (.lst (nB xs lo hi)))
theorem vn:sG X (Mi X.K):=by
 intro pins s σ H x v vl vu lo hi sl Q I rx hs pl pu h
 obtain ⟨a,xs,rfl,hx,q⟩:=h
 cases rx
 obtain ⟨its,r,ht,hz⟩:=I.list hx
 have hlen:=r.length
 refine ⟨"list",_,slot_list_getitem.lookup,ht.isList.typeIs,?_⟩
 refine wpAny_getItem_list_slice ht.isList hs pl pu .none (by simp) ?_ (by rw [List.size_toArray] <;> omega)
 rw [sy,← hlen]
 refine ⟨.ref s.heap.objs.size,_,I.laid (t':=s.toks) (o:=.lst (nB xs lo hi)) (fun b ob q=>Heap.get?_push_of_some _ q) (Nat.le_refl _) ?_,rfl,q _ (I.hok.fresh (Nat.le_refl _))⟩
 exact ⟨Nat.le_trans (oA xs lo hi) hz,_,0,(r.drop (HT.d_ xs.length 0 lo)).take (HT.d_ xs.length xs.length hi - HT.d_ xs.length 0 lo),Heap.get?_push_size _ rfl⟩
def jL:V→Bool
 | .non=>true
 | .bl _=>true
 | .int _=>true
 | .str _=>true
 | _=>false
def E6:V→V→Bool
 | .non,.non=>true
 | .bl a,.bl b=>a == b
 | .bl a,.int b=>(if a then 1 else 0) == b
 | .int a,.bl b=>a == (if b then 1 else 0)
 | .int a,.int b=>a == b
 | .str a,.str b=>a == b
 | _,_=>false
theorem IH {A:Around} {s:Shared} {y x:V} {u v:Value} (ry:RelV y u) (rx:RelV x v) (fy:jL y=true) (fx:jL x=true):SeqAt.EqAt A s u v (E6 y x):=by
 cases y with
 | non =>
  cases ry
  cases x with
  | non=>cases rx;exact SeqAt.EqAt.same _
  | bl b=>cases rx;exact SeqAt.EqAt.none_bool b
  | int b=>obtain ⟨t,rfl⟩:=rx;exact SeqAt.EqAt.none_int b t
  | str b=>obtain ⟨t,rfl⟩:=rx;exact SeqAt.EqAt.none_str b t
  | _=>exact absurd (show false=true from fx) Bool.false_ne_true
 | bl a =>
  cases ry
  cases x with
  | non=>cases rx;exact SeqAt.EqAt.bool_none a
  | bl b=>cases rx;exact SeqAt.EqAt.bool_bool a b
  | int b=>obtain ⟨t,rfl⟩:=rx;exact SeqAt.EqAt.bool_int a b t
  | str b=>obtain ⟨t,rfl⟩:=rx;exact SeqAt.EqAt.bool_str a b t
  | _=>exact absurd (show false=true from fx) Bool.false_ne_true
 | int a =>
  obtain ⟨t',rfl⟩:=ry
  cases x with
  | non=>cases rx;exact SeqAt.EqAt.int_none a t'
  | bl b=>cases rx;exact SeqAt.EqAt.int_bool a t' b
  | int b=>obtain ⟨t,rfl⟩:=rx;exact SeqAt.EqAt.int_int a t' b t
  | str b=>obtain ⟨t,rfl⟩:=rx;exact SeqAt.EqAt.int_str a t' b t
  | _=>exact absurd (show false=true from fx) Bool.false_ne_true
 | str a =>
  obtain ⟨t',rfl⟩:=ry
  cases x with
  | non=>cases rx;exact SeqAt.EqAt.str_none a t'
  | bl b=>cases rx;exact SeqAt.EqAt.str_bool a t' b
  | int b=>obtain ⟨t,rfl⟩:=rx;exact SeqAt.EqAt.str_int a t' b t
  | str b=>obtain ⟨t,rfl⟩:=rx;exact SeqAt.EqAt.str_str a t' b t
  | _=>exact absurd (show false=true from fx) Bool.false_ne_true
 | _=>exact absurd (show false=true from fy) Bool.false_ne_true
def yo (x:V) (u:Value):Bool:=match u with
 | .none=>E6 .non x
 | .bool b=>E6 (.bl b) x
 | .int i _=>E6 (.int i) x
 | .str z _=>E6 (.str z) x
 | _=>false
theorem CW {x y:V} {u:Value} (r:RelV y u) (f:jL y=true):yo x u=E6 y x:=by
 cases y with
 | non=>cases r;rfl
 | bl b=>cases r;rfl
 | int i=>obtain ⟨t,rfl⟩:=r;rfl
 | str z=>obtain ⟨t,rfl⟩:=r;rfl
 | _=>exact absurd (show false=true from f) Bool.false_ne_true
theorem mh {x:V}:∀ {xs:List V} {us:List Value},Vals xs us→xs.all jL=true→us.any (yo x)=xs.any fun y=>E6 y x
 | _,_,.nil,_=>rfl
 | y :: xs,u :: us,.cons r t,f=>by
  rw [List.all_cons,Bool.and_eq_true] at f
  rw [List.any_cons,List.any_cons,CW r f.1,mh t f.2]
theorem j7 {A:Around} {s:Shared} {x:V} {v:Value} (rx:RelV x v) (fx:jL x=true):∀ {xs:List V} {us:List Value},Vals xs us→xs.all jL=true→∀ u∈us,SeqAt.EqAt A s u v (yo x u)
 | _,_,.nil,_=>fun u hu=>by cases hu
 | y :: xs,u :: us,.cons r t,f=>fun u' hu=>by
  rw [List.all_cons,Bool.and_eq_true] at f
  rcases List.mem_cons.mp hu with rfl | hu
  ·rw [CW r f.1];exact IH r rx f.1 fx
  ·exact j7 rx fx t f.2 u' hu
def Kp (x:V) (xs:List V):Bool:=xs.any fun y=>E6 y x
def OV (K:PySem.W.Frag) (neg:Bool):R2:=fun x y H Q=>∃ p xs,y=.ref p∧(c7 K H p xs∨gM K H p xs)∧jL x=true∧xs.all jL=true∧Q (.bl (if neg then !Kp x xs else Kp x xs)) H
theorem BQ:fF X (compareOp .In) (OV X.K false):=by
 intro pins s σ H x y v u Q I rx ry h
 obtain ⟨p,xs,rfl,hq,fx,fs,q⟩:=h
 cases ry
 rcases hq with hq | hq
 ·obtain ⟨its,r,pl,hz⟩:=I.list hq
  refine SeqAt.in_listAt (yo x) pl.isList (fun w hw=>j7 rx fx r fs w (by simpa using hw)) ⟨.bl _,H,I,rfl,?_⟩
  rw [show its.toArray.any (yo x)=its.any (yo x) by simp,mh r fs]
  exact q
 ·obtain ⟨its,r,pl,hz⟩:=I.tuple hq
  refine SeqAt.in_tupleAt (yo x) pl (fun w hw=>j7 rx fx r fs w (by simpa using hw)) ⟨.bl _,H,I,rfl,?_⟩
  rw [show its.toArray.any (yo x)=its.any (yo x) by simp,mh r fs]
  exact q
theorem uE:fF X (compareOp .NotIn) (OV X.K true):=by
 intro pins s σ H x y v u Q I rx ry h
 obtain ⟨p,xs,rfl,hq,fx,fs,q⟩:=h
 cases ry
 rcases hq with hq | hq
 ·obtain ⟨its,r,pl,hz⟩:=I.list hq
  refine SeqAt.notIn_listAt (yo x) pl.isList (fun w hw=>j7 rx fx r fs w (by simpa using hw)) ⟨.bl _,H,I,rfl,?_⟩
  rw [show its.toArray.any (yo x)=its.any (yo x) by simp,mh r fs]
  exact q
 ·obtain ⟨its,r,pl,hz⟩:=I.tuple hq
  refine SeqAt.notIn_tupleAt (yo x) pl (fun w hw=>j7 rx fx r fs w (by simpa using hw)) ⟨.bl _,H,I,rfl,?_⟩
  rw [show its.toArray.any (yo x)=its.any (yo x) by simp,mh r fs]
  exact q
theorem jf:cx X (.builtin "len") (fun xs H Q=>∃ p ys,xs=[.ref p]∧(c7 X.K H p ys∨gM X.K H p ys)∧Q (.int ys.length) H):=by
 intro pins s σ H xs us Q I r h
 obtain ⟨p,ys,rfl,hq,q⟩:=h
 obtain ⟨u,rfl,rx⟩:=vals1 r
 cases rx
 have hn:=lP
 rcases hq with hq | hq
 ·obtain ⟨its,r',pl,hz⟩:=I.list hq
  have hlen:=r'.length
  exact Calls.call_len_list pl.isList (by simp only [List.size_toArray] <;> omega) ⟨.int ys.length,H,I.tok _,⟨s.toks + 1,by rw [List.size_toArray,hlen]⟩,q⟩
 ·obtain ⟨its,r',pl,hz⟩:=I.tuple hq
  have hlen:=r'.length
  exact len_tuple pl (by simp only [List.size_toArray] <;> omega) ⟨.int ys.length,H,I.tok _,⟨s.toks + 1,by rw [List.size_toArray,hlen]⟩,q⟩
theorem mj:cx X (.builtin "len") (fun xs H Q=>∃ z,xs=[.str z]∧z.length≤sizeLine∧Q (.int z.length) H):=by
 intro pins s σ H xs us Q I r h
 obtain ⟨z,rfl,hz,q⟩:=h
 obtain ⟨u,rfl,t,rfl⟩:=vals1 r
 have hn:=lP
 exact len_str (by omega) ⟨.int z.length,H,I.tok _,⟨_,rfl⟩,q⟩
theorem cx.or {f:Value} {r r':List V→Hp→VK→Prop} (h:cx X f r) (h':cx X f r'):cx X f (fun xs H Q=>r xs H Q∨r' xs H Q):=by
 intro pins s σ H xs us Q I rs q
 rcases q with q | q
 ·exact h pins s σ H xs us Q I rs q
 ·exact h' pins s σ H xs us Q I rs q
theorem t8:cx X (.type "list") (fun xs H Q=>∃ p ys,xs=[.ref p]∧(c7 X.K H p ys∨gM X.K H p ys)∧∀ l,H l=none→Q (.ref l) (upd H l (.lst ys))):=by
 intro pins s σ H xs us Q I r h
 obtain ⟨p,ys,rfl,hq,q⟩:=h
 obtain ⟨u,rfl,rx⟩:=vals1 r
 cases rx
 have fin:∀ (its:List Value),Vals ys its→ys.length≤sizeLine→∀ (h':Heap) (c':Nat),(∀ b o',s.heap.get? b=some o'→h'.get? b=some o') →
   h'.get? s.heap.objs.size=some { cls:=.type "list",dict:=none,data:=.seq its.toArray c',slots:=#[] }→EP X pins σ Q (.ref s.heap.objs.size) { s with heap:=h' }:=fun its r' hz h' c' kp e =>
  ⟨.ref s.heap.objs.size,_,I.laid (t':=s.toks) kp (Nat.le_refl _) (show c9 X.prog X.w _ h' _ (.lst ys) from ⟨hz,its,c',r',e⟩),rfl,q _ (I.hok.fresh (Nat.le_refl _))⟩
 rcases hq with hq | hq
 ·obtain ⟨its,r',pl,hz⟩:=I.list hq
  have hlen:=r'.length
  obtain ⟨o,ho,hc,n,hd⟩:=pl.isList
  exact call_list_seq p (.inl rfl) ho hc hd (fun h' c' kp e=>fin its r' hz h' c' kp e) (by simp only [List.size_toArray] <;> omega)
 ·obtain ⟨its,r',pl,hz⟩:=I.tuple hq
  have hlen:=r'.length
  obtain ⟨o,ho,hc,n,hd⟩:=pl
  exact call_list_seq p (.inr rfl) ho hc hd (fun h' c' kp e=>fin its r' hz h' c' kp e) (by simp only [List.size_toArray] <;> omega)
def M4 (K:PySem.W.Frag) (T:String) (x:V) (H:Hp):Prop:=match x with
 | .str _=>T="str"
 | .int _=>T="int"
 | .ref p=>(T="list"∧∃ xs,c7 K H p xs)∨(T="tuple"∧∃ o,K.lookup p=some o∧o.cls=.type "tuple"∧o.dict=none) ∨
   (T="dict"∧((∃ kvs,H p=some (.dK kvs))∨∃ kvs ep,H p=some (.dE kvs ep)))∨(T="set"∧∃ S n,H p=some (.set S n))
 | _=>False
theorem EY {pins:List (Addr × Obj)} {σ:St} {H:Hp} {s:Shared} {T:String} {x:V} {v:Value} (I:Inv X pins σ H s) (r:RelV x v) (ty:M4 X.K T x H) :
  s.TypeIs v T∧∀ a,v=.ref a→∃ ob,s.heap.get? a=some ob∧ob.dict=none:=by
 cases x with
 | str z =>
  obtain ⟨t,rfl⟩:=r
  cases (show T="str" from ty)
  exact ⟨typeIs_str s z t,fun _ e=>nomatch e⟩
 | int i =>
  obtain ⟨t,rfl⟩:=r
  cases (show T="int" from ty)
  exact ⟨typeIs_int s i t,fun _ e=>nomatch e⟩
 | ref p =>
  cases r
  rcases ty with ⟨rfl,xs,hq⟩ | ⟨rfl,o,hk,hc,hd⟩ | ⟨rfl,hk⟩ | ⟨rfl,S,n,hk⟩
  ·obtain ⟨its,_,pl,_⟩:=I.list hq
   refine ⟨pl.isList.typeIs,fun a e=>?_⟩
   cases e
   obtain ⟨o,n,e,c,hd,_⟩:=pl
   exact ⟨o,e,hd⟩
  ·refine ⟨⟨o,I.mx p o hk,hc⟩,fun a e=>?_⟩
   cases e
   exact ⟨o,I.mx _ o hk,hd⟩
  ·have z:∃ o,s.heap.get? p=some o∧o.ExactDict:=by
    rcases hk with ⟨kvs,hk⟩ | ⟨kvs,ep,hk⟩
    ·obtain ⟨_,_,_,_,o,_,_,e,ex,_⟩:=I.hok p _ hk
     exact ⟨o,e,ex⟩
    ·obtain ⟨_,_,_,_,o,_,e,ex,_⟩:=I.hok p _ hk
     exact ⟨o,e,ex⟩
   obtain ⟨o,e,ex⟩:=z
   refine ⟨⟨o,e,ex.1⟩,fun a e2=>?_⟩
   cases e2
   exact ⟨o,e,ex.2.1⟩
  ·obtain ⟨o,_,_,_,e,ex,_⟩:=I.hok p _ hk
   refine ⟨⟨o,e,ex.1⟩,fun a e2=>?_⟩
   cases e2
   exact ⟨o,e,ex.2.1⟩
 | _=>exact False.elim ty
def N_ (K:PySem.W.Frag) (T:String) (r:V→List V→Hp→VK→Prop) (to:TE):TE:=fun σ H Q=>to σ H fun x H1=>M4 K T x H1∧r x [] H1 Q
def MX (K:PySem.W.Frag) (T:String) (r:V→List V→Hp→VK→Prop) (to:TE) (t:TA):TE:=fun σ H Q=>to σ H fun x H1=>M4 K T x H1∧t σ H1 fun xs H2=>r x xs H2 Q
variable {o e:Expr} {es:List Expr} {to:TE} {t:TA} {name:Str} {apos cpos:Pos} {T id:String} {r:V→List V→Hp→VK→Prop}
theorem Jv (pa:PlainAttrs T) (slot:Slot T name id) (hty:typeOf (.builtin id)=pure (.type "method_descriptor")) (hm:pT X id r) (ho:PE X o to)
  (hbase:attributeBase o name X.env (eval o X.env)=eval o X.env:=by rfl) (hline:(apos.endLine == cpos.line)=true:=by rfl):PE X (.Call (.Attribute o name apos) [] [] cpos) (N_ X.K T r to):=by
 intro pins s σ H Q I h
 refine wpAny_Call_method0_late hbase hline (b7 (ho pins s σ H _ I h) fun v s1 ⟨x,H1,I1,r1,ty,q1⟩=>?_)
 obtain ⟨h1,h2⟩:=EY I1 r1 ty
 exact ⟨T,id,pa,slot,hty,h1,h2,Calls.callWith_builtin rfl (PySem.evalArgs_none (hm pins s1 σ H1 x [] v [] Q I1 r1 .nil q1))⟩
theorem qE (pa:PlainAttrs T) (slot:Slot T name id) (hty:typeOf (.builtin id)=pure (.type "method_descriptor")) (hm:pT X id r) (ho:PE X o to) (ha:PA X (e :: es) t)
  (hbase:attributeBase o name X.env (eval o X.env)=eval o X.env:=by rfl)
  (hfew:((backTo cpos (starEach (e :: es) X.env)).all (fun x=>!x.1) && (backToKw cpos (keywordEach [] X.env)).all (fun x=>x.1.isSome)
   && decide ((e :: es).length + ([]:List Keyword).length + (if ([]:List Keyword).isEmpty then 0 else 1) < 30))=true:=by rfl)
  (hline:(apos.endLine == cpos.line)=true:=by rfl) (hs:starEach (e :: es) X.env=(false,eval e X.env) :: starEach es X.env:=by rfl) (hplain:(backTo cpos (starEach es X.env)).any (·.1)=false:=by rfl) :
  PE X (.Call (.Attribute o name apos) (e :: es) [] cpos) (MX X.K T r to t):=by
 intro pins s σ H Q I h
 refine wpAny_Call_method_late hbase hfew hline rfl (b7 (ho pins s σ H _ I h) fun v s1 ⟨x,H1,I1,r1,ty,q1⟩=>?_)
 obtain ⟨h1,h2⟩:=EY I1 r1 ty
 refine ⟨T,id,pa,slot,hty,h1,h2,?_⟩
 have hA:=ha cpos pins s1 σ H1 _ I1 q1
 rw [hs] at hA ⊢
 refine Calls.callWith_builtin (by show (false || (backTo cpos (starEach es X.env)).any (·.1))=false;rw [hplain] <;> rfl) (Calls.evalArgs_plain ?_)
 exact b7 hA fun us s2 ⟨vs,H2,I2,r2,q2⟩=>hm pins s2 σ H2 x vs v us Q I2 r1 r2 q2
end
end L2
namespace L2
open PySem PySem.Spec PyProof.Rows
def M9 (X:Cx) (id:String) (r:V→List V→Hp→VK→Prop):Prop :=
 ∀ (pins:List (Addr × Obj)) (s:Shared) (σ:St) (H:Hp) (x:V) (xs:List V) (v:Value) (us:List Value) (Q:VK),Inv X pins σ H s→RelV x v→Vals xs us→r x xs H Q →
  wpAny (model X.prog X.w) X.A (call (.builtin id) (v :: us)) (EP X pins σ Q) X.xe s
theorem Vals.one {x:V} {us:List Value} (r:Vals [x] us):∃ u,us=[u]∧RelV x u:=vals1 r
theorem Vals.two {x y:V} {us:List Value} (r:Vals [x,y] us):∃ u v,us=[u,v]∧RelV x u∧RelV y v:=vals2 r
theorem Vals.zero:∀ {us:List Value},Vals [] us→us=[]
 | _,.nil=>rfl
theorem Vals.dropLast {xs:List V} {us:List Value} (h:Vals xs us):Vals xs.dropLast us.dropLast:=by
 induction h with
 | nil=>exact .nil
 | cons r t ih =>
  cases t with
  | nil=>exact .nil
  | cons q t'=>exact .cons r ih
theorem Vals.eraseIdx:∀ {xs:List V} {us:List Value} (i:Nat),Vals xs us→Vals (xs.eraseIdx i) (us.eraseIdx i)
 | _,_,_,.nil=>.nil
 | _,_,0,.cons _ t=>t
 | _,_,i + 1,.cons r t=>.cons r (Vals.eraseIdx i t)
theorem yp {α:Type} (l:List α):l.eraseIdx (l.length - 1)=l.dropLast:=by
 induction l with
 | nil=>rfl
 | cons a r ih =>
  cases r with
  | nil=>rfl
  | cons b r =>
   have e:(a :: b :: r).length - 1=((b :: r).length - 1) + 1:=by
    have h1:(a :: b :: r).length=r.length + 2:=rfl
    have h2:(b :: r).length=r.length + 1:=rfl
    omega
   rw [e,List.eraseIdx_cons_succ,ih]
   all_goals rfl
section
variable {X:Cx} {pins:List (Addr × Obj)} {σ:St} {H:Hp} {s:Shared} {l b:Addr} {xs ys zs:List V}
theorem Inv.Dx {its its':List Value} {n:Nat} {f:Array Value→Array Value} {t':Nat} (I:Inv X pins σ H s) (hH:H l=some (.lst xs))
  (e:s.heap.get? l=some { cls:=.type "list",data:=.seq its.toArray n }) (hf:f its.toArray=its'.toArray) (hv:Vals ys its') (hz:ys.length≤sizeLine) :
  Inv X pins σ (upd H l (.lst ys)) { s with heap:=s.heap.update l (Obj.mapSeq f),toks:=t' }:=by
 have q:=PySem.IsL.update e f
 rw [hf] at q
 refine I.write (x:=l) (e:=l) (by rw [hH];exact trivial) (.inl rfl) (fun b' u hb hu=>(Heap.get?_update_other s.heap (Obj.mapSeq f) (Ne.symm hb)).trans hu) ⟨_,q⟩ ?_
 exact ⟨hz,its',_,hv,q⟩
theorem Inv.Dy (I:Inv X pins σ H s) (hH:H l=some (.lst xs)):xs.length≤sizeLine∧∃ (its:List Value) (n:Nat),Vals xs its∧xs.length=its.length∧s.heap.get? l=some { cls:=.type "list",data:=.seq its.toArray n }:=by
 obtain ⟨z,its,n,r,e⟩:=I.hok l _ hH
 exact ⟨z,its,n,r,r.length,e⟩
end
section
variable {X:Cx}
def As:V→List V→Hp→VK→Prop:=fun x vs H Q=>∃ l xs y,x=.ref l∧vs=[y]∧H l=some (.lst xs)∧xs.length < sizeLine∧Q .non (upd H l (.lst (xs ++ [y])))
theorem f':M9 X "list.append" As:=by
 intro pins s σ H x vs v us Q I rx rv h
 obtain ⟨l,xs,y,rfl,rfl,hH,hz,q⟩:=h
 cases rx
 obtain ⟨u,rfl,ru⟩:=rv.one
 obtain ⟨z,its,n,r,hl,e⟩:=I.Dy hH
 refine call_meets F.slot_list_append ⟨_,e,rfl⟩ F.entry_list_append (F.args_list_append_2 _ _) (PySem.list_append l its.toArray n u (by rw [List.size_toArray];omega)) ⟨e,?_⟩
 refine ⟨.non,_,I.Dx (its':=its ++ [u]) hH e (by simp) (r.append (.cons ru .nil)) ?_,rfl,q⟩
 rw [List.length_append,List.length_singleton]
 omega
def N4:V→List V→Hp→VK→Prop:=fun x vs H Q=>∃ l xs y,x=.ref l∧vs=[]∧H l=some (.lst xs)∧xs[xs.length - 1]?=some y∧Q y (upd H l (.lst xs.dropLast))
theorem Jj:M9 X "list.pop" N4:=by
 intro pins s σ H x vs v us Q I rx rv h
 obtain ⟨l,xs,y,rfl,rfl,hH,hy,q⟩:=h
 cases rx
 have hus:=rv.zero
 subst hus
 obtain ⟨z,its,n,r,hl,e⟩:=I.Dy hH
 obtain ⟨u,hu,ru⟩:=r.get hy
 have hy':its.toArray[its.toArray.size - 1]?=some u:=by
  show its.toArray[its.length - 1]?=some u
  rw [← Array.getElem?_toList,← hl]
  exact hu
 refine call_meets F.slot_list_pop ⟨_,e,rfl⟩ F.entry_list_pop (F.args_list_pop_1 _) (MeetsSeq.list_pop_last l its.toArray n u hy' (by rw [List.size_toArray];omega)) ⟨e,?_⟩
 refine ⟨y,_,I.Dx (its':=its.dropLast) hH e ?_ r.dropLast ?_,ru,q⟩
 ·show its.toArray.eraseIdxIfInBounds (its.toArray.size - 1)=its.dropLast.toArray
  rw [List.size_toArray,List.eraseIdxIfInBounds_toArray,yp]
 ·rw [List.length_dropLast]
  omega
def JH:V→List V→Hp→VK→Prop:=fun x vs H Q=>∃ l xs,x=.ref l∧vs=[]∧H l=some (.lst xs)∧Q .non (upd H l (.lst []))
theorem DD:M9 X "list.clear" JH:=by
 intro pins s σ H x vs v us Q I rx rv h
 obtain ⟨l,xs,rfl,rfl,hH,q⟩:=h
 cases rx
 have hus:=rv.zero
 subst hus
 obtain ⟨z,its,n,r,hl,e⟩:=I.Dy hH
 refine call_meets F.slot_list_clear ⟨_,e,rfl⟩ F.entry_list_clear (F.args_list_clear_1 _) (AutoSeq1.list_clear_list_0 l its.toArray n (by rw [List.size_toArray];omega)) ⟨e,?_⟩
 exact ⟨.non,_,I.Dx (its':=[]) (ys:=[]) hH e rfl .nil (Nat.zero_le _),rfl,q⟩
end
section
variable {prog:Program} {w:World} {A:Around} {E:Value→Shared→Prop} {s:Shared}
end
section
variable {X:Cx}
end
end L2
namespace Att
open PySem PySem.W PySem.Calls PyProof.Rows
theorem oM {P:Params} {h:Heap}:∀ (ns:List Int) (vs:List Value),WellAll P h vs (ns.map WData.int)→IntsAre vs ns:=by
 intro ns
 induction ns with
 | nil =>
  intro vs w
  rw [List.map_nil] at w
  cases w
  exact .nil
 | cons n ns ih =>
  intro vs w
  rw [List.map_cons] at w
  cases w with
  | cons a b =>
   cases a
   exact .cons _ _ (ih _ b)
theorem B4 {l:OpenLaw} {n:Nat} (hn:l.most=some n) {P:Params} {h:Heap} {args:List WData} {vals:List Value}
  (hpre:l.row.toRowW.claim.pre args=true) (hwl:WellAll P h vals args) :
  ∃ a vs ns,vals=[Value.ref a]∧args=[WData.list (ns.map WData.int)]∧h.get? a=some { cls:=.type "list",data:=.seq vs.toArray }∧IntsAre vs ns∧ns.length≤n:=by
 have hsh:WShape.hasAll [] args [.list .int]=true:=(pre_splitW hpre).1
 have hc:l.pre.holds [] { args:=args }=true:=(pre_splitW hpre).2
 obtain ⟨d,r,rfl,h1,h2⟩:=hasAllW_cons hsh
 obtain rfl:=hasAllW_nil h2
 obtain ⟨xs,rfl,h3⟩:=hasW_list h1
 obtain ⟨ns,rfl⟩:=items_int h3
 have hlen:ns.length≤n:=by
  unfold OpenLaw.pre at hc
  have h4:(WTm.not (.lt (.lit (.int (n:Int))) (.len (.arg 0)))).holds [] { args:=[.list (ns.map .int)] }=true:=by
   have h4:=(holds_andW hc).1
   rw [hn] at h4
   exact h4
  have h5:=condW_of h4 (w_not (w_lt w_lit (w_len_list (w_arg rfl))))
  rw [List.length_map] at h5
  refine Nat.le_of_not_lt fun q=>?_
  have q':(n:Int) < ((ns.length:Nat):Int):=by omega
  first
   | (rw [decide_eq_true q'] at h5;exact absurd h5 (by decide))
   | (simp at h5;omega)
 cases hwl with
 | cons w1 w2 =>
  cases w2
  cases w1 with
  | list ho hall=>exact ⟨_,_,ns,rfl,rfl,ho,oM ns _ hall,hlen⟩
theorem BY (l:OpenLaw) (args:List WData):l.row.toRowW.claim.post args (.bool true) args=true :=
 postW_of (r:=l.row.toRowW) (X:=(true == true))
  (show WShape.has [] (.bool true) .bool=true by first | rfl | decide | simp [WShape.has,WShape.arms,WShape.armsAll])
  (show (WTm.eq .res (.lit (.bool true))).value [] { args:=args,res:=some (.bool true),after:=args }=some (.bool (true == true)) from w_eq_bool (w_res rfl) w_lit) rfl
theorem vW {l:OpenLaw} {n:Nat} {q:Program} {loose:List Str} {XP:(Str→Option Value)→Heap→Prop} {YP:World→Heap→Prop} {d:DefRec}
  (hn:l.most=some n) (hdf:d.params.defaults=[])
  (call:∀ (w:World) (s₀ s₁:Shared) (mg mb:Str→Option Value) (fa:Addr) (o:Obj) (pm cd doc:Value) (a:Addr) (vs:List Value) (ns:List Int),
   Ground q loose [] XP w s₀ mg mb s₁.heap→YP w s₁.heap →
   s₁.heap.get? fa=some o→o.data=.func (docDef d.name d.params d.body d.scope pm cd doc)→s₁.heap.CodeRec cd d.name→mg d.name=some (.ref fa) →
   s₁.heap.get? a=some { cls:=.type "list",data:=.seq vs.toArray }→IntsAre vs ns→ns.length≤n→s₁.gens=#[] →
   codeAny (model l.prog w) callerA (.call (.ref fa) ⟨[.ref a],[]⟩) (fun r s'=>r=.ok (.ret (.bool true))∧OldK s₁.heap s'.heap∧s'.os=s₁.os∧AllBare s'.gens) s₁) :
  WalkO q loose XP YP l.row.toRowW d [] (fun f vs=>PySem.call f vs):=by
 intro w s₀ s₁ mg mb G Y fa o pm cd doc dV kV ho hd hcd hD hmg hg args vals as hpre hlay hrd hwl hlo
 obtain rfl:dV=.none:=Dflts.none hD hdf
 obtain rfl:kV=.none:=Dflts.noKw hD
 obtain ⟨a,vs,ns,rfl,rfl,hobj,hints,hlen⟩:=B4 hn hpre hwl
 refine enter_call (codeAny_mono (call w s₀ s₁ mg mb fa o pm cd doc a vs ns G Y ho (fd_plain hd) hcd hmg hobj hints hlen hg) fun r s' hq=>?_)
 obtain ⟨rfl,h2,h3,h4⟩:=hq
 exact ⟨.inl ⟨.bool true,.bool true,[],rfl,fun _=>rfl,.bool true,BY l _,fun _=>⟨List.Pairwise.nil,fun _ hm=>(nomatch hm)⟩⟩,h2,h3,h4⟩
section
variable {prog:Program} {w:World} {A:Around} {E:Value→Shared→Prop} {s:Shared} {K:Frag}
end
end Att
namespace L2
open PySem PySem.Spec PyProof.Rows
theorem tM:∀ {vs:List Value} {ns:List Int},IntsAre vs ns→Vals (ns.map V.int) vs
 | _,_,.nil=>.nil
 | _,_,.cons n t h=>.cons ⟨t,rfl⟩ (tM h)
end L2
namespace L2
open PySem PySem.Spec PyProof.Rows
abbrev cb {K:PySem.W.Frag} {h:Heap} (_:K.In h):PySem.W.Frag:=K
end L2
namespace L2
open PySem PySem.Spec PyProof.Rows
def inClass (s:Stmt) (j:Nat):Stmt:=match s with
 | .ClassDef _ _ _ body _ _ _ _ _ _ _=>body.getD j (.Pass ⟨0,0,0,0⟩)
 | _=>.Pass ⟨0,0,0,0⟩
def de (s:Stmt):Arguments:=match s with
 | .FunctionDef _ a _ _ _ _ _ _ _ _=>a
 | _=>{ posonlyargs:=[],args:=[],vararg:=none,kwonlyargs:=[],kw_defaults:=[],kwarg:=none,defaults:=[] }
def b_ (s:Stmt):List Stmt:=match s with
 | .FunctionDef _ _ b _ _ _ _ _ _ _=>b
 | _=>[]
def aj (s:Stmt):Scope:=match s with
 | .FunctionDef _ _ _ _ _ _ sc _ _ _=>sc
 | _=>{ kind:=.function,names:=[],isGenerator:=false,isCoroutine:=false }
abbrev pK:rj:=fun _ _ _ _ _ _=>False
abbrev E0:XK:=fun _ _ _=>False
theorem LD {X:Cx}:Passes pK X E0:=fun _ _ _ _ _ _ _ h=>h.elim
structure cm (K:PySem.W.Frag) (x qual:Str) (st:Stmt) (f:Addr) (fd:FuncData):Prop where
 ex:∃ (oc:Value) (od:Option Addr) (kV doc pm:Value) (an:Option Addr) (cdv ct:Value) (osl:Array (Option Value)),
  fd=PySem.W.fnOf x qual (de st) (b_ st) (aj st) .none kV doc pm an cdv ct∧K.lookup f=some ⟨oc,od,.func fd,osl⟩∧PySem.W.codeIn K cdv qual=true
 kp:PySem.W.keepIn K (.ref f)=true
section
variable {P:Program} {w:World} {K:PySem.W.Frag} {mg:Str→Option Value} {base:Heap}
theorem cm.ok {x qual:Str} {st:Stmt} {f:Addr} {fd:FuncData} {N ps:List Str} {k:Nat} {sp:Sp} (F:cm K x qual st f fd) (S:aw N ps (aj st)) (len:∀ vs H Q E,sp vs H Q E→vs.length=ps.length)
  (hbody:∀ (cdv:Value) (A:Around) (outer:List Env) (s:Shared) (H:Hp) (vs:List V) (Q:VK) (E:XK),bX k (A.deeper (envOfC qual (aj st) s.heap.objs.size f cdv))→sp vs H Q E →
   ∃ t,sF (t_ pK P w K mg base N qual (aj st) f cdv A outer s H E).Jk (b_ st) t∧t { nx:=fun _ H'=>Q .non H',rt:=Q } (start N vs) H):aO P w K mg base pK (k + 1) f fd ps sp:=by
 obtain ⟨oc,od,kV,doc,pm,an,cdv,ct,osl,rfl,lk,hcd⟩:=F.ex
 refine CZ lk hcd S len fun A outer s H vs Q E hr hsp=>?_
 obtain ⟨t,h,q⟩:=hbody cdv A outer s H vs Q E hr hsp
 exact ⟨t,h.Jk,q⟩
theorem cm.binds {x qual:Str} {st:Stmt} {f:Addr} {fd:FuncData} {ps:List Str} (F:cm K x qual st f fd)
  (h:∀ (kV doc pm:Value) (an:Option Addr) (cdv ct:Value) (us:List Value),us.length=ps.length→bindArgs (PySem.W.fnOf x qual (de st) (b_ st) (aj st) .none kV doc pm an cdv ct) ⟨us,[]⟩=pure (ps.zip us)):Binds K fd ps []:=by
 obtain ⟨oc,od,kV,doc,pm,an,cdv,ct,osl,rfl,lk,hcd⟩:=F.ex
 exact .all (h kV doc pm an cdv ct)
theorem yq {x qual:Str} {st:Stmt} {f:Addr} {oc:Value} {od an:Option Addr} {osl:Array (Option Value)} {kV doc pm cdv ct:Value} (l:K.lookup f=some ⟨oc,od,.func (PySem.W.fnOf x qual (de st) (b_ st) (aj st) .none kV doc pm an cdv ct),osl⟩)
  (c:PySem.W.codeIn K cdv qual=true) (k:PySem.W.keepIn K (.ref f)=true):cm K x qual st f (PySem.W.fnOf x qual (de st) (b_ st) (aj st) .none kV doc pm an cdv ct):=⟨⟨oc,od,kV,doc,pm,an,cdv,ct,osl,rfl,l,c⟩,k⟩
end
theorem a9 {n:Nat} (h:n≤1000):n < sizeLine:=Nat.lt_of_le_of_lt h (by decide)
section
variable {X:Cx}
theorem pv (i:Nat) {x:Str} {pos:Pos} (hN:X.N[i]?=some x:=by rfl) (hv:vS X.env.scope x:=by first | exact Or.inl rfl | exact Or.inr (Or.inl rfl) | exact Or.inr (Or.inr rfl)) (hd:(x == ("__debug__":Str))=false:=by decide)
  (hcd:(x == ("__classdict__":Str))=false:=by decide):PE X (.Name x pos) (B7 i):=yR hN hv hd hcd
end
theorem Dg {c A B:Prop} [Decidable c] (h1:c→A) (h2:¬ c→B):if c then A else B:=by
 by_cases h:c
 ·rw [if_pos h]
  exact h1 h
 ·rw [if_neg h]
  exact h2 h
def bG (H H':Hp):Prop:=∀ b o,H b=some o→H' b=some o
theorem bG.trans {H H1 H2:Hp} (a:bG H H1) (b:bG H1 H2):bG H H2:=fun c o h=>b c o (a c o h)
theorem bG.free {H H':Hp} (e:bG H H') {l:Addr} (h:H' l=Option.none):H l=Option.none:=by
 cases q:H l with
 | none=>rfl
 | some o =>
  rw [e l o q] at h
  cases h
theorem bG.seq {K:PySem.W.Frag} {H H':Hp} {a:Addr} {xs:List V} (e:bG H H') (h:c7 K H a xs):c7 K H' a xs:=by
 rcases h with (h | ⟨o,h⟩) | h
 ·exact .inl (.inl (e _ _ h))
 ·exact .inl (.inr ⟨o,e _ _ h⟩)
 ·exact .inr h
end L2
namespace Ov
theorem we {a b:Int} (h:b≠0):Int.gcd b (a % b)=Int.gcd a b:=by
 have e:a=b * (a / b) + a % b:=(Int.mul_ediv_add_emod a b).symm
 have d1:((Int.gcd b (a % b):Nat):Int) ∣ a:=by
  rw [e]
  exact Int.dvd_add (Int.dvd_trans (Int.gcd_dvd_left ..) (Int.dvd_mul_right ..)) (by rw [← e];exact Int.gcd_dvd_right ..)
 have d2:((Int.gcd a b:Nat):Int) ∣ a % b:=by
  have e2:a % b=a - b * (a / b):=by omega
  rw [e2]
  exact Int.dvd_sub (Int.gcd_dvd_left ..) (Int.dvd_trans (Int.gcd_dvd_right ..) (Int.dvd_mul_right ..))
 exact Nat.dvd_antisymm (Int.dvd_gcd d1 (Int.gcd_dvd_left ..)) (Int.dvd_gcd (Int.gcd_dvd_right ..) d2)
theorem zT {a:Int} (h:0≤a):((Int.gcd a 0:Nat):Int)=a:=by
 rw [Int.gcd_zero_right];omega
theorem FC (a b:Int):Int.gcd (if a < 0 then -a else a) (if b < 0 then -b else b)=Int.gcd a b:=by
 split <;> split <;> simp [Int.gcd_neg,Int.neg_gcd]
theorem C2 (a b:Int):Int.gcd (if a < 0 then -a else a) b=Int.gcd a b:=by
 split <;> simp [Int.gcd_neg,Int.neg_gcd]
theorem zU {t b:Int} (h:b≠0):0 < ((Int.gcd t b:Nat):Int):=by
 have:0 < Int.gcd t b:=Int.gcd_pos_of_ne_zero_right t h
 omega
theorem IM {t b:Int} (h:b≠0):Int.gcd t b≤b.natAbs:=Nat.le_of_dvd (by omega) (Int.ofNat_dvd.mp (by rw [Int.dvd_natAbs];exact Int.gcd_dvd_right ..))
theorem ur {t b:Int} (h:0 < b):t.fdiv ((Int.gcd t b:Nat):Int)=(Rat.divInt t b).num:=by
 rw [Rat.num_divInt,Int.sign_eq_one_of_pos h,Int.one_mul,Int.gcd_comm b t,Int.fdiv_eq_ediv_of_nonneg _ (Int.natCast_nonneg _)]
theorem den_pos {t b:Int} (h:0 < b):b.fdiv ((Int.gcd t b:Nat):Int)=((Rat.divInt t b).den:Int):=by
 rw [Rat.den_divInt,if_neg (by omega),Int.gcd_comm b t,Int.fdiv_eq_ediv_of_nonneg _ (Int.natCast_nonneg _)]
 rw [Int.natCast_ediv]
 congr 1
 omega
theorem Ag {t b:Int} (h:b < 0):t.fdiv (-((Int.gcd t b:Nat):Int))=(Rat.divInt t b).num:=by
 have e:t.fdiv (-((Int.gcd t b:Nat):Int))=(-t).fdiv ((Int.gcd t b:Nat):Int):=by
  have:=Int.neg_fdiv_neg (a:=-t) (b:=((Int.gcd t b:Nat):Int))
  rw [← this];simp
 rw [e,Rat.num_divInt,Int.sign_eq_neg_one_of_neg h,Int.gcd_comm b t,Int.fdiv_eq_ediv_of_nonneg _ (Int.natCast_nonneg _)]
 congr 1
 omega
theorem Fu {t b:Int} (h:b < 0):b.fdiv (-((Int.gcd t b:Nat):Int))=((Rat.divInt t b).den:Int):=by
 have e:b.fdiv (-((Int.gcd t b:Nat):Int))=(-b).fdiv ((Int.gcd t b:Nat):Int):=by
  have:=Int.neg_fdiv_neg (a:=-b) (b:=((Int.gcd t b:Nat):Int))
  rw [← this];simp
 rw [e,Rat.den_divInt,if_neg (by omega),Int.gcd_comm b t,Int.fdiv_eq_ediv_of_nonneg _ (Int.natCast_nonneg _)]
 rw [Int.natCast_ediv]
 congr 1
 omega
theorem Af (t b:Int):(Rat.divInt t b).num.natAbs≤t.natAbs:=by
 rcases Int.lt_trichotomy b 0 with h | h | h
 ·rw [← Ag h]
  exact Int.natAbs_fdiv_le_natAbs ..
 ·subst h;simp
 ·rw [← ur h,Int.fdiv_eq_ediv_of_nonneg _ (Int.natCast_nonneg _)]
  exact Int.natAbs_ediv_le_natAbs ..
theorem ua {t b:Int} (h:b≠0):(((Rat.divInt t b).den:Int)).natAbs≤b.natAbs:=by
 rw [Rat.den_divInt,if_neg h]
 exact Nat.div_le_self ..
theorem kZ (p:Rat):Rat.divInt p.num p.den=p:=Rat.num_divInt_den p
theorem fb (p:Rat):(p.den:Int)≠0:=by have:=p.den_pos;omega
theorem dJ (p:Rat):(0:Int) < p.den:=by have:=p.den_pos;omega
theorem add_eq (p q:Rat):Rat.divInt (p.num * q.den + q.num * p.den) (p.den * q.den)=p + q:=by
 rw [← Rat.divInt_add_divInt _ _ (fb p) (fb q),kZ,kZ]
theorem sub_eq (p q:Rat):Rat.divInt (p.num * q.den - q.num * p.den) (p.den * q.den)=p - q:=by
 rw [← Rat.divInt_sub_divInt _ _ (fb p) (fb q),kZ,kZ]
theorem mul_eq (p:Rat) (m:Int):Rat.divInt (p.num * m) p.den=p * m:=by
 have:=Rat.divInt_mul_divInt p.num m (d₁:=p.den) (d₂:=1)
 rw [kZ,Int.mul_one] at this
 rw [← this,Rat.divInt_eq_div]
 congr 1
 grind
theorem cast_eq (p:Rat):(p.num:Rat)=p * (p.den:Int):=by
 have h:((p.den:Int):Rat)≠0:=by
  intro e
  exact fb p (by exact_mod_cast e)
 have e:=kZ p
 rw [Rat.divInt_eq_div] at e
 grind
theorem dQ (p:Rat):((p.den:Int):Rat)≠0:=fun e=>fb p (by exact_mod_cast e)
theorem KR (b p m:Rat) (v:Int):Rat.divInt (p.num * (m.den * b.den) + v * (m.num * b.den - b.num * m.den) * p.den) (p.den * (m.den * b.den))=p + (m - b) * v:=by
 have h:=dQ p
 have g:=dQ b
 have k:=dQ m
 simp only [Rat.divInt_eq_div,Rat.intCast_add,Rat.intCast_sub,Rat.intCast_mul,cast_eq p,cast_eq b,cast_eq m]
 generalize ((p.den:Int):Rat)=d at h ⊢
 generalize ((b.den:Int):Rat)=e at g ⊢
 generalize ((m.den:Int):Rat)=f at k ⊢
 generalize (v:Rat)=v
 grind
theorem oC {n:Int} (h:n≠0):(n:Rat)≠0:=fun e=>h (by exact_mod_cast e)
theorem JG (g:Rat) (n:Int) (h:n≠0):Rat.divInt g.num (g.den * n)=g / n:=by
 have k:=dQ g
 have l:=oC h
 simp only [Rat.divInt_eq_div,Rat.intCast_mul,cast_eq g]
 generalize ((g.den:Int):Rat)=d at k ⊢
 generalize (n:Rat)=n at l ⊢
 grind
end Ov
namespace Ov
open PySem PySem.Spec PyProof.Rows L2
structure Bd (n:Nat) (x:Int):Prop where
 lt:x.natAbs < 2 ^ n
theorem Bd.bits {n:Nat} {x:Int} (h:Bd n x):Builtin.Int.intBits x≤n:=intBits_le_iff.mpr h.lt
theorem Bd.of {n:Nat} {x:Int} (h:Builtin.Int.intBits x≤n):Bd n x:=⟨intBits_le_iff.mp h⟩
theorem Bd.mono {m n:Nat} {x:Int} (h:Bd m x) (hmn:m≤n):Bd n x:=.of (Nat.le_trans h.bits hmn)
theorem Bd.neg {n:Nat} {x:Int} (h:Bd n x):Bd n (-x):=.of (intBits_neg_le h.bits)
theorem Bd.add {m n k:Nat} {x y:Int} (h:Bd m x) (g:Bd n y) (hk:max m n + 1≤k:=by decide):Bd k (x + y):=(Bd.of (intBits_add_le h.bits g.bits)).mono hk
theorem Bd.sub {m n k:Nat} {x y:Int} (h:Bd m x) (g:Bd n y) (hk:max m n + 1≤k:=by decide):Bd k (x - y):=(Bd.of (intBits_sub_le h.bits g.bits)).mono hk
theorem Bd.mul {m n k:Nat} {x y:Int} (h:Bd m x) (g:Bd n y) (hk:m + n≤k:=by decide):Bd k (x * y):=(Bd.of (intBits_mul_le h.bits g.bits)).mono hk
theorem Bd.le {n:Nat} {x y:Int} (g:Bd n y) (h:x.natAbs≤y.natAbs):Bd n x:=⟨Nat.lt_of_le_of_lt h g.lt⟩
theorem Bd.small {x:Int} (h1:-(2 ^ 64) < x) (h2:x < 2 ^ 64):Bd 64 x:=.of (intBits_le_64 h1 h2)
theorem Bd.log {n:Nat} {x:Int} (h:Bd n x) (hn:n≤9000) (h0:x≠0):x.natAbs.log2 < 9000 :=
 Nat.lt_of_lt_of_le ((Nat.log2_lt (by omega)).mpr h.lt) hn
section
variable {X:Cx}
def CM (i j:Int):Prop:=∃ m n,Bd m i∧Bd n j∧m + n≤134217728
theorem CM.of {m n:Nat} {i j:Int} (h:Bd m i) (g:Bd n j) (hk:m + n≤134217728:=by decide):CM i j:=⟨m,n,h,g,hk⟩
theorem cM:fF X (binaryOp .Mult) (rI CM fun i j=>.int (i * j)):=MV fun _ _ _ _ _ _ _ hc q=>by
 obtain ⟨m,n,h,g,hk⟩:=hc
 exact mul_int q (IntMulOk.of_le h.bits g.bits hk)
def CQ (_ j:Int):Prop:=j≠0∧Bd 9000 j
theorem gA:fF X (binaryOp .FloorDiv) (rI CQ fun i j=>.int (i.fdiv j)):=MV fun _ _ _ _ _ _ _ hc q =>
 floordiv_int hc.1 q (.inl (PyProof.noPylong_of_log2 (hc.2.log (Nat.le_refl _) hc.1)))
def Pe (f:Bool→Bool):R2:=fun x y H Q=>∃ (p q:Addr) (a b c d:Int),x=.ref p∧y=.ref q∧H p=some (.tup [.int a,.int b])∧H q=some (.tup [.int c,.int d])∧Q (.bl (f (decide (a=c∧b=d)))) H
def Mu (t u:TS):TS:=fun D σ H=>∃ M:L2.St→Hp→Prop,t { D with nx:=M } σ H∧∀ σ' H',M σ' H'→u D σ' H'
theorem Gn {st:Stmt} {rest:List Stmt} {t u:TS} (h1:PS X st t) (h2:sF X rest u):sF X (st :: rest) (Mu t u):=by
 intro pins s σ H D I h
 obtain ⟨M,h,k⟩:=h
 refine wpAny_execs_cons (b7 (h1 pins s σ H { D with nx:=M } I h) fun f s1 q=>?_)
 cases f with
 | next =>
  obtain ⟨σ',H',I',q⟩:=q
  exact h2 pins s1 σ' H' D I' (k _ _ q)
 | ret v=>exact q
 | brk=>exact q
 | cont=>exact q
end
section
variable {X:Cx}
def HL:R2:=fun x y H Q=>∃ p xs i v,x=.ref p∧y=.int i∧H p=some (.lst xs)∧c_ xs i=some v∧Q v H
def Ma:R2:=fun x y H Q=>∃ p xs i v,x=.ref p∧y=.int i∧H p=some (.tup xs)∧c_ xs i=some v∧Q v H
theorem gu:pQ X HL:=fun value slice pins s σ H x y v u Q I rx ry ⟨p,xs,i,z,e1,e2,h,e3,q⟩ hs =>
 uf value slice pins s σ H x y v u Q I rx ry ⟨p,xs,i,z,e1,e2,c7.of h,e3,q⟩ hs
end
theorem dH {α:Type} (x:α) (xs:List α):c_ (x :: xs) 0=some x:=ba (j:=0) rfl
theorem fN {α:Type} (x y:α) (xs:List α):c_ (x :: y :: xs) 1=some y:=ba (j:=1) rfl
theorem lq {α:Type} (x y z:α) (xs:List α):c_ (x :: y :: z :: xs) 2=some z:=ba (j:=2) rfl
theorem CG {α:Type} (x y z u:α) (xs:List α):c_ (x :: y :: z :: u :: xs) 3=some u:=ba (j:=3) rfl
theorem GP (i j:Int):Et (.int i) (.int j)=true:=rfl
theorem GO (i j:Bool):Et (.bl i) (.bl j)=true:=rfl
theorem GQ (i j:Str):Et (.str i) (.str j)=true:=rfl
def rd (P:Program) (w:World) (K:PySem.W.Frag) (mg:Str→Option Value) (base:Heap) (k:Nat) (x:Str) (ps:List Str) (sp:Sp):Prop :=
 ∃ f fd,aO P w K mg base pK k f fd ps sp∧Binds K fd ps []∧PySem.W.keepIn K (.ref f)=true∧mg x=some (.ref f)
theorem Jw {X:Cx} {k k':Nat} {x:Str} {ps:List Str} {sp:Sp} {p pos:Pos} {e:Expr} {es:List Expr} {t:TA} (C:rd X.prog X.w X.K X.mg X.base k x ps sp) (hr:bX k' X.A) (hk:k≤k') (hg:Gl X x) (ha:PA X (e :: es) t)
  (hdb:(x == ("__debug__":Str))=false:=by decide) (he:starEach (e :: es) X.env=(false,eval e X.env) :: starEach es X.env:=by rfl) (hpl:(backTo pos (starEach es X.env)).any (·.1)=false:=by rfl) :
  PE X (.Call (.Name x p) (e :: es) [] pos) (q_ sp [] E0 t):=by
 obtain ⟨f,fd,F,b,kp,m⟩:=C
 exact Aj F (hr.mono hk) hg m kp b .nil LD ha hdb he hpl
theorem dT {N P:List Str} {sc:Scope} (a:sc.kind=.function:=by rfl) (b:sc.isCoroutine=false:=by rfl) (c:sc.isGenerator=false:=by rfl) (d:N.Nodup:=by decide +kernel) (e:N.take P.length=P:=by rfl) (f:∀ x∈P,sc.names.lookup x=some .local∨sc.names.lookup x=some .cell:=by decide +kernel) (g:∀ y∈sc.names,y.2≠.free:=by decide +kernel):aw N P sc:=⟨a,b,c,d,e,f,g⟩
def Def (K:PySem.W.Frag) (mg:Str→Option Value) (x:Str) (st:Stmt):Prop:=∃ f fd,cm K x x st f fd∧mg x=some (.ref f)
theorem IE {K:PySem.W.Frag} {h:Heap} {mg:Str→Option Value} {x:Str} {st:Stmt} (X:K.In h) (G:h.Ns mainGlobals mg) {f:Addr} {od an:Option Addr} {sl:Array (Option Value)} {oc kV dc pm cd ct:Value}
  (a:PySem.W.nsIn K mainGlobals x=some (some (.ref f))) (l:K.lookup f=some ⟨oc,od,.func (PySem.W.fnOf x x (de st) (b_ st) (aj st) .none kV dc pm an cd ct),sl⟩) (c:PySem.W.codeIn K cd x=true) (k:PySem.W.keepIn K (.ref f)=true) :
  Def K mg x st:=⟨f,_,yq l c k,PySem.W.mg_of X G a⟩
theorem Def.CI {P:Program} {w:World} {K:PySem.W.Frag} {mg:Str→Option Value} {base:Heap} {x:Str} {st:Stmt} {k:Nat} {ps:List Str} {sp:Sp} (D:Def K mg x st)
  (h:∀ f fd,cm K x x st f fd→aO P w K mg base pK k f fd ps sp)
  (hb:∀ (kV doc pm:Value) (an:Option Addr) (cdv ct:Value) (us:List Value),us.length=ps.length→bindArgs (PySem.W.fnOf x x (de st) (b_ st) (aj st) .none kV doc pm an cdv ct) ⟨us,[]⟩=pure (ps.zip us)) :
  rd P w K mg base k x ps sp:=by
 obtain ⟨f,fd,F,m⟩:=D
 exact ⟨f,fd,h f fd F,F.binds hb,F.kp,m⟩
theorem I8 {K:PySem.W.Frag} {mg:Str→Option Value} {st:Stmt} {fa:Addr} {p:Str} (D:Def K mg "law" st) (hfa:mg "law"=some (.ref fa))
  (hb:∀ (kV doc pm:Value) (an:Option Addr) (cdv ct:Value) (u:Value),bindArgs (PySem.W.fnOf "law" "law" (de st) (b_ st) (aj st) .none kV doc pm an cdv ct) ⟨[u],[]⟩=pure [(p,u)]) :
  ∃ fd,cm K "law" "law" st fa fd∧∀ (s:Shared) (u:Value),BindsTo s fd ⟨[u],[]⟩ [(p,u)]:=by
 obtain ⟨f,fd,F,m⟩:=D
 have e:=m.symm.trans hfa
 cases e
 obtain ⟨oc,od,kV,doc,pm,an,cdv,ct,osl,rfl,lk,hcd⟩:=F.ex
 exact ⟨_,F,fun s u=>.of_eq (hb kV doc pm an cdv ct u)⟩
structure Cd (mg:Str→Option Value):Prop where
 abs:mg "abs"=none
 len:mg "len"=none
 isinstance:mg "isinstance"=none
 range:mg "range"=none
 int:mg "int"=none
 bool:mg "bool"=none
 tuple:mg "tuple"=none
 list:mg "list"=none
 sorted:mg "sorted"=none
 all:mg "all"=none
theorem _root_.L2.bG.tup {K:PySem.W.Frag} {H H':Hp} {a:Addr} {xs:List V} (e:bG H H') (h:gM K H a xs):gM K H' a xs:=by
 rcases h with (h | ⟨o,h⟩) | h
 ·exact .inl (.inl (e _ _ h))
 ·exact .inl (.inr ⟨o,e _ _ h⟩)
 ·exact .inr h
theorem _root_.L2.bG.new {H:Hp} {p:Addr} (h:H p=none) (o:HO):bG H (upd H p o):=fun b u q=>by rw [aQ (cg q h)];exact q
theorem _root_.L2.bG.Ks {H H':Hp} {p:Addr} (h:H p=none) (e:bG H H') (o:HO):bG H (upd H' p o):=fun b u q=>by rw [aQ (cg q h)];exact e b u q
def Kj (K:PySem.W.Frag) (H:Hp) (a:Addr) (q:Rat):Prop:=gM K H a [.int q.num,.int q.den]
structure Sz (n:Nat) (q:Rat):Prop where
 num:Bd n q.num
 den:Bd n q.den
theorem Sz.mono {m n:Nat} {q:Rat} (h:Sz m q) (k:m≤n):Sz n q:=⟨h.num.mono k,h.den.mono k⟩
theorem GA (x y:Rat):(x.num=y.num∧(x.den:Int)=(y.den:Int))=(x=y):=propext
 ⟨fun h=>Rat.ext h.1 (by have:=h.2;omega),fun h=>by subst h;exact ⟨rfl,rfl⟩⟩
theorem j2 (c:Str→NameKind→Bool):∀ (names:List (Str × NameKind)) (y:Str),
  (names.map fun (x:Str × NameKind)=>if c x.1 x.2 then (x.1,NameKind.cell) else (x.1,x.2)).lookup y=(names.lookup y).map fun k=>if c y k then NameKind.cell else k
 | [],_=>rfl
 | (n,k) :: r,y=>by
  have ih:=j2 c r y
  cases hy:y == n with
  | true =>
   have e:y=n:=by simpa using hy
   subst e
   by_cases h:c y k=true <;> simp [List.lookup_cons,h]
  | false =>
   by_cases h:c n k=true <;> simp [List.lookup_cons,h,hy,ih]
theorem km (sc:Scope) (env:Env) (y:Str):(relabel sc env).names.lookup y=(sc.names.lookup y).map fun k=>if (k == .free && env.scope.kind == .function && env.kindOf y == some .cell) then NameKind.cell else k:=by
 have h:=j2 (fun n k=>k == .free && env.scope.kind == .function && env.kindOf n == some .cell) sc.names y
 exact h
theorem lL {env:Env}:∀ (names:List (Str × NameKind)) (acc:List (Str × Addr)),(∀ y∈names,y.2=.free→∃ c,env.cells.lookup y.1=some c)→(∀ y c,acc.lookup y=some c→env.cells.lookup y=some c) →
  ∃ cl,(forIn names acc fun (x:Str × NameKind) (r:List (Str × Addr))=>match x with
   | (name,kind)=>if (kind == NameKind.free)=true then (do let c ← cellOf env name;pure (ForInStep.yield ((name,c) :: r))) else (pure (ForInStep.yield r):Sem (ForInStep (List (Str × Addr)))))=(pure cl:Sem (List (Str × Addr))) ∧
   (∀ y c,cl.lookup y=some c→env.cells.lookup y=some c)∧(∀ y c,acc.lookup y=some c→∃ c,cl.lookup y=some c)∧∀ y∈names,y.2=.free→∃ c,cl.lookup y.1=some c
 | [],acc,_,ha=>⟨acc,rfl,ha,fun y c e=>⟨c,e⟩,fun y hy=>by cases hy⟩
 | (n,k) :: r,acc,hn,ha=>by
  by_cases hk:k=.free
  ·subst hk
   obtain ⟨c,hc⟩:=hn (n,.free) List.mem_cons_self rfl
   obtain ⟨cl,e,h1,h2,h3⟩:=lL r ((n,c) :: acc) (fun y hy=>hn y (List.mem_cons_of_mem _ hy)) (fun y d e=>by
    rw [List.lookup_cons] at e
    cases hy:y == n with
    | true =>
     rw [hy] at e
     have e1:y=n:=by simpa using hy
     subst e1
     rw [hc]
     exact e
    | false=>rw [hy] at e;exact ha y d e)
   have self:∃ d,cl.lookup n=some d:=h2 n c (by simp [List.lookup_cons])
   refine ⟨cl,?_,h1,fun y d q=>?_,fun y hy hf=>?_⟩
   ·rw [List.forIn_cons]
    have ec:cellOf env n=pure c:=by unfold cellOf;rw [hc]
    simp only [beq_self_eq_true,if_true,ec,pure_bind]
    exact e
   ·by_cases hy:y=n
    ·subst hy;exact self
    ·exact h2 y d (by rw [List.lookup_cons];have:(y == n)=false:=by simpa using hy
                      rw [this];exact q)
   ·rcases List.mem_cons.mp hy with rfl | hy
    ·exact self
    ·exact h3 y hy hf
  ·obtain ⟨cl,e,h1,h2,h3⟩:=lL r acc (fun y hy=>hn y (List.mem_cons_of_mem _ hy)) ha
   refine ⟨cl,?_,h1,h2,fun y hy hf=>?_⟩
   ·rw [List.forIn_cons]
    have hb:(k == NameKind.free)=false:=by simpa using hk
    simp only [hb,Bool.false_eq_true,if_false,pure_bind]
    exact e
   ·rcases List.mem_cons.mp hy with rfl | hy
    ·exact absurd hf hk
    ·exact h3 y hy hf
theorem jg {sc:Scope} {env:Env} (h:∀ y∈sc.names,y.2=.free→∃ c,env.cells.lookup y.1=some c) :
  ∃ cl,closureFor sc env=pure cl∧(∀ y c,cl.lookup y=some c→env.cells.lookup y=some c)∧∀ y∈sc.names,y.2=.free→∃ c,cl.lookup y.1=some c:=by
 obtain ⟨cl,e,h1,_,h3⟩:=lL sc.names [] h (fun y c z=>by cases z)
 refine ⟨cl,?_,h1,h3⟩
 unfold closureFor
 have e':=congrArg (fun m=>m >>= fun r=>(pure r:Sem (List (Str × Addr)))) e
 simp only [pure_bind] at e'
 exact e'
abbrev cO (sc osc:Scope) (N:List Str) (x:Str) (ks:List (Str × Nat)):Prop :=
 sc.kind=.function∧(∀ y∈sc.names,y.2≠.cell)∧sc.names.lookup x=some .local∧(∀ y∈sc.names,y.2=.local→sc.names.lookup y.1=some .local) ∧
 (∀ y∈sc.names,y.2=.free→osc.names.lookup y.1=some .cell)∧(∀ p∈ks,N[p.2]?=some p.1∧sc.names.lookup p.1=some .free)∧(x :: ks.map (·.1)).Nodup
def e_ (X:Cx) (sc:Scope) (cl:List (Str × Addr)) (C:Addr) (x:Str) (ks:List (Str × Nat)) (s₀:Shared) (H₀:Hp) (fp:List Addr) (pins:List (Addr × Obj)):Cx :=
 { X with N:=x :: ks.map (·.1),s₀:=s₀,H₀:=H₀,env:=compEnvC sc cl C X.env,outer:=X.stack,ex:=fp,fn:=fun _=>false,pn:=X.pn ++ pins,xe:=fun _ _=>False }
def dk (ks:List (Str × Nat)) (σ:L2.St):L2.St:=ks.map fun p=>(σ[p.2]?).getD none
section
variable {X:Cx} {pins:List (Addr × Obj)} {σ:L2.St} {H:Hp} {s:Shared} {sc:Scope} {cl:List (Str × Addr)} {x:Str} {ks:List (Str × Nat)} {fp:List Addr}
theorem get_map {α β:Type} (f:α→β) (l:List α) (i:Nat):(l.map f)[i]?=(l[i]?).map f:=List.getElem?_map
theorem qk (I:Inv X pins σ H s) (ok:cO sc X.env.scope X.N x ks) (h1:∀ y c,cl.lookup y=some c→X.env.cells.lookup y=some c) (h2:∀ y∈sc.names,y.2=.free→∃ c,cl.lookup y.1=some c)
  (hfp:∀ b∈fp,i4 X pins H b∧∃ o,s.heap.get? b=some o) {h4:Heap} {m:Str→Option Value} {t':Nat} (hn:h4.Ns s.heap.objs.size m) (kp:∀ b o,s.heap.get? b=some o→h4.get? b=some o) :
  Inv (e_ X sc cl s.heap.objs.size x ks s H fp pins) [] (none :: dk ks σ) H { s with heap:=h4,toks:=t' }:=by
 obtain ⟨kd,nc,lx,ll,fr,kk,nd⟩:=ok
 have fresh:H s.heap.objs.size=none:=I.hok.fresh (Nat.le_refl _)
 have lt:∀ b o,s.heap.get? b=some o→b≠s.heap.objs.size:=fun b o e=>Nat.ne_of_lt (Heap.lt_size e)
 have cellLt:∀ y c,X.env.cells.lookup y=some c→c≠s.heap.objs.size:=fun y c e=>by
  obtain ⟨v,o,ho,_⟩:=I.cell y c e
  exact lt c o ho
 have sub:∀ b∈jN X.stack,b=X.env.locals∨b∈X.fs:=fun b hb=>List.mem_cons.mp (I.l3 b hb)
 have kof:∀ y,(compEnvC sc cl s.heap.objs.size X.env).kindOf y=(relabel sc X.env).names.lookup y:=fun y=>rfl
 have ok':(e_ X sc cl s.heap.objs.size x ks s H fp pins).Ok:={
  mod:=I.ok.mod
  kind:=kd
  glob:=I.ok.glob
  blt:=I.ok.blt
  above:=Nat.le_refl _
  inj:=fun y z c e1 e2=>I.ok.inj y z c (h1 y c e1) (h1 z c e2)
  has:=fun y hy=>by
   rw [show (e_ X sc cl s.heap.objs.size x ks s H fp pins).env.kindOf y=_ from kof y,km] at hy
   cases e:sc.names.lookup y with
   | none=>rw [e] at hy;rcases hy with z | z <;> cases z
   | some k =>
    have hm:(y,k)∈sc.names:=by
     have:=List.lookup_eq_some_iff.mp e
     obtain ⟨l1,l2,q,_⟩:=this
     rw [q]
     simp
    by_cases hk:k=.free
    ·subst hk;exact h2 _ hm rfl
    ·have hb:(k == NameKind.free)=false:=by simpa using hk
     rw [e] at hy
     simp only [Option.map_some,hb,Bool.false_and,Bool.false_eq_true,if_false] at hy
     rcases hy with z | z
     ·exact absurd (Option.some.inj z) (nc _ hm)
     ·exact absurd (Option.some.inj z) hk
  cab:=fun _ _ z=>by cases z
  hd:=fun z=>I.ok.hd z
  frames:=I.ok.frames
  stk:=.inl rfl
  exf:=fun b hb=>⟨lt b _ (hfp b hb).2.choose_spec,fun y c e=>(hfp b hb).1.2.2.2.2.1 y c (h1 y c e)⟩
  bs:=fun b o e=>I.bs b o e
  bsz:=Nat.le_trans I.ok.bsz I.sz
  noex:=fun b o e hb=>by
   rcases (hfp b hb).1.2.2.2.1 with z | z
   ·exact I.ok.noex b o e z
   ·exact absurd (Nat.lt_of_lt_of_le (Heap.lt_size e) (Nat.le_trans I.ok.bsz z)) (Nat.lt_irrefl _)
  exfs:=fun b hb z=>by
   rcases sub b z with e | e
   ·exact (hfp b hb).1.2.1 e
   ·exact (hfp b hb).1.2.2.1 e
  nG:=I.stack
  frf:=I.vE }
 obtain ⟨mX,hnX,hlX⟩:=I.loc
 refine ⟨ok',rfl,I.bare,Un.kept kp,⟨m,hn,fun i y v e1 e2 e3=>?_⟩,fun y c e=>?_,fresh,fun y c e=>I.freeC y c (h1 y c e),fun p hp=>?_,I.hok.kept kp,by simp [e_,dk]⟩
 ·cases i with
  | zero =>
   rw [List.getElem?_cons_zero] at e2
   cases e2
  | succ i =>
   have e1':(ks.map (·.1))[i]?=some y:=by simpa [e_] using e1
   rw [List.getElem?_cons_succ] at e2
   unfold dk at e2
   rw [List.getElem?_map] at e1' e2
   cases ep:ks[i]? with
   | none=>rw [ep] at e1';cases e1'
   | some p =>
    rw [ep] at e1' e2
    have ey:p.1=y:=Option.some.inj e1'
    have ev:(σ[p.2]?).getD none=some v:=Option.some.inj e2
    obtain ⟨kN,kf⟩:=kk p (List.mem_of_getElem? ep)
    have es:σ[p.2]?=some (some v):=by
     cases q:σ[p.2]? with
     | none=>rw [q] at ev;cases ev
     | some w=>rw [q] at ev;exact congrArg some ev
    have hm:(p.1,NameKind.free)∈sc.names:=by
     obtain ⟨l1,l2,q,_⟩:=List.lookup_eq_some_iff.mp kf
     rw [q]
     simp
    have oc:X.env.scope.names.lookup p.1=some .cell:=fr _ hm rfl
    obtain ⟨u,ru,lu⟩:=hlX p.2 p.1 v kN es (.inr (.inl oc))
    refine ⟨u,ru,.inr ⟨.inl ?_,?_⟩⟩
    ·rw [show (e_ X sc cl s.heap.objs.size x ks s H fp pins).env.kindOf y=_ from kof y,km,← ey,kf]
     have k1:X.env.kindOf p.1=some .cell:=oc
     simp [I.ok.kind,k1]
    ·obtain ⟨c,hc⟩:=h2 _ hm rfl
     have hc:cl.lookup p.1=some c:=hc
     rcases lu with ⟨z,_⟩ | ⟨_,c',hc',z⟩
     ·have z':X.env.scope.names.lookup p.1=some .local:=z
      rw [oc] at z';cases z'
     ·have:=h1 _ _ hc
      rw [hc'] at this
      cases this
      obtain ⟨o,ho,hd⟩:=z
      exact ⟨_,by rw [← ey];exact hc,o,kp _ _ ho,hd⟩
 ·obtain ⟨v,o,ho,hd⟩:=I.cell y c (h1 y c e)
  exact ⟨v,o,kp _ _ ho,hd⟩
 ·rw [List.append_nil] at hp
  obtain ⟨a1,a2,a3,a4,a5⟩:=I.pin p hp
  refine ⟨kp _ _ a1,a2,lt _ _ a1,fun z=>?_,a5⟩
  rcases sub p.1 z with e | e
  ·exact a3 e
  ·exact a4 e
end
section
variable {prog:Program} {w:World} {A:Around} {R:Result→Shared→Prop} {s:Shared}
theorem BB {elt iter:Expr} {x:Str} {px:Pos} {sc:Scope} {pos:Pos} {it acc:Value} {env:Env} (I:Nat→Shared→Prop)
  (turn:∀ n s,I n s→wpAny (model prog w) A (pyNext it) (fun r s₁=>match r with
   | none=>R (.ok .next) s₁
   | some v=>wpAny (model prog w) A (letOwnedTupleGo (.Name x px) it v) (fun _ s₂=>wpAny (model prog w) A (assign (.Name x px) env v) (fun _ s₃=>wpAny (model prog w) A (eval elt env) (fun y s₄ =>
     wpAny (model prog w) A (call (.builtin "list.append") [acc,y]) (fun _ s₅=>∃ m,m < n∧I m s₅) (fun _ _=>False) s₄) (fun _ _=>False) s₃) (fun _ _=>False) s₂) (fun _ _=>False) s₁) (fun _ _=>False) s)
  (n:Nat) (h:I n s):codeAny (model prog w) A (.compLoop (.ListComp elt [⟨.Name x px,iter,[],0⟩] sc pos) 0 it acc env) R s:=by
 refine codeAny_loop rfl I (fun n s hI=>?_) n h
 show wpAny _ _ ((compTurn (.ListComp elt [⟨.Name x px,iter,[],0⟩] sc pos) 0 it acc env).onRaise (fun x=>do noteFrame x env;theTreesLotGoes x)) _ _ s
 refine wpAny_noted ?_
 rw [compTurn_list1]
 have no:∀ (e:Value) (s':Shared),False→notedBy (model prog w) A env (fun e s'=>R (.error e) s') e s':=fun _ _ z=>z.elim
 refine wpAny_bind (wpAny_standAt (wpAny_bind (wpAny_mono (turn n s hI) (fun r s₁ h₁=>?_) no)))
 cases r with
 | none=>exact wpAny_pure h₁
 | some v =>
  refine wpAny_bind (wpAny_mono h₁ (fun _ s₂ h₂=>?_) no)
  exact wpAny_bind (wpAny_mono h₂ (fun _ s₃ h₃=>wpAny_bind (wpAny_bind (wpAny_mono h₃ (fun y s₄ h₄=>wpAny_bind (wpAny_mono h₄
   (fun _ s₅ h₅=>wpAny_pure (wpAny_pure ⟨rfl,h₅⟩)) no)) no))) no)
end
def MZ (wi:TI) (ks:List (Str × Nat)) (te:TE):TE:=fun σ H Q=>wi σ H fun J H1=>∀ D,H1 D=none→∃ W:Nat→Nat→Hp→Prop,(∃ m,W 0 m (upd H1 D (.lst []))) ∧
 ∀ i m H2,W i m H2→(J.stop i H2∧Q (.ref D) H2)∨(J.go i H2∧∀ v H3,J.yld i H2 v H3→te (some v :: dk ks σ) H3 fun y H4=>∃ ys,H4 D=some (.lst ys)∧ys.length < sizeLine∧∃ m',m' < m∧W (i + 1) m' (upd H4 D (.lst (ys ++ [y]))))
section
variable {X:Cx}
theorem xj {elt iter:Expr} {x:Str} {px:Pos} {sc:Scope} {pos:Pos} {te:TE} {ks:List (Str × Nat)} {cl:List (Str × Addr)} {pins:List (Addr × Obj)} {σ:L2.St} {H:Hp} {s:Shared} {it:Addr} {fp:List Addr} {tn:Nat→Heap→Prop} {J:It} {Q:VK}
  {RR:Value→Addr→Result→Shared→Prop} {E:Value→Shared→Prop}
  (hc:X.calm=true) (ok:cO sc X.env.scope X.N x ks) (h1:∀ y c,cl.lookup y=some c→X.env.cells.lookup y=some c) (h2:∀ y∈sc.names,y.2=.free→∃ c,cl.lookup y.1=some c)
  (he:∀ cl C s₀ H₀ fp pins,PE (e_ X sc cl C x ks s₀ H₀ fp pins) elt te)
  (I:Inv X pins σ H s) (T:Turn X.prog X.w X.K (.Name x px) J fp it tn) (st:tn 0 s.heap) (f:∀ b∈fp,i4 X pins H b)
  (hw:∀ D,H D=none→∃ W:Nat→Nat→Hp→Prop,(∃ m,W 0 m (upd H D (.lst [])))∧∀ i m H2,W i m H2→(J.stop i H2∧Q (.ref D) H2) ∨
   (J.go i H2∧∀ v H3,J.yld i H2 v H3→te (some v :: dk ks σ) H3 fun y H4=>∃ ys,H4 D=some (.lst ys)∧ys.length < sizeLine∧∃ m',m' < m∧W (i + 1) m' (upd H4 D (.lst (ys ++ [y])))))
  (hR:∀ (D C:Addr) (s':Shared) (H':Hp) (m:Str→Option Value),Inv X pins σ H' s'→Q (.ref D) H'→s'.heap.Ns C m→H' C=none→C≠X.env.locals→X.s₀.heap.objs.size≤C→(∀ y c,X.env.cells.lookup y=some c→c≠C)→(∀ p∈X.pn ++ pins,p.1≠C)→RR (.ref D) C (.ok .next) s') :
  wpAny (model X.prog X.w) X.A (newList []) (fun acc s₃=>wpAny (model X.prog X.w) X.A (newFunctionEnv sc X.env.globals cl [] X.env.qual none .none (some X.env)) (fun cenv s₄ =>
   codeAny (model X.prog X.w) X.A (.compStart (.ListComp elt [⟨.Name x px,iter,[],0⟩] sc pos) 0 (.ref it) acc { cenv with scope:=relabel sc X.env }) (RR acc cenv.locals) s₄) E s₃) E s:=by
 have okk:=ok
 obtain ⟨kd,nc,lx,ll,fr,kk,nd⟩:=okk
 have hD0:H s.heap.objs.size=none:=I.hok.fresh (Nat.le_refl _)
 obtain ⟨W,⟨m0,w0⟩,turn⟩:=hw s.heap.objs.size hD0
 refine wpAny_newObj_type ?_
 have I3:Inv X pins σ (upd H s.heap.objs.size (.lst [])) { s with heap:=s.heap.push { cls:=.type "list",dict:=none,data:=.seq ([]:List Value).toArray } } :=
  I.laid (t':=s.toks) (fun b u e=>Heap.get?_push_of_some _ e) (Nat.le_refl _) (show c9 X.prog X.w _ _ _ (.lst []) from ⟨Nat.zero_le _,[],0,.nil,Heap.get?_push_size _ rfl⟩)
 have st3:tn 0 (s.heap.push { cls:=.type "list",dict:=none,data:=.seq ([]:List Value).toArray }):=T.keep 0 _ _ st fun b hb o e=>Heap.get?_push_of_some _ e
 generalize hD:s.heap.objs.size=D at *
 generalize hH:upd H D (.lst [])=H3 at *
 generalize hs3:({ s with heap:=s.heap.push { cls:=.type "list",dict:=none,data:=.seq ([]:List Value).toArray } }:Shared)=s3 at *
 have e3:s.heap.push { cls:=.type "list",dict:=none,data:=.seq ([]:List Value).toArray }=s3.heap:=by rw [← hs3]
 rw [e3] at st3
 have fD:∀ b∈fp,b≠D:=fun b hb z=>by
  obtain ⟨o,ho,_⟩:=T.obj 0 _ st b hb
  have:=Heap.lt_size ho
  rw [z,← hD] at this
  exact Nat.lt_irrefl _ this
 have f3:∀ b∈fp,i4 X pins H3 b:=fun b hb=>⟨by rw [← hH,aQ (fD b hb)];exact (f b hb).1,(f b hb).2⟩
 have g3:∀ b∈fp,∃ o,s3.heap.get? b=some o:=fun b hb=>by
  obtain ⟨o,ho,_⟩:=T.obj 0 _ st3 b hb
  exact ⟨o,ho⟩
 refine wpAny_newFunctionEnv nc (by intro y hy;simp at hy) (fun h₁ hns hsb=>?_) kd
 have kp:∀ b o,s3.heap.get? b=some o→h₁.get? b=some o:=fun b o e=>hsb.extBut b o (Nat.ne_of_lt (Heap.lt_size e)) (Heap.get?_push_of_some _ e)
 have J0:=qk (fp:=fp) (cl:=cl) (t':=s3.toks + ([]:List (Str × Value)).length) I3 ok h1 h2 (fun b hb=>⟨f3 b hb,g3 b hb⟩) hns kp
 have st4:tn 0 h₁:=T.keep 0 _ _ st3 fun b hb o e=>kp b o e
 have ltC:∀ b o,s3.heap.get? b=some o→b≠s3.heap.objs.size:=fun b o e=>Nat.ne_of_lt (Heap.lt_size e)
 have cC:∀ y c,X.env.cells.lookup y=some c→c≠s3.heap.objs.size:=fun y c e=>by
  obtain ⟨v,o,ho,_⟩:=I3.cell y c e
  exact ltC c o ho
 have pC:∀ p∈X.pn ++ pins,p.1≠s3.heap.objs.size:=fun p hp=>ltC _ _ (I3.pin p hp).1
 have lC:s3.heap.objs.size≠X.env.locals:=Nat.ne_of_gt I3.lt
 have fX:∀ {H':Hp},(∀ b∈fp,H' b=none)→∀ b∈fp,i4 (e_ X sc cl s3.heap.objs.size x ks s3 H3 fp pins) [] H' b:=fun hn b hb=>by
  obtain ⟨o,ho⟩:=g3 b hb
  obtain ⟨_,q1,q2,q3,q4,q5⟩:=f b hb
  refine ⟨hn b hb,ltC b o ho,fun z=>?_,.inl hb,fun y c e=>q4 y c (h1 y c e),fun p hp=>q5 p (by simpa [e_] using hp)⟩
  rcases List.mem_cons.mp (I3.l3 b z) with e | e
  ·exact q1 e
  ·exact q2 e
 have back:∀ {o:Option V} {H':Hp} {s':Shared},Inv (e_ X sc cl s3.heap.objs.size x ks s3 H3 fp pins) [] (o :: dk ks σ) H' s'→Inv X pins σ H' s':=fun {o H' s'} J=>by
  obtain ⟨hh,g,d,t,os'⟩:=s'
  obtain rfl:os'=s3.os:=J.os
  exact I3.call (h':=hh) (g':=g) (d':=d) (t':=t) (ch:=fp) J.base J.hok J.bare fun b hb=>⟨(f b hb).2.2.2.1,(f b hb).2.1,(f b hb).2.2.2.2.1,(f b hb).2.2.2.2.2⟩
 have lookX:(relabel sc X.env).names.lookup x=some .local:=lookup_relabel_local lx
 have loop:∀ s',(∃ (i:Nat) (o:Option V) (H':Hp),Inv (e_ X sc cl s3.heap.objs.size x ks s3 H3 fp pins) [] (o :: dk ks σ) H' s'∧tn i s'.heap∧(∀ b∈fp,H' b=none)∧W i m0 H') →
   codeAny (model X.prog X.w) X.A (.compLoop (.ListComp elt [⟨.Name x px,iter,[],0⟩] sc pos) 0 (.ref it) (.ref D) (compEnvC sc cl s3.heap.objs.size X.env)) (RR (.ref D) s3.heap.objs.size) s':=by
  intro s' hs'
  refine BB (fun n s'=>∃ (i:Nat) (o:Option V) (H':Hp),Inv (e_ X sc cl s3.heap.objs.size x ks s3 H3 fp pins) [] (o :: dk ks σ) H' s'∧tn i s'.heap∧(∀ b∈fp,H' b=none)∧W i n H') ?_ m0 hs'
  rintro n s5 ⟨i,o,H5,J5,t5,n5,w5⟩
  rcases turn i n H5 w5 with ⟨stop,hq⟩ | ⟨go,step⟩
  ·refine b7 (T.done (e_ X sc cl s3.heap.objs.size x ks s3 H3 fp pins) rfl rfl rfl hc i [] s5 _ H5 _ J5 (fX n5) t5 stop) fun r s6 ⟨hr,J6⟩=>?_
   subst hr
   obtain ⟨m,hm,_⟩:=J6.loc
   exact hR D _ s6 H5 m (back J6) hq hm J6.free lC I3.sz cC pC
  ·refine b7 (T.item (e_ X sc cl s3.heap.objs.size x ks s3 H3 fp pins) rfl rfl rfl hc i [] s5 _ H5 _ J5 (fX n5) t5 go) fun r s6 ⟨u,hr,h6⟩=>?_
   subst hr
   refine b7 h6 fun _ s7 ⟨v,H7,J7,r7,y7,t7,n7⟩=>?_
   have J7':=J7.pinned (fX n7) (T.obj _ _ t7)
   refine wpAny_assign_Name (fC (X:=e_ X sc cl s3.heap.objs.size x ks s3 H3 fp pins) (i:=0) J7' nd rfl (.inl lookX) r7 (fun s8 J8=>?_) (.inr lookX))
   refine b7 (he cl s3.heap.objs.size s3 H3 fp pins _ s8 _ H7 _ J8 (step v H7 y7)) fun y s9 ⟨vy,H9,J9,r9,ys,hys,hz,m',hm,w'⟩=>?_
   refine b7 (f' (X:=e_ X sc cl s3.heap.objs.size x ks s3 H3 fp pins) _ s9 _ H9 (.ref D) [vy] (.ref D) [y] (fun _ H'=>H'=upd H9 D (.lst (ys ++ [vy]))) J9 rfl (.cons r9 .nil) ⟨D,ys,vy,rfl,rfl,hys,hz,rfl⟩) fun _ s10 ⟨_,H10,J10,_,eH⟩=>?_
   subst eH
   refine ⟨m',hm,i + 1,_,_,J10.fE,?_,?_,w'⟩
   ·exact T.keep _ _ _ t7 fun b hb o e=>(J10.pin (b,o) (List.mem_append_right _ (List.mem_append_right _ (bZ hb e)))).1
   ·intro b hb
    obtain ⟨o,e,d⟩:=T.obj _ _ t7 b hb
    exact (J10.pin (b,o) (List.mem_append_right _ (List.mem_append_right _ (bZ hb e)))).2.1
 have l0:=loop _ ⟨0,none,H3,J0,st4,fun b hb=>(f3 b hb).1,w0⟩
 exact codeAny_compStart_list l0 (T.self _ 0 _ _ _ st4 l0)
theorem mE {sc osc:Scope} {N:List Str} {x:Str} {ks:List (Str × Nat)} (ok:cO sc osc N x ks) {pins:List (Addr × Obj)} {σ:L2.St} {H:Hp} {s:Shared} (I:Inv X pins σ H s) (ho:X.env.scope=osc):∀ y∈sc.names,y.2=.free→∃ c,X.env.cells.lookup y.1=some c:=fun y hy hf =>
 I.ok.has y.1 (.inl (by show X.env.scope.names.lookup y.1=some .cell;rw [ho];exact ok.2.2.2.2.1 y hy hf))
theorem Hz {elt iter:Expr} {x:Str} {px:Pos} {sc:Scope} {pos:Pos} {wi:TI} {te:TE} (osc:Scope) (N:List Str) (ks:List (Str × Nat)) (hc:X.calm=true) (ho:X.env.scope=osc) (hN:X.N=N) (hi:PI X (.Name x px) iter wi)
  (he:∀ cl C s₀ H₀ fp pins,PE (e_ X sc cl C x ks s₀ H₀ fp pins) elt te) (ok:cO sc osc N x ks:=by decide +kernel) (hs:∀ x,foldedSetIterable iter X.env x=pure x:=by intro _;rfl) :
  PE X (.ListComp elt [⟨.Name x px,iter,[],0⟩] sc pos) (MZ wi ks te):=by
 intro pins s σ H Q I hw
 obtain ⟨cl,hcl,h1,h2⟩:=jg (mE ok I ho)
 have ok':cO sc X.env.scope X.N x ks:=by rw [ho,hN];exact ok
 rw [eval_ListComp]
 refine wpAny_comprehension_free (use:=none) rfl hs hcl ok.1 ok.2.2.2.1 (b7 (hi pins s σ H _ I hw) fun v s1 h3=>b7 h3 fun itv s2 h4=>?_)
 obtain ⟨it,fp,tn,J,H2,rfl,I2,T,st2,f2,hR⟩:=h4
 refine xj (RR:=fun acc C=>compPost (model X.prog X.w) X.A X.xe none (EP X pins σ Q) acc C) hc ok' h1 h2 he I2 T st2 f2 hR ?_
 intro D C s' H' m J' q hn hC cl' cs cc cp
 refine ⟨m,hn,fun h' hsb=>⟨.ref D,H',?_,rfl,q⟩⟩
 exact J'.turned (t':=s'.toks) (it:=C) (fun b o ne e=>hsb.extBut b o ne e) hC cl' (.inr cs) cc cp
def Kb (wi:TI) (ks:List (Str × Nat)) (te:TE) (i:Nat):TS:=fun D σ H=>MZ wi ks te σ H fun v H1=>D.nx (σ.set i (some v)) H1
theorem HA {elt iter:Expr} {x y:Str} {px py:Pos} {sc:Scope} {pos spos:Pos} {wi:TI} {te:TE} {i:Nat} (osc:Scope) (N:List Str) (ks:List (Str × Nat)) (hc:X.calm=true) (ho:X.env.scope=osc) (hN:X.N=N) (hnd:X.N.Nodup) (hy:X.N[i]?=some y) (hl:Loc X.env.scope y)
  (hi:PI X (.Name x px) iter wi) (he:∀ cl C s₀ H₀ fp pins,PE (e_ X sc cl C x ks s₀ H₀ fp pins) elt te) (ok:cO sc osc N x ks:=by decide +kernel) (hs:∀ x,foldedSetIterable iter X.env x=pure x:=by intro _;rfl)
  (hsw:swapsWith (.ListComp elt [⟨.Name x px,iter,[],0⟩] sc pos) (some (.Name y py)) spos.line X.env=pure true:=by rfl) (hf:X.fn y=true∨X.env.scope.names.lookup y=some .local:=by first | exact .inl rfl | exact .inr rfl | assumption) :
  PS X (.Assign [.Name y py] (.ListComp elt [⟨.Name x px,iter,[],0⟩] sc pos) spos) (Kb wi ks te i):=by
 intro pins s σ H Dn I hw
 obtain ⟨cl,hcl,h1,h2⟩:=jg (mE ok I ho)
 have ok':cO sc X.env.scope X.N x ks:=by rw [ho,hN];exact ok
 rw [exec_Assign_Name_used _ _ _ _ hsw]
 refine wpAny_bind (wpAny_standAt (wpAny_bind ?_))
 show wpAny _ X.A (do let _ ← comprehension (.ListComp elt [⟨.Name x px,iter,[],0⟩] sc pos) sc X.env _ (newList []) false (eval iter X.env) (some (assign (.Name y py) X.env))) _ _ s
 refine wpAny_bind (wpAny_mono (wpAny_comprehension_free (use:=some (assign (.Name y py) X.env)) (Q:=fun _ s'=>SP X pins Dn .next s') rfl hs hcl ok.1 ok.2.2.2.1
  (b7 (hi pins s σ H _ I hw) fun v s1 h3=>b7 h3 fun itv s2 h4=>?_)) (fun _ s' hq=>wpAny_pure (wpAny_pure hq)) fun _ _ e=>e)
 obtain ⟨it,fp,tn,J,H2,rfl,I2,T,st2,f2,hR⟩:=h4
 refine xj (Q:=fun v H1=>Dn.nx (σ.set i (some v)) H1) (RR:=fun acc C=>compPost (model X.prog X.w) X.A X.xe (some (assign (.Name y py) X.env)) (fun _ s'=>SP X pins Dn .next s') acc C) hc ok' h1 h2 he I2 T st2 f2 hR ?_
 intro D C s' H' m J' q hn hC cl' cs cc cp
 show wpAny _ X.A (assign (.Name y py) X.env (.ref D)) _ _ _
 refine wpAny_assign_Name (ot J' hnd hy hl (v:=.ref D) rfl (fun s'' J'' ⟨a,hsb,ha⟩=>?_) hf)
 refine ⟨m,hn.sameBut hsb (fun z=>?_),fun h' hsb'=>⟨_,H',?_,q⟩⟩
 ·rcases ha with e | e
  ·exact cl' (z.trans e)
  ·exact cc _ _ e z.symm
 ·exact J''.turned (t':=s''.toks) (it:=C) (fun b o ne e=>hsb'.extBut b o ne e) hC cl' (.inr cs) cc cp
end
theorem FK {K:PySem.W.Frag} {a D:Addr} {xs:List V} {H:Hp} {te:TE} {ks:List (Str × Nat)} {σ:L2.St} {q:Hp→Prop} (Pv:Nat→Hp→Prop) (h0:Pv 0 (upd H D (.lst []))) (hl:∀ i H,i≤xs.length→Pv i H→c7 K H a xs)
  (hs:∀ i x H (R:VK),xs[i]?=some x→Pv i H→(∀ y H4 ys,H4 D=some (.lst ys)→ys.length < sizeLine→Pv (i + 1) (upd H4 D (.lst (ys ++ [y])))→R y H4)→te (some x :: dk ks σ) H R) (hd:∀ H,Pv xs.length H→q H) :
  ∃ W:Nat→Nat→Hp→Prop,(∃ m,W 0 m (upd H D (.lst [])))∧∀ i m H2,W i m H2→((Fd K a).stop i H2∧q H2) ∨
   ((Fd K a).go i H2∧∀ v H3,(Fd K a).yld i H2 v H3→te (some v :: dk ks σ) H3 fun y H4=>∃ ys,H4 D=some (.lst ys)∧ys.length < sizeLine∧∃ m',m' < m∧W (i + 1) m' (upd H4 D (.lst (ys ++ [y])))):=by
 refine ⟨fun i m H=>m=xs.length - i∧i≤xs.length∧Pv i H,⟨xs.length,by simp,Nat.zero_le _,h0⟩,?_⟩
 rintro i m H2 ⟨rfl,hi,p⟩
 have hq:=hl i H2 hi p
 by_cases hlt:i < xs.length
 ·refine .inr ⟨⟨xs,xs[i],hq,by simp [hlt]⟩,fun v H3 y=>?_⟩
  obtain ⟨e,y⟩:=y
  subst e
  exact hs i v _ _ (y xs hq) p fun y H4 ys e1 e2 e3=>⟨ys,e1,e2,xs.length - (i + 1),by omega,rfl,hlt,e3⟩
 ·have e:i=xs.length:=by omega
  subst e
  exact .inl ⟨⟨xs,hq,Nat.le_refl _⟩,hd H2 p⟩
theorem Dr {lo:Int} {n:Nat} {D:Addr} {H:Hp} {te:TE} {ks:List (Str × Nat)} {σ:L2.St} {q:Hp→Prop} (Pv:Nat→Hp→Prop) (h0:Pv 0 (upd H D (.lst [])))
  (hs:∀ i H (R:VK),i < n→Pv i H→(∀ y H4 ys,H4 D=some (.lst ys)→ys.length < sizeLine→Pv (i + 1) (upd H4 D (.lst (ys ++ [y])))→R y H4)→te (some (.int (lo + i)) :: dk ks σ) H R) (hd:∀ H,Pv n H→q H) :
  ∃ W:Nat→Nat→Hp→Prop,(∃ m,W 0 m (upd H D (.lst [])))∧∀ i m H2,W i m H2→((Cs lo n).stop i H2∧q H2) ∨
   ((Cs lo n).go i H2∧∀ v H3,(Cs lo n).yld i H2 v H3→te (some v :: dk ks σ) H3 fun y H4=>∃ ys,H4 D=some (.lst ys)∧ys.length < sizeLine∧∃ m',m' < m∧W (i + 1) m' (upd H4 D (.lst (ys ++ [y])))):=by
 refine ⟨fun i m H=>m=n - i∧i≤n∧Pv i H,⟨n,by simp,Nat.zero_le _,h0⟩,?_⟩
 rintro i m H2 ⟨rfl,hi,p⟩
 by_cases hlt:i < n
 ·refine .inr ⟨hlt,fun v H3 y=>?_⟩
  obtain ⟨e,y⟩:=y
  subst e y
  exact hs i _ _ hlt p fun y H4 ys e1 e2 e3=>⟨ys,e1,e2,n - (i + 1),by omega,rfl,hlt,e3⟩
 ·have e:i=n:=by omega
  subst e
  exact .inl ⟨Nat.le_refl _,hd H2 p⟩
def one (c:Nat):Str:=⟨#[c]⟩
theorem sY:∀ (cs:List Nat) (acc:Array Nat),(cs.map one).foldl (fun acc (p:Str)=>acc ++ (Str.ofString "").cps ++ p.cps) acc=acc ++ cs.toArray
 | [],acc=>by simp
 | c :: cs,acc=>by
  have e:(Str.ofString "").cps=#[]:=by decide +kernel
  rw [List.map_cons,List.foldl_cons,sY cs]
  rw [e]
  show (acc ++ #[] ++ #[c]) ++ cs.toArray=_
  simp
theorem join_ones (cs:List Nat):Txt.join (Str.ofString "") (cs.map one)=⟨cs.toArray⟩:=by
 unfold Txt.join Builtin.Str.glued
 cases cs with
 | nil=>rfl
 | cons c cs =>
  simp only [List.map_cons,List.drop_succ_cons,List.drop_zero,List.headD_cons]
  rw [sY]
  show (⟨#[c] ++ cs.toArray⟩:Str)=_
  simp
theorem jG:∀ {ys:List Str} {us:List Value},Vals (ys.map V.str) us→StrsAre us ys
 | [],_,.nil=>.nil
 | y :: ys,_,.cons r rr=>by
  obtain ⟨t,rfl⟩:=r
  exact .cons y t (jG rr)
section
variable {X:Cx}
def rJoin (K:PySem.W.Frag):V→List V→Hp→VK→Prop:=fun x vs H Q=>∃ z p ys,x=.str z∧vs=[.ref p]∧c7 K H p (ys.map V.str)∧(ys.map (·.length)).sum + ys.length * z.length≤16777216∧Q (.str (Txt.join z ys)) H
theorem FT:pT X "str.join" (rJoin X.K):=by
 intro pins s σ H x vs v us Q I rx rv h
 obtain ⟨z,p,ys,rfl,rfl,hp,hz,q⟩:=h
 obtain ⟨t,rfl⟩:=rx
 obtain ⟨u,rfl,ru⟩:=vals1 rv
 cases ru
 obtain ⟨its,r,pl,_⟩:=I.list hp
 exact join_list pl.isList (by simpa using jG r) hz fun t' k=>⟨.str _,H,I.tok _,⟨_,rfl⟩,q⟩
end
def t9:Expr→Option V
 | .Constant (.int i) _ _=>some (.int i)
 | .Constant (.str x) _ _=>some (.str x)
 | .Constant (.bool b) _ _=>some (.bl b)
 | _=>none
theorem qD {X:Cx}:∀ {es:List Expr} (vs:List V),es.map t9=vs.map some→PA X es (fun _ H Q=>Q vs H)
 | [],[],_=>fun _ _ _ _ H Q I h=>Calls.spliced_nil ⟨[],H,I,.nil,h⟩
 | [],_ :: _,h=>by cases h
 | _ :: _,[],h=>by cases h
 | e :: es,v :: vs,h=>by
  rw [List.map_cons,List.map_cons] at h
  injection h with h1 h2
  have ih:=qD (X:=X) (es:=es) vs h2
  have hs:starEach (e :: es) X.env=(false,eval e X.env) :: starEach es X.env:=by
   cases e <;> first | rfl | cases h1
  have he:PE X e (tC v):=by
   cases e with
   | Constant c j pos =>
    cases c with
    | int i=>cases h1;exact aP
    | str x=>cases h1;exact nW
    | bool b=>cases h1;exact w6
    | _=>cases h1
   | _=>cases h1
  exact fun pos pins s σ H Q I hq=>aW he ih hs pos pins s σ H Q I hq
end Ov
namespace Ov
open PySem PySem.Spec PyProof.Rows
open L2 (V HO Hp Inv Cx St VK TE TT TA TS TG pX TI TO k9 Ends vS Loc Gl Rd RelV Vals fF xO cx pQ sG pT k8 R2 B7 tC ET M1 A2 tB EM My GV AU GW AX MY G0 EO zk xK H0 q_ MX zi GX qa Fx zS FA Fz GU vF J_ zY IP zZ Hd GY AZ AV Mt JZ AW GZ zj pG AY M0 upd E0 bX du)
structure QE (X:Cx) (e:Expr) (t:TE):Prop where
 run:L2.PE X e t
structure QT (X:Cx) (e:Expr) (t:TT):Prop where
 run:L2.PT X e t
structure QW (X:Cx) (e:Expr) (t:TT):Prop where
 run:L2.PW X e t
structure QA (X:Cx) (es:List Expr) (t:TA):Prop where
 run:L2.PA X es t
structure QS (X:Cx) (st:Stmt) (t:TS):Prop where
 run:L2.PS X st t
structure QB (X:Cx) (st:List Stmt) (t:TS):Prop where
 run:L2.sF X st t
structure QG (X:Cx) (e:Expr) (t:TG):Prop where
 run:L2.PG X e t
structure MO (X:Cx) (es:List Expr) (t:pX):Prop where
 run:L2.G9 X es t
structure QI (X:Cx) (tg e:Expr) (t:TI):Prop where
 run:L2.PI X tg e t
structure QO (X:Cx) (e:Option Expr) (t:TO):Prop where
 run:L2.PO X e t
section
variable {X:Cx} {a b c e o:Expr} {es rest:List Expr} {ta tb te tc to:TE} {tA tB':TT} {t:TA} {pos px p p2 apos cpos:Pos} {x:Str} {i j:Nat}
theorem pv (i:Nat) {x:Str} {pos:Pos} (hN:X.N[i]?=some x:=by rfl) (hv:vS X.env.scope x:=by first | exact Or.inl rfl | exact Or.inr (Or.inl rfl) | exact Or.inr (Or.inr rfl)) (hd:(x == ("__debug__":Str))=false:=by decide)
  (hcd:(x == ("__classdict__":Str))=false:=by decide):QE X (.Name x pos) (B7 i):=⟨L2.yR hN hv hd hcd⟩
theorem aP {i:Int} {j pos}:QE X (.Constant (.int i) j pos) (tC (.int i)):=⟨L2.aP⟩
theorem w6 {b:Bool} {j pos}:QE X (.Constant (.bool b) j pos) (tC (.bl b)):=⟨L2.w6⟩
theorem yO {j pos}:QE X (.Constant .none j pos) (tC .non):=⟨L2.yO⟩
theorem nW {x:Str} {j pos}:QE X (.Constant (.str x) j pos) (tC (.str x)):=⟨L2.nW⟩
theorem o8 {v:V} {u:Value} (hg:Gl X x) (hm:X.mg x=some u) (r:RelV v u) (hd:(x == ("__debug__":Str))=false:=by decide):QE X (.Name x pos) (tC v):=⟨L2.o8 hg hm r hd⟩
theorem uG {v:V} {u:Value} (hg:Gl X x) (hm:X.mg x=none) (hv:bootBuiltins x=some u) (r:RelV v u) (hn:x≠"__name__":=by decide) (hd:(x == ("__debug__":Str))=false:=by decide):QE X (.Name x pos) (tC v):=⟨L2.uG hg hm hv r hn hd⟩
theorem bB {op:Operator} {r:R2} (ho:fF X (binaryOp op) r) (ha:QE X a ta) (hb:QE X b tb):QE X (.BinOp a op b pos) (ET r ta tb):=⟨L2.bB ho ha.run hb.run⟩
theorem Ak {op:UnaryOp} {r:V→Hp→VK→Prop} (ho:xO X (unaryOp op) r) (ha:QE X a ta):QE X (.UnaryOp op a pos) (M1 r ta):=⟨L2.Ak ho ha.run⟩
theorem o7 {op:CmpOp} {r:R2} (ho:fF X (compareOp op) r) (ha:QE X a ta) (hb:QE X b tb) (hm:behindInMarks op b=false):QE X (.Compare a [op] [b] pos) (ET r ta tb):=⟨L2.o7 ho ha.run hb.run hm⟩
theorem dA {op:CmpOp} {r:R2} (ho:fF X (compareOp op) r) (ha:QE X a ta) (hb:QE X b tb) (hm:behindInMarks op b=false):QT X (.Compare a [op] [b] pos) (A2 (ET r ta tb)):=⟨L2.dA ho ha.run hb.run hm⟩
theorem yQ {op} (h:QE X a ta):QE X (.BoolOp op [a] pos) ta:=⟨L2.yQ h.run⟩
theorem yN (ha:QE X a ta) (hb:QE X (.BoolOp .And (b :: rest) pos) tb):QE X (.BoolOp .And (a :: b :: rest) pos) (AU ta tb):=⟨L2.yN ha.run hb.run⟩
theorem D1 (ha:QE X a ta) (hb:QE X (.BoolOp .Or (b :: rest) pos) tb):QE X (.BoolOp .Or (a :: b :: rest) pos) (GW ta tb):=⟨L2.D1 ha.run hb.run⟩
theorem yP (ha:QE X a ta):QE X (.UnaryOp .Not a pos) (AX ta):=⟨L2.yP ha.run⟩
theorem yW (ha:QT X a tA):QT X (.UnaryOp .Not a pos) (GV tA):=⟨L2.yW ha.run⟩
theorem o_ (ha:QT X a tA):QW X (.BoolOp .And [a] pos) tA:=⟨L2.o_ ha.run⟩
theorem uR (ha:QT X a tA):QW X (.BoolOp .Or [a] pos) tA:=⟨L2.uR ha.run⟩
theorem uQ (ha:QT X a tA) (hb:QW X (.BoolOp .And (b :: rest) pos) tB'):QW X (.BoolOp .And (a :: b :: rest) pos) (EM tA tB'):=⟨L2.uQ ha.run hb.run⟩
theorem Ap (ha:QT X a tA) (hb:QW X (.BoolOp .Or (b :: rest) pos) tB'):QW X (.BoolOp .Or (a :: b :: rest) pos) (My tA tB'):=⟨L2.Ap ha.run hb.run⟩
theorem HD (h:QW X e tA):QT X e tA:=⟨h.run.pt⟩
theorem yX (h:QE X e te) (he:∀ whole,isTrue e X.env whole=(do let v ← whole;standAt e.pos;holding [v] (truthy v)):=by intro _;rfl):QT X e (tB te):=⟨L2.yX h.run he⟩
theorem qF (hc:QT X c tA) (ha:QE X a ta) (hb:QE X b tb):QE X (.IfExp c a b pos) (MY tA ta tb):=⟨L2.qF hc.run ha.run hb.run⟩
theorem bK:QA X [] zk:=⟨L2.bK⟩
theorem aW (ha:QE X e te) (hr:QA X es t) (hs:starEach (e :: es) X.env=(false,eval e X.env) :: starEach es X.env:=by rfl):QA X (e :: es) (xK te t):=⟨L2.aW ha.run hr.run hs⟩
theorem DV {es:List Expr} (vs:List V) (h:es.map t9=vs.map some):QA X es (fun _ H Q=>Q vs H):=⟨qD vs h⟩
theorem qG {x1} (h:QA X es t):QE X (.Tuple es x1 pos) (G0 t):=⟨L2.qG h.run⟩
theorem j_ (h:QA X es t):QE X (.List es pos) (EO t):=⟨L2.j_ h.run⟩
theorem cj {r:R2} (hr:pQ X r) (ha:QE X a ta) (hb:QE X b tb) (hs:du b):QE X (.Subscript a b pos) (ET r ta tb):=⟨L2.cj hr ha.run hb.run hs⟩
theorem o9:QO X none pG:=⟨L2.o9⟩
theorem kM (h:QE X e te):QO X (some e) (AY te):=⟨L2.kM h.run⟩
theorem ka {lo hi:Option Expr} {tl th:TO} {r:V→Option Int→Option Int→Hp→VK→Prop} (hr:sG X r) (he:QE X e te) (hl:QO X lo tl) (hu:QO X hi th):QE X (.Subscript e (.Slice lo hi none p2) pos) (M0 r te tl th):=⟨L2.ka hr he.run hl.run hu.run⟩
theorem dU {id:String} {r:List V→Hp→VK→Prop} (hc:cx X (.builtin id) r) (hg:Gl X x) (hm:X.mg x=none) (hv:bootBuiltins x=some (.builtin id)) (ha:QA X (e :: es) t) (hn:x≠"__name__":=by decide) (hdb:(x == ("__debug__":Str))=false:=by decide)
  (he:starEach (e :: es) X.env=(false,eval e X.env) :: starEach es X.env:=by rfl) (hpl:(backTo pos (starEach es X.env)).any (·.1)=false:=by rfl):QE X (.Call (.Name x p) (e :: es) [] pos) (H0 r t):=⟨L2.dU hc hg hm hv ha.run hn hdb he hpl⟩
theorem nV {T:String} {r:List V→Hp→VK→Prop} (hc:cx X (.type T) r) (hg:Gl X x) (hm:X.mg x=none) (hv:bootBuiltins x=some (.type T)) (ha:QA X (e :: es) t) (hn:x≠"__name__":=by decide) (hdb:(x == ("__debug__":Str))=false:=by decide)
  (he:starEach (e :: es) X.env=(false,eval e X.env) :: starEach es X.env:=by rfl) (hpl:(backTo pos (starEach es X.env)).any (·.1)=false:=by rfl):QE X (.Call (.Name x p) (e :: es) [] pos) (H0 r t):=⟨L2.nV hc hg hm hv ha.run hn hdb he hpl⟩
theorem w8 {k k':Nat} {ps:List Str} {sp:L2.Sp} (C:rd X.prog X.w X.K X.mg X.base k x ps sp) (hr:bX k' X.A) (hk:k≤k') (hg:Gl X x) (ha:QA X (e :: es) t)
  (hdb:(x == ("__debug__":Str))=false:=by decide) (he:starEach (e :: es) X.env=(false,eval e X.env) :: starEach es X.env:=by rfl) (hpl:(backTo pos (starEach es X.env)).any (·.1)=false:=by rfl) :
  QE X (.Call (.Name x p) (e :: es) [] pos) (q_ sp [] E0 t):=⟨Jw C hr hk hg ha.run hdb he hpl⟩
theorem qE {name:Str} {T id:String} {r:V→List V→Hp→VK→Prop} (pa:PlainAttrs T) (slot:Slot T name id) (hty:typeOf (.builtin id)=pure (.type "method_descriptor")) (hm:pT X id r) (ho:QE X o to) (ha:QA X (e :: es) t)
  (hbase:attributeBase o name X.env (eval o X.env)=eval o X.env:=by rfl)
  (hfew:((backTo cpos (starEach (e :: es) X.env)).all (fun x=>!x.1) && (backToKw cpos (keywordEach [] X.env)).all (fun x=>x.1.isSome)
   && decide ((e :: es).length + ([]:List Keyword).length + (if ([]:List Keyword).isEmpty then 0 else 1) < 30))=true:=by rfl)
  (hline:(apos.endLine == cpos.line)=true:=by rfl) (hs:starEach (e :: es) X.env=(false,eval e X.env) :: starEach es X.env:=by rfl) (hplain:(backTo cpos (starEach es X.env)).any (·.1)=false:=by rfl) :
  QE X (.Call (.Attribute o name apos) (e :: es) [] cpos) (MX X.K T r to t):=⟨L2.qE pa slot hty hm ho.run ha.run hbase hfew hline hs hplain⟩
end
section
variable {X:Cx} {st:Stmt} {rest:List Stmt} {t u:TS} {e tg:Expr} {es:List Expr} {te:TE} {pos:Pos} {g:TG}
theorem fR:QB X [] AW:=⟨L2.fR⟩
theorem aZ (h1:QS X st t) (h2:QB X rest u):QB X (st :: rest) (GZ t u):=⟨L2.aZ h1.run h2.run⟩
theorem bL (h1:QS X st t):QB X [st] t:=⟨L2.bL h1.run⟩
theorem w_ (h1:QS X st t) (h2:QB X rest u):QB X (st :: rest) (Mu t u):=⟨Gn h1.run h2.run⟩
theorem nZ {sts:List Stmt}:QB X sts zj:=⟨L2.nZ⟩
theorem kO (he:QE X e te) (hs:swapsWith e none pos.line X.env=pure false:=by rfl):QS X (.Expr e pos) (AV te):=⟨L2.kO he.run hs⟩
theorem dN (he:QE X e te):QS X (.Return (some e) pos) (GY te):=⟨L2.dN he.run⟩
theorem uM:QS X (.Return none pos) AZ:=⟨L2.uM⟩
theorem mG {c:Expr} {a b:List Stmt} {tc:TT} (hc:QT X c tc) (ha:QB X a t) (hb:QB X b u):QS X (.If c a b pos) (GU tc t u):=⟨L2.mG hc.run ha.run hb.run⟩
theorem kb {c:Expr} {body:List Stmt} {tc:TT} {tb:TS} (hp:PassesOwn (model X.prog X.w) X.A X.env X.xe) (hc:QT X c tc) (hb:QB X body tb):QS X (.While c body [] pos) (vF tc tb):=⟨L2.kb hp hc.run hb.run⟩
theorem kL {i:Nat} {x:Str} (hN:X.N.Nodup) (hi:X.N[i]?=some x) (hx:Loc X.env.scope x) (hf:X.fn x=true∨X.env.scope.names.lookup x=some .local:=by first | exact .inl rfl | exact .inr rfl | assumption):QG X (.Name x pos) (qa i):=⟨L2.kL hN hi hx hf⟩
theorem uI:MO X [] Fx:=⟨L2.uI⟩
theorem qH {e:Expr} {es:List Expr} {t:TG} {u:pX} (h1:QG X e t) (h2:MO X es u)
  (hs:(assignEach (e :: es) X.env).map (·.2)=assign e X.env :: (assignEach es X.env).map (·.2):=by rfl):MO X (e :: es) (zS t u):=⟨L2.qH h1.run h2.run hs⟩
theorem yS {k:Nat} {t:pX} {n:Nat} (hc:X.calm=true) (h:MO X es t)
  (hn:(assignEach es X.env).length=n:=by rfl) (hst:(assignEach es X.env).findIdx? (·.1)=none:=by rfl):QG X (.Tuple es k pos) (FA X.K n t):=⟨L2.yS hc h.run hn hst⟩
theorem uH {o i:Expr} {to ti:TE} {t:k9} (ho:QE X o to) (hi:QE X i ti) (hs:k8 X t)
  (ha:∀ v,assign (.Subscript o i pos) X.env v=(do
   let ov ← holding [v] (eval o X.env)
   let iv ← holding [v,ov] (eval i X.env)
   standAt pos
   holding [v,ov,iv] (setItem ov iv v)
   release [v,ov,iv] []):=by intro _;rfl):QG X (.Subscript o i pos) (Fz to ti t):=⟨L2.uH ho.run hi.run hs ha⟩
theorem uL {tg e:Expr} (he:QE X e te) (hg:QG X tg g) (hs:swapsWithSole [tg] e pos.line X.env=pure false:=by rfl) (hw:swappedStores [tg] e X.env=pure none:=by rfl)
  (h1:(assignEach [tg] X.env).map (·.2)=[assign tg X.env]:=by rfl):QS X (.Assign [tg] e pos) (zi te g):=⟨L2.uL he.run hg.run hs hw h1⟩
theorem cV {i:Nat} {x:Str} {pos':Pos} (hN:X.N.Nodup) (hi:X.N[i]?=some x) (hx:Loc X.env.scope x) (he:QE X e te) (hs:swapsWith e (some (.Name x pos')) pos.line X.env=pure false:=by rfl) (hf:X.fn x=true∨X.env.scope.names.lookup x=some .local:=by first | exact .inl rfl | exact .inr rfl | assumption) :
  QS X (.Assign [.Name x pos'] e pos) (zi te (qa i)):=⟨L2.cV hN hi hx he.run hs hf⟩
theorem nY {i j:Nat} {x y:Str} {a b:Expr} {ta:TA} {px py pt:Pos} {kt k2 pt2} (hc:X.calm=true) (hN:X.N.Nodup) (hi:X.N[i]?=some x) (hj:X.N[j]?=some y) (hij:i≠j)
  (hx:X.env.scope.names.lookup x=some .local) (hy:X.env.scope.names.lookup y=some .local) (ha:QA X [a,b] ta)
  (hw:swappedStores [.Tuple [.Name x px,.Name y py] kt pt] (.Tuple [a,b] k2 pt2) X.env=pure (some [x,y]))
  (hs:swapsWithSole [.Tuple [.Name x px,.Name y py] kt pt] (.Tuple [a,b] k2 pt2) pos.line X.env=pure false:=by rfl) :
  QS X (.Assign [.Tuple [.Name x px,.Name y py] kt pt] (.Tuple [a,b] k2 pt2) pos) (GX i j ta):=⟨L2.nY hc hN hi hj hij hx hy ha.run hw hs⟩
theorem mF {l:Expr} {tl:TE} (hl:QE X l tl):QI X tg l (zY X.K tl):=⟨L2.mF hl.run⟩
theorem yT {l:Expr} {tl:TE} (hl:QE X l tl):QI X tg l (IP X.K tl):=⟨L2.yT hl.run⟩
theorem gd {a:Expr} {ta:TA} {p pos:Pos} (hg:Gl X "range") (hm:X.mg "range"=none) (ha:QA X [a] ta) (hs:starEach [a] X.env=[(false,eval a X.env)]:=by rfl):QI X tg (.Call (.Name "range" p) [a] [] pos) (zZ ta):=⟨L2.gd hg hm ha.run hs⟩
theorem nX {iter:Expr} {body:List Stmt} {wi:TI} {g:TG} {tb:TS} {pos:Pos} (hp:PassesOwn (model X.prog X.w) X.A X.env X.xe) (hc:X.calm=true) (hi:QI X tg iter wi) (hg:QG X tg g) (hb:QB X body tb)
  (hs:∀ x,foldedSetIterable iter X.env x=pure x:=by intro _;rfl):QS X (.For tg iter body [] pos) (J_ wi g tb):=⟨L2.nX hp hc hi.run hg.run hb.run hs⟩
theorem Ga {elt iter:Expr} {x:Str} {px:Pos} {sc:Scope} {pos:Pos} {wi:TI} (osc:Scope) (N:List Str) (ks:List (Str × Nat)) (hc:X.calm=true) (ho:X.env.scope=osc) (hN:X.N=N) (hi:QI X (.Name x px) iter wi)
  (he:∀ cl C s₀ H₀ fp pins,QE (e_ X sc cl C x ks s₀ H₀ fp pins) elt te) (ok:cO sc osc N x ks:=by decide +kernel) (hs:∀ x,foldedSetIterable iter X.env x=pure x:=by intro _;rfl) :
  QE X (.ListComp elt [⟨.Name x px,iter,[],0⟩] sc pos) (MZ wi ks te):=⟨Hz osc N ks hc ho hN hi.run (fun cl C s₀ H₀ fp pins=>(he cl C s₀ H₀ fp pins).run) ok hs⟩
theorem Gm {elt iter:Expr} {x y:Str} {px py:Pos} {sc:Scope} {pos spos:Pos} {wi:TI} {i:Nat} (osc:Scope) (N:List Str) (ks:List (Str × Nat)) (hc:X.calm=true) (ho:X.env.scope=osc) (hN:X.N=N) (hnd:X.N.Nodup) (hy:X.N[i]?=some y) (hl:Loc X.env.scope y)
  (hi:QI X (.Name x px) iter wi) (he:∀ cl C s₀ H₀ fp pins,QE (e_ X sc cl C x ks s₀ H₀ fp pins) elt te) (ok:cO sc osc N x ks:=by decide +kernel) (hs:∀ x,foldedSetIterable iter X.env x=pure x:=by intro _;rfl)
  (hsw:swapsWith (.ListComp elt [⟨.Name x px,iter,[],0⟩] sc pos) (some (.Name y py)) spos.line X.env=pure true:=by rfl) (hf:X.fn y=true∨X.env.scope.names.lookup y=some .local:=by first | exact .inl rfl | exact .inr rfl | assumption) :
  QS X (.Assign [.Name y py] (.ListComp elt [⟨.Name x px,iter,[],0⟩] sc pos) spos) (Kb wi ks te i):=⟨HA osc N ks hc ho hN hnd hy hl hi.run (fun cl C s₀ H₀ fp pins=>(he cl C s₀ H₀ fp pins).run) ok hs hsw hf⟩
end
end Ov
namespace Ov
open PySem PySem.Spec PyProof.Rows
open L2 (V HO Hp Inv Cx VK TE TA Vals RelV fF cx c7 R2 upd EP vals1 intsAre_of Gl)
section
variable {X:Cx}
end
end Ov
namespace Ov
open PySem PySem.Spec PyProof.Rows
open L2 (V HO Hp Inv Cx VK TE TA Vals RelV fF cx c7 gM R2 upd bG)
inductive Py where
 | non | bl (b:Bool) | int (i:Int) | str (x:Str) | tup (xs:List Py) | lst (xs:List Py)
mutual
def At (K:PySem.W.Frag) (H:Hp):Py→V→Prop
 | .non,v=>v=.non
 | .bl b,v=>v=.bl b
 | .int i,v=>v=.int i
 | .str x,v=>v=.str x
 | .tup xs,v=>∃ a vs,v=.ref a∧gM K H a vs∧rg K H xs vs
 | .lst xs,v=>∃ a vs,v=.ref a∧c7 K H a vs∧rg K H xs vs
def rg (K:PySem.W.Frag) (H:Hp):List Py→List V→Prop
 | [],vs=>vs=[]
 | x :: xs,vs=>∃ v us,vs=v :: us∧At K H x v∧rg K H xs us
end
mutual
def kH:Py→Py→Bool
 | .non,.non=>true
 | .bl a,.bl b=>a == b
 | .int a,.int b=>a == b
 | .bl a,.int b=>(if a then 1 else 0) == b
 | .int a,.bl b=>a == (if b then 1 else 0)
 | .str a,.str b=>a == b
 | .tup xs,.tup ys=>jW xs ys
 | .lst xs,.lst ys=>jW xs ys
 | _,_=>false
def jW:List Py→List Py→Bool
 | [],[]=>true
 | x :: xs,y :: ys=>kH x y && jW xs ys
 | _,_=>false
end
mutual
def dep:Py→Nat
 | .tup xs=>dR xs + 1
 | .lst xs=>dR xs + 1
 | _=>0
def dR:List Py→Nat
 | []=>0
 | x :: xs=>max (dep x) (dR xs)
end
mutual
theorem wd:∀ x:Py,kH x x=true
 | .non=>rfl
 | .bl b=>by simp [kH]
 | .int b=>by simp [kH]
 | .str b=>by simp [kH]
 | .tup xs=>by simpa [kH] using nE xs
 | .lst xs=>by simpa [kH] using nE xs
theorem nE:∀ xs:List Py,jW xs xs=true
 | []=>rfl
 | x :: xs=>by simp [jW,wd x,nE xs]
end
mutual
theorem At.same {K:PySem.W.Frag} {H H':Hp} (e:bG H H'):∀ {x:Py} {v:V},At K H x v→At K H' x v
 | .non,_,h=>h
 | .bl _,_,h=>h
 | .int _,_,h=>h
 | .str _,_,h=>h
 | .tup xs,_,⟨a,vs,e1,h,k⟩=>⟨a,vs,e1,e.tup h,rg.same e k⟩
 | .lst xs,_,⟨a,vs,e1,h,k⟩=>⟨a,vs,e1,e.seq h,rg.same e k⟩
theorem rg.same {K:PySem.W.Frag} {H H':Hp} (e:bG H H'):∀ {xs:List Py} {vs:List V},rg K H xs vs→rg K H' xs vs
 | [],_,h=>h
 | _ :: _,_,⟨v,us,e1,h,k⟩=>⟨v,us,e1,At.same e h,rg.same e k⟩
end
theorem rg.length {K:PySem.W.Frag} {H:Hp}:∀ {xs:List Py} {vs:List V},rg K H xs vs→xs.length=vs.length
 | [],_,h=>by cases h;rfl
 | _ :: xs,_,⟨v,us,e1,_,k⟩=>by subst e1;simp [rg.length k]
def Bk (xs ys:List Py) (j:Nat):Bool:=match xs[j]?,ys[j]? with
 | some x,some y=>kH x y
 | _,_=>false
theorem jc:∀ (xs ys:List Py),((List.range (min xs.length ys.length)).all (Bk xs ys) && (xs.length == ys.length))=jW xs ys
 | [],[]=>rfl
 | [],_ :: _=>by simp [jW]
 | _ :: _,[]=>by simp [jW]
 | x :: xs,y :: ys=>by
  have ih:=jc xs ys
  rw [List.length_cons,List.length_cons,Nat.succ_min_succ,List.range_succ_eq_map,List.all_cons,List.all_map]
  have e1:(Bk (x :: xs) (y :: ys) ∘ Nat.succ)=Bk xs ys:=by
   funext j
   simp [Bk]
  have e2:(xs.length + 1 == ys.length + 1)=(xs.length == ys.length):=by
   rw [Bool.eq_iff_iff]
   simp
  rw [e1,e2,Bool.and_assoc,ih]
  simp [Bk,jW]
section
variable {X:Cx} {pins:List (Addr × Obj)} {σ:L2.St} {H:Hp} {s:Shared}
mutual
theorem At.one (I:Inv X pins σ H s):∀ {x y:Py} {v:V},At X.K H x v→At X.K H y v→kH x y=true
 | .non,y,v,h,k=>by cases h;cases y <;> simp_all [At,kH]
 | .bl b,y,v,h,k=>by cases h;cases y <;> simp_all [At,kH]
 | .int b,y,v,h,k=>by cases h;cases y <;> simp_all [At,kH]
 | .str b,y,v,h,k=>by cases h;cases y <;> simp_all [At,kH]
 | .tup xs,y,v,h,k=>by
  obtain ⟨a,vs,rfl,h1,h2⟩:=h
  cases y with
  | tup ys =>
   obtain ⟨b,us,e,k1,k2⟩:=k
   cases e
   cases I.tI h1 k1
   simpa [kH] using rg.one I h2 k2
  | lst ys =>
   obtain ⟨b,us,e,k1,k2⟩:=k
   cases e
   obtain ⟨_,_,⟨o,e1,c1,_⟩,_⟩:=I.tuple h1
   obtain ⟨_,_,⟨o',n,e2,c2,_⟩,_⟩:=I.list k1
   rw [e1] at e2;cases e2;exact absurd (Value.type.inj (c1.symm.trans c2)) (by decide)
  | _=>cases k
 | .lst xs,y,v,h,k=>by
  obtain ⟨a,vs,rfl,h1,h2⟩:=h
  cases y with
  | lst ys =>
   obtain ⟨b,us,e,k1,k2⟩:=k
   cases e
   cases I.j1 h1 k1
   simpa [kH] using rg.one I h2 k2
  | tup ys =>
   obtain ⟨b,us,e,k1,k2⟩:=k
   cases e
   obtain ⟨_,_,⟨o,e1,c1,_⟩,_⟩:=I.tuple k1
   obtain ⟨_,_,⟨o',n,e2,c2,_⟩,_⟩:=I.list h1
   rw [e1] at e2;cases e2;exact absurd (Value.type.inj (c1.symm.trans c2)) (by decide)
  | _=>cases k
theorem rg.one (I:Inv X pins σ H s):∀ {xs ys:List Py} {vs:List V},rg X.K H xs vs→rg X.K H ys vs→jW xs ys=true
 | [],ys,vs,h,k=>by
  cases h
  cases ys with
  | nil=>rfl
  | cons y ys=>obtain ⟨_,_,e,_⟩:=k;cases e
 | x :: xs,ys,vs,h,k=>by
  obtain ⟨v,us,rfl,h1,h2⟩:=h
  cases ys with
  | nil=>cases k
  | cons y ys =>
   obtain ⟨v',us',e,k1,k2⟩:=k
   cases e
   simp [jW,At.one I h1 k1,rg.one I h2 k2]
end
mutual
theorem Nj (I:Inv X pins σ H s):∀ (x y:Py) {v v':V} {u u':Value} {A:Around},At X.K H x v→At X.K H y v'→RelV v u→RelV v' u'→A.units + dep x < cLine→SeqAt.EqAt A s u u' (kH x y)
 | .non,y,v,v',u,u',A,h,k,r,r',hu=>by
  cases h;cases r
  cases y with
  | non=>cases k;cases r';exact SeqAt.EqAt.same _
  | bl b=>cases k;cases r';exact SeqAt.EqAt.none_bool _
  | int b=>cases k;obtain ⟨t,rfl⟩:=r';exact SeqAt.EqAt.none_int _ _
  | str b=>cases k;obtain ⟨t,rfl⟩:=r';exact SeqAt.EqAt.none_str _ _
  | tup ys=>obtain ⟨a,vs,rfl,h1,h2⟩:=k;cases r';obtain ⟨_,_,p,_⟩:=I.tuple h1;exact SeqAt.EqAt.none_tuple p (by simpa [dep] using hu)
  | lst ys=>obtain ⟨a,vs,rfl,h1,h2⟩:=k;cases r';obtain ⟨_,_,p,_⟩:=I.list h1;exact SeqAt.EqAt.none_list p.isList (by simpa [dep] using hu)
 | .bl x,y,v,v',u,u',A,h,k,r,r',hu=>by
  cases h;cases r
  cases y with
  | non=>cases k;cases r';exact SeqAt.EqAt.bool_none _
  | bl b=>cases k;cases r';exact SeqAt.EqAt.bool_bool _ _
  | int b=>cases k;obtain ⟨t,rfl⟩:=r';exact SeqAt.EqAt.bool_int _ _ _
  | str b=>cases k;obtain ⟨t,rfl⟩:=r';exact SeqAt.EqAt.bool_str _ _ _
  | tup ys=>obtain ⟨a,vs,rfl,h1,h2⟩:=k;cases r';obtain ⟨_,_,p,_⟩:=I.tuple h1;exact SeqAt.EqAt.bool_tuple _ p (by simpa [dep] using hu)
  | lst ys=>obtain ⟨a,vs,rfl,h1,h2⟩:=k;cases r';obtain ⟨_,_,p,_⟩:=I.list h1;exact SeqAt.EqAt.bool_list _ p.isList (by simpa [dep] using hu)
 | .int x,y,v,v',u,u',A,h,k,r,r',hu=>by
  cases h;obtain ⟨t0,rfl⟩:=r
  cases y with
  | non=>cases k;cases r';exact SeqAt.EqAt.int_none _ _
  | bl b=>cases k;cases r';exact SeqAt.EqAt.int_bool _ _ _
  | int b=>cases k;obtain ⟨t,rfl⟩:=r';exact SeqAt.EqAt.int_int _ _ _ _
  | str b=>cases k;obtain ⟨t,rfl⟩:=r';exact SeqAt.EqAt.int_str _ _ _ _
  | tup ys=>obtain ⟨a,vs,rfl,h1,h2⟩:=k;cases r';obtain ⟨_,_,p,_⟩:=I.tuple h1;exact SeqAt.EqAt.int_tuple _ _ p (by simpa [dep] using hu)
  | lst ys=>obtain ⟨a,vs,rfl,h1,h2⟩:=k;cases r';obtain ⟨_,_,p,_⟩:=I.list h1;exact SeqAt.EqAt.int_list _ _ p.isList (by simpa [dep] using hu)
 | .str x,y,v,v',u,u',A,h,k,r,r',hu=>by
  cases h;obtain ⟨t0,rfl⟩:=r
  cases y with
  | non=>cases k;cases r';exact SeqAt.EqAt.str_none _ _
  | bl b=>cases k;cases r';exact SeqAt.EqAt.str_bool _ _ _
  | int b=>cases k;obtain ⟨t,rfl⟩:=r';exact SeqAt.EqAt.str_int _ _ _ _
  | str b=>cases k;obtain ⟨t,rfl⟩:=r';exact SeqAt.EqAt.str_str _ _ _ _
  | tup ys=>obtain ⟨a,vs,rfl,h1,h2⟩:=k;cases r';obtain ⟨_,_,p,_⟩:=I.tuple h1;exact SeqAt.EqAt.str_tuple _ _ p (by simpa [dep] using hu)
  | lst ys=>obtain ⟨a,vs,rfl,h1,h2⟩:=k;cases r';obtain ⟨_,_,p,_⟩:=I.list h1;exact SeqAt.EqAt.str_list _ _ p.isList (by simpa [dep] using hu)
 | .tup xs,y,v,v',u,u',A,h,k,r,r',hu=>by
  have h0:=h
  obtain ⟨a,vs,rfl,h1,h2⟩:=h
  cases r
  obtain ⟨is,r1,p1,_⟩:=I.tuple h1
  have hu0:A.units < cLine:=by omega
  have hu1:A.in1.units + dR xs < cLine:=by
   have e:dep (.tup xs)=dR xs + 1:=by rw [dep]
   rw [e] at hu
   show A.units + 1 + dR xs < cLine
   omega
  cases y with
  | non=>cases k;cases r';exact SeqAt.EqAt.tuple_none p1 hu0
  | bl b=>cases k;cases r';exact SeqAt.EqAt.tuple_bool _ p1 hu0
  | int b=>cases k;obtain ⟨t,rfl⟩:=r';exact SeqAt.EqAt.tuple_int _ _ p1 hu0
  | str b=>cases k;obtain ⟨t,rfl⟩:=r';exact SeqAt.EqAt.tuple_str _ _ p1 hu0
  | lst ys=>obtain ⟨b,us,rfl,k1,k2⟩:=k;cases r';obtain ⟨_,_,p,_⟩:=I.list k1;exact SeqAt.EqAt.tuple_list p1 p.isList hu0
  | tup ys =>
   have k0:=k
   obtain ⟨b,us,rfl,k1,k2⟩:=k
   cases r'
   by_cases hab:a=b
   ·subst hab
    rw [At.one I h0 k0]
    exact SeqAt.EqAt.same _
   ·obtain ⟨js,r2,p2,_⟩:=I.tuple k1
    refine SeqAt.EqAt.of_refs hab ?_
    have key:=SeqAt.RcAt.tuples (e:=Bk xs ys) p1 p2 hu0 fun j q1 q2=>p9 I xs ys h2 k2 r1 r2 hu1 j (by simpa using q1) (by simpa using q2)
    have e1:is.length=xs.length:=by rw [← r1.length,h2.length]
    have e2:js.length=ys.length:=by rw [← r2.length,k2.length]
    simp only [List.size_toArray] at key
    rw [e1,e2,jc] at key
    simpa [kH] using key
 | .lst xs,y,v,v',u,u',A,h,k,r,r',hu=>by
  have h0:=h
  obtain ⟨a,vs,rfl,h1,h2⟩:=h
  cases r
  obtain ⟨is,r1,p1,_⟩:=I.list h1
  have hu0:A.units < cLine:=by omega
  have hu1:A.in1.units + dR xs < cLine:=by
   have e:dep (.lst xs)=dR xs + 1:=by rw [dep]
   rw [e] at hu
   show A.units + 1 + dR xs < cLine
   omega
  cases y with
  | non=>cases k;cases r';exact SeqAt.EqAt.list_none p1.isList hu0
  | bl b=>cases k;cases r';exact SeqAt.EqAt.list_bool _ p1.isList hu0
  | int b=>cases k;obtain ⟨t,rfl⟩:=r';exact SeqAt.EqAt.list_int _ _ p1.isList hu0
  | str b=>cases k;obtain ⟨t,rfl⟩:=r';exact SeqAt.EqAt.list_str _ _ p1.isList hu0
  | tup ys=>obtain ⟨b,us,rfl,k1,k2⟩:=k;cases r';obtain ⟨_,_,p,_⟩:=I.tuple k1;exact SeqAt.EqAt.list_tuple p1.isList p hu0
  | lst ys =>
   have k0:=k
   obtain ⟨b,us,rfl,k1,k2⟩:=k
   cases r'
   by_cases hab:a=b
   ·subst hab
    rw [At.one I h0 k0]
    exact SeqAt.EqAt.same _
   ·obtain ⟨js,r2,p2,_⟩:=I.list k1
    refine SeqAt.EqAt.of_refs hab ?_
    have e1:is.length=xs.length:=by rw [← r1.length,h2.length]
    have e2:js.length=ys.length:=by rw [← r2.length,k2.length]
    have ae:=jc xs ys
    by_cases hl:xs.length=ys.length
    ·have key:=SeqAt.RcAt.lists (e:=Bk xs ys) p1.isList p2.isList (by simp only [List.size_toArray];omega) hu0 fun j q1 q2=>p9 I xs ys h2 k2 r1 r2 hu1 j (by simpa using q1) (by simpa using q2)
     simp only [List.size_toArray] at key
     rw [hl,Nat.min_self] at ae
     have e3:(ys.length == ys.length)=true:=by simp
     rw [e3,Bool.and_true] at ae
     rw [e1,hl,ae] at key
     simpa [kH] using key
    ·have key:=SeqAt.RcAt.lists_lengths p1.isList p2.isList (A:=A) (by simp only [List.size_toArray];rw [e1,e2];simpa using hl) hu0
     have e3:jW xs ys=false:=by
      rw [← ae]
      have:(xs.length == ys.length)=false:=by simpa using hl
      rw [this,Bool.and_false]
     simpa [kH,e3] using key
theorem p9 (I:Inv X pins σ H s):∀ (xs ys:List Py) {vs us:List V} {is js:List Value} {A:Around},rg X.K H xs vs→rg X.K H ys us→Vals vs is→Vals us js→A.units + dR xs < cLine→∀ j (h1:j < is.length) (h2:j < js.length),SeqAt.EqAt A s is[j] js[j] (Bk xs ys j)
 | [],ys,vs,us,is,js,A,h,k,r,r',hu,j,h1,h2=>by
  cases h;cases r;exact absurd h1 (Nat.not_lt_zero _)
 | x :: xs,[],vs,us,is,js,A,h,k,r,r',hu,j,h1,h2=>by
  cases k;cases r';exact absurd h2 (Nat.not_lt_zero _)
 | x :: xs,y :: ys,vs,us,is,js,A,h,k,r,r',hu,j,h1,h2=>by
  obtain ⟨v,vs',rfl,a1,a2⟩:=h
  obtain ⟨v',us',rfl,b1,b2⟩:=k
  cases r with
  | cons q1 q2 =>
   cases r' with
   | cons z1 z2 =>
    have e:dR (x :: xs)=max (dep x) (dR xs):=by rw [dR]
    rw [e] at hu
    cases j with
    | zero=>exact Nj I x y a1 b1 q1 z1 (by omega)
    | succ j =>
     have:=p9 I xs ys a2 b2 q2 z2 (A:=A) (by omega) j (by simpa using h1) (by simpa using h2)
     simpa [Bk] using this
end
theorem N7 (I:Inv X pins σ H s) (x y:Py) {v v':V} {u u':Value} {A:Around} (h:At X.K H x v) (k:At X.K H y v') (r:RelV v u) (r':RelV v' u') (hu:A.units + dep x < cLine):SeqAt.RcAt A s u u' (kH x y):=by
 have hu0:A.units < cLine:=by omega
 cases x with
 | non =>
  cases h;cases r
  cases y with
  | non=>cases k;cases r';exact SeqAt.RcAt.none_none
  | bl b=>cases k;cases r';exact SeqAt.RcAt.none_bool _
  | int b=>cases k;obtain ⟨t,rfl⟩:=r';exact SeqAt.RcAt.none_int _ _
  | str b=>cases k;obtain ⟨t,rfl⟩:=r';exact SeqAt.RcAt.none_str _ _
  | tup ys=>obtain ⟨b,us,rfl,k1,k2⟩:=k;cases r';obtain ⟨js,r2,p2,_⟩:=I.tuple k1;exact SeqAt.RcAt.none_tuple p2 hu0
  | lst ys=>obtain ⟨b,us,rfl,k1,k2⟩:=k;cases r';obtain ⟨js,r2,p2,_⟩:=I.list k1;exact SeqAt.RcAt.none_list p2.isList hu0
 | bl i =>
  cases h;cases r
  cases y with
  | non=>cases k;cases r';exact SeqAt.RcAt.bool_none _
  | bl b=>cases k;cases r';exact SeqAt.RcAt.bool_bool _ _
  | int b=>cases k;obtain ⟨t,rfl⟩:=r';exact SeqAt.RcAt.bool_int _ _ _
  | str b=>cases k;obtain ⟨t,rfl⟩:=r';exact SeqAt.RcAt.bool_str _ _ _
  | tup ys=>obtain ⟨b,us,rfl,k1,k2⟩:=k;cases r';obtain ⟨js,r2,p2,_⟩:=I.tuple k1;exact SeqAt.RcAt.bool_tuple _ p2 hu0
  | lst ys=>obtain ⟨b,us,rfl,k1,k2⟩:=k;cases r';obtain ⟨js,r2,p2,_⟩:=I.list k1;exact SeqAt.RcAt.bool_list _ p2.isList hu0
 | int i =>
  cases h;obtain ⟨t0,rfl⟩:=r
  cases y with
  | non=>cases k;cases r';exact SeqAt.RcAt.int_none _ _
  | bl b=>cases k;cases r';exact SeqAt.RcAt.int_bool _ _ _
  | int b=>cases k;obtain ⟨t,rfl⟩:=r';exact SeqAt.RcAt.int_int _ _ _ _
  | str b=>cases k;obtain ⟨t,rfl⟩:=r';exact SeqAt.RcAt.int_str _ _ _ _
  | tup ys=>obtain ⟨b,us,rfl,k1,k2⟩:=k;cases r';obtain ⟨js,r2,p2,_⟩:=I.tuple k1;exact SeqAt.RcAt.int_tuple _ _ p2 hu0
  | lst ys=>obtain ⟨b,us,rfl,k1,k2⟩:=k;cases r';obtain ⟨js,r2,p2,_⟩:=I.list k1;exact SeqAt.RcAt.int_list _ _ p2.isList hu0
 | str i =>
  cases h;obtain ⟨t0,rfl⟩:=r
  cases y with
  | non=>cases k;cases r';exact SeqAt.RcAt.str_none _ _
  | bl b=>cases k;cases r';exact SeqAt.RcAt.str_bool _ _ _
  | int b=>cases k;obtain ⟨t,rfl⟩:=r';exact SeqAt.RcAt.str_int _ _ _ _
  | str b=>cases k;obtain ⟨t,rfl⟩:=r';exact SeqAt.RcAt.str_str _ _ _ _
  | tup ys=>obtain ⟨b,us,rfl,k1,k2⟩:=k;cases r';obtain ⟨js,r2,p2,_⟩:=I.tuple k1;exact SeqAt.RcAt.str_tuple _ _ p2 hu0
  | lst ys=>obtain ⟨b,us,rfl,k1,k2⟩:=k;cases r';obtain ⟨js,r2,p2,_⟩:=I.list k1;exact SeqAt.RcAt.str_list _ _ p2.isList hu0
 | tup xs =>
  obtain ⟨a,vs,rfl,h1,h2⟩:=h
  cases r
  obtain ⟨is,r1,p1,_⟩:=I.tuple h1
  have hu1:A.in1.units + dR xs < cLine:=by
   have e:dep (.tup xs)=dR xs + 1:=by rw [dep]
   rw [e] at hu
   show A.units + 1 + dR xs < cLine
   omega
  cases y with
  | non=>cases k;cases r';exact SeqAt.RcAt.tuple_none p1 hu0
  | bl b=>cases k;cases r';exact SeqAt.RcAt.tuple_bool _ p1 hu0
  | int b=>cases k;obtain ⟨t,rfl⟩:=r';exact SeqAt.RcAt.tuple_int _ _ p1 hu0
  | str b=>cases k;obtain ⟨t,rfl⟩:=r';exact SeqAt.RcAt.tuple_str _ _ p1 hu0
  | tup ys =>
   obtain ⟨b,us,rfl,k1,k2⟩:=k;cases r';obtain ⟨js,r2,p2,_⟩:=I.tuple k1
   have e1:is.length=xs.length:=by rw [← r1.length,h2.length]
   have e2:js.length=ys.length:=by rw [← r2.length,k2.length]
   have ae:=jc xs ys
   have key:=SeqAt.RcAt.tuples (e:=Bk xs ys) p1 p2 hu0 fun j q1 q2=>p9 I xs ys h2 k2 r1 r2 hu1 j (by simpa using q1) (by simpa using q2)
   simp only [List.size_toArray] at key
   rw [e1,e2,ae] at key
   simpa [kH] using key
  | lst ys=>obtain ⟨b,us,rfl,k1,k2⟩:=k;cases r';obtain ⟨js,r2,p2,_⟩:=I.list k1;exact SeqAt.RcAt.tuple_list p1 p2.isList hu0
 | lst xs =>
  obtain ⟨a,vs,rfl,h1,h2⟩:=h
  cases r
  obtain ⟨is,r1,p1,_⟩:=I.list h1
  have hu1:A.in1.units + dR xs < cLine:=by
   have e:dep (.lst xs)=dR xs + 1:=by rw [dep]
   rw [e] at hu
   show A.units + 1 + dR xs < cLine
   omega
  cases y with
  | non=>cases k;cases r';exact SeqAt.RcAt.list_none p1.isList hu0
  | bl b=>cases k;cases r';exact SeqAt.RcAt.list_bool _ p1.isList hu0
  | int b=>cases k;obtain ⟨t,rfl⟩:=r';exact SeqAt.RcAt.list_int _ _ p1.isList hu0
  | str b=>cases k;obtain ⟨t,rfl⟩:=r';exact SeqAt.RcAt.list_str _ _ p1.isList hu0
  | tup ys=>obtain ⟨b,us,rfl,k1,k2⟩:=k;cases r';obtain ⟨js,r2,p2,_⟩:=I.tuple k1;exact SeqAt.RcAt.list_tuple p1.isList p2 hu0
  | lst ys =>
   obtain ⟨b,us,rfl,k1,k2⟩:=k;cases r';obtain ⟨js,r2,p2,_⟩:=I.list k1
   have e1:is.length=xs.length:=by rw [← r1.length,h2.length]
   have e2:js.length=ys.length:=by rw [← r2.length,k2.length]
   have ae:=jc xs ys
   by_cases hl:xs.length=ys.length
   ·have key:=SeqAt.RcAt.lists (e:=Bk xs ys) p1.isList p2.isList (by simp only [List.size_toArray];omega) hu0 fun j q1 q2=>p9 I xs ys h2 k2 r1 r2 hu1 j (by simpa using q1) (by simpa using q2)
    simp only [List.size_toArray] at key
    rw [hl,Nat.min_self] at ae
    have e3:(ys.length == ys.length)=true:=by simp
    rw [e3,Bool.and_true] at ae
    rw [e1,hl,ae] at key
    simpa [kH] using key
   ·have key:=SeqAt.RcAt.lists_lengths p1.isList p2.isList (A:=A) (by simp only [List.size_toArray];rw [e1,e2];simpa using hl) hu0
    have e3:jW xs ys=false:=by
     rw [← ae]
     have:(xs.length == ys.length)=false:=by simpa using hl
     rw [this,Bool.and_false]
    simpa [kH,e3] using key
theorem Mq (I:Inv X pins σ H s) (x y:Py) {v v':V} {u u':Value} {A:Around} (h:At X.K H x v) (k:At X.K H y v') (r:RelV v u) (r':RelV v' u') (hu:A.units + dep x < cLine):SeqAt.RcNeAt A s u u' (!kH x y):=by
 have hu0:A.units < cLine:=by omega
 cases x with
 | non =>
  cases h;cases r
  cases y with
  | non=>cases k;cases r';exact SeqAt.RcNeAt.none_none
  | bl b=>cases k;cases r';exact SeqAt.RcNeAt.none_bool _
  | int b=>cases k;obtain ⟨t,rfl⟩:=r';exact SeqAt.RcNeAt.none_int _ _
  | str b=>cases k;obtain ⟨t,rfl⟩:=r';exact SeqAt.RcNeAt.none_str _ _
  | tup ys=>obtain ⟨b,us,rfl,k1,k2⟩:=k;cases r';obtain ⟨js,r2,p2,_⟩:=I.tuple k1;exact SeqAt.RcNeAt.none_tuple p2 hu0
  | lst ys=>obtain ⟨b,us,rfl,k1,k2⟩:=k;cases r';obtain ⟨js,r2,p2,_⟩:=I.list k1;exact SeqAt.RcNeAt.none_list p2.isList hu0
 | bl i =>
  cases h;cases r
  cases y with
  | non=>cases k;cases r';exact SeqAt.RcNeAt.bool_none _
  | bl b=>cases k;cases r';exact SeqAt.RcNeAt.bool_bool _ _
  | int b=>cases k;obtain ⟨t,rfl⟩:=r';exact SeqAt.RcNeAt.bool_int _ _ _
  | str b=>cases k;obtain ⟨t,rfl⟩:=r';exact SeqAt.RcNeAt.bool_str _ _ _
  | tup ys=>obtain ⟨b,us,rfl,k1,k2⟩:=k;cases r';obtain ⟨js,r2,p2,_⟩:=I.tuple k1;exact SeqAt.RcNeAt.bool_tuple _ p2 hu0
  | lst ys=>obtain ⟨b,us,rfl,k1,k2⟩:=k;cases r';obtain ⟨js,r2,p2,_⟩:=I.list k1;exact SeqAt.RcNeAt.bool_list _ p2.isList hu0
 | int i =>
  cases h;obtain ⟨t0,rfl⟩:=r
  cases y with
  | non=>cases k;cases r';exact SeqAt.RcNeAt.int_none _ _
  | bl b=>cases k;cases r';exact SeqAt.RcNeAt.int_bool _ _ _
  | int b=>cases k;obtain ⟨t,rfl⟩:=r';exact SeqAt.RcNeAt.int_int _ _ _ _
  | str b=>cases k;obtain ⟨t,rfl⟩:=r';exact SeqAt.RcNeAt.int_str _ _ _ _
  | tup ys=>obtain ⟨b,us,rfl,k1,k2⟩:=k;cases r';obtain ⟨js,r2,p2,_⟩:=I.tuple k1;exact SeqAt.RcNeAt.int_tuple _ _ p2 hu0
  | lst ys=>obtain ⟨b,us,rfl,k1,k2⟩:=k;cases r';obtain ⟨js,r2,p2,_⟩:=I.list k1;exact SeqAt.RcNeAt.int_list _ _ p2.isList hu0
 | str i =>
  cases h;obtain ⟨t0,rfl⟩:=r
  cases y with
  | non=>cases k;cases r';exact SeqAt.RcNeAt.str_none _ _
  | bl b=>cases k;cases r';exact SeqAt.RcNeAt.str_bool _ _ _
  | int b=>cases k;obtain ⟨t,rfl⟩:=r';exact SeqAt.RcNeAt.str_int _ _ _ _
  | str b=>cases k;obtain ⟨t,rfl⟩:=r';exact SeqAt.RcNeAt.str_str _ _ _ _
  | tup ys=>obtain ⟨b,us,rfl,k1,k2⟩:=k;cases r';obtain ⟨js,r2,p2,_⟩:=I.tuple k1;exact SeqAt.RcNeAt.str_tuple _ _ p2 hu0
  | lst ys=>obtain ⟨b,us,rfl,k1,k2⟩:=k;cases r';obtain ⟨js,r2,p2,_⟩:=I.list k1;exact SeqAt.RcNeAt.str_list _ _ p2.isList hu0
 | tup xs =>
  obtain ⟨a,vs,rfl,h1,h2⟩:=h
  cases r
  obtain ⟨is,r1,p1,_⟩:=I.tuple h1
  have hu1:A.in1.units + dR xs < cLine:=by
   have e:dep (.tup xs)=dR xs + 1:=by rw [dep]
   rw [e] at hu
   show A.units + 1 + dR xs < cLine
   omega
  cases y with
  | non=>cases k;cases r';exact SeqAt.RcNeAt.tuple_none p1 hu0
  | bl b=>cases k;cases r';exact SeqAt.RcNeAt.tuple_bool _ p1 hu0
  | int b=>cases k;obtain ⟨t,rfl⟩:=r';exact SeqAt.RcNeAt.tuple_int _ _ p1 hu0
  | str b=>cases k;obtain ⟨t,rfl⟩:=r';exact SeqAt.RcNeAt.tuple_str _ _ p1 hu0
  | tup ys =>
   obtain ⟨b,us,rfl,k1,k2⟩:=k;cases r';obtain ⟨js,r2,p2,_⟩:=I.tuple k1
   have e1:is.length=xs.length:=by rw [← r1.length,h2.length]
   have e2:js.length=ys.length:=by rw [← r2.length,k2.length]
   have ae:=jc xs ys
   have key:=SeqAt.RcNeAt.tuples (e:=Bk xs ys) p1 p2 hu0 fun j q1 q2=>p9 I xs ys h2 k2 r1 r2 hu1 j (by simpa using q1) (by simpa using q2)
   simp only [List.size_toArray] at key
   rw [e1,e2,ae] at key
   simpa [kH] using key
  | lst ys=>obtain ⟨b,us,rfl,k1,k2⟩:=k;cases r';obtain ⟨js,r2,p2,_⟩:=I.list k1;exact SeqAt.RcNeAt.tuple_list p1 p2.isList hu0
 | lst xs =>
  obtain ⟨a,vs,rfl,h1,h2⟩:=h
  cases r
  obtain ⟨is,r1,p1,_⟩:=I.list h1
  have hu1:A.in1.units + dR xs < cLine:=by
   have e:dep (.lst xs)=dR xs + 1:=by rw [dep]
   rw [e] at hu
   show A.units + 1 + dR xs < cLine
   omega
  cases y with
  | non=>cases k;cases r';exact SeqAt.RcNeAt.list_none p1.isList hu0
  | bl b=>cases k;cases r';exact SeqAt.RcNeAt.list_bool _ p1.isList hu0
  | int b=>cases k;obtain ⟨t,rfl⟩:=r';exact SeqAt.RcNeAt.list_int _ _ p1.isList hu0
  | str b=>cases k;obtain ⟨t,rfl⟩:=r';exact SeqAt.RcNeAt.list_str _ _ p1.isList hu0
  | tup ys=>obtain ⟨b,us,rfl,k1,k2⟩:=k;cases r';obtain ⟨js,r2,p2,_⟩:=I.tuple k1;exact SeqAt.RcNeAt.list_tuple p1.isList p2 hu0
  | lst ys =>
   obtain ⟨b,us,rfl,k1,k2⟩:=k;cases r';obtain ⟨js,r2,p2,_⟩:=I.list k1
   have e1:is.length=xs.length:=by rw [← r1.length,h2.length]
   have e2:js.length=ys.length:=by rw [← r2.length,k2.length]
   have ae:=jc xs ys
   by_cases hl:xs.length=ys.length
   ·have key:=SeqAt.RcNeAt.lists (e:=Bk xs ys) p1.isList p2.isList (by simp only [List.size_toArray];omega) hu0 fun j q1 q2=>p9 I xs ys h2 k2 r1 r2 hu1 j (by simpa using q1) (by simpa using q2)
    simp only [List.size_toArray] at key
    rw [hl,Nat.min_self] at ae
    have e3:(ys.length == ys.length)=true:=by simp
    rw [e3,Bool.and_true] at ae
    rw [e1,hl,ae] at key
    simpa [kH] using key
   ·have key:=SeqAt.RcNeAt.lists_lengths p1.isList p2.isList (A:=A) (by simp only [List.size_toArray];rw [e1,e2];simpa using hl) hu0
    have e3:jW xs ys=false:=by
     rw [← ae]
     have:(xs.length == ys.length)=false:=by simpa using hl
     rw [this,Bool.and_false]
    simpa [kH,e3] using key
def rP (K:PySem.W.Frag) (f:Bool→Bool):R2:=fun v v' H Q=>∃ x y:Py,At K H x v∧At K H y v'∧dep x≤60∧Q (.bl (f (kH x y))) H
theorem Jp (hu:X.A.units + 61 < cLine):fF X (compareOp .Eq) (rP X.K id):=by
 intro pins s σ H x y v u Q I rx ry h
 obtain ⟨a,b,h1,h2,d,q⟩:=h
 exact N7 I a b h1 h2 rx ry (by omega) X.prog X.w X.xe _ ⟨.bl _,H,I,rfl,q⟩
theorem Js (hu:X.A.units + 61 < cLine):fF X (compareOp .NotEq) (rP X.K not):=by
 intro pins s σ H x y v u Q I rx ry h
 obtain ⟨a,b,h1,h2,d,q⟩:=h
 exact Mq I a b h1 h2 rx ry (by omega) X.prog X.w X.xe _ ⟨.bl _,H,I,rfl,q⟩
end
end Ov
namespace Ov
open PySem PySem.Spec PySem.Calls PyProof.Rows PySem.W Builtin.Getset_descriptor
section
variable {prog:Program} {w:World} {A:Around} {E:Value→Shared→Prop} {s:Shared} {K:Frag} {x D:Addr}
structure KH (K:Frag) (D:Addr):Prop where
 cls:(clsIn K D).isSome=true
 ga:findIn K (.ref D) "__getattribute__"=some (some (.builtin "BaseException.__getattribute__"))
 gt:findIn K (.ref D) "__getattr__"=some none
 ca:findIn K (.ref D) "__class__"=some (some (.builtin "object.__class__"))
 get:specialIn K (.builtin "object.__class__") "__get__"=some (some (.builtin "getset_descriptor.__get__"))
 tk:takesIn K (.builtin "object.__class__")=some true
 obj:mroIn K D (.type "object")=some true
 bex:subIn K (.ref D) (.type "BaseException")=some true
end
end Ov
namespace Ov
open PySem PySem.Spec PyProof.Rows L2
structure zr (P:Program) (w:World) (outer:List Env) (H:Hp) (s:Shared) (ea:Addr) (cls:Value) (H':Hp) (s':Shared):Prop where
 os:s'.os=s.os
 bare:AllBare s'.gens
 un:Un (jN outer) [] H H' s.heap s'.heap
 hok:l6 P w H' s'.heap
 fl:∃ B t,Heap.FlyingW B outer ea cls (.ref t) s'.heap∧∀ b o,s'.heap.get? b=some o→(H' b≠none∨∃ o₀,s.heap.get? b=some o₀)→b ∉ jN outer→B.get? b=some o
def c5 (P:Program) (w:World):rj:=fun outer H s E e s'=>∃ ea cls H',e=.ref ea∧zr P w outer H s ea cls H' s'∧E cls none H'
theorem FY {P:Program} {w:World} {H:Hp} {h:Heap} {a:Addr} {o:HO} (x:c9 P w H h a o):∃ ob,h.get? a=Option.some ob:=by
 have lt:=x.lt
 cases o with
 | lst xs=>obtain ⟨_,_,_,_,e⟩:=x;exact ⟨_,e⟩
 | tup xs=>obtain ⟨_,_,_,ob,e,_⟩:=x;exact ⟨_,e⟩
 | dK kvs=>obtain ⟨_,_,_,_,o,_,_,e,_⟩:=x;exact ⟨_,e⟩
 | dE kvs ep=>obtain ⟨_,_,_,_,o,_,e,_⟩:=x;exact ⟨_,e⟩
 | set S n=>obtain ⟨o,_,_,_,e,_⟩:=x;exact ⟨_,e⟩
 | ins C dx fs=>obtain ⟨_,_,_,e,_⟩:=x;exact ⟨_,e⟩
 | own y=>exact x
 | xd fs=>obtain ⟨_,⟨_,_,_,e,_⟩,_⟩:=x;exact ⟨_,e⟩
 | Kt lo hi=>obtain ⟨_,_,_,e⟩:=x;exact ⟨_,e⟩
 | oJ ob u=>obtain ⟨e,_⟩:=x;exact ⟨_,e⟩
 | tbl ps=>exact ⟨_,x⟩
 | met f y=>exact ⟨_,x⟩
 | ext φ=>obtain ⟨_,e,_⟩:=x;exact e
section
variable {X:Cx} {pins:List (Addr × Obj)} {σ:L2.St} {H H':Hp} {s:Shared} {ea t:Addr} {cls:Value} {B h1 h2:Heap}
theorem jX (I:Inv X pins σ H s) (un:Un (jN X.stack) [] H H' s.heap h1) {b:Addr} (hb:b∈jN X.stack):H' b=none∧∃ o,h1.get? b=some o∧∀ vs,o.data≠.fields vs:=by
 obtain ⟨_,o,ho,hn⟩:=I.stack.mem hb
 have n:=I.vE b hb
 obtain ⟨sl,e⟩:=un.any ho n (by simp)
 exact ⟨un.free b o ho n (by simp),_,e,hn⟩
theorem zX (I:Inv X pins σ H s) (un:Un (jN X.stack) [] H H' s.heap h1) (cov:∀ b o,h1.get? b=some o→(H' b≠none∨∃ o₀,s.heap.get? b=some o₀)→b ∉ jN X.stack→B.get? b=some o)
  (hB:B.StaysIn h2) (up:h1.UpToSlots h2):Un (jN X.stack) [] H H' s.heap h2 where
 keep:=fun b o e n hb hx=>hB b o (cov b o (un.keep b o e n hb hx) (.inr ⟨o,e⟩) hb)
 slot:=fun b o e n hb hx=>by
  obtain ⟨sl,e1⟩:=un.slot b o e n hb hx
  obtain ⟨_,o',e2,hn⟩:=jX I un hb
  rw [e1] at e2;cases e2
  obtain ⟨sl',e3⟩:=up b _ e1 hn
  exact ⟨sl',e3⟩
 free:=un.free
 there:=fun b o e hx=>by
  obtain ⟨o',e1⟩:=un.there b o e hx
  by_cases hb:b∈jN X.stack
  ·obtain ⟨_,o2,e2,hn⟩:=jX I un hb
   obtain ⟨sl',e3⟩:=up b _ e2 hn
   exact ⟨_,e3⟩
  ·exact ⟨o',hB b o' (cov b o' e1 (.inr ⟨o,e⟩) hb)⟩
 tups:=un.tups
 frzs:=un.frzs
 tbls:=un.tbls
theorem zW (I:Inv X pins σ H s) (un:Un (jN X.stack) [] H H' s.heap h1) (cov:∀ b o,h1.get? b=some o→(H' b≠none∨∃ o₀,s.heap.get? b=some o₀)→b ∉ jN X.stack→B.get? b=some o)
  (hB:B.StaysIn h2) (ok:l6 X.prog X.w H' h1):l6 X.prog X.w H' h2:=fun a o e=>by
 have nf:∀ b u,H' b=some u→b ∉ jN X.stack:=fun b u q hb=>by
  have:=(jX I un hb).1
  rw [q] at this;cases this
 refine (ok a o e).lZ (fun b u hb q=>?_) (fun _ q=>q) fun _ _ q=>q
 rcases hb with rfl | hb
 ·exact hB _ _ (cov _ _ q (.inl (by rw [e];exact fun z=>nomatch z)) (nf _ _ e))
 ·exact hB _ _ (cov _ _ q (.inl (by rw [hb];exact fun z=>nomatch z)) (nf _ _ hb))
theorem CJ (un:Un (jN X.stack) [] H H' s.heap h1) (ok:l6 X.prog X.w H' h1) (cov:∀ b o,h1.get? b=some o→(H' b≠none∨∃ o₀,s.heap.get? b=some o₀)→b ∉ jN X.stack→B.get? b=some o) (hB:B.StaysIn h2) :
  ∀ b o,h2.get? b=some o→(H' b≠none∨∃ o₀,s.heap.get? b=some o₀)→b ∉ jN X.stack→B.get? b=some o:=fun b o e hb nb=>by
 have:∃ o1,h1.get? b=some o1:=by
  rcases hb with z | ⟨o₀,z⟩
  ·cases q:H' b with
   | none=>exact absurd q z
   | some u=>exact FY (ok b u q)
  ·exact un.there b o₀ z (by simp)
 obtain ⟨o1,e1⟩:=this
 have c:=cov b o1 e1 hb nb
 have:=hB b o1 c
 rw [e] at this;cases this
 exact c
theorem zQ {s2:Shared} (I:Inv X pins σ H s) (hst:X.stack=X.env :: X.outer) (hfr:X.env.frame=some X.env.locals) (hex:X.ex=[]) (os:s2.os=s.os) (bare:AllBare s2.gens) (un:Un (jN X.stack) [] H H' s.heap s2.heap)
  (ok:l6 X.prog X.w H' s2.heap) (cov:∀ b o,s2.heap.get? b=some o→(H' b≠none∨∃ o₀,s.heap.get? b=some o₀)→b ∉ jN X.stack→B.get? b=some o) (fl:Heap.FlyingW B X.outer ea cls (.ref t) s2.heap) :
  zr X.prog X.w X.outer X.H₀ X.s₀ ea cls H' s2:=by
 have nst:∀ b o,X.s₀.heap.get? b=some o→b ∉ X.fs→b ∉ jN X.stack:=fun b o e nb hb=>by
  rcases List.mem_cons.mp (I.l3 b hb) with z | z
  ·have:=Nat.lt_of_lt_of_le (Heap.lt_size e) I.ok.above
   rw [z] at this
   exact Nat.lt_irrefl _ this
  ·exact nb z
 have sub:∀ b,b∈X.fs→b∈jN X.stack:=fun b hb=>by rw [hst];unfold jN;rw [List.filterMap_cons,hfr];exact List.mem_cons_of_mem _ hb
 have nx:∀ b:Addr,b ∉ X.ex:=fun b=>by rw [hex];simp
 refine ⟨os.trans I.os,bare,⟨fun b o e n hb _=>?_,fun b o e n hb _=>?_,fun b o e n _=>?_,fun b o e _=>?_,fun b xs q=>un.tups b xs (I.base.tups b xs q),fun b o xs q=>un.frzs b o xs (I.base.frzs b o xs q),fun b ps q=>?_⟩,ok,B,t,fl,fun b o e hb nb=>?_⟩
 ·exact un.keep b o (I.base.keep b o e n hb (nx b)) (I.base.free b o e n (nx b)) (nst b o e hb) (by simp)
 ·obtain ⟨sl,e1⟩:=I.base.slot b o e n hb (nx b)
  obtain ⟨sl',e2⟩:=un.slot b _ e1 (I.base.free b o e n (nx b)) (sub b hb) (by simp)
  exact ⟨sl',e2⟩
 ·obtain ⟨o',e1⟩:=I.base.there b o e (nx b)
  exact un.free b o' e1 (I.base.free b o e n (nx b)) (by simp)
 ·obtain ⟨o',e1⟩:=I.base.there b o e (nx b)
  exact un.there b o' e1 (by simp)
 ·obtain ⟨m1,e1⟩:=I.base.tbls b ps q
  obtain ⟨m2,e2⟩:=un.tbls b _ e1
  exact ⟨m1 ++ m2,by rw [e2,Array.append_assoc]⟩
 ·rcases hb with z | ⟨o₀,z⟩
  ·exact cov b o e (.inl z) fun hb=>z (jX I un hb).1
  ·obtain ⟨o1,e1⟩:=I.base.there b o₀ z (nx b)
   exact cov b o e (.inr ⟨o1,e1⟩) (nst b o₀ z nb)
theorem Bw {E:XK} {e:Value} {s':Shared} {R:Value→Shared→Prop} (I:Inv X pins σ H s) (hst:X.stack=X.env :: X.outer) (hfr:X.env.frame=some X.env.locals) (hex:X.ex=[]) (h:c5 X.prog X.w X.stack H s E e s') :
  wpAny (model X.prog X.w) X.A (leaving X.env e) (fun _ s''=>c5 X.prog X.w X.outer X.H₀ X.s₀ E e s'') R s':=by
 obtain ⟨ea,cls,H',rfl,F,q⟩:=h
 obtain ⟨B,t,fl,cov⟩:=F.fl
 refine wpAny_leaves_onW (by rw [I.ok.frames,hst]) hfr (hst ▸ fl) fun h2 fl2 up=>?_
 exact ⟨ea,cls,H',rfl,zQ (s2:={ s' with heap:=h2 }) I hst hfr hex F.os F.bare (zX I F.un cov fl2.1 up) (zW I F.un cov fl2.1 F.hok) (CJ F.un F.hok cov fl2.1) fl2,q⟩
theorem leave_new {E:XK} {e C:Addr} {args:List Value} {h':Heap} {R:Value→Shared→Prop} (I:Inv X pins σ H s) (hst:X.stack=X.env :: X.outer) (hfr:X.env.frame=some X.env.locals) (hex:X.ex=[])
  (hx:Heap.MadeExcOf s.heap h' e (.ref C) args) (q:E (.ref C) none H) :
  wpAny (model X.prog X.w) X.A (leaving X.env (.ref e)) (fun _ s''=>c5 X.prog X.w X.outer X.H₀ X.s₀ E (.ref e) s'') R { s with heap:=h' }:=by
 have hin:∀ env∈X.env :: X.outer,∀ a,env.frame=some a→a∈jN X.stack:=fun env he a ha=>by rw [hst];exact List.mem_filterMap.mpr ⟨env,he,ha⟩
 have cov:∀ b o,s.heap.get? b=some o→(H b≠none∨∃ o₀,s.heap.get? b=some o₀)→b ∉ jN X.stack→(PySem.W.hideAll s.heap (jN X.stack)).get? b=some o:=fun b o e _ nb=>PySem.W.hideAll_get _ e nb
 refine wpAny_leaves_madeW (base:=PySem.W.hideAll s.heap (jN X.stack)) (by rw [I.ok.frames,hst]) hfr (fun b o z=>PySem.W.of_hideAll _ z) (PySem.W.funFrames_hide (hst ▸ I.stack) hin) hx fun h2 t fl _ _ up=>?_
 have up2:s.heap.UpToSlots h2:=(Heap.UpToSlots.of_keeps hx.keeps).trans up
 exact ⟨e,.ref C,H,rfl,zQ (s2:={ s with heap:=h2 }) I hst hfr hex rfl I.bare (zX I Un.refl cov fl.1 up2) (zW I Un.refl cov fl.1 I.hok) (CJ Un.refl I.hok cov fl.1) fl,q⟩
end
abbrev Nf:List Value:=[.type "ValueError",.type "Exception",.type "BaseException",.type "object"]
structure Own (K:PySem.W.Frag) (mg:Str→Option Value) (x:Str) (C:Addr):Prop where
 mg:mg x=some (.ref C)
 own:PySem.W.excIn K C Nf "ValueError.__new__"=true
 xc:KH K C
theorem F_ {K:PySem.W.Frag} {h:Heap} {C:Addr} {bmB:List Value} {newId:String} (X:K.In h) (q:PySem.W.excIn K C bmB newId=true) :
  ∃ bm N nm qn bs hd sn sub ab col dd k0 k1 k2 k3 k5 mN,h.get? C=some (excClassObj nm qn C N bs bm hd sn sub ab col dd k0 k1 k2 k3 k5 newId)∧h.Ns N mN∧mN "__init__"=none∧OwnTail h bmB bm:=by
 unfold PySem.W.excIn at q
 split at q
 ·next dd cd sl ho =>
  split at q
  ·next C' bm k0 k1 k2 k3 n k5 hm hs =>
   simp only [beq_iff_eq,Bool.and_eq_true,Bool.not_eq_true'] at q
   obtain ⟨⟨⟨⟨⟨rfl,rfl⟩,e3⟩,e4⟩,e5⟩,e6⟩:=q
   cases cd with
   | mk nm bs mro ns qn hd sn sub ab col del =>
    have hm:mro=.ref C' :: bm:=hm
    have e3:del=false:=e3
    subst hm;subst e3
    have hsl:sl=#[k0,k1,k2,k3,some (.builtin n),k5]:=Array.toList_inj.mp hs
    subst hsl
    exact ⟨bm,ns,nm,qn,bs,hd,sn,sub,ab,col,dd,k0,k1,k2,k3,k5,_,X _ _ ho,.of_isNs (PySem.W.isNs_of_in X e5),PySem.W.nsMap_none_of_in X e5 e6,PySem.W.tail_of_in X e4⟩
  ·cases q
 ·cases q
def Kc (C:Addr) (E:XK) (t:TA):TS:=fun _ σ H=>t σ H fun vs H1=>vs.length≤sizeLine∧E (.ref C) none H1
def Throws (X:Cx) (E:XK):Prop:=∀ (pins:List (Addr × Obj)) (σ:L2.St) (H:Hp) (s:Shared) (e C:Addr) (args:List Value) (h':Heap),Inv X pins σ H s→Heap.MadeExcOf s.heap h' e (.ref C) args→E (.ref C) none H→X.xe (.ref e) { s with heap:=h' }
theorem BZ {X:Cx} {E:XK} {x:Str} {C:Addr} {e:Expr} {es:List Expr} {np cpos pos:Pos} {t:TA} (O:Own X.K X.mg x C) (hc:X.calm=true) (hx:Throws X E) (hg:Gl X x) (ha:PA X (e :: es) t)
  (hd:(x == ("__debug__":Str))=false:=by decide) (he:starEach (e :: es) X.env=(false,eval e X.env) :: starEach es X.env:=by rfl) (hpl:(backTo cpos (starEach es X.env)).any (·.1)=false:=by rfl) :
  PS X (.Raise (some (.Call (.Name x np) (e :: es) [] cpos)) none pos) (Kc C E t):=by
 intro pins s σ H D I h
 obtain ⟨bm,N,nm,qn,bs,hd',sn,sub,ab,col,dd,k0,k1,k2,k3,k5,mN,hC,hN,hni,T⟩:=F_ I.mod.kin O.own
 have hplain:(backTo cpos (starEach (e :: es) X.env)).any (·.1)=false:=by
  rw [he]
  show (false || (backTo cpos (starEach es X.env)).any (·.1))=false
  rw [hpl];rfl
 refine wpAny_Raise_call_subT (C:=C) (N:=N) (nm:=nm) (q:=qn) (bs:=bs) (hdct:=hd') (sn:=sn) (sub:=sub) (ab:=ab) (col:=col) (dd:=dd) (k0:=k0) (k1:=k1) (k2:=k2) (k3:=k3) (k5:=k5) PySem.F.excBase_ValueError (T.hasType (by decide +kernel)) (I.ok.hd hc) hplain hni ?_
 refine my I hg O.mg ⟨rfl,?_⟩ hd
 have key:=b7 (ha cpos pins s σ H _ I h) (Q':=fun us s1=>us.length≤sizeLine∧s1.heap.get? C=some (excClassObj nm qn C N bs bm hd' sn sub ab col dd k0 k1 k2 k3 k5 "ValueError.__new__")∧s1.heap.Ns N mN∧OwnTail s1.heap Nf bm ∧
  ∀ h' e,Heap.MadeExcOf s1.heap h' e (.ref C) us→X.xe (.ref e) { s1 with heap:=h' }) fun us s1 ⟨vs,H1,I1,r,z,q⟩ =>
   ⟨by rw [← r.length];exact z,I1.bk _ _ hC,hN.keeps I1.bk,T.keeps I1.bk,fun h' ea hm=>hx pins σ H1 s1 ea C us h' I1 hm q⟩
 rw [he] at key ⊢
 exact PySem.Calls.evalArgs_plain (b7 key fun _ _ z=>⟨rfl,z⟩)
section
variable {P:Program} {w:World} {K:PySem.W.Frag} {mg:Str→Option Value} {base:Heap} {N:List Str} {qual:Str} {scope:Scope} {f:Addr} {cd:Value} {A:Around} {outer:List Env} {s:Shared} {H:Hp} {E:XK}
abbrev Cg (P:Program) (w:World) (K:PySem.W.Frag) (mg:Str→Option Value) (base:Heap) (N:List Str) (qual:Str) (scope:Scope) (f:Addr) (cd:Value) (A:Around) (outer:List Env) (s:Shared) (H:Hp) (E:XK):Cx:=t_ (c5 P w) P w K mg base N qual scope f cd A outer s H E
theorem cF:Throws (Cg P w K mg base N qual scope f cd A outer s H E) E:=fun pins σ H1 s1 e C args h' I hm q =>
 leave_new (X:=Cg P w K mg base N qual scope f cd A outer s H E) I rfl rfl rfl hm q
theorem ym:Passes (c5 P w) (Cg P w K mg base N qual scope f cd A outer s H E) E:=fun pins σ H1 s1 e s' I h =>
 Bw (X:=Cg P w K mg base N qual scope f cd A outer s H E) I rfl rfl rfl h
theorem bR:PassesOwn (model P w) (Cg P w K mg base N qual scope f cd A outer s H E).A (Cg P w K mg base N qual scope f cd A outer s H E).env (Cg P w K mg base N qual scope f cd A outer s H E).xe:=PassesOwn.leaving
theorem Pd {x qual:Str} {st:Stmt} {f:Addr} {fd:FuncData} {N ps:List Str} {k:Nat} {sp:Sp} (F:cm K x qual st f fd) (S:aw N ps (aj st)) (len:∀ vs H Q E,sp vs H Q E→vs.length=ps.length)
  (hbody:∀ (cdv:Value) (A:Around) (outer:List Env) (s:Shared) (H:Hp) (vs:List V) (Q:VK) (E:XK),bX k (A.deeper (envOfC qual (aj st) s.heap.objs.size f cdv))→sp vs H Q E →
   ∃ t,QB (Cg P w K mg base N qual (aj st) f cdv A outer s H E) (b_ st) t∧t { nx:=fun _ H'=>Q .non H',rt:=Q } (start N vs) H):aO P w K mg base (c5 P w) (k + 1) f fd ps sp:=by
 obtain ⟨oc,od,kV,doc,pm,an,cdv,ct,osl,rfl,lk,hcd⟩:=F.ex
 refine CZ lk hcd S len fun A outer s H vs Q E hr hsp=>?_
 obtain ⟨t,h,q⟩:=hbody cdv A outer s H vs Q E hr hsp
 exact ⟨t,h.run,q⟩
end
def Cn (P:Program) (w:World) (K:PySem.W.Frag) (mg:Str→Option Value) (base:Heap) (k:Nat) (x:Str) (ps:List Str) (sp:Sp):Prop :=
 ∃ f fd,aO P w K mg base (c5 P w) k f fd ps sp∧Binds K fd ps []∧PySem.W.keepIn K (.ref f)=true∧mg x=some (.ref f)
theorem F' {X:Cx} {k k':Nat} {x:Str} {ps:List Str} {sp:Sp} {p pos:Pos} {e:Expr} {es:List Expr} {t:TA} {E:XK} (C:Cn X.prog X.w X.K X.mg X.base k x ps sp) (hx:Passes (c5 X.prog X.w) X E) (hr:bX k' X.A) (hk:k≤k') (hg:Gl X x) (ha:PA X (e :: es) t)
  (hdb:(x == ("__debug__":Str))=false:=by decide) (he:starEach (e :: es) X.env=(false,eval e X.env) :: starEach es X.env:=by rfl) (hpl:(backTo pos (starEach es X.env)).any (·.1)=false:=by rfl) :
  PE X (.Call (.Name x p) (e :: es) [] pos) (q_ sp [] E t):=by
 obtain ⟨f,fd,F,b,kp,m⟩:=C
 exact Aj F (hr.mono hk) hg m kp b .nil hx ha hdb he hpl
theorem Def.Ng {P:Program} {w:World} {K:PySem.W.Frag} {mg:Str→Option Value} {base:Heap} {x:Str} {st:Stmt} {k:Nat} {ps:List Str} {sp:Sp} (D:Def K mg x st)
  (h:∀ f fd,cm K x x st f fd→aO P w K mg base (c5 P w) k f fd ps sp)
  (hb:∀ (kV doc pm:Value) (an:Option Addr) (cdv ct:Value) (us:List Value),us.length=ps.length→bindArgs (PySem.W.fnOf x x (de st) (b_ st) (aj st) .none kV doc pm an cdv ct) ⟨us,[]⟩=pure (ps.zip us)) :
  Cn P w K mg base k x ps sp:=by
 obtain ⟨f,fd,F,m⟩:=D
 exact ⟨f,fd,h f fd F,F.binds hb,F.kp,m⟩
section
variable {X:Cx} {pins pn:List (Addr × Obj)} {σ:L2.St} {H H':Hp} {s:Shared}
theorem zr.new {ea:Addr} {cls:Value} {s':Shared} (I:Inv X pins σ H s) (F:zr X.prog X.w X.stack H s ea cls H' s'):H' ea=none∧s.heap.get? ea=none:=by
 obtain ⟨B,t,fl,cov⟩:=F.fl
 obtain ⟨oe,vs,he,_,hd,_⟩:=fl.first
 have nf:ea ∉ jN X.stack:=fun hb=>by
  obtain ⟨_,o,ho,hn⟩:=jX I F.un hb
  rw [he] at ho;cases ho
  exact hn vs hd
 have no:¬ (H' ea≠none∨∃ o₀,s.heap.get? ea=some o₀):=fun z=>by
  have:=cov ea oe he z nf
  rw [fl.2.1] at this;cases this
 refine ⟨?_,?_⟩
 ·cases q:H' ea with
  | none=>rfl
  | some u=>exact absurd (.inl (by rw [q];exact fun z=>nomatch z)) no
 ·cases q:s.heap.get? ea with
  | none=>rfl
  | some u=>exact absurd (.inr ⟨u,q⟩) no
end
end Ov
namespace Ov
open PySem PySem.Spec PyProof.Rows
open L2 (V HO Hp Inv Cx St VK TE TT TA TS Ends Loc Gl RelV Vals fF cx q_ upd E0 bX XK Passes)
section
variable {X:Cx} {e:Expr} {es:List Expr} {t:TA} {x:Str} {np cpos pos p:Pos}
end
open PySem.W in
def E3 (K:Frag) (D:Addr):Bool:=(clsIn K D).isSome && findIn K (.ref D) "__getattribute__" == some (some (.builtin "BaseException.__getattribute__")) && findIn K (.ref D) "__getattr__" == some none &&
 findIn K (.ref D) "__class__" == some (some (.builtin "object.__class__")) && specialIn K (.builtin "object.__class__") "__get__" == some (some (.builtin "getset_descriptor.__get__")) && takesIn K (.builtin "object.__class__") == some true &&
 mroIn K D (.type "object") == some true && subIn K (.ref D) (.type "BaseException") == some true
theorem G7 {K:PySem.W.Frag} {D:Addr} (h:E3 K D=true):KH K D:=by
 simp only [E3,Bool.and_eq_true,beq_iff_eq] at h
 obtain ⟨⟨⟨⟨⟨⟨⟨a,b⟩,c⟩,d⟩,e⟩,f⟩,g⟩,i⟩:=h
 exact ⟨a,b,c,d,e,f,g,i⟩
open L2 (zi EO xK zk B7 tC H0 qa)
theorem _root_.L2.bX.aX {k:Nat} {A:Around} (r:bX k A):A.units + 61 < cLine:=by have:=r.un;omega
end Ov
namespace Ov
open PySem PySem.Spec PyProof.Rows L2
def eE (P:Addr) (h:Heap):Prop:=∃ ps:Array Value,h.get? P=some { cls:=.none,data:=.fields ps }∧TriplesOk ps.toList
def sD (K:PySem.W.Frag) (c P:Addr):Prop:=c≠P∧∃ (o:Obj) (vs:Array Value) (file:Str) (tf:Tok) (flags:Int) (tg:Tok) (inF:Bool) (text:Int) (tt:Tok),
 K.lookup c=some o∧o.cls=.type "code"∧o.data=.fields vs∧vs[11]?=some (.ref P)∧vs.getD 18 .none=.str file tf∧vs.getD 7 .none=.int flags tg∧vs.getD 9 .none=.bool inF∧vs.getD 10 .none=.int text tt
def BMain (mg:Str→Option Value) (h:Heap):Prop:=∃ bm ob,mg "__builtins__"=some (.ref bm)∧bm≠builtinsNs∧h.get? bm=some ob∧ob.cls=.type "module"∧ob.dict=some builtinsNs∧ob.data=.plain
theorem sD.at {K:PySem.W.Frag} {h:Heap} {c P:Addr} {ps:Array Value} (Z:sD K c P) (X:K.In h) (hp:h.get? P=some { cls:=.none,data:=.fields ps }) (tr:TriplesOk ps.toList):h.IsCode c P ps∧h.TableAt c P ps:=by
 obtain ⟨ne,o,vs,file,tf,flags,tg,inF,text,tt,lk,hc,hd,h11,h18,h7,h9,h10⟩:=Z
 have e11:vs.getD 11 .none=.ref P:=by
  rw [Array.getD_eq_getD_getElem?,h11];rfl
 exact ⟨⟨o,vs,file,tf,flags,tg,inF,text,tt,_,X _ _ lk,hd,e11,h18,h7,h9,h10,hp,rfl,tr,ne⟩,⟨o,vs,X _ _ lk,hc,hd,h11⟩,hp⟩
section
variable {X:Cx} {pins:List (Addr × Obj)} {σ:L2.St} {H:Hp} {s:Shared} {c P:Addr}
theorem FH {s':Shared} (I:Inv X pins σ H s) (hP:H P=some (.ext (eE P))) (os:s'.os=s.os) (bare:AllBare s'.gens) (k:∀ b o,b≠P→s.heap.get? b=some o→s'.heap.get? b=some o) (t:eE P s'.heap):Inv X pins σ H s':=by
 have nP:∀ b,H b=none→b≠P:=fun b n z=>by rw [z,hP] at n;cases n
 have hok:l6 X.prog X.w H s'.heap:=fun b u e=>by
  by_cases hb:b=P
  ·subst hb
   rw [hP] at e;cases e
   obtain ⟨ps,hp,_⟩:=id t
   exact ⟨t,⟨_,hp⟩,((I.hok b _ hP)).2.2⟩
  ·refine (I.hok b u e).lZ (fun d v hd q=>k d v ?_ q) (fun _ q=>q) fun _ _ q=>q
   rcases hd with rfl | hd
   ·exact hb
   ·intro z
    rw [z,hP] at hd;cases hd
 have un:Un (jN X.stack) [] H H s.heap s'.heap:=⟨fun b o e n _ _=>k b o (nP b n) e,fun b o e n _ _=>⟨o.slots,k b o (nP b n) e⟩,fun _ _ _ n _=>n,fun b o e _=>by
  by_cases hb:b=P
  ·subst hb
   obtain ⟨ps,hp,_⟩:=t
   exact ⟨_,hp⟩
  ·exact ⟨o,k b o hb e⟩,fun _ _ q=>q,fun _ _ _ q=>q,fun _ ps q=>⟨#[],by rw [q];simp⟩⟩
 exact I.KU os un hok bare fun b z=>absurd z (by simp)
theorem C4 {M:Model} {A:Around} {E:Value→Shared→Prop} {env:Env} {pos:Pos} {q:Str} {sc:Scope} {Q:Value→Shared→Prop} {s:Shared} (hc:env.code=.ref c) (Z:sD X.K c P) (kin:X.K.In s.heap) (t:eE P s.heap)
  (h:∀ code h' tk,(∀ b o,b≠P→s.heap.get? b=some o→h'.get? b=some o)→s.heap.objs.size≤h'.objs.size→eE P h'→Q code { s with heap:=h',toks:=tk }):wpAny M A (genexprCode env pos q sc) Q E s:=by
 obtain ⟨ps,hp,tr⟩:=t
 obtain ⟨ic,ta⟩:=Z.at kin hp tr
 cases hf:codeAmong pos ps.toList with
 | some c'=>exact wpAny_genexprCode_hit hc ic hf (h c' s.heap s.toks (fun _ _ _ e=>e) (Nat.le_refl _) ⟨ps,hp,tr⟩)
 | none =>
  refine wpAny_genexprCodeX hc ic ta hf fun c' h' tk ext l1 l2 ic' _ ta' _=>h _ h' tk (fun b o nb e=>ext b o nb e) (Nat.le_of_lt (Nat.lt_of_le_of_lt l1 l2)) ⟨_,ta'.2,?_⟩
  obtain ⟨_,_,_,_,_,_,_,_,_,_,_,_,_,_,_,_,_,hop,hpd,tr',_⟩:=ic'
  exact tr'
theorem CC {α:Type} (B:List α) (q:α→Bool):((List.range B.length).all fun j=>(B[j]?).elim true q)=B.all q:=by
 rw [Bool.eq_iff_iff,List.all_eq_true,List.all_eq_true]
 refine ⟨fun h b hb=>?_,fun h j hj=>?_⟩
 ·obtain ⟨j,hj,rfl⟩:=List.getElem_of_mem hb
  have:=h j (List.mem_range.mpr hj)
  rwa [List.getElem?_eq_getElem hj] at this
 ·have hj:=List.mem_range.mp hj
  rw [List.getElem?_eq_getElem hj]
  exact h _ (List.getElem_mem hj)
def ed (tx:Str) (ch:Nat):Bool:=!(Builtin.Str.occurrences tx ⟨#[ch]⟩ 0 tx.length 1).isEmpty
def EL (P:Addr) (tx:Str) (ti:TE):TE:=fun σ H Q=>ti σ H fun v H1=>∃ y:Str,v=.str y∧H1 P=some (.ext (eE P))∧Q (.bl (y.cps.toList.all (ed tx))) H1
theorem Ed {prog:Program} {w:World} {env:Env} {scope:Scope} {x g:Str} {tx y:Str} {tt:Tok} {C:Addr} {code:Value} {fp wr:List Addr} {href:Heap} {D U:Nat} {p1 p2 p3:Pos} {mg:Str→Option Value} (sck:scope.kind=.function) (hx:scope.names.lookup x=some .local) (hg:scope.names.lookup g=some .globalImplicit)
  (ns:href.Ns env.globals mg) (hm:mg g=some (.str tx tt)) (h1:env.globals∈fp) (h2:env.globals ∉ wr) (hmk:behindInMarks .In (.Name g p2)=false) (hdx:(x == ("__debug__":Str))=false) (hdg:(g == ("__debug__":Str))=false) :
  QuietGenD prog w (genEnv scope [] C code builtinsNs env) x [] (.Compare (.Name x p1) [.In] [.Name g p2] p3) fp wr (SignAt y) (fun _=>true) (fun i v=>∃ ch,y.cps[i]?=some ch∧v=.bool (ed tx ch)) href D U where
 tests:=fun A' E' i v s₂ m₂ _ _ _ _ _ _ _=>wpAny_pure ⟨rfl,_,_,rfl,fun _ _ e=>e⟩
 elt:=fun A' E' i v s₂ m₂ _ _ _ hP _ hn hmx hk=>by
  obtain ⟨ch,u,hch,rfl⟩:=hP
  refine wpAny_Compare1 (wpAny_Name (wpAny_loadName_local (show (genEnv scope [] C code builtinsNs env).scope.kind=.function from sck) (show (genEnv scope [] C code builtinsNs env).kindOf x=some .local from hx) hn hmx ?_) hdx) hmk
  refine Calls.Name_function_global (show (genEnv scope [] C code builtinsNs env).scope.kind=.function from sck) (show (genEnv scope [] C code builtinsNs env).kindOf g=some .globalImplicit from hg) (Calls.loadGlobal_global (ns.at' fun o e=>hk _ h1 h2 o e) hm ?_) hdg
  exact in_str ⟨⟨ch,hch,rfl⟩,_,_,rfl,fun _ _ e=>e⟩
theorem BW {x g:Str} {p px p1 p2 p3 gpos cpos:Pos} {iter:Expr} {ti:TE} {scope:Scope} {tx:Str} {tt:Tok} (hcalm:X.calm=true) (Bm:BMain X.mg X.base) (hcode:X.env.code=.ref c) (Z:sD X.K c P) (hdep:X.A.depth < recursionLimit)
  (hgl:Gl X "all") (hma:X.mg "all"=none) (hsg:X.mg g=some (.str tx tt)) (hi:PE X iter ti) (sck:scope.kind=.function) (hco:scope.isCoroutine=false) (hclos:closureFor scope X.env=pure []) (hcell:∀ y∈scope.names,y.2≠.cell)
  (h0:scope.names.lookup (".0":Str)=some NameKind.local) (hx:scope.names.lookup x=some .local) (hsc:scope.names.lookup g=some .globalImplicit) (hmk:behindInMarks .In (.Name g p2)=false) (hs:∀ x,genFold iter X.env x=pure x)
  (hst:starEach [.GeneratorExp (.Compare (.Name x p1) [.In] [.Name g p2] p3) [⟨.Name x px,iter,[],0⟩] scope gpos] X.env=[(false,eval (.GeneratorExp (.Compare (.Name x p1) [.In] [.Name g p2] p3) [⟨.Name x px,iter,[],0⟩] scope gpos) X.env)])
  (hdx:(x == ("__debug__":Str))=false) (hdg:(g == ("__debug__":Str))=false) :
  PE X (.Call (.Name "all" p) [.GeneratorExp (.Compare (.Name x p1) [.In] [.Name g p2] p3) [⟨.Name x px,iter,[],0⟩] scope gpos] [] cpos) (EL P tx ti):=by
 intro pins s σ H Q I h
 refine wpAny_Call_Name_kw (lN I hgl hma PyProof.Rows.Boot.«all» ?_)
 refine PyProof.Rows.callWith_builtin1 ?_ hst rfl
 rw [hst]
 show wpAny _ _ (spliced ((false,eval (.GeneratorExp (.Compare (.Name x p1) [.In] [.Name g p2] p3) [⟨.Name x px,iter,[],0⟩] scope gpos) X.env) :: [])) _ _ s
 refine Calls.spliced_cons ?_
 refine wpAny_GeneratorExp_walksQD (I.ok.hd hcalm) hco hclos hcell h0 hx sck hdep ?_ hs
 refine b7 (hi pins s σ H _ I h) fun xv s1 ⟨v,H1,I1,r1,y,ev,hP,q⟩=>?_
 subst ev
 obtain ⟨ty,rfl⟩:=r1
 have t1:eE P s1.heap:=(I1.hok P _ hP).1
 have ltP:P < s1.heap.objs.size:=I1.hok.lt hP
 refine wpAny_pyIter_str fun o St W st0=>?_
 have k1:∀ b ob,s1.heap.get? b=some ob→(s1.heap.push o).get? b=some ob:=fun b ob e=>Heap.get?_push_of_some _ e
 refine ⟨I1.nolimit.keeps k1,?_⟩
 have t2:eE P (s1.heap.push o):=let ⟨ps,hp,tr⟩:=t1;⟨ps,k1 _ _ hp,tr⟩
 refine C4 (X:=X) (s:={ s1 with heap:=s1.heap.push o }) hcode Z (I1.mx.keeps k1) t2 fun code h' tk k sz t'=>?_
 have kk:∀ b ob,b≠P→s1.heap.get? b=some ob→h'.get? b=some ob:=fun b ob nb e=>k b ob nb (k1 b ob e)
 have nsP:∀ (b:Addr) (m:Str→Option Value),s1.heap.Ns b m→b≠P:=fun b m hn z=>by
  obtain ⟨ob,es,ep,ho,hd,_⟩:=hn
  obtain ⟨ps,hp,_⟩:=t1
  rw [z,hp] at ho;cases ho;cases hd
 have nsK:∀ (b:Addr) (m:Str→Option Value),s1.heap.Ns b m→h'.Ns b m:=fun b m hn=>hn.at' fun ob e=>kk b ob (nsP b m hn) e
 have nsG:s1.heap.Ns X.env.globals X.mg:=by rw [I1.ok.glob];exact I1.mod.glob.keeps I1.bk
 have nl:h'.NoLimit:=let ⟨mc,h1,h2⟩:=I1.nolimit;⟨mc,nsK _ _ h1,h2⟩
 have ltC:cStatics < s1.heap.objs.size:=let ⟨mc,h1,_⟩:=I1.nolimit;h1.lt
 have szI:s1.heap.objs.size < h'.objs.size:=Nat.lt_of_lt_of_le (by rw [Heap.size_push];exact Nat.lt_succ_self _) sz
 obtain ⟨bm,ob,b1,b2,b3,b4,b5,b6⟩:=Bm
 have b3':=I1.bk _ _ b3
 have nbm:bm≠P:=fun z=>by
  obtain ⟨ps,hp,_⟩:=t1
  rw [z,hp] at b3'
  rw [← Option.some.inj b3'] at b6;cases b6
 refine wpAny_builtinsFor (nsK _ _ nsG) b1 b2 (kk _ _ nbm b3') b4 b5 b6 ?_
 refine ⟨s1.heap.objs.size,[s1.heap.objs.size],[s1.heap.objs.size],y.cps.size,SignAt y,St,fun _=>true,fun i v=>∃ ch,y.cps[i]?=some ch∧v=.bool (ed tx ch),rfl,W,
  (W X.A (I.ok.hd hcalm)).frame _ _ _ st0 fun b hb o' e=>k b o' (by rw [List.mem_singleton.mp hb];exact Nat.ne_of_gt ltP) e,fun b hb=>by rw [List.mem_singleton.mp hb];exact szI,nl,
  fun hb=>Nat.ne_of_lt ltC (List.mem_singleton.mp hb),fun href kh=>Ed sck hx hsc ((nsK _ _ nsG).keeps kh) hsg (List.mem_range.mpr (nsK _ _ nsG).lt) (fun hb=>Nat.ne_of_lt nsG.lt (List.mem_singleton.mp hb)) hmk hdx hdg,fun a h5 tk5 gs hgs ltA szA k5 WS G=>?_⟩
 refine Calls.spliced_nil ?_
 have pall:passing (fun _=>true) y.cps.size 0=List.range y.cps.size:=by simp [passing]
 have WS:=WS.in4_1
 refine call_all_walkS (WS.self 0 _ _ _ G ⟨a,_,_,_,_,_,_,(fun j=>(y.cps.toList[j]?).elim true (ed tx)),rfl,WS,G,fun j v s Q E hv hQ=>?_,fun s' hm=>?_⟩)
 ·obtain ⟨i,hi,ch,hch,rfl⟩:=hv
  rw [pall] at hi
  have hji:i=j:=by
   obtain ⟨hj,e⟩:=List.getElem?_eq_some_iff.mp hi
   simpa using e.symm
  subst hji
  have e:y.cps.toList[i]?=some ch:=by simpa using hch
  simp only [e,Option.elim] at hQ
  exact wpAny_truthy_bool hQ
 ·have nwr:∀ b,b < s1.heap.objs.size→b ∉ h'.objs.size :: [s1.heap.objs.size]:=fun b hb hm=>by
   rcases List.mem_cons.mp hm with z | z
   ·omega
   ·have:=List.mem_singleton.mp z
    omega
  refine ⟨.bl _,H1,FH I1 hP hm.os ((I1.bare.push hgs).movedS hm) (fun b o' nb e=>hm.heap b o' (nwr b (Heap.lt_size e)) (k5 b o' (kk b o' nb e))) ?_,rfl,?_⟩
  ·obtain ⟨ps,hp,tr⟩:=t'
   exact ⟨ps,hm.heap P _ (nwr P ltP) (k5 P _ hp),tr⟩
  ·rw [pall]
   have e:y.cps.size=y.cps.toList.length:=by simp
   have z:=CC y.cps.toList (ed tx)
   rw [List.length_range,e,z]
   exact q
end
section
variable {X:Cx} {c P:Addr}
theorem DX {x g:Str} {p px p1 p2 p3 gpos cpos:Pos} {iter:Expr} {ti:TE} {scope:Scope} {tx:Str} {tt:Tok} {k:Nat} (hcalm:X.calm=true) (Bm:BMain X.mg X.base) (hcode:X.env.code=.ref c) (Z:sD X.K c P) (hr:bX k X.A)
  (hgl:Gl X "all") (hma:X.mg "all"=none) (hsg:X.mg g=some (.str tx tt)) (hi:QE X iter ti) (sck:scope.kind=.function:=by rfl) (hco:scope.isCoroutine=false:=by rfl) (hclos:closureFor scope X.env=pure []:=by rfl) (hcell:∀ y∈scope.names,y.2≠.cell:=by decide)
  (h0:scope.names.lookup (".0":Str)=some NameKind.local:=by rfl) (hx:scope.names.lookup x=some .local:=by rfl) (hsc:scope.names.lookup g=some .globalImplicit:=by rfl) (hmk:behindInMarks .In (.Name g p2)=false:=by with_unfolding_all rfl) (hs:∀ x,genFold iter X.env x=pure x:=by intro _;rfl)
  (hst:starEach [.GeneratorExp (.Compare (.Name x p1) [.In] [.Name g p2] p3) [⟨.Name x px,iter,[],0⟩] scope gpos] X.env=[(false,eval (.GeneratorExp (.Compare (.Name x p1) [.In] [.Name g p2] p3) [⟨.Name x px,iter,[],0⟩] scope gpos) X.env)]:=by rfl)
  (hdx:(x == ("__debug__":Str))=false:=by decide) (hdg:(g == ("__debug__":Str))=false:=by decide) :
  QE X (.Call (.Name "all" p) [.GeneratorExp (.Compare (.Name x p1) [.In] [.Name g p2] p3) [⟨.Name x px,iter,[],0⟩] scope gpos] [] cpos) (EL P tx ti) :=
 ⟨BW hcalm Bm hcode Z (by have:=hr.dp;omega) hgl hma hsg hi.run sck hco hclos hcell h0 hx hsc hmk hs hst hdx hdg⟩
end
structure Fc (K:PySem.W.Frag) (mg:Str→Option Value) (x:Str) (st:Stmt) (P:Addr) (f:Addr) (fd:FuncData) (c:Addr):Prop where
 fn:cm K x x st f fd
 mg:mg x=some (.ref f)
 code:fd.code=.ref c
 tab:sD K c P
 out:K.lookup P=none
def xZ (K:PySem.W.Frag) (mg:Str→Option Value) (x:Str) (st:Stmt) (P:Addr):Prop:=∃ f fd c,Fc K mg x st P f fd c
section
variable {P:Program} {w:World} {K:PySem.W.Frag} {mg:Str→Option Value} {base:Heap}
theorem Pc {x:Str} {st:Stmt} {T f c:Addr} {fd:FuncData} {N ps:List Str} {k:Nat} {sp:Sp} (F:Fc K mg x st T f fd c) (S:aw N ps (aj st)) (len:∀ vs H Q E,sp vs H Q E→vs.length=ps.length)
  (hbody:∀ (A:Around) (outer:List Env) (s:Shared) (H:Hp) (vs:List V) (Q:VK) (E:XK),bX k (A.deeper (envOfC x (aj st) s.heap.objs.size f (.ref c)))→sp vs H Q E →
   ∃ t,QB (t_ pK P w K mg base N x (aj st) f (.ref c) A outer s H E).Jk (b_ st) t∧t { nx:=fun _ H'=>Q .non H',rt:=Q } (start N vs) H):aO P w K mg base pK (k + 1) f fd ps sp:=by
 obtain ⟨oc,od,kV,doc,pm,an,cdv,ct,osl,rfl,lk,hcd⟩:=F.fn.ex
 obtain rfl:cdv=.ref c:=F.code
 refine CZ lk hcd S len fun A outer s H vs Q E hr hsp=>?_
 obtain ⟨t,h,q⟩:=hbody A outer s H vs Q E hr hsp
 exact ⟨t,h.run.Jk,q⟩
theorem xZ.CI {x:Str} {st:Stmt} {T:Addr} {k:Nat} {ps:List Str} {sp:Sp} (D:xZ K mg x st T)
  (h:∀ f fd c,Fc K mg x st T f fd c→aO P w K mg base pK k f fd ps sp)
  (hb:∀ (kV doc pm:Value) (an:Option Addr) (cdv ct:Value) (us:List Value),us.length=ps.length→bindArgs (PySem.W.fnOf x x (de st) (b_ st) (aj st) .none kV doc pm an cdv ct) ⟨us,[]⟩=pure (ps.zip us)) :
  rd P w K mg base k x ps sp:=by
 obtain ⟨f,fd,c,F⟩:=D
 exact ⟨f,fd,h f fd c F,F.fn.binds hb,F.fn.kp,F.mg⟩
end
def codeB (vs:Array Value):Bool:=(match vs.getD 18 .none with | .str _ _=>true | _=>false) && (match vs.getD 7 .none with | .int _ _=>true | _=>false) && (match vs.getD 9 .none with | .bool _=>true | _=>false) && (match vs.getD 10 .none with | .int _ _=>true | _=>false)
theorem Ft {K:PySem.W.Frag} {h:Heap} {mg:Str→Option Value} {x:Str} {st:Stmt} (X:K.In h) (G:h.Ns mainGlobals mg) {f c T:Addr} {od an od':Option Addr} {sl sl':Array (Option Value)} {vs:Array Value} {oc kV dc pm ct:Value}
  (a:PySem.W.nsIn K mainGlobals x=some (some (.ref f))) (l:K.lookup f=some ⟨oc,od,.func (PySem.W.fnOf x x (de st) (b_ st) (aj st) .none kV dc pm an (.ref c) ct),sl⟩) (cc:PySem.W.codeIn K (.ref c) x=true) (k:PySem.W.keepIn K (.ref f)=true)
  (t:K.lookup c=some ⟨.type "code",od',.fields vs,sl'⟩) (p:vs[11]?=some (.ref T)) (b:codeB vs=true) (ne:c≠T) (out:K.lookup T=none):xZ K mg x st T:=by
 refine ⟨f,_,c,yq l cc k,PySem.W.mg_of X G a,rfl,⟨ne,?_⟩,out⟩
 simp only [codeB,Bool.and_eq_true] at b
 obtain ⟨⟨⟨b1,b2⟩,b3⟩,b4⟩:=b
 cases e1:vs.getD 18 .none with
 | str file tf =>
  cases e2:vs.getD 7 .none with
  | int fl tg =>
   cases e3:vs.getD 9 .none with
   | bool inF =>
    cases e4:vs.getD 10 .none with
    | int text tt=>exact ⟨_,vs,file,tf,fl,tg,inF,text,tt,t,rfl,rfl,p,e1,e2,e3,e4⟩
    | _=>rw [e4] at b4;cases b4
   | _=>rw [e3] at b3;cases b3
  | _=>rw [e2] at b2;cases b2
 | _=>rw [e1] at b1;cases b1
def KD (K:PySem.W.Frag) (mg:Str→Option Value) (names:List Str) (T:Addr):Prop:=∃ x∈names,∃ st,xZ K mg x st T
theorem Bu {P:Program} {w:World} {K:PySem.W.Frag} {mg mb:Str→Option Value} {k:Nat} {fa a:Addr} {fd:FuncData} {x:Str} {sp:Sp} {s₁:Shared} {vs:List Value} {ns:List Int} {tabs:List Addr}
  (KX:K.In s₁.heap) (hns:s₁.heap.Ns mainGlobals mg) (hb:s₁.heap.Ns builtinsNs mb) (hbb:∀ x:Str,x≠"__name__"→mb x=bootBuiltins x) (hlim:s₁.heap.NoLimit) (hg:s₁.gens=#[])
  (ha:s₁.heap.get? a=some { cls:=.type "list",data:=.seq vs.toArray }) (hi:IntsAre vs ns) (hl:ns.length≤sizeLine) (hr:bX k callerA) (hbm:BMain mg s₁.heap)
  (htab:∀ T∈tabs,isCodeTable s₁.heap T∧s₁.heap.get? T=some { cls:=.none,data:=.fields #[] }∧K.lookup T=none)
  (F:∀ base:Heap,K.In base→base.Ns mainGlobals mg→BMain mg base→aO P w K mg base pK k fa fd [x] sp) (hbind:∀ (s:Shared) (u:Value),BindsTo s fd ⟨[u],[]⟩ [(x,u)])
  (hsp:∀ H:Hp,(∀ T∈tabs,H T=some (.ext (eE T)))→c7 K H a (ns.map V.int)→(∀ b,H b≠none→b=a∨b∈tabs)→(∀ u,H a=some u→∃ o xs,u=.oJ o (.lst xs))→sp [.ref a] H (fun v H'=>v=.bl true∧bG H H') fun _ _ _=>False) :
  codeAny (model P w) callerA (.call (.ref fa) ⟨[.ref a],[]⟩) (fun r s'=>r=.ok (.ret (.bool true))∧OldK s₁.heap s'.heap∧s'.os=s₁.os∧AllBare s'.gens) s₁:=by
 have rv:=tM hi
 have lenV:=hi.length
 have naT:∀ T∈tabs,T≠a:=fun T hT z=>by
  have:=(htab T hT).2.1
  rw [z,ha] at this
  have h1:=congrArg Obj.cls (Option.some.inj this)
  cases h1
 have core:∀ H:Hp,(∀ T∈tabs,H T=some (.ext (eE T)))→c7 K H a (ns.map V.int)→l6 P w H s₁.heap→(∀ b,H b≠none→b=a∨b∈tabs)→(∀ u,H a=some u→K.lookup a=none∧∃ o xs,u=.oJ o (.lst xs)) →
   codeAny (model P w) callerA (.call (.ref fa) ⟨[.ref a],[]⟩) (fun r s'=>r=.ok (.ret (.bool true))∧OldK s₁.heap s'.heap∧s'.os=s₁.os∧AllBare s'.gens) s₁:=by
  intro H hT hS hok hA hK
  have base_of:∀ {b:Addr} {o:Obj},s₁.heap.get? b=some o→H b=none→(rL s₁.heap H).get? b=some o:=fun e n=>C6 e n
  have no:∀ {b:Addr} {o:Obj},s₁.heap.get? b=some o→(∀ xs n,o.data≠.seq xs n)→(∀ xs,o.data≠.fields xs)→H b=none:=fun {b o} e d1 d2=>by
   cases q:H b with
   | none=>rfl
   | some u =>
    rcases hA b (by rw [q];simp) with rfl | hb
    ·rw [ha] at e;cases e;exact absurd rfl (d1 _ _)
    ·rw [(htab b hb).2.1] at e;cases e;exact absurd rfl (d2 _)
  have nsK:∀ {b:Addr} {m:Str→Option Value},s₁.heap.Ns b m→(rL s₁.heap H).Ns b m:=fun {b m} ⟨o,es,ep,e,d,r⟩=>⟨o,es,ep,base_of e (no e (fun _ _ z=>by rw [d] at z;cases z) fun _ z=>by rw [d] at z;cases z),d,r⟩
  have hKb:K.In (rL s₁.heap H):=fun b o e=>base_of (KX b o e) (by
   cases q:H b with
   | none=>rfl
   | some u =>
    rcases hA b (by rw [q];simp) with rfl | hb
    ·have:=(hK u q).1
     exact absurd (this.symm.trans e) (fun z=>nomatch z)
    ·have:=(htab b hb).2.2
     exact absurd (this.symm.trans e) (fun z=>nomatch z))
  have hM:Mod K mg (rL s₁.heap H):=⟨hKb,nsK hns,⟨mb,nsK hb,hbb⟩,let ⟨mc,h1,h2⟩:=hlim;⟨mc,nsK h1,h2⟩⟩
  have hbm':BMain mg (rL s₁.heap H):=by
   obtain ⟨bm,ob,b1,b2,b3,b4,b5,b6⟩:=hbm
   exact ⟨bm,ob,b1,b2,base_of b3 (no b3 (fun _ _ z=>by rw [b6] at z;cases z) fun _ z=>by rw [b6] at z;cases z),b4,b5,b6⟩
  have e0:x4 P w K mg (rL s₁.heap H) callerA [] s₁ H:=⟨rfl,hM,fun b o e=>FZ e,Nat.le_of_eq (Bq _ _),trivial,fun b hb=>absurd (show b∈([]:List Addr) from hb) (by simp),hok,.of_eq hg⟩
  refine codeAny_mono ((F _ hKb (nsK hns) hbm').run callerA [] s₁ H ⟨[.ref a],[]⟩ [.ref a] [.ref a] _ _ hr e0 (hbind s₁ (.ref a)) (.cons rfl .nil) (hsp H hT hS hA fun u z=>(hK u z).2)) fun r s' h=>?_
  cases r with
  | error e=>exact False.elim h
  | ok fl =>
   cases fl with
   | next=>exact False.elim h
   | brk=>exact False.elim h
   | cont=>exact False.elim h
   | ret u =>
    obtain ⟨v,H',os,bare,un,hok',r',rfl,same⟩:=h
    obtain rfl:u=Value.bool true:=r'
    refine ⟨rfl,⟨fun b o e=>?_,fun b o e=>?_⟩,os,bare⟩
    ·cases q:H b with
     | none=>exact .inl (un.keep b o e q (by intro z;exact absurd (show b∈([]:List Addr) from z) (by simp)) (by simp))
     | some u =>
      have q':=same b u q
      rcases hA b (by rw [q];simp) with rfl | hb'
      ·obtain ⟨_,ob,xs,rfl⟩:=hK u q
       obtain ⟨e1,_⟩:=hok _ _ q
       obtain ⟨e2,_⟩:=hok' _ _ q'
       rw [e] at e1;cases e1
       exact .inl e2
      ·have hz:=hT b hb'
       rw [q] at hz;cases hz
       obtain ⟨⟨ps,hp,_⟩,_⟩:=hok' _ _ q'
       obtain ⟨t1,t2,_⟩:=htab b hb'
       rw [t2] at e;cases e
       exact .inr (.inl ⟨t1,rfl,#[],ps,rfl,by rw [hp];simp⟩)
    ·exact un.there b o e (by simp)
 have hTt:∀ T∈tabs,∀ H:Hp,c9 P w H s₁.heap T (.ext (eE T)):=fun T hT H=>by
  have:=(htab T hT).2.1
  exact ⟨⟨#[],this,trivial⟩,⟨_,this⟩,fun h1 h2 ⟨ps,hp,tr⟩ kk=>⟨ps,kk _ hp,tr⟩⟩
 cases hk:K.lookup a with
 | some o =>
  have e:=KX a o hk
  rw [ha] at e
  cases e
  refine core (fun b=>if b∈tabs then some (.ext (eE b)) else none) (fun T hT=>if_pos hT) (.inr ⟨_,vs.toArray,_,hk,rfl,rfl,rfl,by rw [List.size_toArray,lenV];exact hl,by simpa using rv⟩) (fun b u z=>?_) (fun b z=>?_) fun u z=>?_
  ·by_cases hb:b∈tabs
   ·have z':=(if_pos hb).symm.trans z
    cases z'
    exact hTt b hb _
   ·have z':=(if_neg hb).symm.trans z
    cases z'
  ·by_cases hb:b∈tabs
   ·exact .inr hb
   ·exact absurd (if_neg hb) z
  ·have hb:a ∉ tabs:=fun hb=>naT a hb rfl
   have z':=(if_neg hb).symm.trans z
   cases z'
 | none =>
  refine core (fun b=>if b=a then some (.oJ { cls:=.type "list",data:=.seq vs.toArray } (.lst (ns.map V.int))) else if b∈tabs then some (.ext (eE b)) else none) (fun T hT=>?_) (.inl (.inr ⟨{ cls:=.type "list",data:=.seq vs.toArray },if_pos rfl⟩)) (fun b u z=>?_) (fun b z=>?_) fun u z=>?_
  ·show (if T=a then _ else _)=_
   rw [if_neg (naT T hT),if_pos hT]
  ·by_cases hb:b=a
   ·have z':=(if_pos hb).symm.trans z
    cases z'
    subst hb
    exact ⟨ha,by rw [List.length_map];exact hl,vs,_,rv,ha⟩
   ·have z:=(if_neg hb).symm.trans z
    by_cases hb:b∈tabs
    ·have z':=(if_pos hb).symm.trans z
     cases z'
     exact hTt b hb _
    ·have z':=(if_neg hb).symm.trans z
     cases z'
  ·by_cases hb:b=a
   ·exact .inl hb
   ·by_cases hb':b∈tabs
    ·exact .inr hb'
    ·exact absurd ((if_neg hb).trans (if_neg hb')) z
  ·have z':=(if_pos rfl).symm.trans z
   cases z'
   exact ⟨hk,_,_,rfl⟩
theorem Kd {p:Program} {loose:List Str} {mean:ExcName→Option Value} {mg mb:Str→Option Value} {h:Heap} {K:PySem.W.Frag} {x:Str} {st:Stmt} {T:Addr} (Tp:Top p loose mean mg mb h) (KX:K.In h) (hx:∃ d∈recsOf p,d.name=x) (D:xZ K mg x st T) :
  isCodeTable h T∧h.get? T=some { cls:=.none,data:=.fields #[] }∧K.lookup T=none:=by
 obtain ⟨f,fd,c,F⟩:=D
 obtain ⟨d,hd,rfl⟩:=hx
 obtain ⟨a',o',fd',c',P',h1,h2,h3,h4,h5,h6⟩:=Tp.tab d hd
 rw [F.mg] at h1;cases h1
 obtain ⟨oc,od,kV,doc,pm,an,cdv,ct,osl,rfl,lk,_⟩:=F.fn.ex
 have:=KX _ _ lk
 rw [h2] at this;cases this
 have e3:fd'=_:=(Data.func.inj h3).symm
 subst e3
 have e4:=F.code.symm.trans h4
 cases e4
 obtain ⟨_,oo,vs,_,_,_,_,_,_,_,lk',_,hd',h11,_⟩:=F.tab
 obtain ⟨⟨o2,vs2,g1,g2,g3,g4⟩,g5⟩:=id h6
 rw [KX _ _ lk'] at g1;cases g1
 rw [hd'] at g3;cases g3
 rw [h11] at g4;cases g4
 exact ⟨h6.isCodeTable,g5,F.out⟩
theorem E1 {l:PySem.W.OpenLaw} {n k:Nat} {q:Program} {loose:List Str} {XP:(Str→Option Value)→Heap→Prop} {YP:World→Heap→Prop} {d:DefRec} {K:Params→PySem.W.Frag} {sp:List Addr→PySem.W.Frag→Sp} {x:Str} (names:List Str)
  (hn:l.most=some n) (hn2:n≤sizeLine) (hdf:d.params.defaults=[]) (hr:bX k callerA) (hY:∀ (w:World) (h:Heap),YP w h→(K w.params).In h) (hnm:∀ x∈names,∃ d∈recsOf q,d.name=x)
  (F:∀ (w:World) (mg:Str→Option Value) (fa:Addr) (h:Heap),(K w.params).In h→h.Ns mainGlobals mg→mg d.name=some (.ref fa) →
   ∃ (fd:FuncData) (tabs:List Addr),(∀ (s:Shared) (u:Value),BindsTo s fd ⟨[u],[]⟩ [(x,u)])∧(∀ T∈tabs,KD (K w.params) mg names T) ∧
    ∀ base:Heap,(K w.params).In base→base.Ns mainGlobals mg→BMain mg base→aO l.prog w (K w.params) mg base pK k fa fd [x] (sp tabs (K w.params)))
  (hsp:∀ (tabs:List Addr) (K:PySem.W.Frag) (H:Hp) (a:Addr) (ns:List Int),ns.length≤n→(∀ T∈tabs,H T=some (.ext (eE T)))→c7 K H a (ns.map V.int)→(∀ b,H b≠none→b=a∨b∈tabs)→(∀ u,H a=some u→∃ o xs,u=.oJ o (.lst xs))→sp tabs K [.ref a] H (fun v H'=>v=.bl true∧bG H H') fun _ _ _=>False) :
  PySem.W.WalkO q loose XP YP l.row.toRowW d [] (fun f vs=>PySem.call f vs):=by
 refine Att.vW hn hdf fun w s₀ s₁ mg mb fa o pm cd doc a vs ns G Y ho hd hcd hmg hobj hints hlen hg=>?_
 have KX:=hY w _ Y
 obtain ⟨fd,tabs,hb,ht,hF⟩:=F w mg fa _ KX G.T.g hmg
 refine Bu KX G.T.g G.T.b G.T.builtins G.T.nolimit hg hobj hints (Nat.le_trans hlen hn2) hr G.T.bmain (fun T hT=>?_) hF hb (fun H hT hS hA hK=>hsp tabs _ H a ns hlen hT hS hA hK)
 obtain ⟨x,hx,st,D⟩:=ht T hT
 exact Kd G.T KX (hnm x hx) D
def De (s:Str):Value→Bool
 | .str y _=>y == s
 | _=>false
def Dc (i:Int):Value→Bool
 | .int j _=>j == i
 | _=>false
theorem Bj {K:PySem.W.Frag} {h:Heap} {mg:Str→Option Value} {x s:Str} {u:Value} (X:K.In h) (G:h.Ns mainGlobals mg) (e:PySem.W.nsIn K mainGlobals x=some (some u)) (hu:De s u=true):∃ t,mg x=some (.str s t):=by
 cases u with
 | str y t =>
  have:y=s:=by simpa [De] using hu
  subst this
  exact ⟨t,PySem.W.mg_of X G e⟩
 | _=>cases hu
theorem const_int {K:PySem.W.Frag} {h:Heap} {mg:Str→Option Value} {x:Str} {i:Int} {u:Value} (X:K.In h) (G:h.Ns mainGlobals mg) (e:PySem.W.nsIn K mainGlobals x=some (some u)) (hu:Dc i u=true):∃ t,mg x=some (.int i t):=by
 cases u with
 | int y t =>
  have:y=i:=by simpa [Dc] using hu
  subst this
  exact ⟨t,PySem.W.mg_of X G e⟩
 | _=>cases hu
section
variable {X:Cx} {tg:Expr}
end
section
variable {prog:Program} {w:World} {A:Around} {R:Result→Shared→Prop} {s:Shared}
theorem yA {elt iter cnd:Expr} {x:Str} {px:Pos} {sc:Scope} {pos:Pos} {it acc:Value} {env:Env} (I:Nat→Shared→Prop)
  (turn:∀ n s,I n s→wpAny (model prog w) A (pyNext it) (fun r s₁=>match r with
   | none=>R (.ok .next) s₁
   | some v=>wpAny (model prog w) A (letOwnedTupleGo (.Name x px) it v) (fun _ s₂=>wpAny (model prog w) A (assign (.Name x px) env v) (fun _ s₃=>wpAny (model prog w) A (isTrue cnd env (eval cnd env)) (fun ok s₃=>if ok=true then wpAny (model prog w) A (eval elt env) (fun y s₄ =>
     wpAny (model prog w) A (call (.builtin "list.append") [acc,y]) (fun _ s₅=>∃ m,m < n∧I m s₅) (fun _ _=>False) s₄) (fun _ _=>False) s₃ else ∃ m,m < n∧I m s₃) (fun _ _=>False) s₃) (fun _ _=>False) s₂) (fun _ _=>False) s₁) (fun _ _=>False) s)
  (n:Nat) (h:I n s):codeAny (model prog w) A (.compLoop (.ListComp elt [⟨.Name x px,iter,[cnd],0⟩] sc pos) 0 it acc env) R s:=by
 refine codeAny_loop rfl I (fun n s hI=>?_) n h
 show wpAny _ _ ((compTurn (.ListComp elt [⟨.Name x px,iter,[cnd],0⟩] sc pos) 0 it acc env).onRaise (fun x=>do noteFrame x env;theTreesLotGoes x)) _ _ s
 refine wpAny_noted ?_
 rw [compTurn_list]
 have no:∀ (e:Value) (s':Shared),False→notedBy (model prog w) A env (fun e s'=>R (.error e) s') e s':=fun _ _ z=>z.elim
 refine wpAny_bind (wpAny_standAt (wpAny_bind (wpAny_mono (turn n s hI) (fun r s₁ h₁=>?_) no)))
 cases r with
 | none=>exact wpAny_pure h₁
 | some v =>
  refine wpAny_bind (wpAny_mono h₁ (fun _ s₂ h₂=>?_) no)
  refine wpAny_bind (wpAny_mono h₂ (fun _ s₃ h₃=>wpAny_bind (wpAny_mono (wpAny_tests_one h₃) (fun ok s₃' h₃'=>?_) no)) no)
  cases ok with
  | false=>exact wpAny_pure ⟨rfl,h₃'⟩
  | true =>
   exact wpAny_bind (wpAny_bind (wpAny_mono h₃' (fun y s₄ h₄=>wpAny_bind (wpAny_mono h₄ (fun _ s₅ h₅=>wpAny_pure (wpAny_pure ⟨rfl,h₅⟩)) no)) no))
end
def Ka (wi:TI) (ks:List (Str × Nat)) (tc:TT) (te:TE):TE:=fun σ H Q=>wi σ H fun J H1=>∀ D,H1 D=none→∃ W:Nat→Nat→Hp→Prop,(∃ m,W 0 m (upd H1 D (.lst []))) ∧
 ∀ i m H2,W i m H2→(J.stop i H2∧Q (.ref D) H2)∨(J.go i H2∧∀ v H3,J.yld i H2 v H3→tc (some v :: dk ks σ) H3 fun b H4=>if b=true then te (some v :: dk ks σ) H4 fun y H5=>∃ ys,H5 D=some (.lst ys)∧ys.length < sizeLine∧∃ m',m' < m∧W (i + 1) m' (upd H5 D (.lst (ys ++ [y]))) else ∃ m',m' < m∧W (i + 1) m' H4)
section
variable {X:Cx}
theorem B1 {elt iter cnd:Expr} {x:Str} {px:Pos} {sc:Scope} {pos:Pos} {te:TE} {tc:TT} {ks:List (Str × Nat)} {cl:List (Str × Addr)} {pins:List (Addr × Obj)} {σ:L2.St} {H:Hp} {s:Shared} {it:Addr} {fp:List Addr} {tn:Nat→Heap→Prop} {J:It} {Q:VK}
  {RR:Value→Addr→Result→Shared→Prop} {E:Value→Shared→Prop}
  (hc:X.calm=true) (ok:cO sc X.env.scope X.N x ks) (h1:∀ y c,cl.lookup y=some c→X.env.cells.lookup y=some c) (h2:∀ y∈sc.names,y.2=.free→∃ c,cl.lookup y.1=some c)
  (he:∀ cl C s₀ H₀ fp pins,PE (e_ X sc cl C x ks s₀ H₀ fp pins) elt te) (hcn:∀ cl C s₀ H₀ fp pins,PT (e_ X sc cl C x ks s₀ H₀ fp pins) cnd tc)
  (I:Inv X pins σ H s) (T:Turn X.prog X.w X.K (.Name x px) J fp it tn) (st:tn 0 s.heap) (f:∀ b∈fp,i4 X pins H b)
  (hw:∀ D,H D=none→∃ W:Nat→Nat→Hp→Prop,(∃ m,W 0 m (upd H D (.lst [])))∧∀ i m H2,W i m H2→(J.stop i H2∧Q (.ref D) H2) ∨
   (J.go i H2∧∀ v H3,J.yld i H2 v H3→tc (some v :: dk ks σ) H3 fun b H4=>if b=true then te (some v :: dk ks σ) H4 fun y H5=>∃ ys,H5 D=some (.lst ys)∧ys.length < sizeLine∧∃ m',m' < m∧W (i + 1) m' (upd H5 D (.lst (ys ++ [y]))) else ∃ m',m' < m∧W (i + 1) m' H4))
  (hR:∀ (D C:Addr) (s':Shared) (H':Hp) (m:Str→Option Value),Inv X pins σ H' s'→Q (.ref D) H'→s'.heap.Ns C m→H' C=none→C≠X.env.locals→X.s₀.heap.objs.size≤C→(∀ y c,X.env.cells.lookup y=some c→c≠C)→(∀ p∈X.pn ++ pins,p.1≠C)→RR (.ref D) C (.ok .next) s') :
  wpAny (model X.prog X.w) X.A (newList []) (fun acc s₃=>wpAny (model X.prog X.w) X.A (newFunctionEnv sc X.env.globals cl [] X.env.qual none .none (some X.env)) (fun cenv s₄ =>
   codeAny (model X.prog X.w) X.A (.compStart (.ListComp elt [⟨.Name x px,iter,[cnd],0⟩] sc pos) 0 (.ref it) acc { cenv with scope:=relabel sc X.env }) (RR acc cenv.locals) s₄) E s₃) E s:=by
 have okk:=ok
 obtain ⟨kd,nc,lx,ll,fr,kk,nd⟩:=okk
 have hD0:H s.heap.objs.size=none:=I.hok.fresh (Nat.le_refl _)
 obtain ⟨W,⟨m0,w0⟩,turn⟩:=hw s.heap.objs.size hD0
 refine wpAny_newObj_type ?_
 have I3:Inv X pins σ (upd H s.heap.objs.size (.lst [])) { s with heap:=s.heap.push { cls:=.type "list",dict:=none,data:=.seq ([]:List Value).toArray } } :=
  I.laid (t':=s.toks) (fun b u e=>Heap.get?_push_of_some _ e) (Nat.le_refl _) (show c9 X.prog X.w _ _ _ (.lst []) from ⟨Nat.zero_le _,[],0,.nil,Heap.get?_push_size _ rfl⟩)
 have st3:tn 0 (s.heap.push { cls:=.type "list",dict:=none,data:=.seq ([]:List Value).toArray }):=T.keep 0 _ _ st fun b hb o e=>Heap.get?_push_of_some _ e
 generalize hD:s.heap.objs.size=D at *
 generalize hH:upd H D (.lst [])=H3 at *
 generalize hs3:({ s with heap:=s.heap.push { cls:=.type "list",dict:=none,data:=.seq ([]:List Value).toArray } }:Shared)=s3 at *
 have e3:s.heap.push { cls:=.type "list",dict:=none,data:=.seq ([]:List Value).toArray }=s3.heap:=by rw [← hs3]
 rw [e3] at st3
 have fD:∀ b∈fp,b≠D:=fun b hb z=>by
  obtain ⟨o,ho,_⟩:=T.obj 0 _ st b hb
  have:=Heap.lt_size ho
  rw [z,← hD] at this
  exact Nat.lt_irrefl _ this
 have f3:∀ b∈fp,i4 X pins H3 b:=fun b hb=>⟨by rw [← hH,aQ (fD b hb)];exact (f b hb).1,(f b hb).2⟩
 have g3:∀ b∈fp,∃ o,s3.heap.get? b=some o:=fun b hb=>by
  obtain ⟨o,ho,_⟩:=T.obj 0 _ st3 b hb
  exact ⟨o,ho⟩
 refine wpAny_newFunctionEnv nc (by intro y hy;simp at hy) (fun h₁ hns hsb=>?_) kd
 have kp:∀ b o,s3.heap.get? b=some o→h₁.get? b=some o:=fun b o e=>hsb.extBut b o (Nat.ne_of_lt (Heap.lt_size e)) (Heap.get?_push_of_some _ e)
 have J0:=qk (fp:=fp) (cl:=cl) (t':=s3.toks + ([]:List (Str × Value)).length) I3 ok h1 h2 (fun b hb=>⟨f3 b hb,g3 b hb⟩) hns kp
 have st4:tn 0 h₁:=T.keep 0 _ _ st3 fun b hb o e=>kp b o e
 have ltC:∀ b o,s3.heap.get? b=some o→b≠s3.heap.objs.size:=fun b o e=>Nat.ne_of_lt (Heap.lt_size e)
 have cC:∀ y c,X.env.cells.lookup y=some c→c≠s3.heap.objs.size:=fun y c e=>by
  obtain ⟨v,o,ho,_⟩:=I3.cell y c e
  exact ltC c o ho
 have pC:∀ p∈X.pn ++ pins,p.1≠s3.heap.objs.size:=fun p hp=>ltC _ _ (I3.pin p hp).1
 have lC:s3.heap.objs.size≠X.env.locals:=Nat.ne_of_gt I3.lt
 have fX:∀ {H':Hp},(∀ b∈fp,H' b=none)→∀ b∈fp,i4 (e_ X sc cl s3.heap.objs.size x ks s3 H3 fp pins) [] H' b:=fun hn b hb=>by
  obtain ⟨o,ho⟩:=g3 b hb
  obtain ⟨_,q1,q2,q3,q4,q5⟩:=f b hb
  refine ⟨hn b hb,ltC b o ho,fun z=>?_,.inl hb,fun y c e=>q4 y c (h1 y c e),fun p hp=>q5 p (by simpa [e_] using hp)⟩
  rcases List.mem_cons.mp (I3.l3 b z) with e | e
  ·exact q1 e
  ·exact q2 e
 have back:∀ {o:Option V} {H':Hp} {s':Shared},Inv (e_ X sc cl s3.heap.objs.size x ks s3 H3 fp pins) [] (o :: dk ks σ) H' s'→Inv X pins σ H' s':=fun {o H' s'} J=>by
  obtain ⟨hh,g,d,t,os'⟩:=s'
  obtain rfl:os'=s3.os:=J.os
  exact I3.call (h':=hh) (g':=g) (d':=d) (t':=t) (ch:=fp) J.base J.hok J.bare fun b hb=>⟨(f b hb).2.2.2.1,(f b hb).2.1,(f b hb).2.2.2.2.1,(f b hb).2.2.2.2.2⟩
 have lookX:(relabel sc X.env).names.lookup x=some .local:=lookup_relabel_local lx
 have loop:∀ s',(∃ (i:Nat) (o:Option V) (H':Hp),Inv (e_ X sc cl s3.heap.objs.size x ks s3 H3 fp pins) [] (o :: dk ks σ) H' s'∧tn i s'.heap∧(∀ b∈fp,H' b=none)∧W i m0 H') →
   codeAny (model X.prog X.w) X.A (.compLoop (.ListComp elt [⟨.Name x px,iter,[cnd],0⟩] sc pos) 0 (.ref it) (.ref D) (compEnvC sc cl s3.heap.objs.size X.env)) (RR (.ref D) s3.heap.objs.size) s':=by
  intro s' hs'
  refine yA (fun n s'=>∃ (i:Nat) (o:Option V) (H':Hp),Inv (e_ X sc cl s3.heap.objs.size x ks s3 H3 fp pins) [] (o :: dk ks σ) H' s'∧tn i s'.heap∧(∀ b∈fp,H' b=none)∧W i n H') ?_ m0 hs'
  rintro n s5 ⟨i,o,H5,J5,t5,n5,w5⟩
  rcases turn i n H5 w5 with ⟨stop,hq⟩ | ⟨go,step⟩
  ·refine b7 (T.done (e_ X sc cl s3.heap.objs.size x ks s3 H3 fp pins) rfl rfl rfl hc i [] s5 _ H5 _ J5 (fX n5) t5 stop) fun r s6 ⟨hr,J6⟩=>?_
   subst hr
   obtain ⟨m,hm,_⟩:=J6.loc
   exact hR D _ s6 H5 m (back J6) hq hm J6.free lC I3.sz cC pC
  ·refine b7 (T.item (e_ X sc cl s3.heap.objs.size x ks s3 H3 fp pins) rfl rfl rfl hc i [] s5 _ H5 _ J5 (fX n5) t5 go) fun r s6 ⟨u,hr,h6⟩=>?_
   subst hr
   refine b7 h6 fun _ s7 ⟨v,H7,J7,r7,y7,t7,n7⟩=>?_
   have J7':=J7.pinned (fX n7) (T.obj _ _ t7)
   refine wpAny_assign_Name (fC (X:=e_ X sc cl s3.heap.objs.size x ks s3 H3 fp pins) (i:=0) J7' nd rfl (.inl lookX) r7 (fun s8 J8=>?_) (.inr lookX))
   refine b7 (hcn cl s3.heap.objs.size s3 H3 fp pins _ s8 _ H7 _ J8 (step v H7 y7)) fun ok s8' ⟨H8,J8',q8⟩=>?_
   cases ok with
   | false =>
    simp only [Bool.false_eq_true,if_false] at q8 ⊢
    obtain ⟨m',hm,w'⟩:=q8
    refine ⟨m',hm,i + 1,_,_,J8'.fE,?_,?_,w'⟩
    ·exact T.keep _ _ _ t7 fun b hb o e=>(J8'.pin (b,o) (List.mem_append_right _ (List.mem_append_right _ (bZ hb e)))).1
    ·intro b hb
     obtain ⟨o,e,d⟩:=T.obj _ _ t7 b hb
     exact (J8'.pin (b,o) (List.mem_append_right _ (List.mem_append_right _ (bZ hb e)))).2.1
   | true =>
    simp only [if_true] at q8 ⊢
    refine b7 (he cl s3.heap.objs.size s3 H3 fp pins _ s8' _ H8 _ J8' q8) fun y s9 ⟨vy,H9,J9,r9,ys,hys,hz,m',hm,w'⟩=>?_
    refine b7 (f' (X:=e_ X sc cl s3.heap.objs.size x ks s3 H3 fp pins) _ s9 _ H9 (.ref D) [vy] (.ref D) [y] (fun _ H'=>H'=upd H9 D (.lst (ys ++ [vy]))) J9 rfl (.cons r9 .nil) ⟨D,ys,vy,rfl,rfl,hys,hz,rfl⟩) fun _ s10 ⟨_,H10,J10,_,eH⟩=>?_
    subst eH
    refine ⟨m',hm,i + 1,_,_,J10.fE,?_,?_,w'⟩
    ·exact T.keep _ _ _ t7 fun b hb o e=>(J10.pin (b,o) (List.mem_append_right _ (List.mem_append_right _ (bZ hb e)))).1
    ·intro b hb
     obtain ⟨o,e,d⟩:=T.obj _ _ t7 b hb
     exact (J10.pin (b,o) (List.mem_append_right _ (List.mem_append_right _ (bZ hb e)))).2.1
 have l0:=loop _ ⟨0,none,H3,J0,st4,fun b hb=>(f3 b hb).1,w0⟩
 exact codeAny_compStart_list l0 (T.self _ 0 _ _ _ st4 l0)
def Mw (wi:TI) (ks:List (Str × Nat)) (tc:TT) (te:TE) (i:Nat):TS:=fun D σ H=>Ka wi ks tc te σ H fun v H1=>D.nx (σ.set i (some v)) H1
theorem D5 {elt iter cnd:Expr} {x y:Str} {px py:Pos} {sc:Scope} {pos spos:Pos} {wi:TI} {te:TE} {tc:TT} {i:Nat} (osc:Scope) (N:List Str) (ks:List (Str × Nat)) (hc:X.calm=true) (ho:X.env.scope=osc) (hN:X.N=N) (hnd:X.N.Nodup) (hy:X.N[i]?=some y) (hl:Loc X.env.scope y)
  (hi:PI X (.Name x px) iter wi) (he:∀ cl C s₀ H₀ fp pins,PE (e_ X sc cl C x ks s₀ H₀ fp pins) elt te) (hcn:∀ cl C s₀ H₀ fp pins,PT (e_ X sc cl C x ks s₀ H₀ fp pins) cnd tc) (ok:cO sc osc N x ks:=by decide +kernel) (hs:∀ x,foldedSetIterable iter X.env x=pure x:=by intro _;rfl)
  (hsw:swapsWith (.ListComp elt [⟨.Name x px,iter,[cnd],0⟩] sc pos) (some (.Name y py)) spos.line X.env=pure true:=by rfl) (hf:X.fn y=true∨X.env.scope.names.lookup y=some .local:=by first | exact .inl rfl | exact .inr rfl | assumption) :
  PS X (.Assign [.Name y py] (.ListComp elt [⟨.Name x px,iter,[cnd],0⟩] sc pos) spos) (Mw wi ks tc te i):=by
 intro pins s σ H Dn I hw
 obtain ⟨cl,hcl,h1,h2⟩:=jg (mE ok I ho)
 have ok':cO sc X.env.scope X.N x ks:=by rw [ho,hN];exact ok
 rw [exec_Assign_Name_used _ _ _ _ hsw]
 refine wpAny_bind (wpAny_standAt (wpAny_bind ?_))
 show wpAny _ X.A (do let _ ← comprehension (.ListComp elt [⟨.Name x px,iter,[cnd],0⟩] sc pos) sc X.env _ (newList []) false (eval iter X.env) (some (assign (.Name y py) X.env))) _ _ s
 refine wpAny_bind (wpAny_mono (wpAny_comprehension_free (use:=some (assign (.Name y py) X.env)) (Q:=fun _ s'=>SP X pins Dn .next s') rfl hs hcl ok.1 ok.2.2.2.1
  (b7 (hi pins s σ H _ I hw) fun v s1 h3=>b7 h3 fun itv s2 h4=>?_)) (fun _ s' hq=>wpAny_pure (wpAny_pure hq)) fun _ _ e=>e)
 obtain ⟨it,fp,tn,J,H2,rfl,I2,T,st2,f2,hR⟩:=h4
 refine B1 (Q:=fun v H1=>Dn.nx (σ.set i (some v)) H1) (RR:=fun acc C=>compPost (model X.prog X.w) X.A X.xe (some (assign (.Name y py) X.env)) (fun _ s'=>SP X pins Dn .next s') acc C) hc ok' h1 h2 he hcn I2 T st2 f2 hR ?_
 intro D C s' H' m J' q hn hC cl' cs cc cp
 show wpAny _ X.A (assign (.Name y py) X.env (.ref D)) _ _ _
 refine wpAny_assign_Name (ot J' hnd hy hl (v:=.ref D) rfl (fun s'' J'' ⟨a,hsb,ha⟩=>?_) hf)
 refine ⟨m,hn.sameBut hsb (fun z=>?_),fun h' hsb'=>⟨_,H',?_,q⟩⟩
 ·rcases ha with e | e
  ·exact cl' (z.trans e)
  ·exact cc _ _ e z.symm
 ·exact J''.turned (t':=s''.toks) (it:=C) (fun b o ne e=>hsb'.extBut b o ne e) hC cl' (.inr cs) cc cp
end
end Ov
namespace Ov
open PySem PySem.Spec PyProof.Rows
open L2 (V HO Hp Inv Cx VK XK TE TT TA TS TG pX TI TO k9 Ends vS Loc Gl Rd RelV Vals fF xO cx pQ sG pT k8 R2 upd aJ aQ c7 gM Sp rj It bG)
inductive PV where
 | non | bl (b:Bool) | int (i:Int) | str (x:Str) | ref (a:Addr) | ty (n:String) | tup (xs:List PV) | fl (xs:List PV)
inductive HQ where
 | lst (xs:List PV) | ins (C:Addr) (fs:List (Str × PV)) | dct (kvs:List (Str × PV)) (ep:Nat) | tab | dtp (hs:List Str→Int) (ks:List (List Str))
def M6 (hs:List Str→Int) (a:Addr) (xs:List (List Str × Addr × Value)) (h:Heap):Prop:=(a == sysModules)=false∧xs.length≤sizeLine∧(xs.map (·.1)).Nodup∧∃ o es ep,h.get? a=some o∧o.ExactDict∧o.data=.dict es ep∧es.toList=xs.map fun x=>(⟨hs x.1,.ref x.2.1,x.2.2⟩:DictEntry)
abbrev Hq:=Addr→Option HQ
def put (J:Hq) (a:Addr) (o:HQ):Hq:=fun b=>if b=a then some o else J b
theorem av {J:Hq} {a:Addr} {o:HQ}:put J a o a=some o:=by unfold put;rw [if_pos rfl]
theorem au {J:Hq} {a b:Addr} {o:HQ} (h:b≠a):put J a o b=J b:=by unfold put;rw [if_neg h]
theorem d4 {J:Hq} {a:Addr} {o u:HQ}:put (put J a o) a u=put J a u:=by
 funext b;unfold put;split <;> rfl
theorem D9 {J:Hq} {a b:Addr} {o u:HQ} (h:a≠b):put (put J a o) b u=put (put J b u) a o:=by
 funext c;unfold put
 by_cases h1:c=b <;> by_cases h2:c=a <;> simp [h1,h2]
 ·exact absurd (h2.symm.trans h1) h
 ·intro z;exact absurd z.symm h
 ·intro z;exact absurd z h
theorem yZ {J:Hq} {a:Addr} {o:HQ} (h:J a=some o):put J a o=J:=by
 funext b;unfold put
 by_cases e:b=a
 ·subst e;rw [if_pos rfl,h]
 ·rw [if_neg e]
def Cr (K:PySem.W.Frag) (J:Hq) (H:Hp) (a:Addr) (vs:List V):Prop:=(J a=none∧Rd H a (.lst vs))∨∃ (o:Obj) (its:Array Value) (n:Nat),K.lookup a=some o∧o.cls=.type "list"∧o.dict=none∧o.data=.seq its n∧its.size≤sizeLine∧Vals vs its.toList
theorem Cr.sq {K:PySem.W.Frag} {J:Hq} {H:Hp} {a:Addr} {vs:List V} (h:Cr K J H a vs):c7 K H a vs:=by
 rcases h with h | h
 ·exact .inl h.2
 ·exact .inr h
section
variable (K:PySem.W.Frag)
mutual
def cq (J:Hq) (H:Hp):PV→V→Prop
 | .non,v=>v=.non
 | .bl b,v=>v=.bl b
 | .int i,v=>v=.int i
 | .str x,v=>v=.str x
 | .ref a,v=>v=.ref a
 | .ty n,v=>v=.ty n
 | .tup xs,v=>∃ a vs,v=.ref a∧gM K H a vs∧aS J H xs vs
 | .fl xs,v=>∃ a vs,v=.ref a∧Cr K J H a vs∧aS J H xs vs
def aS (J:Hq) (H:Hp):List PV→List V→Prop
 | [],vs=>vs=[]
 | x :: xs,vs=>∃ v us,vs=v :: us∧cq J H x v∧aS J H xs us
end
def lI {κ:Type} (J:Hq) (H:Hp) (fs:List (κ × PV)) (gs:List (κ × V)):Prop:=fs.map (·.1)=gs.map (·.1)∧aS K J H (fs.map (·.2)) (gs.map (·.2))
def Cy (J:Hq) (H:Hp) (a:Addr):HQ→Prop
 | .lst xs=>∃ vs,H a=some (.lst vs)∧aS K J H xs vs
 | .ins C fs=>∃ dx gs,H a=some (.ins C dx gs)∧lI K J H fs gs
 | .dct kvs ep=>∃ gs,H a=some (.dE gs ep)∧lI K J H kvs gs
 | .tab=>H a=some (.ext (eE a))
 | .dtp hs ks=>∃ xs:List (List Str × Addr × Value),xs.map (·.1)=ks∧H a=some (.ext (M6 hs a xs))∧∀ x∈xs,gM K H x.2.1 (x.1.map V.str)
def Rep (J:Hq) (H:Hp):Prop:=∀ a o,J a=some o→Cy K J H a o
structure Ext (J:Hq) (H:Hp) (J':Hq) (H':Hp):Prop where
 tup:∀ a vs,gM K H a vs→gM K H' a vs
 ll:∀ a o,J a=none→H a=some o→((∃ vs,o=.lst vs)∨∃ ob vs,o=.oJ ob (.lst vs))→J' a=none∧H' a=some o
end
section
variable {K:PySem.W.Frag} {J J' J'':Hq} {H H' H'':Hp}
theorem Ext.fl (e:Ext K J H J' H') (a:Addr) (vs:List V) (n:J a=none) (h:Rd H a (.lst vs)):J' a=none∧Rd H' a (.lst vs):=by
 rcases h with h | ⟨o,h⟩
 ·obtain ⟨a,b⟩:=e.ll a _ n h (.inl ⟨_,rfl⟩);exact ⟨a,.inl b⟩
 ·obtain ⟨a,b⟩:=e.ll a _ n h (.inr ⟨_,_,rfl⟩);exact ⟨a,.inr ⟨o,b⟩⟩
theorem Ext.flat (e:Ext K J H J' H') {a:Addr} {vs:List V} (h:Cr K J H a vs):Cr K J' H' a vs:=by
 rcases h with h | h
 ·exact .inl (e.fl a vs h.1 h.2)
 ·exact .inr h
mutual
theorem Ext.rep (e:Ext K J H J' H'):∀ {x:PV} {v:V},cq K J H x v→cq K J' H' x v
 | .non,_,h=>h
 | .bl _,_,h=>h
 | .int _,_,h=>h
 | .str _,_,h=>h
 | .ref _,_,h=>h
 | .ty _,_,h=>h
 | .tup xs,_,⟨a,vs,e1,h,k⟩=>⟨a,vs,e1,e.tup _ _ h,Ext.iS e k⟩
 | .fl xs,_,⟨a,vs,e1,h,k⟩=>⟨a,vs,e1,e.flat h,Ext.iS e k⟩
theorem Ext.iS (e:Ext K J H J' H'):∀ {xs:List PV} {vs:List V},aS K J H xs vs→aS K J' H' xs vs
 | [],_,h=>h
 | _ :: _,_,⟨v,us,e1,h,k⟩=>⟨v,us,e1,Ext.rep e h,Ext.iS e k⟩
end
theorem Ext.refl:Ext K J H J H:=⟨fun _ _ h=>h,fun _ _ n h _=>⟨n,h⟩⟩
theorem Ext.trans (a:Ext K J H J' H') (b:Ext K J' H' J'' H''):Ext K J H J'' H'' :=
 ⟨fun c vs h=>b.tup c vs (a.tup c vs h),fun c o n h z=>b.ll c o (a.ll c o n h z).1 (a.ll c o n h z).2 z⟩
theorem Ext.xi {κ:Type} (e:Ext K J H J' H') {fs:List (κ × PV)} {gs:List (κ × V)} (h:lI K J H fs gs):lI K J' H' fs gs:=⟨h.1,e.iS h.2⟩
theorem Ext.same (s:bG H H'):Ext K J H J H':=⟨fun a vs h=>s.tup h,fun a o n h _=>⟨n,s _ _ h⟩⟩
theorem Cy.same (s:bG H H') {a:Addr} {o:HQ} (h:Cy K J H a o):Cy K J H' a o:=by
 have e:=Ext.same (K:=K) (J:=J) s
 cases o with
 | lst xs=>obtain ⟨vs,h1,h2⟩:=h;exact ⟨vs,s _ _ h1,e.iS h2⟩
 | ins C fs=>obtain ⟨dx,gs,h1,h2⟩:=h;exact ⟨dx,gs,s _ _ h1,e.xi h2⟩
 | dct kvs ep=>obtain ⟨gs,h1,h2⟩:=h;exact ⟨gs,s _ _ h1,e.xi h2⟩
 | tab=>exact s _ _ (show H a=some (.ext (eE a)) from h)
 | dtp hs ks=>obtain ⟨xs,h0,h1,h2⟩:=h;exact ⟨xs,h0,s _ _ h1,fun x hx=>s.tup (h2 x hx)⟩
theorem Rep.same (s:bG H H') (h:Rep K J H):Rep K J H':=fun a o q=>(h a o q).same s
theorem Ext.less (h:∀ a,J' a=J a∨J' a=none):Ext K J H J' H:=⟨fun _ _ h=>h,fun a o n z _=>⟨(h a).elim (fun e=>e.trans n) (fun e=>e),z⟩⟩
theorem Rep.less (h:∀ a,J' a=J a∨J' a=none) (r:Rep K J H):Rep K J' H:=fun a o q=>by
 have e:J a=some o:=by
  rcases h a with e | e
  ·rw [← e];exact q
  ·rw [e] at q;cases q
 have x:=Ext.less (K:=K) (H:=H) h
 have z:=r a o e
 cases o with
 | lst xs=>obtain ⟨vs,h1,h2⟩:=z;exact ⟨vs,h1,x.iS h2⟩
 | ins C fs=>obtain ⟨dx,gs,h1,h2⟩:=z;exact ⟨dx,gs,h1,x.xi h2⟩
 | dct kvs ep=>obtain ⟨gs,h1,h2⟩:=z;exact ⟨gs,h1,x.xi h2⟩
 | tab=>exact z
 | dtp hs ks=>exact z
theorem aS.length:∀ {xs:List PV} {vs:List V},aS K J H xs vs→xs.length=vs.length
 | [],_,h=>by cases h;rfl
 | _ :: xs,_,⟨v,us,e1,_,k⟩=>by subst e1;simp [aS.length k]
theorem aS.get:∀ {xs:List PV} {vs:List V} {i:Nat} {x:PV},aS K J H xs vs→xs[i]?=some x→∃ v,vs[i]?=some v∧cq K J H x v
 | [],_,i,x,h,e=>by simp at e
 | y :: xs,_,0,x,⟨v,us,e1,h,k⟩,e=>by subst e1;simp at e;subst e;exact ⟨v,rfl,h⟩
 | y :: xs,_,i + 1,x,⟨v,us,e1,h,k⟩,e=>by
  subst e1
  obtain ⟨w,h1,h2⟩:=aS.get (i:=i) (x:=x) k (by simpa using e)
  exact ⟨w,by simpa using h1,h2⟩
theorem aS.get':∀ {xs:List PV} {vs:List V} {i:Nat} {v:V},aS K J H xs vs→vs[i]?=some v→∃ x,xs[i]?=some x∧cq K J H x v
 | [],_,i,x,h,e=>by cases h;simp at e
 | y :: xs,_,0,x,⟨v,us,e1,h,k⟩,e=>by subst e1;simp at e;subst e;exact ⟨y,rfl,h⟩
 | y :: xs,_,i + 1,x,⟨v,us,e1,h,k⟩,e=>by
  subst e1
  obtain ⟨w,h1,h2⟩:=aS.get' (i:=i) (v:=x) k (by simpa using e)
  exact ⟨w,by simpa using h1,h2⟩
theorem aS.append:∀ {xs ys:List PV} {vs us:List V},aS K J H xs vs→aS K J H ys us→aS K J H (xs ++ ys) (vs ++ us)
 | [],_,_,_,h,k=>by cases h;exact k
 | x :: xs,ys,_,us,⟨v,ws,e1,h,h'⟩,k=>by subst e1;exact ⟨v,ws ++ us,rfl,h,aS.append h' k⟩
theorem aS.drop:∀ (n:Nat) {xs:List PV} {vs:List V},aS K J H xs vs→aS K J H (xs.drop n) (vs.drop n)
 | 0,_,_,h=>h
 | n + 1,[],_,h=>by cases h;rfl
 | n + 1,x :: xs,_,⟨v,ws,e1,h,h'⟩=>by subst e1;exact aS.drop n h'
theorem aS.take:∀ (n:Nat) {xs:List PV} {vs:List V},aS K J H xs vs→aS K J H (xs.take n) (vs.take n)
 | 0,_,_,h=>rfl
 | n + 1,[],_,h=>by cases h;rfl
 | n + 1,x :: xs,_,⟨v,ws,e1,h,h'⟩=>by subst e1;exact ⟨v,_,rfl,h,aS.take n h'⟩
theorem lI.look {κ:Type} [BEq κ] [LawfulBEq κ] {f:κ}:∀ {fs:List (κ × PV)} {gs:List (κ × V)} {x:PV},lI K J H fs gs→fs.lookup f=some x→∃ v,gs.lookup f=some v∧cq K J H x v
 | [],_,_,_,e=>by cases e
 | (k,y) :: fs,[],x,h,e=>by cases h.1
 | (k,y) :: fs,(k',w) :: gs,x,h,e=>by
  obtain ⟨h1,v,us,h2,h3,h4⟩:=h
  simp only [List.map_cons,List.cons.injEq] at h1 h2
  obtain ⟨rfl,h1⟩:=h1
  obtain ⟨rfl,rfl⟩:=h2
  rw [List.lookup_cons] at e ⊢
  cases hk:f == k with
  | true=>rw [hk] at e;cases e;exact ⟨w,rfl,h3⟩
  | false=>rw [hk] at e;exact lI.look ⟨h1,h4⟩ e
theorem lI.none {κ:Type} [BEq κ] [LawfulBEq κ] {f:κ}:∀ {fs:List (κ × PV)} {gs:List (κ × V)},lI K J H fs gs→fs.lookup f=none→gs.lookup f=none
 | [],[],_,_=>rfl
 | [],_ :: _,h,e=>by cases h.1
 | (k,y) :: fs,[],h,e=>by cases h.1
 | (k,y) :: fs,(k',w) :: gs,h,e=>by
  obtain ⟨h1,v,us,h2,h3,h4⟩:=h
  simp only [List.map_cons,List.cons.injEq] at h1 h2
  obtain ⟨rfl,h1⟩:=h1
  obtain ⟨rfl,rfl⟩:=h2
  rw [List.lookup_cons] at e ⊢
  cases hk:f == k with
  | true=>rw [hk] at e;cases e
  | false=>rw [hk] at e;exact lI.none ⟨h1,h4⟩ e
end
section
variable {K:PySem.W.Frag} {J J':Hq} {H H':Hp} {p:Addr}
theorem FW {a p:Addr} {o:HQ} (r:Rep K J H) (h:J a=some o) (n:H p=none):a≠p:=by
 intro e;subst e
 have:=r _ _ h
 cases o with
 | lst xs=>obtain ⟨vs,h1,_⟩:=this;rw [n] at h1;cases h1
 | ins C fs=>obtain ⟨dx,gs,h1,_⟩:=this;rw [n] at h1;cases h1
 | dct kvs ep=>obtain ⟨gs,h1,_⟩:=this;rw [n] at h1;cases h1
 | tab=>have h1:H a=some (.ext (eE a)):=this;rw [n] at h1;cases h1
 | dtp hs ks=>obtain ⟨xs,_,h1,_⟩:=this;rw [n] at h1;cases h1
theorem Rep.free (r:Rep K J H) (n:H p=none):J p=none:=by
 cases e:J p with
 | none=>rfl
 | some o=>exact absurd rfl (FW r e n)
theorem Ext.laid {o:HO} {u:HQ} (n:H p=none):Ext K J H (put J p u) (upd H p o):=by
 refine ⟨fun a vs h=>(bG.new n o).tup h,fun a o' z h _=>⟨?_,bG.new n o _ _ h⟩⟩
 have ne:a≠p:=by intro e;subst e;rw [n] at h;cases h
 rw [au ne];exact z
theorem Rep.B' {J':Hq} {H':Hp} (e:Ext K J H J' H') (r:Rep K J H) (p:Addr) (q:∀ a,a≠p→J' a=J a) (s:∀ a o,a≠p→J a≠none→H a=some o→H' a=some o) (h:∀ u,J' p=some u→Cy K J' H' p u):Rep K J' H':=fun a o z=>by
 by_cases ep:a=p
 ·subst ep;exact h o z
 ·rw [q a ep] at z
  have t:=r a o z
  have jn:J a≠none:=by rw [z];exact fun y=>nomatch y
  cases o with
  | lst xs=>obtain ⟨vs,h1,h2⟩:=t;exact ⟨vs,s _ _ ep jn h1,e.iS h2⟩
  | ins C fs=>obtain ⟨dx,gs,h1,h2⟩:=t;exact ⟨dx,gs,s _ _ ep jn h1,e.xi h2⟩
  | dct kvs eq=>obtain ⟨gs,h1,h2⟩:=t;exact ⟨gs,s _ _ ep jn h1,e.xi h2⟩
  | tab=>exact s _ _ ep jn (show H a=some (.ext (eE a)) from t)
  | dtp hs ks=>obtain ⟨xs,h0,h1,h2⟩:=t;exact ⟨xs,h0,s _ _ ep jn h1,fun x hx=>e.tup _ _ (h2 x hx)⟩
theorem Rep.Dl {xs:List PV} {vs:List V} (r:Rep K J H) (n:H p=none) (h:aS K J H xs vs):Rep K (put J p (.lst xs)) (upd H p (.lst vs)):=by
 have e:=Ext.laid (K:=K) (J:=J) (o:=.lst vs) (u:=.lst xs) n
 refine r.B' e p (fun a ne=>au ne) (fun a o ne _ z=>by rw [aQ ne];exact z) fun u z=>?_
 rw [av] at z;cases z
 exact ⟨vs,aJ,e.iS h⟩
theorem Ext.wrote {xs ys:List PV} {ws vs:List V} (h:J p=some (.lst xs)) (k:H p=some (.lst ws)):Ext K J H (put J p (.lst ys)) (upd H p (.lst vs)):=by
 have sm:∀ a u,(∀ l,u≠HO.lst l)∨a≠p→Rd H a u→Rd (upd H p (.lst vs)) a u:=fun a u d z=>by
  have ne:a≠p:=by
   rcases d with d | d
   ·intro e;subst e
    rcases z with z | ⟨o,z⟩
    ·rw [k] at z;cases z;exact d _ rfl
    ·rw [k] at z;cases z
   ·exact d
  rcases z with z | ⟨o,z⟩
  ·exact .inl (by rw [aQ ne];exact z)
  ·exact .inr ⟨o,by rw [aQ ne];exact z⟩
 refine ⟨fun a vs' z=>?_,fun a o z q _=>?_⟩
 ·rcases z with z | z
  ·exact .inl (sm a _ (.inl fun l e=>nomatch e) z)
  ·exact .inr z
 ·have ne:a≠p:=by intro e;subst e;rw [h] at z;cases z
  exact ⟨by rw [au ne];exact z,by rw [aQ ne];exact q⟩
theorem Rep.wrote {xs ys:List PV} {ws vs:List V} (r:Rep K J H) (h:J p=some (.lst xs)) (k:H p=some (.lst ws)) (q:aS K J H ys vs):Rep K (put J p (.lst ys)) (upd H p (.lst vs)):=by
 have e:=Ext.wrote (K:=K) (ys:=ys) (vs:=vs) h k
 refine r.B' e p (fun a ne=>au ne) (fun a o ne _ z=>by rw [aQ ne];exact z) fun u z=>?_
 rw [av] at z;cases z
 exact ⟨vs,aJ,e.iS q⟩
end
abbrev Sr:=List (Option PV)
abbrev di:=Sr→Hq→(PV→Hq→Prop)→Prop
abbrev lK:=Sr→Hq→(Bool→Hq→Prop)→Prop
abbrev oy:=Sr→Hq→(List PV→Hq→Prop)→Prop
structure En where
 nx:Sr→Hq→Prop
 rt:PV→Hq→Prop
 bk:Sr→Hq→Prop:=fun _ _=>False
 ct:Sr→Hq→Prop:=fun _ _=>False
abbrev jJ:=En→Sr→Hq→Prop
structure lJ (K:PySem.W.Frag) (J:Hq) (H:Hp) (τ:Sr) (σ:L2.St):Prop where
 len:τ.length=σ.length
 get:∀ (i:Nat) (x:PV),τ[i]?=some (some x)→∃ v,σ[i]?=some (some v)∧cq K J H x v
theorem lJ.ext {K:PySem.W.Frag} {J J':Hq} {H H':Hp} {τ:Sr} {σ:L2.St} (r:lJ K J H τ σ) (e:Ext K J H J' H'):lJ K J' H' τ σ :=
 ⟨r.len,fun i x h=>let ⟨v,a,b⟩:=r.get i x h;⟨v,a,e.rep b⟩⟩
theorem lJ.set {K:PySem.W.Frag} {J:Hq} {H:Hp} {τ:Sr} {σ:L2.St} (r:lJ K J H τ σ) {x:PV} {v:V} (i:Nat) (h:cq K J H x v):lJ K J H (τ.set i (some x)) (σ.set i (some v)):=by
 refine ⟨by rw [List.length_set,List.length_set,r.len],fun j y e=>?_⟩
 by_cases hj:i=j
 ·subst hj
  by_cases hl:i < τ.length
  ·rw [List.getElem?_set_self hl] at e
   cases e
   exact ⟨v,List.getElem?_set_self (by rw [← r.len];exact hl),h⟩
  ·rw [List.getElem?_eq_none (by rw [List.length_set];omega)] at e
   cases e
 ·rw [List.getElem?_set_ne hj] at e ⊢
  exact r.get j y e
abbrev G2:=Hq × Hp
structure vK (K:PySem.W.Frag) (G:G2) (τ:Sr) (J:Hq) (σ:L2.St) (H:Hp):Prop where
 sl:lJ K J H τ σ
 hp:Rep K J H
 ext:Ext K G.1 G.2 J H
section
variable (K:PySem.W.Frag) (G:G2)
def LE (t:di):TE:=fun σ H Q=>∃ τ J Q2,vK K G τ J σ H∧t τ J Q2∧∀ x J' v H',cq K J' H' x v→Rep K J' H'→Ext K J H J' H'→Q2 x J'→Q v H'
def LT (t:lK):TT:=fun σ H Q=>∃ τ J Q2,vK K G τ J σ H∧t τ J Q2∧∀ b J' H',Rep K J' H'→Ext K J H J' H'→Q2 b J'→Q b H'
def LA (t:oy):TA:=fun σ H Q=>∃ τ J Q2,vK K G τ J σ H∧t τ J Q2∧∀ xs J' vs H',aS K J' H' xs vs→Rep K J' H'→Ext K J H J' H'→Q2 xs J'→Q vs H'
structure Goes (J:Hq) (H:Hp) (D2:En) (D:Ends):Prop where
 nx:∀ τ J' σ H',lJ K J' H' τ σ→Rep K J' H'→Ext K J H J' H'→D2.nx τ J'→D.nx σ H'
 rt:∀ x J' v H',cq K J' H' x v→Rep K J' H'→Ext K J H J' H'→D2.rt x J'→D.rt v H'
 bk:∀ τ J' σ H',lJ K J' H' τ σ→Rep K J' H'→Ext K J H J' H'→D2.bk τ J'→D.bk σ H'
 ct:∀ τ J' σ H',lJ K J' H' τ σ→Rep K J' H'→Ext K J H J' H'→D2.ct τ J'→D.ct σ H'
def LS (t:jJ):TS:=fun D σ H=>∃ τ J D2,vK K G τ J σ H∧t D2 τ J∧Goes K J H D2 D
end
theorem Goes.ext {K:PySem.W.Frag} {J J':Hq} {H H':Hp} {D2:En} {D:Ends} (g:Goes K J H D2 D) (e:Ext K J H J' H'):Goes K J' H' D2 D :=
 ⟨fun τ J1 σ H1 a b c=>g.nx τ J1 σ H1 a b (e.trans c),fun x J1 v H1 a b c=>g.rt x J1 v H1 a b (e.trans c),fun τ J1 σ H1 a b c=>g.bk τ J1 σ H1 a b (e.trans c),fun τ J1 σ H1 a b c=>g.ct τ J1 σ H1 a b (e.trans c)⟩
theorem vK.go {K:PySem.W.Frag} {G:G2} {τ:Sr} {J J':Hq} {σ:L2.St} {H H':Hp} (a:vK K G τ J σ H) (r:Rep K J' H') (e:Ext K J H J' H'):vK K G τ J' σ H':=⟨a.sl.ext e,r,a.ext.trans e⟩
structure RE (X:Cx) (G:G2) (e:Expr) (t:di):Prop where
 run:L2.PE X e (LE X.K G t)
structure RT (X:Cx) (G:G2) (e:Expr) (t:lK):Prop where
 run:L2.PT X e (LT X.K G t)
structure RW (X:Cx) (G:G2) (e:Expr) (t:lK):Prop where
 run:L2.PW X e (LT X.K G t)
structure RA (X:Cx) (G:G2) (es:List Expr) (t:oy):Prop where
 run:L2.PA X es (LA X.K G t)
structure RS (X:Cx) (G:G2) (st:Stmt) (t:jJ):Prop where
 run:L2.PS X st (LS X.K G t)
structure RB (X:Cx) (G:G2) (st:List Stmt) (t:jJ):Prop where
 run:L2.sF X st (LS X.K G t)
theorem lh {X:Cx} {e:Expr} {t t':TE} (h:L2.PE X e t) (k:∀ σ H Q,t' σ H Q→t σ H Q):L2.PE X e t':=fun pins s σ H Q I q=>h pins s σ H Q I (k _ _ _ q)
theorem MW {X:Cx} {e:Expr} {t t':TT} (h:L2.PT X e t) (k:∀ σ H Q,t' σ H Q→t σ H Q):L2.PT X e t':=fun pins s σ H Q I q=>h pins s σ H Q I (k _ _ _ q)
theorem OQ {X:Cx} {e:Expr} {t t':TT} (h:L2.PW X e t) (k:∀ σ H Q,t' σ H Q→t σ H Q):L2.PW X e t':=fun wh pins s σ H Q I q=>h wh pins s σ H Q I (k _ _ _ q)
theorem NR {X:Cx} {e:List Expr} {t t':TA} (h:L2.PA X e t) (k:∀ σ H Q,t' σ H Q→t σ H Q):L2.PA X e t':=fun pos pins s σ H Q I q=>h pos pins s σ H Q I (k _ _ _ q)
theorem yV {X:Cx} {e:Stmt} {t t':TS} (h:L2.PS X e t) (k:∀ D σ H,t' D σ H→t D σ H):L2.PS X e t':=fun pins s σ H D I q=>h pins s σ H D I (k _ _ _ q)
theorem NS {X:Cx} {e:List Stmt} {t t':TS} (h:L2.sF X e t) (k:∀ D σ H,t' D σ H→t D σ H):L2.sF X e t':=fun pins s σ H D I q=>h pins s σ H D I (k _ _ _ q)
end Ov
namespace Ov
open PySem PySem.Spec PyProof.Rows
open L2 (V HO Hp Inv Cx VK XK TE TT TA TS TG pX TI TO k9 Ends vS Loc Gl Rd RelV Vals fF xO cx pQ sG pT k8 R2 upd aJ aQ c7 gM Sp rj It bG du bX Passes oV aF Meth Mk Binds aO cm aw c_ gK)
section
variable {X:Cx} {G:G2} {a b c e o:Expr} {es rest:List Expr} {ta tb te tc to:di} {tA tB':lK} {t:oy} {pos px p p2 apos cpos:Pos} {x:Str} {i j:Nat}
def jw (i:Nat):di:=fun τ J Q=>∃ x,τ[i]?=some (some x)∧Q x J
theorem rv (i:Nat) {x:Str} {pos:Pos} (hN:X.N[i]?=some x:=by rfl) (hv:vS X.env.scope x:=by first | exact Or.inl rfl | exact Or.inr (Or.inl rfl) | exact Or.inr (Or.inr rfl)) (hd:(x == ("__debug__":Str))=false:=by decide)
  (hcd:(x == ("__classdict__":Str))=false:=by decide):RE X G (.Name x pos) (jw i) :=
 ⟨lh (L2.yR hN hv hd hcd) fun σ H Q ⟨τ,J,Q2,a2,⟨y,ey,q⟩,k⟩=>let ⟨v,e1,r⟩:=a2.sl.get i y ey;⟨v,e1,k y J v H r a2.hp .refl q⟩⟩
def rC (x:PV):di:=fun _ J Q=>Q x J
theorem ag {i:Int} {j pos}:RE X G (.Constant (.int i) j pos) (rC (.int i)):=⟨lh L2.aP fun σ H Q ⟨τ,J,Q2,a2,q,k⟩=>k (.int i) J _ H rfl a2.hp .refl q⟩
theorem dn {b:Bool} {j pos}:RE X G (.Constant (.bool b) j pos) (rC (.bl b)):=⟨lh L2.w6 fun σ H Q ⟨τ,J,Q2,a2,q,k⟩=>k (.bl b) J _ H rfl a2.hp .refl q⟩
theorem lT {j pos}:RE X G (.Constant .none j pos) (rC .non):=⟨lh L2.yO fun σ H Q ⟨τ,J,Q2,a2,q,k⟩=>k .non J _ H rfl a2.hp .refl q⟩
theorem bW {x:Str} {j pos}:RE X G (.Constant (.str x) j pos) (rC (.str x)):=⟨lh L2.nW fun σ H Q ⟨τ,J,Q2,a2,q,k⟩=>k (.str x) J _ H rfl a2.hp .refl q⟩
theorem fS {v:V} {u:Value} (y:PV) (hg:Gl X x) (hm:X.mg x=some u) (r:RelV v u) (hr:∀ J H,cq X.K J H y v) (hd:(x == ("__debug__":Str))=false:=by decide):RE X G (.Name x pos) (rC y) :=
 ⟨lh (L2.o8 hg hm r hd) fun σ H Q ⟨τ,J,Q2,a2,q,k⟩=>k y J v H (hr J H) a2.hp .refl q⟩
theorem kj {n:String} (hg:Gl X x) (hm:X.mg x=none) (hv:bootBuiltins x=some (.type n)) (hn:x≠"__name__":=by decide) (hd:(x == ("__debug__":Str))=false:=by decide):RE X G (.Name x pos) (rC (.ty n)) :=
 ⟨lh (L2.uG (v:=.ty n) hg hm hv rfl hn hd) fun σ H Q ⟨τ,J,Q2,a2,q,k⟩=>k (.ty n) J _ H rfl a2.hp .refl q⟩
abbrev me:=PV→PV→Hq→(PV→Hq→Prop)→Prop
abbrev KA:=PV→Hq→(PV→Hq→Prop)→Prop
abbrev zA:=List PV→Hq→(PV→Hq→Prop)→Prop
def Kn (K:PySem.W.Frag) (J:Hq) (H:Hp) (Q2:PV→Hq→Prop) (Q:VK):Prop:=∀ z J' u H',cq K J' H' z u→Rep K J' H'→Ext K J H J' H'→Q2 z J'→Q u H'
def LR (K:PySem.W.Frag) (r:R2) (q:me):Prop:=∀ J H x y v w Q2 Q,cq K J H x v→cq K J H y w→Rep K J H→q x y J Q2→Kn K J H Q2 Q→r v w H Q
def O3 (K:PySem.W.Frag) (r:V→Hp→VK→Prop) (q:KA):Prop:=∀ J H x v Q2 Q,cq K J H x v→Rep K J H→q x J Q2→Kn K J H Q2 Q→r v H Q
def Ou (K:PySem.W.Frag) (r:List V→Hp→VK→Prop) (q:zA):Prop:=∀ J H xs vs Q2 Q,aS K J H xs vs→Rep K J H→q xs J Q2→Kn K J H Q2 Q→r vs H Q
def md (X:Cx) (f:Value→Value→Sem Value) (q:me):Prop:=∃ r,fF X f r∧LR X.K r q
def Ox (X:Cx) (f:Value→Sem Value) (q:KA):Prop:=∃ r,xO X f r∧O3 X.K r q
def M7 (X:Cx) (q:me):Prop:=∃ r,pQ X r∧LR X.K r q
def Ig (X:Cx) (f:Value) (q:zA):Prop:=∃ r,cx X f r∧Ou X.K r q
def vL (q:me) (ta tb:di):di:=fun τ J Q=>ta τ J fun x J1=>tb τ J1 fun y J2=>q x y J2 Q
def OY (q:KA) (ta:di):di:=fun τ J Q=>ta τ J fun x J1=>q x J1 Q
theorem o5 {r:R2} {q:me} (lr:LR X.K r q):∀ σ H Q,LE X.K G (vL q ta tb) σ H Q→L2.ET r (LE X.K G ta) (LE X.K G tb) σ H Q:=fun σ H Q ⟨τ,J,Q2,a2,h,k⟩ =>
 ⟨τ,J,_,a2,h,fun x J1 v H1 rx r1 e1 q1=>⟨τ,J1,_,a2.go r1 e1,q1,fun y J2 w H2 ry r2 e2 q2 =>
  lr J2 H2 x y v w Q2 Q (e2.rep rx) ry r2 q2 fun z J' u H' rz rr ee qq=>k z J' u H' rz rr ((e1.trans e2).trans ee) qq⟩⟩
theorem aL {op:Operator} {q:me} (ho:md X (binaryOp op) q) (ha:RE X G a ta) (hb:RE X G b tb):RE X G (.BinOp a op b pos) (vL q ta tb):=by
 obtain ⟨r,h,lr⟩:=ho
 exact ⟨lh (L2.bB h ha.run hb.run) (o5 lr)⟩
theorem tq {op:UnaryOp} {q:KA} (ho:Ox X (unaryOp op) q) (ha:RE X G a ta):RE X G (.UnaryOp op a pos) (OY q ta):=by
 obtain ⟨r,h,lr⟩:=ho
 exact ⟨lh (L2.Ak h ha.run) fun σ H Q ⟨τ,J,Q2,a2,h,k⟩=>⟨τ,J,_,a2,h,fun x J1 v H1 rx r1 e1 q1 =>
  lr J1 H1 x v Q2 Q rx r1 q1 fun z J' u H' rz rr ee qq=>k z J' u H' rz rr (e1.trans ee) qq⟩⟩
theorem aq {q:me} (hr:M7 X q) (ha:RE X G a ta) (hb:RE X G b tb) (hs:du b):RE X G (.Subscript a b pos) (vL q ta tb):=by
 obtain ⟨r,h,lr⟩:=hr
 exact ⟨lh (L2.cj h ha.run hb.run hs) (o5 lr)⟩
theorem fh {op:CmpOp} {q:me} (ho:md X (compareOp op) q) (ha:RE X G a ta) (hb:RE X G b tb) (hm:behindInMarks op b=false):RE X G (.Compare a [op] [b] pos) (vL q ta tb):=by
 obtain ⟨r,h,lr⟩:=ho
 exact ⟨lh (L2.o7 h ha.run hb.run hm) (o5 lr)⟩
def rB (t:di):lK:=fun τ J Q=>t τ J fun x J1=>∃ k,x=.bl k∧Q k J1
theorem aI {op:CmpOp} {q:me} (ho:md X (compareOp op) q) (ha:RE X G a ta) (hb:RE X G b tb) (hm:behindInMarks op b=false):RT X G (.Compare a [op] [b] pos) (rB (vL q ta tb)):=by
 obtain ⟨r,h,lr⟩:=ho
 refine ⟨MW (L2.dA h ha.run hb.run hm) fun σ H Q ⟨τ,J,Q2,a2,h,k⟩=>?_⟩
 refine o5 lr σ H _ ⟨τ,J,_,a2,h,fun z J' u H' rz rr ee qq=>?_⟩
 obtain ⟨b,rfl,q⟩:=qq
 exact ⟨b,rz,k b J' H' rr ee q⟩
theorem bj (h:RE X G e te) (he:∀ whole,isTrue e X.env whole=(do let v ← whole;standAt e.pos;holding [v] (truthy v)):=by intro _;rfl):RT X G e (rB te) :=
 ⟨MW (L2.yX h.run he) fun σ H Q ⟨τ,J,Q2,a2,h,k⟩=>⟨τ,J,_,a2,h,fun z J' u H' rz rr ee ⟨b,eb,q⟩=>by subst eb;exact ⟨b,rz,k b J' H' rr ee q⟩⟩⟩
def vH (J:Hq):PV→Option Bool
 | .non=>some false
 | .bl b=>some b
 | .int i=>some (i != 0)
 | .tup xs=>some (!xs.isEmpty)
 | .fl xs=>some (!xs.isEmpty)
 | .ref a=>match J a with
  | some (.lst xs)=>some (!xs.isEmpty)
  | some (.dct kvs _)=>some (!kvs.isEmpty)
  | _=>none
 | _=>none
theorem gR {α β:Type} {xs:List α} {ys:List β} (h:xs.length=ys.length):xs.isEmpty=ys.isEmpty:=by cases xs <;> cases ys <;> simp_all
theorem G3 {K:PySem.W.Frag} {J:Hq} {H:Hp} {x:PV} {v:V} {k:Bool} (r:cq K J H x v) (hp:Rep K J H) (h:vH J x=some k):L2.Ip K v H k:=by
 cases x with
 | non=>cases r;cases h;rfl
 | bl b=>cases r;cases h;rfl
 | int i=>cases r;cases h;rfl
 | str s=>cases h
 | ty n=>cases h
 | tup xs=>obtain ⟨a,vs,rfl,h1,h2⟩:=r;cases h;exact .inr (.inl ⟨vs,h1,by rw [gR h2.length]⟩)
 | fl xs=>obtain ⟨a,vs,rfl,h1,h2⟩:=r;cases h;exact .inl ⟨vs,h1.sq,by rw [gR h2.length]⟩
 | ref a =>
  cases r
  unfold vH at h
  dsimp only at h
  cases e:J a with
  | none=>rw [e] at h;cases h
  | some o =>
   rw [e] at h
   have z:=hp a o e
   cases o with
   | lst xs=>obtain ⟨vs,h1,h2⟩:=z;cases h;exact .inl ⟨vs,.inl (.inl h1),by rw [gR h2.length]⟩
   | ins C fs=>cases h
   | tab=>cases h
   | dtp hs ks=>cases h
   | dct kvs ep =>
    obtain ⟨gs,h1,h2⟩:=z;cases h
    refine .inr (.inr ⟨gs,ep,h1,?_⟩)
    have:=congrArg List.length h2.1
    simp only [List.length_map] at this
    rw [gR this]
def Mj (te:di):lK:=fun τ J Q=>te τ J fun x J1=>∃ k,vH J1 x=some k∧Q k J1
theorem JR (h:RE X G e te) (he:∀ whole,isTrue e X.env whole=(do let v ← whole;standAt e.pos;holding [v] (truthy v)):=by intro _;rfl):RT X G e (Mj te) :=
 ⟨MW (L2.D6 h.run he) fun σ H Q ⟨τ,J,Q2,a2,h,k⟩=>⟨τ,J,_,a2,h,fun z J' u H' rz rr ee ⟨b,eb,q⟩=>⟨b,G3 rz rr eb,k b J' H' rr ee q⟩⟩⟩
def Gu (t u:lK):lK:=fun τ J Q=>t τ J fun c J1=>if c=true then u τ J1 Q else Q false J1
def N3 (t u:lK):lK:=fun τ J Q=>t τ J fun c J1=>if c=true then Q true J1 else u τ J1 Q
def Mc (t:lK):lK:=fun τ J Q=>t τ J fun c J1=>Q (!c) J1
theorem bQ (ha:RT X G a tA):RT X G (.UnaryOp .Not a pos) (Mc tA):=⟨MW (L2.yW ha.run) fun σ H Q ⟨τ,J,Q2,a2,h,k⟩=>⟨τ,J,_,a2,h,fun b J' H' rr ee q=>k _ J' H' rr ee q⟩⟩
theorem dB (ha:RT X G a tA):RW X G (.BoolOp .And [a] pos) tA:=⟨L2.o_ ha.run⟩
theorem fM (ha:RT X G a tA):RW X G (.BoolOp .Or [a] pos) tA:=⟨L2.uR ha.run⟩
theorem CF {σ:L2.St} {H:Hp} {Q:Bool→Hp→Prop}:LT X.K G (Gu tA tB') σ H Q→L2.EM (LT X.K G tA) (LT X.K G tB') σ H Q:=fun ⟨τ,J,Q2,a2,h,k⟩ =>
 ⟨τ,J,_,a2,h,fun b J' H' rr ee q=>by
  cases b with
  | true=>simp only [if_true] at q ⊢;exact ⟨τ,J',Q2,a2.go rr ee,q,fun b J2 H2 r2 e2 q2=>k b J2 H2 r2 (ee.trans e2) q2⟩
  | false=>simp only [Bool.false_eq_true,if_false] at q ⊢;exact k _ J' H' rr ee q⟩
theorem F9 {σ:L2.St} {H:Hp} {Q:Bool→Hp→Prop}:LT X.K G (N3 tA tB') σ H Q→L2.My (LT X.K G tA) (LT X.K G tB') σ H Q:=fun ⟨τ,J,Q2,a2,h,k⟩ =>
 ⟨τ,J,_,a2,h,fun b J' H' rr ee q=>by
  cases b with
  | false=>simp only [Bool.false_eq_true,if_false] at q ⊢;exact ⟨τ,J',Q2,a2.go rr ee,q,fun b J2 H2 r2 e2 q2=>k b J2 H2 r2 (ee.trans e2) q2⟩
  | true=>simp only [if_true] at q ⊢;exact k _ J' H' rr ee q⟩
theorem eQ (ha:RT X G a tA) (hb:RW X G (.BoolOp .And (b :: rest) pos) tB'):RW X G (.BoolOp .And (a :: b :: rest) pos) (Gu tA tB'):=⟨OQ (L2.uQ ha.run hb.run) fun σ H Q h=>CF h⟩
theorem gS (ha:RT X G a tA) (hb:RW X G (.BoolOp .Or (b :: rest) pos) tB'):RW X G (.BoolOp .Or (a :: b :: rest) pos) (N3 tA tB'):=⟨OQ (L2.Ap ha.run hb.run) fun σ H Q h=>F9 h⟩
theorem c4 (h:RW X G e tA):RT X G e tA:=⟨h.run.pt⟩
def HJ (ta tb:di):di:=fun τ J Q=>ta τ J fun x J1=>∃ c,x=.bl c∧if c=true then tb τ J1 Q else Q (.bl false) J1
def Md (ta tb:di):di:=fun τ J Q=>ta τ J fun x J1=>∃ c,x=.bl c∧if c=true then Q (.bl true) J1 else tb τ J1 Q
def HN (ta:di):di:=fun τ J Q=>ta τ J fun x J1=>∃ c,x=.bl c∧Q (.bl (!c)) J1
theorem uV {op} (h:RE X G a ta):RE X G (.BoolOp op [a] pos) ta:=⟨L2.yQ h.run⟩
theorem y4 (ha:RE X G a ta) (hb:RE X G (.BoolOp .And (b :: rest) pos) tb):RE X G (.BoolOp .And (a :: b :: rest) pos) (HJ ta tb):=⟨lh (L2.yN ha.run hb.run) fun σ H Q ⟨τ,J,Q2,a2,h,k⟩ =>
 ⟨τ,J,_,a2,h,fun x J' v H' rx rr ee ⟨c,ec,q⟩=>by
  subst ec
  refine ⟨c,rx,?_⟩
  cases c with
  | true=>simp only [if_true] at q ⊢;exact ⟨τ,J',Q2,a2.go rr ee,q,fun z J2 u H2 rz r2 e2 q2=>k z J2 u H2 rz r2 (ee.trans e2) q2⟩
  | false=>simp only [Bool.false_eq_true,if_false] at q ⊢;exact k (.bl false) J' _ H' rfl rr ee q⟩⟩
theorem Mp (ha:RE X G a ta) (hb:RE X G (.BoolOp .Or (b :: rest) pos) tb):RE X G (.BoolOp .Or (a :: b :: rest) pos) (Md ta tb):=⟨lh (L2.D1 ha.run hb.run) fun σ H Q ⟨τ,J,Q2,a2,h,k⟩ =>
 ⟨τ,J,_,a2,h,fun x J' v H' rx rr ee ⟨c,ec,q⟩=>by
  subst ec
  refine ⟨c,rx,?_⟩
  cases c with
  | false=>simp only [Bool.false_eq_true,if_false] at q ⊢;exact ⟨τ,J',Q2,a2.go rr ee,q,fun z J2 u H2 rz r2 e2 q2=>k z J2 u H2 rz r2 (ee.trans e2) q2⟩
  | true=>simp only [if_true] at q ⊢;exact k (.bl true) J' _ H' rfl rr ee q⟩⟩
theorem JL (ha:RE X G a ta):RE X G (.UnaryOp .Not a pos) (HN ta):=⟨lh (L2.yP ha.run) fun σ H Q ⟨τ,J,Q2,a2,h,k⟩ =>
 ⟨τ,J,_,a2,h,fun x J' v H' rx rr ee ⟨c,ec,q⟩=>by subst ec;exact ⟨c,rx,k (.bl (!c)) J' _ H' rfl rr ee q⟩⟩⟩
def OU (t:lK) (ta tb:di):di:=fun τ J Q=>t τ J fun c J1=>if c=true then ta τ J1 Q else tb τ J1 Q
theorem Mn (hc:RT X G c tA) (ha:RE X G a ta) (hb:RE X G b tb):RE X G (.IfExp c a b pos) (OU tA ta tb):=⟨lh (L2.qF hc.run ha.run hb.run) fun σ H Q ⟨τ,J,Q2,a2,h,k⟩ =>
 ⟨τ,J,_,a2,h,fun c J' H' rr ee q=>by
  cases c with
  | true=>simp only [if_true] at q ⊢;exact ⟨τ,J',Q2,a2.go rr ee,q,fun z J2 u H2 rz r2 e2 q2=>k z J2 u H2 rz r2 (ee.trans e2) q2⟩
  | false=>simp only [Bool.false_eq_true,if_false] at q ⊢;exact ⟨τ,J',Q2,a2.go rr ee,q,fun z J2 u H2 rz r2 e2 q2=>k z J2 u H2 rz r2 (ee.trans e2) q2⟩⟩⟩
def sj:oy:=fun _ J Q=>Q [] J
def kg (ta:di) (tr:oy):oy:=fun τ J Q=>ta τ J fun x J1=>tr τ J1 fun xs J2=>Q (x :: xs) J2
theorem ah:RA X G [] sj:=⟨NR L2.bK fun σ H Q ⟨τ,J,Q2,a2,h,k⟩=>k [] J [] H rfl a2.hp .refl h⟩
theorem af (ha:RE X G e te) (hr:RA X G es t) (hs:starEach (e :: es) X.env=(false,eval e X.env) :: starEach es X.env:=by rfl):RA X G (e :: es) (kg te t) :=
 ⟨NR (L2.aW ha.run hr.run hs) fun σ H Q ⟨τ,J,Q2,a2,h,k⟩=>⟨τ,J,_,a2,h,fun x J' v H' rx rr ee q=>⟨τ,J',_,a2.go rr ee,q,fun xs J2 vs H2 rs r2 e2 q2=>k (x :: xs) J2 (v :: vs) H2 ⟨v,vs,rfl,e2.rep rx,rs⟩ r2 (ee.trans e2) q2⟩⟩⟩
def vP:V→PV
 | .non=>.non | .bl b=>.bl b | .int i=>.int i | .str x=>.str x | _=>.non
theorem qL {K:PySem.W.Frag} {J:Hq} {H:Hp}:∀ {es:List Expr} {vs:List V},es.map t9=vs.map some→aS K J H (vs.map vP) vs
 | [],[],_=>rfl
 | [],_ :: _,h=>by cases h
 | _ :: _,[],h=>by cases h
 | e :: es,v :: vs,h=>by
  rw [List.map_cons,List.map_cons] at h
  injection h with h1 h2
  refine ⟨v,vs,rfl,?_,qL h2⟩
  cases e with
  | Constant c j pos =>
   cases c with
   | int i=>cases h1;rfl
   | str x=>cases h1;rfl
   | bool b=>cases h1;rfl
   | _=>cases h1
  | _=>cases h1
theorem y3 {es:List Expr} (vs:List V) (h:es.map t9=vs.map some) (xs:List PV) (hx:vs.map vP=xs):RA X G es (fun _ J Q=>Q xs J) :=
 ⟨NR (qD vs h) fun σ H Q ⟨τ,J,Q2,a2,q,k⟩=>k _ J _ H (by rw [← hx];exact qL h) a2.hp .refl q⟩
def Ml (t:oy):di:=fun τ J Q=>t τ J fun xs J1=>xs.length≤sizeLine∧Q (.tup xs) J1
theorem cG {x1} (h:RA X G es t):RE X G (.Tuple es x1 pos) (Ml t):=⟨lh (L2.qG h.run) fun σ H Q ⟨τ,J,Q2,a2,h,k⟩=>⟨τ,J,_,a2,h,fun xs J' vs H' rs rr ee ⟨hl,q⟩ =>
 ⟨by rw [← rs.length];exact hl,fun p hp=>by
  have sm:=bG.new hp (.tup vs)
  have e2:=Ext.same (K:=X.K) (J:=J') sm
  exact k (.tup xs) J' (.ref p) _ ⟨p,vs,rfl,.inl (.inl aJ),e2.iS rs⟩ (rr.same sm) (ee.trans e2) q⟩⟩⟩
def Mb (t:oy):di:=fun τ J Q=>t τ J fun xs J1=>xs.length≤sizeLine∧∀ p,J1 p=none→Q (.ref p) (put J1 p (.lst xs))
theorem ki (h:RA X G es t):RE X G (.List es pos) (Mb t):=⟨lh (L2.j_ h.run) fun σ H Q ⟨τ,J,Q2,a2,h,k⟩=>⟨τ,J,_,a2,h,fun xs J' vs H' rs rr ee ⟨hl,q⟩ =>
 ⟨by rw [← rs.length];exact hl,fun p hp=>k (.ref p) _ (.ref p) _ rfl (rr.Dl hp rs) (ee.trans (.laid hp)) (q p (rr.free hp))⟩⟩⟩
def OT (t:oy):di:=fun τ J Q=>t τ J fun xs J1=>xs.length≤sizeLine∧Q (.fl xs) J1
theorem yH {K:PySem.W.Frag} {J:Hq} {H:Hp} {xs:List PV} {vs:List V} {p:Addr} (rr:Rep K J H) (rs:aS K J H xs vs) (hp:H p=none):cq K J (upd H p (.lst vs)) (.fl xs) (.ref p)∧Rep K J (upd H p (.lst vs))∧Ext K J H J (upd H p (.lst vs)):=by
 have sm:=bG.new hp (.lst vs)
 have e2:=Ext.same (K:=K) (J:=J) sm
 exact ⟨⟨p,vs,rfl,.inl ⟨rr.free hp,.inl aJ⟩,e2.iS rs⟩,rr.same sm,e2⟩
theorem xh (h:RA X G es t):RE X G (.List es pos) (OT t):=⟨lh (L2.j_ h.run) fun σ H Q ⟨τ,J,Q2,a2,h,k⟩=>⟨τ,J,_,a2,h,fun xs J' vs H' rs rr ee ⟨hl,q⟩ =>
 ⟨by rw [← rs.length];exact hl,fun p hp=>let ⟨x1,x2,x3⟩:=yH rr rs hp;k (.fl xs) _ (.ref p) _ x1 x2 (ee.trans x3) q⟩⟩⟩
abbrev Kk:=Sr→Hq→(Option Int→Hq→Prop)→Prop
def LO (K:PySem.W.Frag) (G:G2) (t:Kk):TO:=fun σ H Q=>∃ τ J Q2,vK K G τ J σ H∧t τ J Q2∧∀ b J' H',Rep K J' H'→Ext K J H J' H'→Q2 b J'→Q b H'
structure RO (X:Cx) (G:G2) (e:Option Expr) (t:Kk):Prop where
 run:L2.PO X e (LO X.K G t)
theorem OO {X:Cx} {e:Option Expr} {t t':TO} (h:L2.PO X e t) (k:∀ σ H Q,t' σ H Q→t σ H Q):L2.PO X e t':=fun pins s σ H Q I q=>h pins s σ H Q I (k _ _ _ q)
def Av:Kk:=fun _ J Q=>Q none J
def HP (t:di):Kk:=fun τ J Q=>t τ J fun x J1=>∃ i,x=.int i∧Q (some i) J1
theorem kP:RO X G none Av:=⟨OO L2.o9 fun σ H Q ⟨τ,J,Q2,a2,h,k⟩=>k none J H a2.hp .refl h⟩
theorem kQ (h:RE X G e te):RO X G (some e) (HP te):=⟨OO (L2.kM h.run) fun σ H Q ⟨τ,J,Q2,a2,h,k⟩=>⟨τ,J,_,a2,h,fun x J' v H' rx rr ee ⟨i,ei,q⟩=>by subst ei;exact ⟨i,rx,k _ J' H' rr ee q⟩⟩⟩
abbrev Bf:=PV→Option Int→Option Int→Hq→(PV→Hq→Prop)→Prop
def M' (X:Cx) (q:Bf):Prop:=∃ r,sG X r∧∀ J H x lo hi v Q2 Q,cq X.K J H x v→Rep X.K J H→q x lo hi J Q2→Kn X.K J H Q2 Q→r v lo hi H Q
def OX (q:Bf) (te:di) (tl th:Kk):di:=fun τ J Q=>te τ J fun x J1=>tl τ J1 fun l J2=>th τ J2 fun u J3=>q x l u J3 Q
theorem iQ {lo hi:Option Expr} {tl th:Kk} {q:Bf} (hr:M' X q) (he:RE X G e te) (hl:RO X G lo tl) (hu:RO X G hi th):RE X G (.Subscript e (.Slice lo hi none p2) pos) (OX q te tl th):=by
 obtain ⟨r,h,lr⟩:=hr
 exact ⟨lh (L2.ka h he.run hl.run hu.run) fun σ H Q ⟨τ,J,Q2,a2,h,k⟩=>⟨τ,J,_,a2,h,fun x J' v H' rx rr ee q1=>⟨τ,J',_,a2.go rr ee,q1,fun l J2 H2 r2 e2 q2 =>
  ⟨τ,J2,_,a2.go r2 (ee.trans e2),q2,fun u J3 H3 r3 e3 q3=>lr J3 H3 x l u v Q2 Q ((e2.trans e3).rep rx) r3 q3 fun z J4 w H4 rz r4 e4 q4=>k z J4 w H4 rz r4 (((ee.trans e2).trans e3).trans e4) q4⟩⟩⟩⟩
def L5 (q:zA) (t:oy):di:=fun τ J Q=>t τ J fun xs J1=>q xs J1 Q
theorem zE {r:List V→Hp→VK→Prop} {q:zA} (lr:Ou X.K r q):∀ σ H Q,LE X.K G (L5 q t) σ H Q→L2.H0 r (LA X.K G t) σ H Q:=fun σ H Q ⟨τ,J,Q2,a2,h,k⟩ =>
 ⟨τ,J,_,a2,h,fun xs J1 vs H1 rs r1 e1 q1=>lr J1 H1 xs vs Q2 Q rs r1 q1 fun z J' u H' rz rr ee qq=>k z J' u H' rz rr (e1.trans ee) qq⟩
theorem aG {id:String} {q:zA} (hc:Ig X (.builtin id) q) (hg:Gl X x) (hm:X.mg x=none) (hv:bootBuiltins x=some (.builtin id)) (ha:RA X G (e :: es) t) (hn:x≠"__name__":=by decide) (hdb:(x == ("__debug__":Str))=false:=by decide)
  (he:starEach (e :: es) X.env=(false,eval e X.env) :: starEach es X.env:=by rfl) (hpl:(backTo pos (starEach es X.env)).any (·.1)=false:=by rfl):RE X G (.Call (.Name x p) (e :: es) [] pos) (L5 q t):=by
 obtain ⟨r,h,lr⟩:=hc
 exact ⟨lh (L2.dU h hg hm hv ha.run hn hdb he hpl) (zE lr)⟩
theorem iP {T:String} {q:zA} (hc:Ig X (.type T) q) (hg:Gl X x) (hm:X.mg x=none) (hv:bootBuiltins x=some (.type T)) (ha:RA X G (e :: es) t) (hn:x≠"__name__":=by decide) (hdb:(x == ("__debug__":Str))=false:=by decide)
  (he:starEach (e :: es) X.env=(false,eval e X.env) :: starEach es X.env:=by rfl) (hpl:(backTo pos (starEach es X.env)).any (·.1)=false:=by rfl):RE X G (.Call (.Name x p) (e :: es) [] pos) (L5 q t):=by
 obtain ⟨r,h,lr⟩:=hc
 exact ⟨lh (L2.nV h hg hm hv ha.run hn hdb he hpl) (zE lr)⟩
abbrev Ce:=PV→List PV→Hq→(PV→Hq→Prop)→Prop
def G8 (X:Cx) (T id:String) (q:Ce):Prop:=∃ r,pT X id r∧∀ J H x xs v vs Q2 Q,cq X.K J H x v→aS X.K J H xs vs→Rep X.K J H→q x xs J Q2→Kn X.K J H Q2 Q→r v vs H Q
def Kv (T:String) (J:Hq):PV→Prop
 | .str _=>T="str"
 | .fl _=>T="list"
 | .ref a=>(T="list"∧∃ xs,J a=some (.lst xs))∨(T="dict"∧∃ kvs ep,J a=some (.dct kvs ep))
 | _=>False
theorem A3 {K:PySem.W.Frag} {T:String} {J:Hq} {H:Hp} {x:PV} {v:V} (r:cq K J H x v) (hp:Rep K J H) (h:Kv T J x):L2.M4 K T v H:=by
 cases x with
 | str s=>cases r;exact h
 | fl xs=>obtain ⟨a,vs,rfl,h1,h2⟩:=r;exact .inl ⟨h,vs,h1.sq⟩
 | ref a =>
  cases r
  rcases h with ⟨h,xs,e⟩ | ⟨h,kvs,ep,e⟩
  ·obtain ⟨vs,h1,_⟩:=hp _ _ e;exact .inl ⟨h,vs,.inl (.inl h1)⟩
  ·obtain ⟨gs,h1,_⟩:=hp _ _ e;exact .inr (.inr (.inl ⟨h,.inr ⟨gs,ep,h1⟩⟩))
 | _=>cases h
def NY (T:String) (q:Ce) (to:di) (t:oy):di:=fun τ J Q=>to τ J fun x J1=>Kv T J1 x∧t τ J1 fun xs J2=>q x xs J2 Q
def L4 (T:String) (q:Ce) (to:di):di:=fun τ J Q=>to τ J fun x J1=>Kv T J1 x∧q x [] J1 Q
theorem lz {name:Str} {T id:String} {q:Ce} (pa:PlainAttrs T) (slot:Slot T name id) (hty:typeOf (.builtin id)=pure (.type "method_descriptor")) (hm:G8 X T id q) (ho:RE X G o to) (ha:RA X G (e :: es) t)
  (hbase:attributeBase o name X.env (eval o X.env)=eval o X.env:=by rfl)
  (hfew:((backTo cpos (starEach (e :: es) X.env)).all (fun x=>!x.1) && (backToKw cpos (keywordEach [] X.env)).all (fun x=>x.1.isSome)
   && decide ((e :: es).length + ([]:List Keyword).length + (if ([]:List Keyword).isEmpty then 0 else 1) < 30))=true:=by rfl)
  (hline:(apos.endLine == cpos.line)=true:=by rfl) (hs:starEach (e :: es) X.env=(false,eval e X.env) :: starEach es X.env:=by rfl) (hplain:(backTo cpos (starEach es X.env)).any (·.1)=false:=by rfl) :
  RE X G (.Call (.Attribute o name apos) (e :: es) [] cpos) (NY T q to t):=by
 obtain ⟨r,h,lr⟩:=hm
 exact ⟨lh (L2.qE pa slot hty h ho.run ha.run hbase hfew hline hs hplain) fun σ H Q ⟨τ,J,Q2,a2,h,k⟩=>⟨τ,J,_,a2,h,fun x J1 v H1 rx r1 e1 ⟨ty,q1⟩=>⟨A3 rx r1 ty,τ,J1,_,a2.go r1 e1,q1,fun xs J2 vs H2 rs r2 e2 q2 =>
  lr J2 H2 x xs v vs Q2 Q (e2.rep rx) rs r2 q2 fun z J' u H' rz rr ee qq=>k z J' u H' rz rr ((e1.trans e2).trans ee) qq⟩⟩⟩
theorem Ek {name:Str} {T id:String} {q:Ce} (pa:PlainAttrs T) (slot:Slot T name id) (hty:typeOf (.builtin id)=pure (.type "method_descriptor")) (hm:G8 X T id q) (ho:RE X G o to)
  (hbase:attributeBase o name X.env (eval o X.env)=eval o X.env:=by rfl) (hline:(apos.endLine == cpos.line)=true:=by rfl):RE X G (.Call (.Attribute o name apos) [] [] cpos) (L4 T q to):=by
 obtain ⟨r,h,lr⟩:=hm
 exact ⟨lh (L2.Jv pa slot hty h ho.run hbase hline) fun σ H Q ⟨τ,J,Q2,a2,h,k⟩=>⟨τ,J,_,a2,h,fun x J1 v H1 rx r1 e1 ⟨ty,q1⟩=>⟨A3 rx r1 ty,
  lr J1 H1 x [] v [] Q2 Q rx rfl r1 q1 fun z J' u H' rz rr ee qq=>k z J' u H' rz rr (e1.trans ee) qq⟩⟩⟩
end
end Ov
namespace Ov
open PySem PySem.Spec PyProof.Rows
open L2 (V HO Hp Inv Cx VK XK TE TT TA TS TG pX TI TO k9 Ends vS Loc Gl Rd RelV Vals fF xO cx pQ sG pT k8 R2 upd aJ aQ c7 gM Sp rj It bG du bX Passes oV aF Meth Mk Binds aO cm aw c_ gK fg)
abbrev cH:=List PV→Hq→(PV→Hq→Prop)→(Addr→Hq→Prop)→Prop
def Ii (K:PySem.W.Frag) (J:Hq) (H:Hp) (E2:Addr→Hq→Prop) (E:XK):Prop:=∀ c J' H',Rep K J' H'→Ext K J H J' H'→E2 c J'→E (.ref c) none H'
def dI (K:PySem.W.Frag) (sp:cH):Sp:=fun vs H Q E=>∃ xs J Q2 E2,aS K J H xs vs∧Rep K J H∧sp xs J Q2 E2∧Kn K J H Q2 Q∧Ii K J H E2 E
theorem Ii.ext {K:PySem.W.Frag} {J J':Hq} {H H':Hp} {E2:Addr→Hq→Prop} {E:XK} (k:Ii K J H E2 E) (e:Ext K J H J' H'):Ii K J' H' E2 E:=fun c J1 H1 r x q=>k c J1 H1 r (e.trans x) q
theorem _root_.L2.aO.O7 {P:Program} {w:World} {K:PySem.W.Frag} {mg:Str→Option Value} {base:Heap} {k:Nat} {f:Addr} {fd:FuncData} {ps:List Str} {sp:Sp} (F:aO P w K mg base L2.pK k f fd ps sp):aO P w K mg base (c5 P w) k f fd ps sp :=
 ⟨F.len,fun A outer s H args us vs Q E hr he hb hv hs=>codeAny_mono (F.run A outer s H args us vs Q E hr he hb hv hs) fun r s' q=>by
  cases r with
  | error e=>exact False.elim q
  | ok fl=>cases fl <;> exact q⟩
theorem _root_.L2.aO.ML {P:Program} {w:World} {K:PySem.W.Frag} {mg:Str→Option Value} {base:Heap} {k:Nat} {f:Addr} {fd:FuncData} {ps:List Str} {sp:Sp} (F:aO P w K mg base (c5 P w) k f fd ps sp):aO P w K mg base L2.pK k f fd ps (fun vs H Q _=>sp vs H Q L2.E0) :=
 ⟨fun vs H Q E q=>F.len vs H Q _ q,fun A outer s H args us vs Q E hr he hb hv hs=>codeAny_mono (F.run A outer s H args us vs Q _ hr he hb hv hs) fun r s' q=>by
  cases r with
  | error e=>obtain ⟨_,_,_,_,_,z⟩:=q;exact z.elim
  | ok fl=>cases fl <;> exact q⟩
def bh (P:Program) (w:World) (K:PySem.W.Frag) (mg:Str→Option Value) (base:Heap) (k:Nat) (x:Str) (ps:List Str) (sp:cH):Prop:=Cn P w K mg base k x ps (dI K sp)
theorem _root_.Ov.rd.lift {P:Program} {w:World} {K:PySem.W.Frag} {mg:Str→Option Value} {base:Heap} {k:Nat} {x:Str} {ps:List Str} {sp:Sp} (C:rd P w K mg base k x ps sp) {sp':cH}
  (h:∀ xs J vs H Q2 E2 Q E,aS K J H xs vs→Rep K J H→sp' xs J Q2 E2→Kn K J H Q2 Q→sp vs H Q E):bh P w K mg base k x ps sp':=by
 obtain ⟨f,fd,F,r⟩:=C
 exact ⟨f,fd,(F.O7).imp fun vs H Q E ⟨xs,J,Q2,E2,a,b,c,d,_⟩=>h xs J vs H Q2 E2 Q E a b c d,r⟩
theorem Cn.lift {P:Program} {w:World} {K:PySem.W.Frag} {mg:Str→Option Value} {base:Heap} {k:Nat} {x:Str} {ps:List Str} {sp:Sp} (C:Cn P w K mg base k x ps sp) {sp':cH}
  (h:∀ xs J vs H Q2 E2 Q E,aS K J H xs vs→Rep K J H→sp' xs J Q2 E2→Kn K J H Q2 Q→Ii K J H E2 E→sp vs H Q E):bh P w K mg base k x ps sp':=by
 obtain ⟨f,fd,F,r⟩:=C
 exact ⟨f,fd,F.imp fun vs H Q E ⟨xs,J,Q2,E2,a,b,c,d,e⟩=>h xs J vs H Q2 E2 Q E a b c d e,r⟩
section
variable {X:Cx} {G:G2} {a b c e o value:Expr} {es rest:List Expr} {ta tb te tc to tv:di} {tA tB':lK} {t:oy} {pos px p p2 apos cpos pos':Pos} {x:Str} {i j:Nat} {E:XK} {E2:Addr→Hq→Prop}
structure E4 (X:Cx) (G:G2) (E2:Addr→Hq→Prop) (E:XK):Prop where
 pass:Passes (c5 X.prog X.w) X E
 kn:Ii X.K G.1 G.2 E2 E
def xf (sp:cH) (E2:Addr→Hq→Prop) (t:oy):di:=fun τ J Q=>t τ J fun xs J1=>sp xs J1 Q E2
theorem aM {k k':Nat} {ps:List Str} {sp:cH} (C:bh X.prog X.w X.K X.mg X.base k x ps sp) (B:E4 X G E2 E) (hr:bX k' X.A) (hk:k≤k') (hg:Gl X x) (ha:RA X G (e :: es) t)
  (hdb:(x == ("__debug__":Str))=false:=by decide) (he:starEach (e :: es) X.env=(false,eval e X.env) :: starEach es X.env:=by rfl) (hpl:(backTo pos (starEach es X.env)).any (·.1)=false:=by rfl) :
  RE X G (.Call (.Name x p) (e :: es) [] pos) (xf sp E2 t) :=
 ⟨lh (F' C B.pass hr hk hg ha.run hdb he hpl) fun σ H Q ⟨τ,J,Q2,a2,h,k⟩=>⟨τ,J,_,a2,h,fun xs J1 vs H1 rs r1 e1 q1=>by
  simp only [List.append_nil]
  exact ⟨xs,J1,Q2,E2,rs,r1,q1,fun z J' u H' rz rr ee qq=>k z J' u H' rz rr (e1.trans ee) qq,B.kn.ext (a2.ext.trans e1)⟩⟩⟩
def L6 (C:Addr) (ta:di) (f:Str):di:=fun τ J Q=>ta τ J fun x J1=>∃ a fs v,x=.ref a∧J1 a=some (.ins C fs)∧fs.lookup f=some v∧Q v J1
theorem aY {C:Addr} {f:Str} (cl:oV X.K C) (na:aF X.K C f) (he:RE X G e ta) (hb:attributeBase e f X.env (eval e X.env)=eval e X.env:=by rfl):RE X G (.Attribute e f pos) (L6 C ta f) :=
 ⟨lh (L2.Jy he.run hb) fun σ H Q ⟨τ,J,Q2,a2,h,k⟩=>⟨τ,J,_,a2,h,fun x J1 v H1 rx r1 e1 ⟨a,fs,y,ex,ja,lk,q⟩=>by
  subst ex;cases rx
  obtain ⟨dx,gs,ha,rf⟩:=r1 _ _ ja
  obtain ⟨w,lw,rw'⟩:=rf.look lk
  exact ⟨a,C,dx,gs,w,rfl,ha,cl,na,lw,k y J1 w H1 rw' r1 e1 q⟩⟩⟩
structure cJ (P:Program) (w:World) (K:PySem.W.Frag) (mg:Str→Option Value) (base:Heap) (C:Addr) (k:Nat) (m:Str) (ps:List Str) (sp:cH):Prop where
 cl:oV K C
 ex:∃ f fd,Meth K C m f∧aO P w K mg base (c5 P w) k f fd ps (dI K sp)∧Binds K fd ps []
theorem cJ.imp {P:Program} {w:World} {K:PySem.W.Frag} {mg:Str→Option Value} {base:Heap} {C:Addr} {k:Nat} {m:Str} {ps:List Str} {sp sp':cH} (M:cJ P w K mg base C k m ps sp) (h:∀ xs J Q E,sp' xs J Q E→sp xs J Q E):cJ P w K mg base C k m ps sp':=by
 obtain ⟨cl,f,fd,hm,F,r⟩:=M
 exact ⟨cl,f,fd,hm,F.imp fun vs H Q E ⟨xs,J,Q2,E2,a,b,c,d⟩=>⟨xs,J,Q2,E2,a,b,h _ _ _ _ c,d⟩,r⟩
def Gy (C:Addr) (m:Str) (sp:cH) (E2:Addr→Hq→Prop) (ta:di) (t:oy):di:=fun τ J Q=>ta τ J fun x J1=>∃ a fs,x=.ref a∧J1 a=some (.ins C fs)∧fs.lookup m=none∧t τ J1 fun xs J2=>sp (x :: xs) J2 Q E2
theorem wD {C:Addr} {m:Str} {sp:cH} (B:E4 X G E2 E):∀ σ H Q,LE X.K G (Gy C m sp E2 to t) σ H Q→L2.ES C m (dI X.K sp) [] E (LE X.K G to) (LA X.K G t) σ H Q:=fun σ H Q ⟨τ,J,Q2,a2,h,k⟩ =>
 ⟨τ,J,_,a2,h,fun x J1 v H1 rx r1 e1 ⟨a,fs,ex,ja,lk,q⟩=>by
  subst ex;cases rx
  obtain ⟨dx,gs,ha,rf⟩:=r1 _ _ ja
  refine ⟨a,dx,gs,rfl,ha,rf.none lk,τ,J1,_,a2.go r1 e1,q,fun xs J2 vs H2 rs r2 e2 q2=>?_⟩
  simp only [List.append_nil]
  exact ⟨.ref a :: xs,J2,Q2,E2,⟨.ref a,vs,rfl,rfl,rs⟩,r2,q2,fun z J' u H' rz rr ee qq=>k z J' u H' rz rr ((e1.trans e2).trans ee) qq,B.kn.ext ((a2.ext.trans e1).trans e2)⟩⟩
theorem bp {C:Addr} {m:Str} {k k':Nat} {ps:List Str} {sp:cH} {pl:Sem Bool} (M:cJ X.prog X.w X.K X.mg X.base C k m ps sp) (B:E4 X G E2 E) (hr:bX k' X.A) (hk:k≤k') (ho:RE X G o to) (ha:RA X G (e :: es) t)
  (hst:starEach (e :: es) X.env=(false,eval e X.env) :: starEach es X.env:=by rfl) (hpl:(backTo pos (starEach es X.env)).any (·.1)=false:=by rfl)
  (ht:eval (.Call (.Attribute o m apos) (e :: es) [] pos) X.env=(do
   let ov ← eval o X.env
   standAt apos.atName
   let (f,first) ← holding [ov] (getMethod ov m pl)
   callWith pos f first (backTo pos (starEach (e :: es) X.env)) (backToKw pos (keywordEach [] X.env))):=by rfl) :
  RE X G (.Call (.Attribute o m apos) (e :: es) [] pos) (Gy C m sp E2 to t):=by
 obtain ⟨cl,f,fd,hm,F,b⟩:=M
 exact ⟨lh (L2.Ge (pl:=pl) ho.run cl hm F (hr.mono hk) b .nil B.pass ha.run hst hpl ht) (wD B)⟩
theorem dq {C:Addr} {m:Str} {k k':Nat} {ps:List Str} {sp:cH} {pl:Sem Bool} (M:cJ X.prog X.w X.K X.mg X.base C k m ps sp) (B:E4 X G E2 E) (hr:bX k' X.A) (hk:k≤k') (ho:RE X G o to)
  (ht:eval (.Call (.Attribute o m apos) [] [] pos) X.env=(do
   let ov ← eval o X.env
   standAt apos.atName
   let (f,first) ← holding [ov] (getMethod ov m pl)
   callWith pos f first (backTo pos (starEach [] X.env)) (backToKw pos (keywordEach [] X.env))):=by rfl) :
  RE X G (.Call (.Attribute o m apos) [] [] pos) (Gy C m sp E2 to sj):=by
 obtain ⟨cl,f,fd,hm,F,b⟩:=M
 refine ⟨lh (L2.D0 (pl:=pl) ho.run cl hm F (hr.mono hk) b .nil B.pass ht) fun σ H Q h=>?_⟩
 have z:=wD B σ H Q h
 obtain ⟨τ,J,Q2,a2,h1,k1⟩:=z
 refine ⟨τ,J,Q2,a2,h1,fun x J1 v H1 rx r1 e1 q1=>?_⟩
 obtain ⟨a,dx,fs,h2,h3,h4,τ',J',Q',a2',h5,k5⟩:=k1 x J1 v H1 rx r1 e1 q1
 exact ⟨a,dx,fs,h2,h3,h4,k5 [] J' [] H1 rfl a2'.hp .refl h5⟩
structure ya (P:Program) (w:World) (K:PySem.W.Frag) (mg:Str→Option Value) (base:Heap) (C:Addr) (k:Nat) (x:Str) (ps:List Str) (sp:cH):Prop where
 m:mg x=some (.ref C)
 ex:∃ f fd,Mk K C f∧aO P w K mg base (c5 P w) k f fd ps (dI K sp)∧Binds K fd ps []
def Gx (C:Addr) (sp:cH) (E2:Addr→Hq→Prop) (t:oy):di:=fun τ J Q=>t τ J fun xs J1=>∀ a,J1 a=none→sp (.ref a :: xs) (put J1 a (.ins C [])) (fun v J2=>v=.non∧Q (.ref a) J2) E2
theorem wz {C:Addr} {sp:cH} (B:E4 X G E2 E):∀ σ H Q,LE X.K G (Gx C sp E2 t) σ H Q→L2.ER C (dI X.K sp) [] E (LA X.K G t) σ H Q:=fun σ H Q ⟨τ,J,Q2,a2,h,k⟩ =>
 ⟨τ,J,_,a2,h,fun xs J1 vs H1 rs r1 e1 q1 x dx hx hdx ne=>by
  have s1:=bG.new hdx (.own x)
  have hx':upd H1 dx (.own x) x=none:=by rw [aQ (Ne.symm ne)];exact hx
  have r2:=r1.same s1
  have e2:Ext X.K J1 H1 (put J1 x (.ins C [])) (upd (upd H1 dx (.own x)) x (.ins C dx [])):=(Ext.same s1).trans (.laid hx')
  have r3:Rep X.K (put J1 x (.ins C [])) (upd (upd H1 dx (.own x)) x (.ins C dx [])):=r2.B' (.laid hx') x (fun a ne=>au ne) (fun a o ne _ z=>by rw [aQ ne];exact z) fun u z=>by
   rw [av] at z;cases z
   exact ⟨dx,[],aJ,rfl,rfl⟩
  simp only [List.append_nil]
  refine ⟨.ref x :: xs,_,_,E2,⟨.ref x,vs,rfl,rfl,e2.iS rs⟩,r3,q1 x (r1.free hx),fun z J' u H' rz rr ee ⟨ez,qq⟩=>?_,B.kn.ext ((a2.ext.trans e1).trans e2)⟩
  subst ez
  exact ⟨rz,k (.ref x) J' (.ref x) H' rfl rr ((e1.trans e2).trans ee) qq⟩⟩
theorem GB {C:Addr} {k k':Nat} {ps:List Str} {sp:cH} (M:ya X.prog X.w X.K X.mg X.base C k x ps sp) (B:E4 X G E2 E) (hr:bX k' X.A) (hk:k + 1≤k') (hg:Gl X x) (ha:RA X G (e :: es) t)
  (hdb:(x == ("__debug__":Str))=false:=by decide) (he:starEach (e :: es) X.env=(false,eval e X.env) :: starEach es X.env:=by rfl) (hpl:(backTo pos (starEach es X.env)).any (·.1)=false:=by rfl) :
  RE X G (.Call (.Name x p) (e :: es) [] pos) (Gx C sp E2 t):=by
 obtain ⟨hm,f,fd,mk,F,b⟩:=M
 exact ⟨lh (L2.Gb mk F (hr.mono hk) hg hm b .nil B.pass ha.run hdb he hpl) (wz B)⟩
theorem qK {C:Addr} {k k':Nat} {ps:List Str} {sp:cH} (M:ya X.prog X.w X.K X.mg X.base C k x ps sp) (B:E4 X G E2 E) (hr:bX k' X.A) (hk:k + 1≤k') (hg:Gl X x)
  (hdb:(x == ("__debug__":Str))=false:=by decide):RE X G (.Call (.Name x p) [] [] pos) (Gx C sp E2 sj):=by
 obtain ⟨hm,f,fd,mk,F,b⟩:=M
 refine ⟨lh (L2.DZ mk F (hr.mono hk) hg hm b .nil B.pass hdb) fun σ H Q h=>?_⟩
 obtain ⟨τ,J,Q2,a2,h1,k1⟩:=wz (t:=sj) B σ H Q h
 exact k1 [] J [] H rfl a2.hp .refl h1
end
section
variable {X:Cx} {G:G2} {st:Stmt} {rest:List Stmt} {t u:jJ} {e tg o value:Expr} {es:List Expr} {te ta tv:di} {tc:lK} {pos pos':Pos}
def qJ:jJ:=fun D τ J=>D.nx τ J
def cK (t u:jJ):jJ:=fun D τ J=>t { D with nx:=u D } τ J
theorem aH:RB X G [] qJ:=⟨NS L2.fR fun D σ H ⟨τ,J,D2,a2,h,g⟩=>g.nx τ J σ H a2.sl a2.hp .refl h⟩
theorem ai (h1:RS X G st t) (h2:RB X G rest u):RB X G (st :: rest) (cK t u):=⟨NS (L2.aZ h1.run h2.run) fun D σ H ⟨τ,J,D2,a2,h,g⟩=>⟨τ,J,{ D2 with nx:=u D2 },a2,h,
 { nx:=fun τ' J' σ' H' rs rr ee q=>⟨τ',J',D2,⟨rs,rr,a2.ext.trans ee⟩,q,g.ext ee⟩,rt:=g.rt,bk:=g.bk,ct:=g.ct }⟩⟩
theorem ak (h1:RS X G st t):RB X G [st] t:=⟨L2.bL h1.run⟩
def Ee (t u:jJ):jJ:=fun D τ J=>∃ M:Sr→Hq→Prop,t { D with nx:=M } τ J∧∀ τ' J',M τ' J'→u D τ' J'
theorem eL (h1:RS X G st t) (h2:RB X G rest u):RB X G (st :: rest) (Ee t u):=⟨NS (L2.aZ h1.run h2.run) fun D σ H ⟨τ,J,D2,a2,⟨M,h,hm⟩,g⟩=>⟨τ,J,{ D2 with nx:=M },a2,h,
 { nx:=fun τ' J' σ' H' rs rr ee q=>⟨τ',J',D2,⟨rs,rr,a2.ext.trans ee⟩,hm _ _ q,g.ext ee⟩,rt:=g.rt,bk:=g.bk,ct:=g.ct }⟩⟩
def NZ:jJ:=fun D τ J=>D.bk τ J
def N0:jJ:=fun D τ J=>D.ct τ J
def Au (te:di):jJ:=fun D τ J=>te τ J fun _ J1=>D.nx τ J1
theorem bc (he:RE X G e te) (hs:swapsWith e none pos.line X.env=pure false:=by rfl):RS X G (.Expr e pos) (Au te):=⟨yV (L2.kO he.run hs) fun D σ H ⟨τ,J,D2,a2,h,g⟩ =>
 ⟨τ,J,_,a2,h,fun x J' v H' rx rr ee q=>g.nx τ J' σ H' (a2.sl.ext ee) rr ee q⟩⟩
def Mg (te:di):jJ:=fun D τ J=>te τ J D.rt
theorem az (he:RE X G e te):RS X G (.Return (some e) pos) (Mg te):=⟨yV (L2.dN he.run) fun D σ H ⟨τ,J,D2,a2,h,g⟩=>⟨τ,J,_,a2,h,fun x J' v H' rx rr ee q=>g.rt x J' v H' rx rr ee q⟩⟩
def HR:jJ:=fun D _ J=>D.rt .non J
theorem GG:RS X G (.Return none pos) HR:=⟨yV L2.uM fun D σ H ⟨τ,J,D2,a2,h,g⟩=>g.rt .non J .non H rfl a2.hp .refl h⟩
def y0 (c:lK) (t u:jJ):jJ:=fun D τ J=>c τ J fun b J1=>if b=true then t D τ J1 else u D τ J1
theorem aU {c:Expr} {a b:List Stmt} (hc:RT X G c tc) (ha:RB X G a t) (hb:RB X G b u):RS X G (.If c a b pos) (y0 tc t u):=⟨yV (L2.mG hc.run ha.run hb.run) fun D σ H ⟨τ,J,D2,a2,h,g⟩ =>
 ⟨τ,J,_,a2,h,fun c J' H' rr ee q=>by
  cases c with
  | true=>simp only [if_true] at q ⊢;exact ⟨τ,J',D2,a2.go rr ee,q,g.ext ee⟩
  | false=>simp only [Bool.false_eq_true,if_false] at q ⊢;exact ⟨τ,J',D2,a2.go rr ee,q,g.ext ee⟩⟩⟩
abbrev yc:=PV→Sr→Hq→(Sr→Hq→Prop)→Prop
abbrev vR:=List PV→Sr→Hq→(Sr→Hq→Prop)→Prop
def LG (K:PySem.W.Frag) (G:G2) (t:yc):TG:=fun v σ H Q=>∃ x τ J Q2,cq K J H x v∧vK K G τ J σ H∧t x τ J Q2∧∀ τ' J' σ' H',lJ K J' H' τ' σ'→Rep K J' H'→Ext K J H J' H'→Q2 τ' J'→Q σ' H'
def O1 (K:PySem.W.Frag) (G:G2) (t:vR):pX:=fun vs σ H Q=>∃ xs τ J Q2,aS K J H xs vs∧vK K G τ J σ H∧t xs τ J Q2∧∀ τ' J' σ' H',lJ K J' H' τ' σ'→Rep K J' H'→Ext K J H J' H'→Q2 τ' J'→Q σ' H'
structure RG (X:Cx) (G:G2) (e:Expr) (t:yc):Prop where
 run:L2.PG X e (LG X.K G t)
structure MP (X:Cx) (G:G2) (es:List Expr) (t:vR):Prop where
 run:L2.G9 X es (O1 X.K G t)
theorem NT {X:Cx} {e:Expr} {t t':TG} (h:L2.PG X e t) (k:∀ v σ H Q,t' v σ H Q→t v σ H Q):L2.PG X e t':=fun pins s σ H v u Q I r q=>h pins s σ H v u Q I r (k _ _ _ _ q)
theorem LH {X:Cx} {e:List Expr} {t t':pX} (h:L2.G9 X e t) (k:∀ v σ H Q,t' v σ H Q→t v σ H Q):L2.G9 X e t':=fun pins s σ H v u Q I r q=>h pins s σ H v u Q I r (k _ _ _ _ q)
def Fy (i:Nat):yc:=fun x τ J Q=>Q (τ.set i (some x)) J
theorem bF {i:Nat} {x:Str} (hN:X.N.Nodup) (hi:X.N[i]?=some x) (hx:Loc X.env.scope x) (hf:X.fn x=true∨X.env.scope.names.lookup x=some .local:=by first | exact .inl rfl | exact .inr rfl | assumption):RG X G (.Name x pos) (Fy i) :=
 ⟨NT (L2.kL hN hi hx hf) fun v σ H Q ⟨x,τ,J,Q2,rx,a2,q,k⟩=>k _ J _ H (a2.sl.set i rx) a2.hp .refl q⟩
def OB:vR:=fun vs τ J Q=>vs=[]∧Q τ J
def OA (t:yc) (u:vR):vR:=fun vs τ J Q=>∃ v r,vs=v :: r∧t v τ J fun τ' J'=>u r τ' J' Q
theorem mJ:MP X G [] OB:=⟨LH L2.uI fun vs σ H Q ⟨xs,τ,J,Q2,rs,a2,⟨e,q⟩,k⟩=>by subst e;exact ⟨rs,k τ J σ H a2.sl a2.hp .refl q⟩⟩
theorem cZ {e:Expr} {es:List Expr} {t:yc} {u:vR} (h1:RG X G e t) (h2:MP X G es u)
  (hs:(assignEach (e :: es) X.env).map (·.2)=assign e X.env :: (assignEach es X.env).map (·.2):=by rfl):MP X G (e :: es) (OA t u):=⟨LH (L2.qH h1.run h2.run hs) fun vs σ H Q ⟨xs,τ,J,Q2,rs,a2,⟨y,r,e,q⟩,k⟩=>by
 subst e
 obtain ⟨v,us,rfl,rv,ru⟩:=rs
 exact ⟨v,us,rfl,y,τ,J,_,rv,a2,q,fun τ' J' σ' H' rs' rr ee q'=>⟨r,τ',J',Q2,ee.iS ru,⟨rs',rr,a2.ext.trans ee⟩,q',fun τ2 J2 σ2 H2 rs2 rr2 ee2 q2=>k τ2 J2 σ2 H2 rs2 rr2 (ee.trans ee2) q2⟩⟩⟩
def OC (n:Nat) (t:vR):yc:=fun x τ J Q=>∃ xs,x=.tup xs∧xs.length=n∧t xs τ J Q
theorem qM {k:Nat} {t:vR} {n:Nat} (hc:X.calm=true) (h:MP X G es t)
  (hn:(assignEach es X.env).length=n:=by rfl) (hst:(assignEach es X.env).findIdx? (·.1)=none:=by rfl):RG X G (.Tuple es k pos) (OC n t):=⟨NT (L2.yS hc h.run hn hst) fun v σ H Q ⟨x,τ,J,Q2,rx,a2,⟨xs,e,l,q⟩,k⟩=>by
 subst e
 obtain ⟨a,vs,rfl,h1,h2⟩:=rx
 exact ⟨a,vs,rfl,h1,by rw [← h2.length];exact l,xs,τ,J,Q2,h2,a2,q,k⟩⟩
def si (te:di) (g:yc):jJ:=fun D τ J=>te τ J fun x J1=>g x τ J1 D.nx
theorem uX {tg e:Expr} {g:yc} (he:RE X G e te) (hg:RG X G tg g) (hs:swapsWithSole [tg] e pos.line X.env=pure false:=by rfl) (hw:swappedStores [tg] e X.env=pure none:=by rfl)
  (h1:(assignEach [tg] X.env).map (·.2)=[assign tg X.env]:=by rfl):RS X G (.Assign [tg] e pos) (si te g):=⟨yV (L2.uL he.run hg.run hs hw h1) fun D σ H ⟨τ,J,D2,a2,h,g⟩ =>
 ⟨τ,J,_,a2,h,fun x J' v H' rx rr ee q=>⟨x,τ,J',_,rx,a2.go rr ee,q,fun τ' J2 σ' H2 rs r2 e2 q2=>g.nx τ' J2 σ' H2 rs r2 (ee.trans e2) q2⟩⟩⟩
theorem aE {i:Nat} {x:Str} {pos':Pos} (hN:X.N.Nodup) (hi:X.N[i]?=some x) (hx:Loc X.env.scope x) (he:RE X G e te) (hs:swapsWith e (some (.Name x pos')) pos.line X.env=pure false:=by rfl) (hf:X.fn x=true∨X.env.scope.names.lookup x=some .local:=by first | exact .inl rfl | exact .inr rfl | assumption) :
  RS X G (.Assign [.Name x pos'] e pos) (si te (Fy i)):=⟨yV (L2.cV hN hi hx he.run hs hf) fun D σ H ⟨τ,J,D2,a2,h,g⟩ =>
 ⟨τ,J,_,a2,h,fun x J' v H' rx rr ee q=>g.nx _ J' _ H' ((a2.sl.ext ee).set i rx) rr ee q⟩⟩
def Me (i j:Nat) (ta:oy):jJ:=fun D τ J=>ta τ J fun vs J1=>∃ v w,vs=[v,w]∧D.nx ((τ.set i (some v)).set j (some w)) J1
theorem JQ {i j:Nat} {x y:Str} {a b:Expr} {ta:oy} {px py pt:Pos} {kt k2 pt2} (hc:X.calm=true) (hN:X.N.Nodup) (hi:X.N[i]?=some x) (hj:X.N[j]?=some y) (hij:i≠j)
  (hx:X.env.scope.names.lookup x=some .local) (hy:X.env.scope.names.lookup y=some .local) (ha:RA X G [a,b] ta)
  (hw:swappedStores [.Tuple [.Name x px,.Name y py] kt pt] (.Tuple [a,b] k2 pt2) X.env=pure (some [x,y]))
  (hs:swapsWithSole [.Tuple [.Name x px,.Name y py] kt pt] (.Tuple [a,b] k2 pt2) pos.line X.env=pure false:=by rfl) :
  RS X G (.Assign [.Tuple [.Name x px,.Name y py] kt pt] (.Tuple [a,b] k2 pt2) pos) (Me i j ta):=⟨yV (L2.nY hc hN hi hj hij hx hy ha.run hw hs) fun D σ H ⟨τ,J,D2,a2,h,g⟩ =>
 ⟨τ,J,_,a2,h,fun xs J' vs H' rs rr ee ⟨v,w,e,q⟩=>by
  subst e
  obtain ⟨v',us,rfl,rv,w',us',rfl,rw',e'⟩:=rs
  cases e'
  exact ⟨v',w',rfl,g.nx _ J' _ H' (((a2.sl.ext ee).set i rv).set j rw') rr ee q⟩⟩⟩
def n6 (f:Str) (v:PV):List (Str × PV)→List (Str × PV)
 | []=>[(f,v)]
 | (g,w) :: r=>if g=f then (g,v) :: r else (g,w) :: n6 f v r
theorem xb {K:PySem.W.Frag} {J:Hq} {H:Hp} {f:Str} {y:PV} {v:V} (r:cq K J H y v):∀ {fs:List (Str × PV)} {gs:List (Str × V)},lI K J H fs gs→lI K J H (n6 f y fs) (fg f v gs)
 | [],[],_=>⟨rfl,v,[],rfl,r,rfl⟩
 | [],_ :: _,h=>by cases h.1
 | _ :: _,[],h=>by cases h.1
 | (k,y') :: fs,(k',w) :: gs,h=>by
  obtain ⟨h1,v',us,h2,h3,h4⟩:=h
  simp only [List.map_cons,List.cons.injEq] at h1 h2
  obtain ⟨rfl,h1⟩:=h1
  obtain ⟨rfl,rfl⟩:=h2
  unfold n6 L2.fg
  by_cases hk:k=f
  ·rw [if_pos hk,if_pos hk]
   exact ⟨by simp only [List.map_cons,h1],v,_,rfl,r,h4⟩
  ·rw [if_neg hk,if_neg hk]
   obtain ⟨z1,z2⟩:=xb (f:=f) r (⟨h1,h4⟩:lI K J H fs gs)
   exact ⟨by simp only [List.map_cons,z1],w,_,rfl,h3,z2⟩
def HK (C:Addr) (ta tv:di) (f:Str):jJ:=fun D τ J=>tv τ J fun y J1=>ta τ J1 fun x J2=>∃ a fs,x=.ref a∧J2 a=some (.ins C fs)∧fs.length < 1000∧D.nx τ (put J2 a (.ins C (n6 f y fs)))
theorem Ext.Ki {K:PySem.W.Frag} {J:Hq} {H:Hp} {p C dx:Addr} {fs gs:List (Str × PV)} {fs' gs':List (Str × V)} (h:J p=some (.ins C fs)) (k:H p=some (.ins C dx fs')):Ext K J H (put J p (.ins C gs)) (upd H p (.ins C dx gs')):=by
 have sm:∀ a u,a≠p→Rd H a u→Rd (upd H p (.ins C dx gs')) a u:=fun a u ne z=>by
  rcases z with z | ⟨o,z⟩
  ·exact .inl (by rw [aQ ne];exact z)
  ·exact .inr ⟨o,by rw [aQ ne];exact z⟩
 have nn:∀ a u,(∀ c d l,u≠HO.ins c d l)→Rd H a u→a≠p:=fun a u d z e=>by
  subst e
  rcases z with z | ⟨o,z⟩
  ·rw [k] at z;cases z;exact d _ _ _ rfl
  ·rw [k] at z;cases z
 refine ⟨fun a vs' z=>?_,fun a o z q _=>?_⟩
 ·rcases z with z | z
  ·exact .inl (sm a _ (nn a (.tup vs') (fun _ _ _ e=>nomatch e) z) z)
  ·exact .inr z
 ·have ne:a≠p:=by intro e;subst e;rw [h] at z;cases z
  exact ⟨by rw [au ne];exact z,by rw [aQ ne];exact q⟩
theorem iu {C:Addr} {f:Str} (cl:oV X.K C) (na:aF X.K C f) (ha:RE X G o ta) (hv:RE X G value tv) (hs:swapsWith value (some (.Attribute o f pos')) pos.line X.env=pure false:=by rfl):RS X G (.Assign [.Attribute o f pos'] value pos) (HK C ta tv f) :=
 ⟨yV (L2.JB ha.run hv.run hs) fun D σ H ⟨τ,J,D2,a2,h,g⟩=>⟨τ,J,_,a2,h,fun y J1 v H1 ry r1 e1 q1=>⟨τ,J1,_,a2.go r1 e1,q1,fun x J2 w H2 rx r2 e2 ⟨a,fs,ex,ja,hl,q2⟩=>by
  subst ex;cases rx
  obtain ⟨dx,gs,h2,rf⟩:=r2 _ _ ja
  have ll:gs.length=fs.length:=by have:=congrArg List.length rf.1;simpa using this.symm
  have e3:=Ext.Ki (K:=X.K) (gs:=n6 f y fs) (gs':=fg f v gs) ja h2
  refine ⟨a,C,dx,gs,rfl,h2,cl,na,by omega,g.nx τ _ σ _ (((a2.sl.ext e1).ext e2).ext e3) ?_ ((e1.trans e2).trans e3) q2⟩
  refine r2.B' e3 a (fun b ne=>au ne) (fun b o ne _ z=>by rw [aQ ne];exact z) fun u z=>?_
  rw [av] at z;cases z
  exact ⟨dx,_,aJ,e3.xi (xb (e2.rep ry) rf)⟩⟩⟩⟩
def Eg (c:lK) (tb:jJ):jJ:=fun D τ J=>∃ W:Nat→Sr→Hq→Prop,(∃ m,W m τ J)∧∀ m τ J,W m τ J →
 c τ J fun b J1=>if b=true then ∃ N:Sr→Hq→Prop,(∀ τ' J',N τ' J'→∃ m',m' < m∧W m' τ' J')∧tb { D with nx:=N,ct:=N,bk:=D.nx } τ J1 else D.nx τ J1
theorem iX {c:Expr} {body:List Stmt} {tb:jJ} (hp:PassesOwn (model X.prog X.w) X.A X.env X.xe) (hc:RT X G c tc) (hb:RB X G body tb):RS X G (.While c body [] pos) (Eg tc tb):=⟨yV (L2.kb hp hc.run hb.run) fun D σ H ⟨τ,J,D2,a2,⟨W,⟨m0,w0⟩,h⟩,g⟩=>by
 refine ⟨fun m σ' H'=>∃ τ' J',vK X.K G τ' J' σ' H'∧Ext X.K J H J' H'∧W m τ' J',⟨m0,τ,J,a2,.refl,w0⟩,fun m σ1 H1 ⟨τ1,J1,a1,e1,w1⟩=>?_⟩
 refine ⟨τ1,J1,_,a1,h m τ1 J1 w1,fun b J2 H2 r2 e2 q=>?_⟩
 cases b with
 | false=>simp only [Bool.false_eq_true,if_false] at q ⊢;exact g.nx τ1 J2 σ1 H2 (a1.sl.ext e2) r2 (e1.trans e2) q
 | true =>
  simp only [if_true] at q ⊢
  obtain ⟨N,hN,q⟩:=q
  refine ⟨fun σ' H'=>∃ τ' J',vK X.K G τ' J' σ' H'∧Ext X.K J H J' H'∧N τ' J',fun σ' H' ⟨τ',J',a',e',n'⟩=>let ⟨m',lt,w'⟩:=hN τ' J' n';⟨m',lt,τ',J',a',e',w'⟩,τ1,J2,{ D2 with nx:=N,ct:=N,bk:=D2.nx },a1.go r2 e2,q,?_⟩
  have ge:=g.ext (e1.trans e2)
  exact { nx:=fun τ' J' σ' H' rs rr ee q=>⟨τ',J',⟨rs,rr,(a1.ext.trans e2).trans ee⟩,(e1.trans e2).trans ee,q⟩,rt:=ge.rt,bk:=ge.nx,ct:=fun τ' J' σ' H' rs rr ee q=>⟨τ',J',⟨rs,rr,(a1.ext.trans e2).trans ee⟩,(e1.trans e2).trans ee,q⟩ }⟩
structure x5 where
 xs:List PV
 ok:Hq→Prop
structure sE (K:PySem.W.Frag) (it:x5) (I:It) (J:Hq) (H:Hp):Prop where
 go:∀ J' H',Ext K J H J' H'→Rep K J' H'→it.ok J'→∀ i,i < it.xs.length→I.go i H'
 yl:∀ J' H',Ext K J H J' H'→Rep K J' H'→it.ok J'→∀ i,i < it.xs.length→∀ v H2,I.yld i H' v H2→∃ x,it.xs[i]?=some x∧cq K J' H2 x v∧Rep K J' H2∧Ext K J' H' J' H2
 stop:∀ J' H',Ext K J H J' H'→Rep K J' H'→it.ok J'→I.stop it.xs.length H'
abbrev rK:=Sr→Hq→(x5→Hq→Prop)→Prop
def LI (K:PySem.W.Frag) (G:G2) (t:rK):TI:=fun σ H R=>∃ τ J R2,vK K G τ J σ H∧t τ J R2∧∀ it J' I H',sE K it I J' H'→Rep K J' H'→Ext K J H J' H'→R2 it J'→R I H'
structure RI (X:Cx) (G:G2) (tg e:Expr) (t:rK):Prop where
 run:L2.PI X tg e (LI X.K G t)
theorem Kr {X:Cx} {tg e:Expr} {t t':TI} (h:L2.PI X tg e t) (k:∀ σ H Q,t' σ H Q→t σ H Q):L2.PI X tg e t':=fun pins s σ H Q I q=>h pins s σ H Q I (k _ _ _ q)
def L7 (wi:rK) (g:yc) (tb:jJ):jJ:=fun D τ J=>wi τ J fun it J1=>∃ Pv:Nat→Sr→Hq→Prop,Pv 0 τ J1∧(∀ i τ J,Pv i τ J→it.ok J) ∧
 (∀ i x τ J,it.xs[i]?=some x→Pv i τ J→g x τ J fun τ2 J2=>tb { D with nx:=Pv (i + 1),ct:=Pv (i + 1),bk:=D.nx } τ2 J2)∧∀ τ J,Pv it.xs.length τ J→D.nx τ J
theorem dO {iter:Expr} {body:List Stmt} {wi:rK} {g:yc} {tb:jJ} {pos:Pos} (hp:PassesOwn (model X.prog X.w) X.A X.env X.xe) (hc:X.calm=true) (hi:RI X G tg iter wi) (hg:RG X G tg g) (hb:RB X G body tb)
  (hs:∀ x,foldedSetIterable iter X.env x=pure x:=by intro _;rfl):RS X G (.For tg iter body [] pos) (L7 wi g tb):=⟨yV (L2.nX hp hc hi.run hg.run hb.run hs) fun D σ H ⟨τ,J,D2,a2,h,g⟩=>by
 refine ⟨τ,J,_,a2,h,fun it J1 I H1 ir r1 e1 ⟨Pv,p0,pok,step,fin⟩=>?_⟩
 refine ⟨fun i m σ' H'=>m=it.xs.length - i∧i≤it.xs.length∧∃ τ' J',vK X.K G τ' J' σ' H'∧Ext X.K J1 H1 J' H'∧Pv i τ' J',⟨_,rfl,Nat.zero_le _,τ,J1,a2.go r1 e1,.refl,p0⟩,?_⟩
 rintro i m σ2 H2 ⟨rfl,hil,τ2,J2,a3,e3,p3⟩
 by_cases hlt:i < it.xs.length
 ·refine .inr ⟨ir.go J2 H2 e3 a3.hp (pok _ _ _ p3) i hlt,fun σ' H'=>∃ τ' J',vK X.K G τ' J' σ' H'∧Ext X.K J1 H1 J' H'∧Pv (i + 1) τ' J',fun σ' H' z=>⟨_,by omega,rfl,hlt,z⟩,fun v H4 y=>?_⟩
  obtain ⟨x,ex,rx,r4,e4⟩:=ir.yl J2 H2 e3 a3.hp (pok _ _ _ p3) i hlt v H4 y
  refine ⟨x,τ2,J2,_,rx,a3.go r4 e4,step i x τ2 J2 ex p3,fun τ5 J5 σ5 H5 rs5 r5 e5 q5=>?_⟩
  have ae:=(a3.ext.trans e4).trans e5
  have ge:=g.ext (((e1.trans e3).trans e4).trans e5)
  refine ⟨τ5,J5,{ D2 with nx:=Pv (i + 1),ct:=Pv (i + 1),bk:=D2.nx },⟨rs5,r5,ae⟩,q5,?_⟩
  exact { nx:=fun τ' J' σ' H' rs rr ee q=>⟨τ',J',⟨rs,rr,ae.trans ee⟩,((e3.trans e4).trans e5).trans ee,q⟩,rt:=ge.rt,bk:=ge.nx,ct:=fun τ' J' σ' H' rs rr ee q=>⟨τ',J',⟨rs,rr,ae.trans ee⟩,((e3.trans e4).trans e5).trans ee,q⟩ }
 ·have ei:i=it.xs.length:=by omega
  subst ei
  exact .inl ⟨ir.stop J2 H2 e3 a3.hp (pok _ _ _ p3),g.nx τ2 J2 σ2 H2 a3.sl a3.hp (e1.trans e3) (fin _ _ p3)⟩⟩
def MT (J:Hq):PV→Option x5
 | .fl xs=>some ⟨xs,fun _=>True⟩
 | .ref a=>match J a with
  | some (.lst xs)=>some ⟨xs,fun J'=>J' a=some (.lst xs)⟩
  | _=>none
 | _=>none
def OF (te:di):rK:=fun τ J R=>te τ J fun x J1=>∃ it,MT J1 x=some it∧R it J1
theorem sE.list {K:PySem.W.Frag} {it:x5} {a:Addr} {J:Hq} {H:Hp} (h:∀ J' H',Ext K J H J' H'→Rep K J' H'→it.ok J'→∃ vs,c7 K H' a vs∧aS K J' H' it.xs vs):sE K it (L2.Fd K a) J H where
 go:=fun J' H' e r o i hi=>by
  obtain ⟨vs,s,rs⟩:=h J' H' e r o
  exact ⟨vs,vs[i]'(by rw [← rs.length];exact hi),s,by simp⟩
 yl:=fun J' H' e r o i hi v H2 y=>by
  obtain ⟨vs,s,rs⟩:=h J' H' e r o
  obtain ⟨e1,y⟩:=y
  subst e1
  obtain ⟨x,ex,rx⟩:=rs.get' (y vs s)
  exact ⟨x,ex,rx,r,.refl⟩
 stop:=fun J' H' e r o=>by
  obtain ⟨vs,s,rs⟩:=h J' H' e r o
  exact ⟨vs,s,by rw [rs.length];exact Nat.le_refl _⟩
theorem fj {l:Expr} {tl:di} (hl:RE X G l tl):RI X G tg l (OF tl):=⟨Kr (L2.mF hl.run) fun σ H R ⟨τ,J,R2,a2,h,k⟩=>⟨τ,J,_,a2,h,fun x J1 v H1 rx r1 e1 ⟨it,ei,q⟩=>by
 cases x with
 | fl xs =>
  obtain ⟨a,vs,rfl,h1,h2⟩:=rx
  cases ei
  refine ⟨a,rfl,⟨vs,h1.sq⟩,k _ J1 _ H1 (.list fun J' H' e r _=>⟨vs,(e.flat h1).sq,e.iS h2⟩) r1 e1 q⟩
 | ref a =>
  cases rx
  unfold MT at ei
  dsimp only at ei
  cases ej:J1 a with
  | none=>rw [ej] at ei;cases ei
  | some o =>
   rw [ej] at ei
   cases o with
   | lst xs =>
    cases ei
    obtain ⟨vs,h1,h2⟩:=r1 _ _ ej
    refine ⟨a,rfl,⟨vs,.inl (.inl h1)⟩,k _ J1 _ H1 (.list fun J' H' e r o=>?_) r1 e1 q⟩
    obtain ⟨vs',h1',h2'⟩:=r _ _ o
    exact ⟨vs',.inl (.inl h1'),h2'⟩
   | _=>cases ei
 | _=>cases ei⟩⟩
def OH (te:di):rK:=fun τ J R=>te τ J fun x J1=>∃ xs,x=.tup xs∧R ⟨xs,fun _=>True⟩ J1
theorem JN {l:Expr} {tl:di} (hl:RE X G l tl):RI X G tg l (OH tl):=⟨Kr (L2.yT hl.run) fun σ H R ⟨τ,J,R2,a2,h,k⟩=>⟨τ,J,_,a2,h,fun x J1 v H1 rx r1 e1 ⟨xs,ei,q⟩=>by
 subst ei
 obtain ⟨a,vs,rfl,h1,h2⟩:=rx
 refine ⟨a,rfl,⟨vs,h1⟩,k _ J1 _ H1 ?_ r1 e1 q⟩
 exact {
  go:=fun J' H' e r o i hi=>⟨vs,vs[i]'(by rw [← h2.length];exact hi),e.tup _ _ h1,by simp⟩
  yl:=fun J' H' e r o i hi v H2 y=>by
   obtain ⟨e1,y⟩:=y
   subst e1
   obtain ⟨x,ex,rx⟩:=(e.iS h2).get' (y vs (e.tup _ _ h1))
   exact ⟨x,ex,rx,r,.refl⟩
  stop:=fun J' H' e r o=>⟨vs,e.tup _ _ h1,by rw [h2.length];exact Nat.le_refl _⟩ }⟩⟩
def ql (lo:Int) (n:Nat):List PV:=(List.range n).map fun (i:Nat)=>PV.int (lo + (i:Int))
theorem iH (lo:Int) (n:Nat):(ql lo n).length=n:=by simp [ql]
theorem qm (lo:Int) (n i:Nat) (x:PV):(ql lo n)[i]?=some x↔i < n∧x=.int (lo + i):=by
 unfold ql
 rw [List.getElem?_map]
 by_cases h:i < n
 ·rw [List.getElem?_range h];simp [h,eq_comm]
 ·rw [List.getElem?_eq_none (by simpa using h)];simp [h]
theorem sE.Kt {K:PySem.W.Frag} {J:Hq} {H:Hp} (lo:Int) (n:Nat):sE K ⟨ql lo n,fun _=>True⟩ (L2.Cs lo n) J H where
 go:=fun J' H' e r o i hi=>by
  show i < n
  simpa [iH] using hi
 yl:=fun J' H' e r o i hi v H2 y=>by
  obtain ⟨e1,y⟩:=y
  subst e1 y
  exact ⟨.int (lo + i),(qm lo n i _).mpr ⟨by simpa [iH] using hi,rfl⟩,rfl,r,.refl⟩
 stop:=fun J' H' e r o=>by
  show n≤(ql lo n).length
  rw [iH];exact Nat.le_refl _
def OG (ta:oy):rK:=fun τ J R=>ta τ J fun vs J1=>∃ j:Int,vs=[.int j]∧-(2 ^ 62)≤j∧j < 2 ^ 62∧R ⟨ql 0 j.toNat,fun _=>True⟩ J1
def O8 (ta:oy):rK:=fun τ J R=>ta τ J fun vs J1=>∃ i j:Int,vs=[.int i,.int j]∧(-(2 ^ 62)≤i∧i < 2 ^ 62∧-(2 ^ 62)≤j∧j < 2 ^ 62)∧R ⟨ql i (j - i).toNat,fun _=>True⟩ J1
theorem iT {a:Expr} {ta:oy} {p pos:Pos} (hg:Gl X "range") (hm:X.mg "range"=none) (ha:RA X G [a] ta) (hs:starEach [a] X.env=[(false,eval a X.env)]:=by rfl):RI X G tg (.Call (.Name "range" p) [a] [] pos) (OG ta) :=
 ⟨Kr (L2.gd hg hm ha.run hs) fun σ H R ⟨τ,J,R2,a2,h,k⟩=>⟨τ,J,_,a2,h,fun xs J1 vs H1 rs r1 e1 ⟨j,ej,l1,l2,q⟩=>by
  subst ej
  obtain ⟨v,us,rfl,rv,e'⟩:=rs
  cases rv;cases e'
  exact ⟨j,rfl,l1,l2,k _ J1 _ H1 (.Kt 0 _) r1 e1 q⟩⟩⟩
def fL (C:Addr) (E2:Addr→Hq→Prop) (t:oy):jJ:=fun _ τ J=>t τ J fun xs J1=>xs.length≤sizeLine∧E2 C J1
theorem dW {E:XK} {E2:Addr→Hq→Prop} {C:Addr} {x:Str} {t:oy} {np cpos:Pos} (O:Own X.K X.mg x C) (hc:X.calm=true) (hx:Throws X E) (kn:Ii X.K G.1 G.2 E2 E) (hg:Gl X x) (ha:RA X G (e :: es) t)
  (hd:(x == ("__debug__":Str))=false:=by decide) (he:starEach (e :: es) X.env=(false,eval e X.env) :: starEach es X.env:=by rfl) (hpl:(backTo cpos (starEach es X.env)).any (·.1)=false:=by rfl) :
  RS X G (.Raise (some (.Call (.Name x np) (e :: es) [] cpos)) none pos) (fL C E2 t):=⟨yV (BZ O hc hx hg ha.run hd he hpl) fun D σ H ⟨τ,J,D2,a2,h,g⟩ =>
 ⟨τ,J,_,a2,h,fun xs J1 vs H1 rs r1 e1 ⟨hl,q⟩=>⟨by rw [← rs.length];exact hl,kn C J1 H1 r1 (a2.ext.trans e1) q⟩⟩⟩
end
section
variable {P:Program} {w:World} {K:PySem.W.Frag} {mg:Str→Option Value} {base:Heap}
def zh (N:List Str) (xs:List PV):Sr:=xs.map some ++ List.replicate (N.length - xs.length) none
theorem EI {J:Hq} {H:Hp} {N:List Str} {xs:List PV} {vs:List V} (r:aS K J H xs vs):lJ K J H (zh N xs) (L2.start N vs):=by
 refine ⟨by simp [zh,L2.start,r.length],fun i x e=>?_⟩
 unfold zh at e
 unfold L2.start
 by_cases hi:i < xs.length
 ·rw [List.getElem?_append_left (by simpa using hi),List.getElem?_map] at e
  cases ex:xs[i]? with
  | none=>rw [ex] at e;cases e
  | some y =>
   rw [ex] at e
   cases e
   obtain ⟨v,h1,h2⟩:=r.get ex
   exact ⟨v,by rw [List.getElem?_append_left (by rw [List.length_map,← r.length];exact hi),List.getElem?_map,h1];rfl,h2⟩
 ·rw [List.getElem?_append_right (by simpa using hi)] at e
  have:=List.mem_of_getElem? e
  rw [List.mem_replicate] at this
  cases this.2
theorem ON {x qual:Str} {st:Stmt} {f:Addr} {fd:FuncData} {N ps:List Str} {k:Nat} {sp:cH} (F:cm K x qual st f fd) (S:aw N ps (L2.aj st)) (len:∀ xs J Q E,sp xs J Q E→xs.length=ps.length)
  (hbody:∀ (cdv:Value) (A:Around) (outer:List Env) (s:Shared) (H:Hp) (E:XK) (G:G2) (xs:List PV) (J:Hq) (Q:PV→Hq→Prop) (E2:Addr→Hq→Prop),bX k (A.deeper (envOfC qual (L2.aj st) s.heap.objs.size f cdv))→sp xs J Q E2 →
   E4 (Cg P w K mg base N qual (L2.aj st) f cdv A outer s H E) G E2 E →
   ∃ t,RB (Cg P w K mg base N qual (L2.aj st) f cdv A outer s H E) G (L2.b_ st) t∧t { nx:=fun _ J'=>Q .non J',rt:=Q } (zh N xs) J):aO P w K mg base (c5 P w) (k + 1) f fd ps (dI K sp):=by
 refine Pd F S (fun vs H Q E ⟨xs,J,Q2,E2,a,_,b,_⟩=>by rw [← a.length];exact len _ _ _ _ b) fun cdv A outer s H vs Q E hr ⟨xs,J,Q2,E2,rs,rr,hs,kn,ke⟩=>?_
 obtain ⟨t,hb,q⟩:=hbody cdv A outer s H E (J,H) xs J Q2 E2 hr hs ⟨ym,ke⟩
 refine ⟨_,⟨hb.run⟩,zh N xs,J,_,⟨EI rs,rr,.refl⟩,q,?_⟩
 exact { nx:=fun τ J' σ H' _ r e q=>kn .non J' .non H' rfl r e q,rt:=fun x J' v H' rx r e q=>kn x J' v H' rx r e q,bk:=fun _ _ _ _ _ _ _ q=>q.elim,ct:=fun _ _ _ _ _ _ _ q=>q.elim }
theorem _root_.Ov.Def.eX {x:Str} {st:Stmt} {k:Nat} {ps:List Str} {sp:cH} (D:Def K mg x st)
  (h:∀ f fd,cm K x x st f fd→aO P w K mg base (c5 P w) k f fd ps (dI K sp))
  (hb:∀ (kV doc pm:Value) (an:Option Addr) (cdv ct:Value) (us:List Value),us.length=ps.length→bindArgs (PySem.W.fnOf x x (L2.de st) (L2.b_ st) (L2.aj st) .none kV doc pm an cdv ct) ⟨us,[]⟩=pure (ps.zip us)) :
  bh P w K mg base k x ps sp:=D.Ng h hb
end
section
variable {X:Cx} {K:PySem.W.Frag}
def Ea (g:Int→Int→PV):me:=fun x y J Q=>∃ i j,x=.int i∧y=.int j∧Q (g i j) J
def qI (C:Int→Int→Prop) (g:Int→Int→PV):me:=fun x y J Q=>∃ i j,x=.int i∧y=.int j∧C i j∧Q (g i j) J
theorem s_ {g:Int→Int→V} {g':Int→Int→PV} (hg:∀ J H i j,cq K J H (g' i j) (g i j)):LR K (L2.E8 g) (Ea g'):=fun J H x y v w Q2 Q rx ry r ⟨i,j,ex,ey,q⟩ k=>by
 subst ex ey;exact ⟨i,j,rx,ry,k _ J _ H (hg _ _ _ _) r .refl q⟩
theorem Jf {C:Int→Int→Prop} {g:Int→Int→V} {g':Int→Int→PV} (hg:∀ J H i j,cq K J H (g' i j) (g i j)):LR K (L2.rI C g) (qI C g'):=fun J H x y v w Q2 Q rx ry r ⟨i,j,ex,ey,c,q⟩ k=>by
 subst ex ey;exact ⟨i,j,rx,ry,c,k _ J _ H (hg _ _ _ _) r .refl q⟩
theorem cU:md X (binaryOp .Add) (Ea fun i j=>.int (i + j)):=⟨_,L2.jv,s_ fun _ _ _ _=>rfl⟩
theorem dM:md X (binaryOp .Sub) (Ea fun i j=>.int (i - j)):=⟨_,L2.yL,s_ fun _ _ _ _=>rfl⟩
theorem bI:md X (binaryOp .Mult) (qI CM fun i j=>.int (i * j)):=⟨_,cM,Jf fun _ _ _ _=>rfl⟩
theorem o6:md X (binaryOp .FloorDiv) (qI CQ fun i j=>.int (i.fdiv j)):=⟨_,gA,Jf fun _ _ _ _=>rfl⟩
theorem ff:md X (binaryOp .Mod) (qI (fun _ j=>0 < j) fun i j=>.int (i % j)):=⟨_,L2.gB,Jf fun _ _ _ _=>rfl⟩
theorem gC:md X (compareOp .Lt) (Ea fun i j=>.bl (decide (i < j))):=⟨_,L2.Ah,s_ fun _ _ _ _=>rfl⟩
theorem DT:md X (compareOp .LtE) (Ea fun i j=>.bl (decide (i≤j))):=⟨_,L2.Hx,s_ fun _ _ _ _=>rfl⟩
theorem j8:md X (compareOp .Gt) (Ea fun i j=>.bl (decide (j < i))):=⟨_,L2.Hw,s_ fun _ _ _ _=>rfl⟩
theorem DS:md X (compareOp .GtE) (Ea fun i j=>.bl (decide (j≤i))):=⟨_,L2.Hv,s_ fun _ _ _ _=>rfl⟩
def qU (g:Int→PV):KA:=fun x J Q=>∃ i,x=.int i∧Q (g i) J
theorem ou:Ox X (unaryOp .USub) (qU fun i=>.int (-i)):=⟨_,L2.EZ,fun J H x v Q2 Q rx r ⟨i,ex,q⟩ k=>by subst ex;exact ⟨i,rx,k (.int (-i)) J _ H rfl r .refl q⟩⟩
def LU:me:=fun x y J Q=>∃ i j,x=.str i∧y=.str j∧Q (.bl (decide (i.cps.toList < j.cps.toList))) J
theorem yM:md X (compareOp .Lt) LU:=⟨_,L2.BR,fun J H x y v w Q2 Q rx ry r ⟨i,j,ex,ey,q⟩ k=>by subst ex ey;exact ⟨i,j,rx,ry,k (.bl _) J _ H rfl r .refl q⟩⟩
def Dd:PV→Bool
 | .non=>true
 | _=>false
theorem Ab {J:Hq} {H:Hp} {x:PV} {v:V} (r:cq K J H x v):decide (v=.non)=Dd x:=by
 cases x with
 | non=>cases r;rfl
 | tup xs=>obtain ⟨a,vs,rfl,_⟩:=r;rfl
 | fl xs=>obtain ⟨a,vs,rfl,_⟩:=r;rfl
 | _=>cases r;rfl
def OR:me:=fun x y J Q=>y=.non∧Q (.bl (Dd x)) J
def Eb:me:=fun x y J Q=>y=.non∧Q (.bl (!Dd x)) J
theorem LC:md X (compareOp .Is) OR:=⟨_,L2.Jr,fun J H x y v w Q2 Q rx ry r ⟨ey,q⟩ k=>by subst ey;cases ry;exact ⟨rfl,by rw [Ab rx];exact k (.bl _) J _ H rfl r .refl q⟩⟩
theorem qB:md X (compareOp .IsNot) Eb:=⟨_,L2.F6,fun J H x y v w Q2 Q rx ry r ⟨ey,q⟩ k=>by subst ey;cases ry;exact ⟨rfl,by rw [Ab rx];exact k (.bl _) J _ H rfl r .refl q⟩⟩
mutual
def gE:PV→Py
 | .non=>.non | .bl b=>.bl b | .int i=>.int i | .str x=>.str x | .ref _=>.non | .ty _=>.non | .tup xs=>.tup (gF xs) | .fl xs=>.lst (gF xs)
def gF:List PV→List Py
 | []=>[]
 | x :: xs=>gE x :: gF xs
end
mutual
def mH:PV→Bool
 | .ref _=>false | .ty _=>false | .tup xs=>lj xs | .fl xs=>lj xs | _=>true
def lj:List PV→Bool
 | []=>true
 | x :: xs=>mH x && lj xs
end
mutual
theorem t6 {J:Hq} {H:Hp}:∀ {x:PV} {v:V},mH x=true→cq K J H x v→At K H (gE x) v
 | .non,_,_,h=>h
 | .bl _,_,_,h=>h
 | .int _,_,_,h=>h
 | .str _,_,_,h=>h
 | .tup xs,_,p,⟨a,vs,e,h,k⟩=>⟨a,vs,e,h,pZ (by simpa [mH] using p) k⟩
 | .fl xs,_,p,⟨a,vs,e,h,k⟩=>⟨a,vs,e,h.sq,pZ (by simpa [mH] using p) k⟩
theorem pZ {J:Hq} {H:Hp}:∀ {xs:List PV} {vs:List V},lj xs=true→aS K J H xs vs→rg K H (gF xs) vs
 | [],_,_,h=>h
 | x :: xs,_,p,⟨v,us,e,h,k⟩=>by
  have p':mH x=true∧lj xs=true:=by simpa [lj] using p
  exact ⟨v,us,e,t6 p'.1 h,pZ p'.2 k⟩
end
def eqQ (x y:PV):Bool:=kH (gE x) (gE y)
def Fq (x:PV):Prop:=mH x=true∧dep (gE x)≤60
def HE (f:Bool→Bool):me:=fun x y J Q=>Fq x∧mH y=true∧Q (.bl (f (eqQ x y))) J
theorem Hn (f:Bool→Bool):LR K (rP K f) (HE f):=fun J H x y v w Q2 Q rx ry r ⟨⟨px,d⟩,py,q⟩ k=>⟨gE x,gE y,t6 px rx,t6 py ry,d,k (.bl _) J _ H rfl r .refl q⟩
theorem df (hu:X.A.units + 61 < cLine):md X (compareOp .Eq) (HE id):=⟨_,Jp hu,Hn id⟩
theorem iK (hu:X.A.units + 61 < cLine):md X (compareOp .NotEq) (HE not):=⟨_,Js hu,Hn not⟩
def fK (J:Hq):PV→PV→Option PV
 | .tup xs,.int i=>c_ xs i
 | .fl xs,.int i=>c_ xs i
 | .ref a,.int i=>match J a with
  | some (.lst xs)=>c_ xs i
  | _=>none
 | _,_=>none
theorem aS.c_ {J:Hq} {H:Hp} {xs:List PV} {vs:List V} {i:Int} {x:PV} (r:aS K J H xs vs) (h:L2.c_ xs i=some x):∃ v,L2.c_ vs i=some v∧cq K J H x v:=by
 unfold L2.c_ at h ⊢
 rw [← r.length]
 cases e:L2.Ci xs.length i with
 | none=>rw [e] at h;cases h
 | some j =>
  rw [e] at h
  obtain ⟨v,h1,h2⟩:=r.get h
  exact ⟨v,h1,h2⟩
def HF:me:=fun x y J Q=>∃ v,fK J x y=some v∧Q v J
theorem ar:M7 X HF:=⟨_,L2.uf.or L2.cT,fun J H x y v w Q2 Q rx ry r ⟨z,ez,q⟩ k=>by
 cases y with
 | int i =>
  cases ry
  cases x with
  | tup xs =>
   obtain ⟨a,vs,rfl,h1,h2⟩:=rx
   obtain ⟨u,e1,e2⟩:=h2.c_ (show L2.c_ xs i=some z from ez)
   exact .inr ⟨a,vs,i,u,rfl,rfl,h1,e1,k z J u H e2 r .refl q⟩
  | fl xs =>
   obtain ⟨a,vs,rfl,h1,h2⟩:=rx
   obtain ⟨u,e1,e2⟩:=h2.c_ (show L2.c_ xs i=some z from ez)
   exact .inl ⟨a,vs,i,u,rfl,rfl,h1.sq,e1,k z J u H e2 r .refl q⟩
  | ref a =>
   cases rx
   unfold fK at ez
   dsimp only at ez
   cases ej:J a with
   | none=>rw [ej] at ez;cases ez
   | some o =>
    rw [ej] at ez
    cases o with
    | lst xs =>
     obtain ⟨vs,h1,h2⟩:=r _ _ ej
     obtain ⟨u,e1,e2⟩:=h2.c_ (show L2.c_ xs i=some z from ez)
     exact .inl ⟨a,vs,i,u,rfl,rfl,.inl (.inl h1),e1,k z J u H e2 r .refl q⟩
    | _=>cases ez
  | _=>cases ez
 | _=>cases x <;> cases ez⟩
def lM (xs:List PV) (lo hi:Option Int):List PV:=(xs.drop (HT.d_ xs.length 0 lo)).take (HT.d_ xs.length xs.length hi - HT.d_ xs.length 0 lo)
theorem zH {J:Hq} {H:Hp} {xs:List PV} {vs:List V} {lo hi:Option Int} (r:aS K J H xs vs):aS K J H (lM xs lo hi) (L2.nB vs lo hi):=by
 unfold lM L2.nB
 rw [← r.length]
 exact (r.drop _).take _
def LY:Bf:=fun x lo hi J Q=>∃ xs,x=.tup xs∧¬ (HT.d_ xs.length 0 lo=0∧HT.d_ xs.length xs.length hi=xs.length)∧Q (.tup (lM xs lo hi)) J
theorem zg:M' X LY:=⟨_,L2.JW,fun J H x lo hi v Q2 Q rx r ⟨xs,ex,hn,q⟩ k=>by
 subst ex
 obtain ⟨a,vs,rfl,h1,h2⟩:=rx
 refine ⟨a,vs,rfl,h1,by rw [← h2.length];exact hn,fun p hp=>?_⟩
 have sm:=bG.new hp (.tup (L2.nB vs lo hi))
 have e2:=Ext.same (K:=X.K) (J:=J) sm
 exact k (.tup (lM xs lo hi)) J (.ref p) _ ⟨p,_,rfl,.inl (.inl aJ),e2.iS (zH h2)⟩ (r.same sm) e2 q⟩
def lQ (J:Hq):PV→Option (List PV)
 | .fl xs=>some xs
 | .ref a=>match J a with
  | some (.lst xs)=>some xs
  | _=>none
 | _=>none
theorem uo {J:Hq} {H:Hp} {x:PV} {v:V} {xs:List PV} (rx:cq K J H x v) (r:Rep K J H) (h:lQ J x=some xs):∃ a vs,v=.ref a∧c7 K H a vs∧aS K J H xs vs:=by
 cases x with
 | fl ys=>obtain ⟨a,vs,rfl,h1,h2⟩:=rx;cases h;exact ⟨a,vs,rfl,h1.sq,h2⟩
 | ref a =>
  cases rx
  unfold lQ at h
  dsimp only at h
  cases ej:J a with
  | none=>rw [ej] at h;cases h
  | some o =>
   rw [ej] at h
   cases o with
   | lst ys=>cases h;obtain ⟨vs,h1,h2⟩:=r _ _ ej;exact ⟨a,vs,rfl,.inl (.inl h1),h2⟩
   | _=>cases h
 | _=>cases h
def LX:Bf:=fun x lo hi J Q=>∃ xs,lQ J x=some xs∧Q (.fl (lM xs lo hi)) J
theorem EG:M' X LX:=⟨_,L2.vn,fun J H x lo hi v Q2 Q rx r ⟨xs,ex,q⟩ k=>by
 obtain ⟨a,vs,rfl,h1,h2⟩:=uo rx r ex
 refine ⟨a,vs,rfl,h1,fun p hp=>?_⟩
 obtain ⟨x1,x2,x3⟩:=yH r (zH (lo:=lo) (hi:=hi) h2) hp
 exact k _ J _ _ x1 x2 x3 q⟩
def NX:Bf:=fun x lo hi J Q=>∃ xs,lQ J x=some xs∧∀ p,J p=none→Q (.ref p) (put J p (.lst (lM xs lo hi)))
def LK:zA:=fun xs J Q=>∃ i,xs=[.int i]∧Q (.int (if i < 0 then -i else i)) J
theorem yj:Ig X (.builtin "abs") LK:=⟨_,L2.mi,fun J H xs vs Q2 Q rs r ⟨i,ex,q⟩ k=>by
 subst ex;obtain ⟨v,us,rfl,rv,e⟩:=rs;cases rv;cases e
 exact ⟨i,rfl,k (.int _) J _ H rfl r .refl q⟩⟩
def um (J:Hq):PV→Option Nat
 | .tup xs=>some xs.length
 | x=>(lQ J x).map List.length
def JF:zA:=fun xs J Q=>∃ x n,xs=[x]∧um J x=some n∧Q (.int n) J
theorem bH:Ig X (.builtin "len") JF:=⟨_,L2.jf,fun J H xs vs Q2 Q rs r ⟨x,n,ex,en,q⟩ k=>by
 subst ex;obtain ⟨v,us,rfl,rv,e⟩:=rs;cases e
 have go:∀ ys,lQ J x=some ys→ys.length=n→∃ p ws,([v]:List V)=[.ref p]∧(c7 X.K H p ws∨gM X.K H p ws)∧Q (.int ws.length) H:=fun ys h1 h2=>by
  obtain ⟨a,ws,rfl,h3,h4⟩:=uo rv r h1
  exact ⟨a,ws,rfl,.inl h3,by rw [← h4.length,h2];exact k (.int _) J _ H rfl r .refl q⟩
 cases x with
 | tup ys =>
  obtain ⟨a,ws,rfl,h1,h2⟩:=rv
  cases en
  exact ⟨a,ws,rfl,.inr h1,by rw [← h2.length];exact k (.int _) J _ H rfl r .refl q⟩
 | fl ys=>cases en;exact go _ rfl rfl
 | ref a =>
  unfold um at en
  cases el:lQ J (.ref a) with
  | none=>simp [el] at en
  | some ys=>simp [el] at en;exact go _ el en
 | _=>cases en⟩
def zp (J:Hq):PV→Option String
 | .non=>some "NoneType" | .bl _=>some "bool" | .int _=>some "int" | .str _=>some "str" | .tup _=>some "tuple" | .fl _=>some "list"
 | .ref a=>match J a with
  | some (.lst _)=>some "list"
  | some (.dct _ _)=>some "dict"
  | _=>none
 | _=>none
def l4 (t n:String):Option Bool :=
 if n∈["int","bool","str","tuple","list"] then some (t == n || (t == "bool" && n == "int")) else none
theorem FJ (K:PySem.W.Frag) {t n:String} {b:Bool} (ht:t∈["NoneType","bool","int","str","tuple","list","dict"]) (h:l4 t n=some b):PySem.W.kitOne K (.type t) (.type n)=some b:=by
 unfold l4 at h
 by_cases hn:n∈["int","bool","str","tuple","list"]
 ·rw [if_pos hn] at h
  simp only [List.mem_cons,List.not_mem_nil,or_false] at ht hn
  rcases ht with rfl | rfl | rfl | rfl | rfl | rfl | rfl <;> rcases hn with rfl | rfl | rfl | rfl | rfl <;> cases h <;> with_unfolding_all rfl
 ·rw [if_neg hn] at h;cases h
theorem G4 {J:Hq} {x:PV} {t:String} (h:zp J x=some t):t∈["NoneType","bool","int","str","tuple","list","dict"]:=by
 cases x with
 | ref a =>
  unfold zp at h
  dsimp only at h
  cases ej:J a with
  | none=>rw [ej] at h;cases h
  | some o=>rw [ej] at h;cases o <;> cases h <;> simp
 | ty n=>cases h
 | _=>cases h;simp
def LN:zA:=fun xs J Q=>∃ x n t b,xs=[x,.ty n]∧zp J x=some t∧l4 t n=some b∧Q (.bl b) J
theorem Bi:cx X (.builtin "isinstance") (fun xs H Q=>∃ x n t b,xs=[x,.ty n]∧(gK X.K H x (.type t)∨(t="tuple"∧∃ a vs,x=.ref a∧gM X.K H a vs)∨(t="list"∧∃ a vs,x=.ref a∧c7 X.K H a vs))∧PySem.W.kitOne X.K (.type t) (.type n)=some b∧Q (.bl b) H):=by
 intro pins s σ H xs us Q I r h
 obtain ⟨x,n,t,b,rfl,ty,e,q⟩:=h
 obtain ⟨u,w',rfl,rx,ry⟩:=L2.vals2 r
 cases (show w'=Value.type n from ry)
 rcases ty with ty | ⟨rfl,a,vs,rfl,hs⟩ | ⟨rfl,a,vs,rfl,hs⟩
 ·exact L2.Bs I rx ty e fun tk=>⟨.bl b,H,I.tok _,rfl,q⟩
 ·cases rx
  obtain ⟨its,_,⟨o,h1,h2,_⟩,_⟩:=I.tuple hs
  exact PySem.W.kia_one PySem.W.kitx_tuple I.mx ⟨o,h1,h2⟩ e (fun z=>nomatch z) fun tk=>⟨.bl b,H,I.tok _,rfl,q⟩
 ·cases rx
  obtain ⟨its,_,⟨o,_,h1,h2,_⟩,_⟩:=I.list hs
  exact PySem.W.kia_one PySem.W.kitx_list I.mx ⟨o,h1,h2⟩ e (fun z=>nomatch z) fun tk=>⟨.bl b,H,I.tok _,rfl,q⟩
theorem gq:Ig X (.builtin "isinstance") LN:=⟨_,Bi,fun J H xs vs Q2 Q rs r ⟨x,n,t,b,ex,et,es,q⟩ k=>by
 subst ex
 obtain ⟨v,us,rfl,rv,w,us',rfl,rw',e⟩:=rs
 cases rw';cases e
 refine ⟨v,n,t,b,rfl,?_,FJ X.K (G4 et) es,k (.bl _) J _ H rfl r .refl q⟩
 cases x with
 | non=>cases rv;cases et;exact .inl .non
 | bl i=>cases rv;cases et;exact .inl (.bl i)
 | int i=>cases rv;cases et;exact .inl (.int i)
 | str i=>cases rv;cases et;exact .inl (.str i)
 | tup xs=>obtain ⟨a,ws,rfl,h1,_⟩:=rv;cases et;exact .inr (.inl ⟨rfl,a,ws,rfl,h1⟩)
 | fl xs =>
  obtain ⟨a,ws,rfl,h1,_⟩:=rv;cases et
  exact .inr (.inr ⟨rfl,a,ws,rfl,h1.sq⟩)
 | ty n=>cases et
 | ref a =>
  cases rv
  unfold zp at et
  dsimp only at et
  cases ej:J a with
  | none=>rw [ej] at et;cases et
  | some o =>
   rw [ej] at et
   have z:=r _ _ ej
   cases o with
   | lst xs=>obtain ⟨ws,h1,_⟩:=z;cases et;exact .inl (.lst h1)
   | dct kvs ep=>obtain ⟨gs,h1,_⟩:=z;cases et;exact .inl (.dE h1)
   | tab=>cases et
   | dtp hs ks=>cases et
   | ins C fs=>cases et⟩
def JD:zA:=fun xs J Q=>∃ x ys,xs=[x]∧lQ J x=some ys∧Q (.fl ys) J
def D':zA:=fun xs J Q=>∃ x ys,xs=[x]∧lQ J x=some ys∧∀ p,J p=none→Q (.ref p) (put J p (.lst ys))
theorem p5:Ig X (.type "list") D':=⟨_,L2.t8,fun J H xs vs Q2 Q rs r ⟨x,ys,ex,el,q⟩ k=>by
 subst ex;obtain ⟨v,us,rfl,rv,e⟩:=rs;cases e
 obtain ⟨a,ws,rfl,h3,h4⟩:=uo rv r el
 exact ⟨a,ws,rfl,.inl h3,fun p hp=>k (.ref p) _ _ _ rfl (r.Dl hp h4) (.laid hp) (q p (r.free hp))⟩⟩
def NW:zA:=fun xs J Q=>∃ i j,xs=[.int i,.int j]∧Q (.int (if j > i then j else i)) J
def uS:Ce:=fun x xs J Q=>∃ a ys y,x=.ref a∧xs=[y]∧J a=some (.lst ys)∧ys.length < sizeLine∧Q .non (put J a (.lst (ys ++ [y])))
theorem nQ:G8 X "list" "list.append" uS:=⟨_,L2.f',fun J H x xs v vs Q2 Q rx rs r ⟨a,ys,y,ex,exs,ja,hl,q⟩ k=>by
 subst ex exs;cases rx;obtain ⟨w,us,rfl,rw',e⟩:=rs;cases e
 obtain ⟨ws,h1,h2⟩:=r _ _ ja
 exact ⟨a,ws,w,rfl,rfl,h1,by rw [← h2.length];exact hl,k .non _ _ _ rfl (r.wrote (ys:=ys ++ [y]) ja h1 (h2.append (show aS X.K J H [y] [w] from ⟨w,[],rfl,rw',rfl⟩))) (.wrote ja h1) q⟩⟩
def LV:Ce:=fun x xs J Q=>∃ a ys y,x=.ref a∧xs=[]∧J a=some (.lst ys)∧ys[ys.length - 1]?=some y∧Q y (put J a (.lst ys.dropLast))
theorem aS.dropLast {J:Hq} {H:Hp} {xs:List PV} {vs:List V} (r:aS K J H xs vs):aS K J H xs.dropLast vs.dropLast:=by
 rw [List.dropLast_eq_take,List.dropLast_eq_take,← r.length]
 exact r.take _
theorem Ji:G8 X "list" "list.pop" LV:=⟨_,L2.Jj,fun J H x xs v vs Q2 Q rx rs r ⟨a,ys,y,ex,exs,ja,hy,q⟩ k=>by
 subst ex exs;cases rx;cases rs
 obtain ⟨ws,h1,h2⟩:=r _ _ ja
 obtain ⟨w,e1,e2⟩:=h2.get hy
 have ex:=Ext.wrote (K:=X.K) (ys:=ys.dropLast) (vs:=ws.dropLast) ja h1
 exact ⟨a,ws,w,rfl,rfl,h1,by rw [← h2.length];exact e1,k y _ w _ (ex.rep e2) (r.wrote ja h1 h2.dropLast) ex q⟩⟩
def D_:Ce:=fun x xs J Q=>∃ a ys,x=.ref a∧xs=[]∧J a=some (.lst ys)∧Q .non (put J a (.lst []))
theorem DC:G8 X "list" "list.clear" D_:=⟨_,L2.DD,fun J H x xs v vs Q2 Q rx rs r ⟨a,ys,ex,exs,ja,q⟩ k=>by
 subst ex exs;cases rx;cases rs
 obtain ⟨ws,h1,h2⟩:=r _ _ ja
 exact ⟨a,ws,rfl,rfl,h1,k .non _ _ _ rfl (r.wrote (ys:=[]) (vs:=[]) ja h1 (show aS X.K J H [] [] from rfl)) (.wrote ja h1) q⟩⟩
def Gw:V→List V→Hp→VK→Prop:=fun x vs H Q=>∃ l xs i y,x=.ref l∧vs=[.int (i:Nat),y]∧H l=some (.lst xs)∧i≤xs.length∧xs.length < sizeLine∧i < 2 ^ 62∧Q .non (upd H l (.lst (xs.take i ++ y :: xs.drop i)))
theorem yt (its:List Value) (i:Nat) (u:Value) (h:i≤its.length):((its.toArray.extract 0 (min ((i:Int)).toNat its.toArray.size)).push u ++ its.toArray.extract (min ((i:Int)).toNat its.toArray.size))=(its.take i ++ u :: its.drop i).toArray:=by
 have e:min ((i:Int)).toNat its.toArray.size=i:=by simp;omega
 rw [e]
 apply Array.ext'
 simp
 exact List.take_of_length_le (by simp)
theorem BE:pT X "list.insert" Gw:=by
 intro pins s σ H x vs v us Q I rx rv h
 obtain ⟨l,xs,i,y,rfl,rfl,hH,hi,hz,hb,q⟩:=h
 cases rx
 obtain ⟨u,w,rfl,ru,rw'⟩:=L2.vals2 rv
 obtain ⟨t,rfl⟩:=ru
 obtain ⟨z,its,n,r,hl,e⟩:=I.Dy hH
 have h63:((i:Nat):Int) < 2 ^ 63:=by
  have:((i:Nat):Int) < ((2 ^ 62:Nat):Int):=Int.ofNat_lt.mpr hb
  exact Int.lt_trans this (by decide)
 have hf:Builtin.List.listFitsIndex ((i:Nat):Int)=true:=fitsIndex_both (Int.le_trans (by decide) (Int.natCast_nonneg i)) h63
 have hs:its.toArray.size≤sizeLine:=by rw [List.size_toArray,← hl];exact z
 have hn:¬(!Builtin.List.listFitsIndex ((i:Nat):Int))=true:=by rw [hf];exact fun z=>nomatch z
 have hneg:¬ (((i:Nat):Int) < 0):=by omega
 have hins:=yt its i w (by omega)
 clear hb h63 hf
 generalize ((i:Nat):Int)=ii at *
 have mm:=PySem.AutoSeq1.list_insert_list_int_val_1 l its.toArray n ii t w hn hs
 refine call_meets PySem.F.slot_list_insert ⟨_,e,rfl⟩ PySem.F.entry_list_insert (PySem.F.args_list_insert_3 _ _ _) mm ⟨e,?_⟩
 refine ⟨.non,_,I.Dx (its':=its.take i ++ w :: its.drop i) hH e ?_ ((r.take i).append (.cons rw' (r.drop i))) ?_,rfl,q⟩
 ·simp only [if_neg hneg]
  exact hins
 ·rw [List.length_append,List.length_cons,List.length_take,List.length_drop];omega
def Aq:Ce:=fun x xs J Q=>∃ a ys i y,x=.ref a∧xs=[.int (i:Nat),y]∧J a=some (.lst ys)∧i≤ys.length∧ys.length < sizeLine∧i < 2 ^ 62∧Q .non (put J a (.lst (ys.take i ++ y :: ys.drop i)))
theorem iI:G8 X "list" "list.insert" Aq:=⟨_,BE,fun J H x xs v vs Q2 Q rx rs r ⟨a,ys,i,y,ex,exs,ja,hi,hl,hb,q⟩ k=>by
 subst ex exs;cases rx;obtain ⟨w0,us,rfl,rw0,w,us',rfl,rw',e⟩:=rs;cases e;cases rw0
 obtain ⟨ws,h1,h2⟩:=r _ _ ja
 exact ⟨a,ws,i,w,rfl,rfl,h1,by rw [← h2.length];exact hi,by rw [← h2.length];exact hl,hb,k .non _ _ _ rfl (r.wrote (ys:=ys.take i ++ y :: ys.drop i) ja h1 ((h2.take i).append (show aS X.K J H (y :: ys.drop i) (w :: ws.drop i) from ⟨w,_,rfl,rw',h2.drop i⟩))) (.wrote ja h1) q⟩⟩
end
def oh (ks:List (Str × Nat)) (τ:Sr):Sr:=ks.map fun p=>(τ[p.2]?).getD none
theorem AA {K:PySem.W.Frag} {J:Hq} {H:Hp} {τ:Sr} {σ:L2.St} (r:lJ K J H τ σ) {x:PV} {v:V} (rx:cq K J H x v) (ks:List (Str × Nat)):lJ K J H (some x :: oh ks τ) (some v :: dk ks σ):=by
 refine ⟨by simp [oh,dk],fun i y e=>?_⟩
 cases i with
 | zero=>rw [List.getElem?_cons_zero] at e ⊢;cases e;exact ⟨v,rfl,rx⟩
 | succ i =>
  rw [List.getElem?_cons_succ] at e ⊢
  unfold oh at e
  unfold dk
  rw [List.getElem?_map] at e ⊢
  cases ep:ks[i]? with
  | none=>rw [ep] at e;cases e
  | some p =>
   rw [ep] at e
   have e':(τ[p.2]?).getD none=some y:=Option.some.inj e
   have e2:τ[p.2]?=some (some y):=by
    cases q:τ[p.2]? with
    | none=>rw [q] at e';cases e'
    | some w=>rw [q] at e';exact congrArg some e'
   obtain ⟨v',h1,h2⟩:=r.get _ _ e2
   exact ⟨v',by show some ((σ[p.2]?).getD none)=_;rw [h1];rfl,h2⟩
def Sub (J J':Hq):Prop:=∀ a o,J a=some o→J' a=some o
theorem Sub.put {J:Hq} {D:Addr} {o:HQ} (h:J D=none):Sub J (put J D o):=fun a u e=>by
 have ne:a≠D:=by intro z;subst z;rw [h] at e;cases e
 rw [au ne];exact e
def M8 (it:x5) (J1:Hq) (ks:List (Str × Nat)) (τ:Sr) (tc:lK) (te:di) (c:PV→Bool) (g:PV→PV):Prop:=it.xs.length < sizeLine∧∀ J',Sub J1 J'→it.ok J' ∧
 ∀ x∈it.xs,tc (some x :: oh ks τ) J' (fun b J2=>b=c x∧J2=J')∧(c x=true→te (some x :: oh ks τ) J' fun y J2=>y=g x∧J2=J')
def uU (wi:rK) (ks:List (Str × Nat)) (tc:lK) (te:di):di:=fun τ J Q=>wi τ J fun it J1=>∃ (c:PV→Bool) (g:PV→PV),M8 it J1 ks τ tc te c g∧Q (.fl ((it.xs.filter c).map g)) J1
def JJ (wi:rK) (ks:List (Str × Nat)) (tc:lK) (te:di):di:=fun τ J Q=>wi τ J fun it J1=>∃ (c:PV→Bool) (g:PV→PV),M8 it J1 ks τ tc te c g∧∀ p,J1 p=none→Q (.ref p) (put J1 p (.lst ((it.xs.filter c).map g)))
def xg:lK:=fun _ J Q=>Q true J
section
variable {X:Cx} {G:G2}
theorem oI {α:Type} (c:α→Bool) {xs:List α} {i:Nat} {x:α} (h:xs[i]?=some x):(xs.take (i + 1)).filter c=(xs.take i).filter c ++ (if c x=true then [x] else []):=by
 rw [List.take_add_one,h,List.filter_append]
 congr 1
 simp only [Option.toList_some,List.filter_cons,List.filter_nil]
theorem uj {K:PySem.W.Frag} {ks:List (Str × Nat)} {tc:lK} {te:di} {σ:L2.St} {H:Hp} {Q:VK} {τ:Sr} {J:Hq} (a2:vK K G τ J σ H) {it:x5} {J1:Hq} {I:It} {H1:Hp} (ir:sE K it I J1 H1) (r1:Rep K J1 H1) (e1:Ext K J H J1 H1) {c:PV→Bool} {g:PV→PV}
  (w:M8 it J1 ks τ tc te c g)
  (q:∀ D H2,H1 D=none→J1 D=none→Rep K (put J1 D (.lst ((it.xs.filter c).map g))) H2→Ext K J1 H1 (put J1 D (.lst ((it.xs.filter c).map g))) H2→Q (.ref D) H2) :
  ∀ D,H1 D=none→∃ W:Nat→Nat→Hp→Prop,(∃ m,W 0 m (upd H1 D (.lst [])))∧∀ i m H2,W i m H2→(I.stop i H2∧Q (.ref D) H2) ∨
   (I.go i H2∧∀ v H3,I.yld i H2 v H3→LT K G tc (some v :: dk ks σ) H3 fun b H4=>if b=true then LE K G te (some v :: dk ks σ) H4 fun y H5=>∃ ys,H5 D=some (.lst ys)∧ys.length < sizeLine∧∃ m',m' < m∧W (i + 1) m' (upd H5 D (.lst (ys ++ [y]))) else ∃ m',m' < m∧W (i + 1) m' H4):=by
 intro D hD
 obtain ⟨hlen,w⟩:=w
 have jD:J1 D=none:=r1.free hD
 refine ⟨fun i m H2=>m=it.xs.length - i∧i≤it.xs.length∧Rep K (put J1 D (.lst (((it.xs.take i).filter c).map g))) H2∧Ext K J1 H1 (put J1 D (.lst (((it.xs.take i).filter c).map g))) H2,⟨_,rfl,Nat.zero_le _,r1.Dl (xs:=[]) (vs:=[]) hD rfl,.laid hD⟩,?_⟩
 rintro i m H2 ⟨rfl,hi,r2,e2⟩
 obtain ⟨ok,ww⟩:=w _ (Sub.put (o:=.lst (((it.xs.take i).filter c).map g)) jD)
 by_cases hlt:i < it.xs.length
 ·refine .inr ⟨ir.go _ H2 e2 r2 ok i hlt,fun v H3 y=>?_⟩
  obtain ⟨x,ex,rx,r3,e3⟩:=ir.yl _ H2 e2 r2 ok i hlt v H3 y
  obtain ⟨hc,he⟩:=ww x (List.mem_of_getElem? ex)
  have a3:vK K G (some x :: oh ks τ) _ (some v :: dk ks σ) H3:=⟨AA (a2.sl.ext ((e1.trans e2).trans e3)) rx ks,r3,((a2.ext.trans e1).trans e2).trans e3⟩
  refine ⟨_,_,_,a3,hc,fun b J4 H4 r4 e4 ⟨eb,ej⟩=>?_⟩
  subst ej
  cases hb:c x with
  | false =>
   rw [eb,hb]
   simp only [Bool.false_eq_true,if_false]
   refine ⟨_,by omega,rfl,hlt,?_⟩
   rw [oI c ex,hb]
   simp only [Bool.false_eq_true,if_false,List.append_nil]
   exact ⟨r4,(e2.trans e3).trans e4⟩
  | true =>
   rw [eb,hb]
   simp only [if_true]
   refine ⟨_,_,_,a3.go r4 e4,he hb,fun z J5 u H5 rz r5 e5 ⟨ez,ej⟩=>?_⟩
   subst ej ez
   obtain ⟨ys,h5,ry⟩:=r5 D _ av
   have ll:ys.length≤i:=by
    rw [← ry.length,List.length_map]
    exact Nat.le_trans (List.length_filter_le _ _) (by rw [List.length_take];omega)
   have r6:=r5.wrote (ys:=((it.xs.take i).filter c).map g ++ [g x]) (vs:=ys ++ [u]) av h5 (ry.append (show aS K _ H5 [g x] [u] from ⟨u,[],rfl,rz,rfl⟩))
   have e6:=Ext.wrote (K:=K) (ys:=((it.xs.take i).filter c).map g ++ [g x]) (vs:=ys ++ [u]) (J:=put J1 D (.lst (((it.xs.take i).filter c).map g))) av h5
   rw [d4] at r6 e6
   refine ⟨ys,h5,by omega,_,by omega,rfl,hlt,?_⟩
   rw [oI c ex,hb,if_pos rfl,List.map_append]
   exact ⟨r6,(((e2.trans e3).trans e4).trans e5).trans e6⟩
 ·have ei:i=it.xs.length:=by omega
  subst ei
  rw [List.take_length] at r2 e2 ok
  exact .inl ⟨ir.stop _ H2 e2 r2 ok,q D H2 hD jD r2 e2⟩
theorem freeze {K:PySem.W.Frag} {J1:Hq} {H2:Hp} {D:Addr} {xs:List PV} (jD:J1 D=none) (r:Rep K (put J1 D (.lst xs)) H2):cq K J1 H2 (.fl xs) (.ref D)∧Rep K J1 H2∧Ext K (put J1 D (.lst xs)) H2 J1 H2:=by
 obtain ⟨ys,h,ry⟩:=r D _ av
 have less:∀ a,J1 a=put J1 D (.lst xs) a∨J1 a=none:=fun a=>by
  by_cases e:a=D
  ·subst e;exact .inr jD
  ·rw [au e];exact .inl rfl
 have e:=Ext.less (K:=K) (H:=H2) less
 exact ⟨⟨D,ys,rfl,.inl ⟨jD,.inl h⟩,e.iS ry⟩,r.less less,e⟩
theorem Dp {wi:rK} {ks:List (Str × Nat)} {tc:lK} {te:di}:∀ σ H Q,LE X.K G (uU wi ks tc te) σ H Q→Ka (LI X.K G wi) ks (LT X.K G tc) (LE X.K G te) σ H Q:=fun σ H Q ⟨τ,J,Q2,a2,h,k⟩ =>
 ⟨τ,J,_,a2,h,fun it J1 I H1 ir r1 e1 ⟨c,g,w,q⟩=>uj (Q:=Q) a2 ir r1 e1 w fun D H2 hD jD r2 e2=>let ⟨x1,x2,x3⟩:=freeze jD r2;k _ J1 _ H2 x1 x2 ((e1.trans e2).trans x3) q⟩
theorem Dq {wi:rK} {ks:List (Str × Nat)} {tc:lK} {te:di}:∀ σ H Q,LE X.K G (JJ wi ks tc te) σ H Q→Ka (LI X.K G wi) ks (LT X.K G tc) (LE X.K G te) σ H Q:=fun σ H Q ⟨τ,J,Q2,a2,h,k⟩ =>
 ⟨τ,J,_,a2,h,fun it J1 I H1 ir r1 e1 ⟨c,g,w,q⟩=>uj (Q:=Q) a2 ir r1 e1 w fun D H2 hD jD r2 e2=>k (.ref D) _ _ H2 rfl r2 (e1.trans e2) (q D jD)⟩
theorem wo {wi:rK} {ks:List (Str × Nat)} {te:di}:∀ σ H Q,LE X.K G (uU wi ks xg te) σ H Q→MZ (LI X.K G wi) ks (LE X.K G te) σ H Q:=fun σ H Q ⟨τ,J,Q2,a2,h,k⟩ =>
 ⟨τ,J,_,a2,h,fun it J1 I H1 ir r1 e1 ⟨c,g,w,q⟩ D hD=>by
  obtain ⟨W,w0,turn⟩:=uj (Q:=Q) a2 ir r1 e1 w (fun D H2 hD jD r2 e2=>let ⟨x1,x2,x3⟩:=freeze jD r2;k _ J1 _ H2 x1 x2 ((e1.trans e2).trans x3) q) D hD
  refine ⟨W,w0,fun i m H2 hw=>?_⟩
  rcases turn i m H2 hw with z | ⟨go,z⟩
  ·exact .inl z
  ·refine .inr ⟨go,fun v H3 y=>?_⟩
   obtain ⟨τ',J',Q',a',t',k'⟩:=z v H3 y
   have:=k' true J' H3 a'.hp .refl t'
   simpa using this⟩
variable {elt iter cnd:Expr} {x y:Str} {px py:Pos} {sc:Scope} {pos spos:Pos} {wi:rK} {te:di} {tc:lK} {i:Nat}
theorem Mo (osc:Scope) (N:List Str) (ks:List (Str × Nat)) (hc:X.calm=true) (ho:X.env.scope=osc) (hN:X.N=N) (hi:RI X G (.Name x px) iter wi) (he:∀ cl C s₀ H₀ fp pins,RE (e_ X sc cl C x ks s₀ H₀ fp pins) G elt te)
  (ok:cO sc osc N x ks:=by decide +kernel) (hs:∀ x,foldedSetIterable iter X.env x=pure x:=by intro _;rfl):RE X G (.ListComp elt [⟨.Name x px,iter,[],0⟩] sc pos) (uU wi ks xg te) :=
 ⟨lh (Hz osc N ks hc ho hN hi.run (fun cl C s₀ H₀ fp pins=>(he cl C s₀ H₀ fp pins).run) ok hs) wo⟩
theorem qs {t:di} {u:TE} (h:∀ σ H Q,LE X.K G t σ H Q→u σ H Q):∀ D σ H,LS X.K G (si t (Fy i)) D σ H→u σ H fun v H1=>D.nx (σ.set i (some v)) H1:=fun D σ H ⟨τ,J,D2,a2,q,g⟩ =>
 h σ H _ ⟨τ,J,_,a2,q,fun x J' v H' rx rr ee q=>g.nx _ J' _ H' ((a2.sl.ext ee).set i rx) rr ee q⟩
theorem JP (osc:Scope) (N:List Str) (ks:List (Str × Nat)) (hc:X.calm=true) (ho:X.env.scope=osc) (hN:X.N=N) (hnd:X.N.Nodup) (hy:X.N[i]?=some y) (hl:Loc X.env.scope y) (hi:RI X G (.Name x px) iter wi) (he:∀ cl C s₀ H₀ fp pins,RE (e_ X sc cl C x ks s₀ H₀ fp pins) G elt te) (hcn:∀ cl C s₀ H₀ fp pins,RT (e_ X sc cl C x ks s₀ H₀ fp pins) G cnd tc)
  (ok:cO sc osc N x ks:=by decide +kernel) (hs:∀ x,foldedSetIterable iter X.env x=pure x:=by intro _;rfl) (hsw:swapsWith (.ListComp elt [⟨.Name x px,iter,[cnd],0⟩] sc pos) (some (.Name y py)) spos.line X.env=pure true:=by rfl) (hf:X.fn y=true∨X.env.scope.names.lookup y=some .local:=by first | exact .inl rfl | exact .inr rfl | assumption) :
  RS X G (.Assign [.Name y py] (.ListComp elt [⟨.Name x px,iter,[cnd],0⟩] sc pos) spos) (si (uU wi ks tc te) (Fy i)) :=
 ⟨yV (D5 osc N ks hc ho hN hnd hy hl hi.run (fun cl C s₀ H₀ fp pins=>(he cl C s₀ H₀ fp pins).run) (fun cl C s₀ H₀ fp pins=>(hcn cl C s₀ H₀ fp pins).run) ok hs hsw hf) (qs Dp)⟩
theorem GF (osc:Scope) (N:List Str) (ks:List (Str × Nat)) (hc:X.calm=true) (ho:X.env.scope=osc) (hN:X.N=N) (hnd:X.N.Nodup) (hy:X.N[i]?=some y) (hl:Loc X.env.scope y) (hi:RI X G (.Name x px) iter wi) (he:∀ cl C s₀ H₀ fp pins,RE (e_ X sc cl C x ks s₀ H₀ fp pins) G elt te) (hcn:∀ cl C s₀ H₀ fp pins,RT (e_ X sc cl C x ks s₀ H₀ fp pins) G cnd tc)
  (ok:cO sc osc N x ks:=by decide +kernel) (hs:∀ x,foldedSetIterable iter X.env x=pure x:=by intro _;rfl) (hsw:swapsWith (.ListComp elt [⟨.Name x px,iter,[cnd],0⟩] sc pos) (some (.Name y py)) spos.line X.env=pure true:=by rfl) (hf:X.fn y=true∨X.env.scope.names.lookup y=some .local:=by first | exact .inl rfl | exact .inr rfl | assumption) :
  RS X G (.Assign [.Name y py] (.ListComp elt [⟨.Name x px,iter,[cnd],0⟩] sc pos) spos) (si (JJ wi ks tc te) (Fy i)) :=
 ⟨yV (D5 osc N ks hc ho hN hnd hy hl hi.run (fun cl C s₀ H₀ fp pins=>(he cl C s₀ H₀ fp pins).run) (fun cl C s₀ H₀ fp pins=>(hcn cl C s₀ H₀ fp pins).run) ok hs hsw hf) (qs Dq)⟩
theorem HU (osc:Scope) (N:List Str) (ks:List (Str × Nat)) (hc:X.calm=true) (ho:X.env.scope=osc) (hN:X.N=N) (hnd:X.N.Nodup) (hy:X.N[i]?=some y) (hl:Loc X.env.scope y) (hi:RI X G (.Name x px) iter wi) (he:∀ cl C s₀ H₀ fp pins,RE (e_ X sc cl C x ks s₀ H₀ fp pins) G elt te)
  (ok:cO sc osc N x ks:=by decide +kernel) (hs:∀ x,foldedSetIterable iter X.env x=pure x:=by intro _;rfl) (hsw:swapsWith (.ListComp elt [⟨.Name x px,iter,[],0⟩] sc pos) (some (.Name y py)) spos.line X.env=pure true:=by rfl) (hf:X.fn y=true∨X.env.scope.names.lookup y=some .local:=by first | exact .inl rfl | exact .inr rfl | assumption) :
  RS X G (.Assign [.Name y py] (.ListComp elt [⟨.Name x px,iter,[],0⟩] sc pos) spos) (si (uU wi ks xg te) (Fy i)) :=
 ⟨yV (HA osc N ks hc ho hN hnd hy hl hi.run (fun cl C s₀ H₀ fp pins=>(he cl C s₀ H₀ fp pins).run) ok hs hsw hf) (qs wo)⟩
end
end Ov
namespace Ov
open PySem PySem.Spec PyProof.Rows
section
open HT (lexLt)
def lO:List Str→List Str→Bool
 | [],[]=>false
 | [],_ :: _=>true
 | _ :: _,[]=>false
 | x :: xs,y :: ys=>if x=y then lO xs ys else decide (x.cps.toList < y.cps.toList)
theorem nM (x y:Str) (xs ys:List Str):lO (x :: xs) (y :: ys)=if x=y then lO xs ys else decide (x.cps.toList < y.cps.toList):=rfl
theorem mz:lO [] []=false:=rfl
theorem rO (y:Str) (ys:List Str):lO [] (y :: ys)=true:=rfl
theorem rM (x:Str) (xs:List Str):lO (x :: xs) []=false:=rfl
theorem CV (A:Around) (s:Shared) (a:Str) (t:Tok) (c:Str) (u:Tok):∃ e,SeqAt.EqAt A s (.str a t) (.str c u) e∧(e=true↔a=c) :=
 ⟨(a == c),SeqAt.EqAt.str_str a t c u,by simp⟩
theorem Ei (A:Around) (s:Shared) (a:Str) (t:Tok) (c:Str) (u:Tok) (prog:Program) (w:World) (E:Value→Shared→Prop) (Q:Value→Shared→Prop) (h:Q (.bool (decide (a.cps.toList < c.cps.toList))) s) :
  wpAny (model prog w) A (richCompare .Lt (.str a t) (.str c u)) Q E s :=
 (PyProof.Rows.lt_str h:wpAny (model prog w) A (compareOp .Lt (.str a t) (.str c u)) Q E s)
open PySem.SeqAt
open PySem.AutoSeq1 (wpAny_loadPart')
open PySem.MeetsSeq PySem.MeetsSeq2 PySem.MeetsSeq3
theorem sC (l b:Addr) (items items2:Array Value) (n n2:Nat) (dd dd2:Option Addr) (sl sl2:Array (Option Value)) (ns ms:List Str) (hi:StrsAre items.toList ns) (hj:StrsAre items2.toList ms) :
  Meets (Builtin.«tuple.__lt__» ⟨[.ref l,.ref b],[]⟩)
   (fun _ R s=>s.heap.get? l=some { cls:=.type "tuple",dict:=dd,data:=.seq items n,slots:=sl }∧s.heap.get? b=some { cls:=.type "tuple",dict:=dd2,data:=.seq items2 n2,slots:=sl2 } ∧
    R (.ok (.ret (.bool (lO ns ms)))) s) :=
 .of_wp fun prog w A R s h=>by
  obtain ⟨hp,g,d,tk,os⟩:=s;obtain ⟨hl,hb,h⟩:=h
  have f2:=AutoSeq1.sub_tuple_tuple
  have z1:items.size=ns.length:=by rw [← hi.length];simp
  have z2:items2.size=ms.length:=by rw [← hj.length];simp
  wp_walk using wpAny_loadPart' hl,wpAny_loadPart' hb,wpAny_forIn_list _ (fun rest b s'=>b.1=none∧s'=⟨hp,g,d,tk,os⟩∧∃ (vs ws:List Value) (ns' ms':List Str),rest=vs.zip ws ∧
   StrsAre vs ns'∧StrsAre ws ms'∧ns'.length + items2.size=ms'.length + items.size∧R (.ok (.ret (.bool (lO ns' ms')))) ⟨hp,g,d,tk,os⟩) _
  case turn =>
   rintro ⟨y,x⟩ rest b s' ⟨hb',rfl,vs,ws,ns',ms',hz,hvi,hwi,hlen,hR⟩
   cases hvi with
   | nil=>rw [List.zip_nil_left] at hz;cases hz
   | cons a t hvi' =>
    cases hwi with
    | nil=>rw [List.zip_nil_right] at hz;cases hz
    | cons c u hwi' =>
     rw [List.zip_cons_cons] at hz
     injection hz with hyx hrest
     injection hyx with hy hx
     subst hy hx
     rw [nM] at hR
     simp only [List.length_cons] at hlen
     obtain ⟨e,he,hiff⟩:=CV A.in1 ⟨hp,g,d,tk,os⟩ a t c u
     refine wpAny_bind (he prog w _ _ ?_)
     cases e with
     | true =>
      rw [if_pos (hiff.mp rfl)] at hR
      wp_walk
      exact ⟨rfl,rfl,_,_,_,_,hrest,hvi',hwi',by omega,hR⟩
     | false =>
      rw [if_neg (fun q=>absurd (hiff.mpr q) Bool.false_ne_true)] at hR
      have hri:=Ei A.in1 ⟨hp,g,d,tk,os⟩ a t c u prog w
      wp_walk using hri
      exact ⟨_,rfl,by simpa using hR⟩
  case fin =>
   rintro ⟨b1,b2⟩ s' ⟨hb',rfl,vs,ws,ns',ms',hz,hvi,hwi,hlen,hR⟩
   simp only at hb'
   subst hb'
   have hv:lO ns' ms'=decide (items.size < items2.size):=by
    cases hvi with
    | nil =>
     cases hwi with
     | nil =>
      simp only [List.length_nil] at hlen
      rw [mz]
      exact (decide_eq_false (by omega)).symm
     | cons c u hw =>
      simp only [List.length_nil,List.length_cons] at hlen
      rw [rO]
      exact (decide_eq_true (by omega)).symm
    | cons a t hv =>
     cases hwi with
     | nil =>
      simp only [List.length_nil,List.length_cons] at hlen
      rw [rM]
      exact (decide_eq_false (by omega)).symm
     | cons c u hw =>
      rw [List.zip_cons_cons] at hz
      cases hz
   rw [hv] at hR
   wp_walk
   exact ⟨_,rfl,by simpa [Builtin.Tuple.tupleCompareSizes] using hR⟩
  case h =>
   exact ⟨rfl,rfl,items.toList,items2.toList,ns,ms,rfl,hi,hj,by omega,h⟩
section
variable {prog:Program} {w:World} {A:Around} {E:Value→Shared→Prop} {s:Shared}
theorem yC {l b:Addr} {items items2:Array Value} {ns ms:List Str} {Q:Value→Shared→Prop} (hl:IsTup s.heap l items) (hb:IsTup s.heap b items2) (hi:StrsAre items.toList ns) (hj:StrsAre items2.toList ms)
  (hu:A.units < cLine) (h:Q (.bool (lO ns ms)) s):wpAny (model prog w) A (compareOp .Lt (.ref l) (.ref b)) Q E s:=by
 obtain ⟨⟨cls,dd,data,sl⟩,ho,hc,n,hd⟩:=id hl
 obtain ⟨⟨cls2,dd2,data2,sl2⟩,ho2,hc2,n2,hd2⟩:=id hb
 simp only at hc hd hc2 hd2
 subst hc hd hc2 hd2
 exact richCompare_meets_room (op:=.Lt) ⟨_,ho,rfl⟩ ⟨_,ho2,rfl⟩ PySem.F.slot_tuple_lt PySem.F.entry_tuple_lt (PySem.F.args_tuple_lt_2 _ _) (sC l b items items2 n n2 dd dd2 sl sl2 ns ms hi hj)
  ⟨ho,ho2,show Value.bool (lO ns ms)≠Value.notImplemented∧Q (.bool (lO ns ms)) s from ⟨(fun x=>nomatch x),h⟩⟩ hu
end
end
open L2 (V HO Hp Inv Cx VK XK TE TT TA TS TG pX TI TO k9 Ends vS Loc Gl Rd RelV Vals fF xO cx pQ sG pT k8 R2 upd aJ aQ c7 gM Sp rj It bG du bX Passes oV aF Meth Mk Binds aO cm aw c_ gK fg)
section
variable {X:Cx} {K:PySem.W.Frag}
theorem F5 (hu:X.A.units < cLine):fF X (compareOp .Lt) (fun x y H Q=>∃ a b ns ms,x=.ref a∧y=.ref b∧gM X.K H a (ns.map V.str)∧gM X.K H b (ms.map V.str)∧Q (.bl (lO ns ms)) H):=by
 intro pins s σ H x y v u Q I rx ry h
 obtain ⟨a,b,ns,ms,rfl,rfl,ha,hb,q⟩:=h
 cases rx;cases ry
 obtain ⟨is,r1,t1,_⟩:=I.tuple ha
 obtain ⟨js,r2,t2,_⟩:=I.tuple hb
 exact yC t1 t2 (by simpa using jG r1) (by simpa using jG r2) hu ⟨.bl _,H,I,rfl,q⟩
theorem q9 {J:Hq} {H:Hp}:∀ {ns:List Str} {vs:List V},aS K J H (ns.map PV.str) vs→vs=ns.map V.str
 | [],_,h=>h
 | n :: ns,_,⟨v,us,e,h,k⟩=>by subst e;cases h;rw [q9 k];rfl
def HG:me:=fun x y J Q=>∃ ns ms,x=.tup (ns.map .str)∧y=.tup (ms.map .str)∧Q (.bl (lO ns ms)) J
theorem F7 (hu:X.A.units < cLine):md X (compareOp .Lt) HG:=⟨_,F5 hu,fun J H x y v w Q2 Q rx ry r ⟨ns,ms,ex,ey,q⟩ k=>by
 subst ex ey
 obtain ⟨a,vs,rfl,h1,h2⟩:=rx
 obtain ⟨b,ws,rfl,h3,h4⟩:=ry
 cases q9 h2;cases q9 h4
 exact ⟨a,b,ns,ms,rfl,rfl,h1,h3,k (.bl _) J _ H rfl r .refl q⟩⟩
def LL:me:=fun x y J Q=>∃ xs ys,lQ J x=some xs∧lQ J y=some ys∧xs.length + ys.length≤sizeLine∧Q (.fl (xs ++ ys)) J
end
def bO (K:PySem.W.Frag) (C:Addr) (m qual:Str) (st:Stmt):Prop:=∃ f fd,Meth K C m f∧cm K m qual st f fd
structure dt (K:PySem.W.Frag) (mg:Str→Option Value) (x:Str) (C:Addr):Prop where
 cl:oV K C
 m:mg x=some (.ref C)
 mkz:PySem.W.makesIn K C=true
 kp:PySem.W.keepIn K (.ref C)=true
theorem bE {K:PySem.W.Frag} {C f:Addr} {m qual:Str} {st:Stmt} {od an:Option Addr} {sl:Array (Option Value)} {oc kV dc pm cd ct:Value} (a:PySem.W.findIn K (.ref C) m=some (some (.ref f))) (i:PySem.W.isFn K (.ref f)=true)
  (l:K.lookup f=some ⟨oc,od,.func (PySem.W.fnOf m qual (L2.de st) (L2.b_ st) (L2.aj st) .none kV dc pm an cd ct),sl⟩) (c:PySem.W.codeIn K cd qual=true) (k:PySem.W.keepIn K (.ref f)=true):bO K C m qual st :=
 ⟨f,_,⟨a,i,k⟩,L2.yq l c k⟩
theorem ug {K:PySem.W.Frag} {h:Heap} {mg:Str→Option Value} {x:Str} {C:Addr} (X:K.In h) (G:h.Ns mainGlobals mg) (aC:PySem.W.nsIn K mainGlobals x=some (some (.ref C)))
  (pg:PySem.W.plainGet K C Str.empty=true) (hd:PySem.W.hasDictIn K C=true) (po:PySem.W.plainOver K C=true) (sa:PySem.W.findIn K (.ref C) "__setattr__"=some (some (.builtin "object.__setattr__"))) (mk:PySem.W.makesIn K C=true) (kc:PySem.W.keepIn K (.ref C)=true):dt K mg x C :=
 ⟨⟨pg,hd,po,sa⟩,PySem.W.mg_of X G aC,mk,kc⟩
section
variable {P:Program} {w:World} {K:PySem.W.Frag} {mg:Str→Option Value} {base:Heap}
theorem bO.qx {C:Addr} {m qual:Str} {st:Stmt} {k:Nat} {ps:List Str} {sp:cH} (D:bO K C m qual st) (cl:oV K C) (h:∀ f fd,cm K m qual st f fd→aO P w K mg base (c5 P w) k f fd ps (dI K sp))
  (hb:∀ (kV doc pm:Value) (an:Option Addr) (cdv ct:Value) (us:List Value),us.length=ps.length→bindArgs (PySem.W.fnOf m qual (L2.de st) (L2.b_ st) (L2.aj st) .none kV doc pm an cdv ct) ⟨us,[]⟩=pure (ps.zip us)):cJ P w K mg base C k m ps sp:=by
 obtain ⟨f,fd,hm,F⟩:=D
 exact ⟨cl,f,fd,hm,h f fd F,F.binds hb⟩
theorem bO.NM {x:Str} {C:Addr} {qual:Str} {st:Stmt} {k:Nat} {ps:List Str} {sp:cH} (D:bO K C "__init__" qual st) (kd:dt K mg x C) (h:∀ f fd,cm K "__init__" qual st f fd→aO P w K mg base (c5 P w) k f fd ps (dI K sp))
  (hb:∀ (kV doc pm:Value) (an:Option Addr) (cdv ct:Value) (us:List Value),us.length=ps.length→bindArgs (PySem.W.fnOf "__init__" qual (L2.de st) (L2.b_ st) (L2.aj st) .none kV doc pm an cdv ct) ⟨us,[]⟩=pure (ps.zip us)):ya P w K mg base C k x ps sp:=by
 obtain ⟨f,fd,hm,F⟩:=D
 exact ⟨kd.m,f,fd,⟨kd.mkz,hm.at_,hm.fn,kd.kp⟩,h f fd F,F.binds hb⟩
end
theorem Km {n:Nat} {F:List Value→Prop} (h:∀ a us,us.length=n→F (a :: us)) (us:List Value) (hu:us.length=n + 1):F us:=by
 cases us with
 | nil=>cases hu
 | cons a us=>exact h a us (Nat.succ.inj hu)
theorem O4 {F:List Value→Prop} (h:F []) (us:List Value) (hu:us.length=0):F us:=by
 cases us with
 | nil=>exact h
 | cons a us=>cases hu
theorem zB {F:List Value→Prop} (h:∀ a,F [a]):∀ us:List Value,us.length=1→F us:=Km fun a=>O4 (F:=fun us=>F (a :: us)) (h a)
theorem jK {F:List Value→Prop} (h:∀ a b,F [a,b]):∀ us:List Value,us.length=2→F us:=Km fun a=>zB (F:=fun us=>F (a :: us)) (h a)
theorem G_ {F:List Value→Prop} (h:∀ a b c,F [a,b,c]):∀ us:List Value,us.length=3→F us:=Km fun a=>jK (F:=fun us=>F (a :: us)) (h a)
theorem Kl {F:List Value→Prop} (h:∀ a b c d,F [a,b,c,d]):∀ us:List Value,us.length=4→F us:=Km fun a=>G_ (F:=fun us=>F (a :: us)) (h a)
theorem Oy {F:List Value→Prop} (h:∀ a b c d e,F [a,b,c,d,e]):∀ us:List Value,us.length=5→F us:=Km fun a=>Kl (F:=fun us=>F (a :: us)) (h a)
theorem O5 {F:List Value→Prop} (h:∀ a b c d e f,F [a,b,c,d,e,f]):∀ us:List Value,us.length=6→F us:=Km fun a=>Oy (F:=fun us=>F (a :: us)) (h a)
end Ov
namespace Ov
open PySem PySem.Spec PyProof.Rows
open L2 (V HO Hp Inv Cx VK XK Rd c7 gM Sp bG bX Passes aO cm aw c_ upd aJ aQ)
def fr (q:Rat):PV:=.tup [.int q.num,.int (q.den:Int)]
theorem IK (a b:Rat):(fr a=fr b)=(a=b):=by
 apply propext
 constructor
 ·intro h
  unfold fr at h
  simp only [PV.tup.injEq,List.cons.injEq,PV.int.injEq,and_true] at h
  exact Rat.ext h.1 (by have:=h.2;omega)
 ·intro h;rw [h]
theorem Hb (a:Rat):fr a=.tup [.int a.num,.int (a.den:Int)]:=rfl
theorem IT (J:Hq) (q:Rat):fK J (fr q) (.int 0)=some (.int q.num):=dH _ _
theorem IU (J:Hq) (q:Rat):fK J (fr q) (.int 1)=some (.int (q.den:Int)):=fN _ _ _
theorem MJ (J:Hq) (q:Rat):zp J (fr q)=some "tuple":=rfl
theorem I9 (J:Hq) (q:Rat):um J (fr q)=some 2:=rfl
theorem uO (q:Rat):mH (fr q)=true:=by simp [fr,mH,lj]
theorem qp (q:Rat):Dd (fr q)=false:=rfl
theorem IF (q:Rat):dep (gE (fr q))=1:=by simp [fr,gE,gF,dep,dR]
theorem KY (q:Rat):Fq (fr q)=True:=eq_true ⟨uO q,by rw [IF];decide⟩
theorem Iy (i:Int):Fq (.int i)=True:=eq_true ⟨by simp [mH],by simp [gE,dep]⟩
theorem IA (i:Str):Fq (.str i)=True:=eq_true ⟨by simp [mH],by simp [gE,dep]⟩
theorem KW (i:Bool):Fq (.bl i)=True:=eq_true ⟨by simp [mH],by simp [gE,dep]⟩
theorem Iz:Fq .non=True:=eq_true ⟨by simp [mH],by simp [gE,dep]⟩
theorem An (i:Int):mH (.int i)=true:=by simp [mH]
theorem uP (i:Str):mH (.str i)=true:=by simp [mH]
theorem JC (i:Bool):mH (.bl i)=true:=by simp [mH]
theorem Gq:mH .non=true:=by simp [mH]
theorem Ao (xs:List PV):mH (.tup xs)=lj xs:=by simp [mH]
theorem n4 (x:PV) (xs:List PV):lj (x :: xs)=(mH x && lj xs):=by simp [lj]
theorem xa:lj []=true:=by simp [lj]
theorem eq_int (a b:Int):eqQ (.int a) (.int b)=decide (a=b):=by unfold eqQ gE kH;rw [Bool.beq_eq_decide_eq]
theorem eq_str (a b:Str):eqQ (.str a) (.str b)=decide (a=b):=by
 unfold eqQ gE kH
 cases h:a == b with
 | true=>simp at h;simp [h]
 | false=>simp at h;simp [h]
theorem K0 (a b:Bool):eqQ (.bl a) (.bl b)=decide (a=b):=by unfold eqQ gE kH;rw [Bool.beq_eq_decide_eq]
def yn (xs ys:List PV):Bool:=jW (gF xs) (gF ys)
theorem ub (xs ys:List PV):eqQ (.tup xs) (.tup ys)=yn xs ys:=by unfold eqQ gE kH yn;rfl
theorem dS (x y:PV) (xs ys:List PV):yn (x :: xs) (y :: ys)=(eqQ x y && yn xs ys):=by unfold yn eqQ;simp [gF,jW]
theorem oX:yn [] []=true:=by unfold yn;simp [gF,jW]
theorem eq_self (x:PV):eqQ x x=true:=wd _
theorem zO (a b:Rat):eqQ (fr a) (fr b)=decide (a=b):=by
 rw [Hb,Hb,ub,dS,dS,oX,eq_int,eq_int,Bool.and_true,← Bool.decide_and]
 exact decide_eq_decide.mpr (by rw [GA])
theorem Pg (a b c:PV):lM [a,b,c] (some 1) none=[b,c]:=rfl
theorem ty_int (b:Bool):(l4 "int" "int"=some b)=(b=true):=by cases b <;> simp [l4]
theorem ty_bool (b:Bool):(l4 "int" "bool"=some b)=(b=false):=by cases b <;> simp [l4]
theorem MI (b:Bool):(l4 "bool" "bool"=some b)=(b=true):=by cases b <;> simp [l4]
theorem ty_str (b:Bool):(l4 "str" "str"=some b)=(b=true):=by cases b <;> simp [l4]
theorem Kg (b:Bool):(l4 "tuple" "tuple"=some b)=(b=true):=by cases b <;> simp [l4]
theorem ty_list (b:Bool):(l4 "list" "list"=some b)=(b=true):=by cases b <;> simp [l4]
theorem dZ {n:Nat} (h:n≤1000):n≤sizeLine:=Nat.le_of_lt (L2.a9 h)
theorem Hm:(0≤sizeLine)=True:=eq_true (Nat.zero_le _)
theorem Lg:(1≤sizeLine)=True:=eq_true (dZ (by decide))
theorem Lh:(2≤sizeLine)=True:=eq_true (dZ (by decide))
theorem Li:(3≤sizeLine)=True:=eq_true (dZ (by decide))
theorem Lj:(4≤sizeLine)=True:=eq_true (dZ (by decide))
section
variable (J:Hq) (xs:List PV) (a:Addr) (i:Int) (b:Bool) (z:Str) (T:String)
theorem NB:fK J (.tup xs) (.int i)=c_ xs i:=rfl
theorem NA:fK J (.fl xs) (.int i)=c_ xs i:=rfl
theorem K':fK J (.ref a) (.int i)=(match J a with | some (.lst xs)=>c_ xs i | _=>none):=rfl
theorem NK:lQ J (.fl xs)=some xs:=rfl
theorem NL:lQ J (.ref a)=(match J a with | some (.lst xs)=>some xs | _=>none):=rfl
theorem Lf:um J (.tup xs)=some xs.length:=rfl
theorem Ld:um J (.fl xs)=some xs.length:=rfl
theorem Hk:um J (.ref a)=(match J a with | some (.lst xs)=>some xs | _=>none).map List.length:=rfl
theorem Oh:zp J .non=some "NoneType":=rfl
theorem MH:zp J (.bl b)=some "bool":=rfl
theorem Of:zp J (.int i)=some "int":=rfl
theorem Oi:zp J (.str z)=some "str":=rfl
theorem Oj:zp J (.tup xs)=some "tuple":=rfl
theorem Oe:zp J (.fl xs)=some "list":=rfl
theorem MK:zp J (.ref a)=(match J a with | some (.lst _)=>some "list" | some (.dct _ _)=>some "dict" | _=>none):=rfl
theorem MD:vH J .non=some false:=rfl
theorem H_:vH J (.bl b)=some b:=rfl
theorem MC:vH J (.int i)=some (i != 0):=rfl
theorem MF:vH J (.tup xs)=some (!xs.isEmpty):=rfl
theorem MB:vH J (.fl xs)=some (!xs.isEmpty):=rfl
theorem ME:vH J (.ref a)=(match J a with | some (.lst xs)=>some (!xs.isEmpty) | some (.dct kvs _)=>some (!kvs.isEmpty) | _=>none):=rfl
theorem Ny:MT J (.fl xs)=some ⟨xs,fun _=>True⟩:=rfl
theorem Nz:MT J (.ref a)=(match J a with | some (.lst xs)=>some ⟨xs,fun J'=>J' a=some (.lst xs)⟩ | _=>none):=rfl
theorem K7:Dd .non=true:=rfl
theorem Nr:Dd (.bl b)=false:=rfl
theorem Nu:Dd (.int i)=false:=rfl
theorem Nw:Dd (.str z)=false:=rfl
theorem Nx:Dd (.tup xs)=false:=rfl
theorem Nt:Dd (.fl xs)=false:=rfl
theorem Nv:Dd (.ref a)=false:=rfl
theorem Oa:Kv T J (.fl xs)=(T="list"):=rfl
theorem Oc:Kv T J (.str z)=(T="str"):=rfl
theorem Ob:Kv T J (.ref a)=((T="list"∧∃ xs,J a=some (.lst xs))∨(T="dict"∧∃ kvs ep,J a=some (.dct kvs ep))):=rfl
end
def Fo (it:x5) (g:yc) (tb:jJ) (D:En) (τ:Sr) (J1:Hq):Prop:=∃ Pv:Nat→Sr→Hq→Prop,Pv 0 τ J1∧(∀ i τ J,Pv i τ J→it.ok J) ∧
 (∀ i x τ J,it.xs[i]?=some x→Pv i τ J→g x τ J fun τ2 J2=>tb { D with nx:=Pv (i + 1),ct:=Pv (i + 1),bk:=D.nx } τ2 J2)∧∀ τ J,Pv it.xs.length τ J→D.nx τ J
theorem Gv (wi:rK) (g:yc) (tb:jJ) (D:En) (τ:Sr) (J:Hq):L7 wi g tb D τ J=wi τ J fun it J1=>Fo it g tb D τ J1:=rfl
theorem oY {lo:Int} {n:Nat} {g:yc} {tb:jJ} {D:En} {τ:Sr} {J1:Hq} (Pv:Nat→Sr→Hq→Prop) (h0:Pv 0 τ J1)
  (hs:∀ (i:Nat) τ J,i < n→Pv i τ J→g (.int (lo + (i:Int))) τ J fun τ2 J2=>tb { D with nx:=Pv (i + 1),ct:=Pv (i + 1),bk:=D.nx } τ2 J2) (hd:∀ τ J,Pv n τ J→D.nx τ J):Fo ⟨ql lo n,fun _=>True⟩ g tb D τ J1 :=
 ⟨Pv,h0,fun _ _ _ _=>trivial,fun i x τ J e p=>by obtain ⟨a,b⟩:=(qm lo n i x).mp e;subst b;exact hs i τ J a p,fun τ J p=>hd τ J (by simpa [iH] using p)⟩
structure bV (mg:Str→Option Value):Prop extends Cd mg where
 str:mg "str"=none
 dict:mg "dict"=none
 max:mg "max"=none
 zip:mg "zip"=none
 enumerate:mg "enumerate"=none
def nu (J' J:Hq):Prop:=∀ a,J' a=J a∨J' a=none
def Fg (Q:PV→Hq→Prop) (v:PV) (J:Hq):Prop:=∃ x J',nu J' J∧(x=v∨∃ a xs,v=.ref a∧x=.fl xs∧J a=some (.lst xs)∧J' a=none)∧Q x J'
theorem Fg.same {Q:PV→Hq→Prop} {v:PV} {J:Hq} (h:Q v J):Fg Q v J:=⟨v,J,fun _=>.inl rfl,.inl rfl,h⟩
theorem Fg.less {Q:PV→Hq→Prop} {v:PV} {J J':Hq} (l:nu J' J) (h:Q v J'):Fg Q v J:=⟨v,J',l,.inl rfl,h⟩
theorem Fg.oJ {Q:PV→Hq→Prop} {a:Addr} {xs:List PV} {J J':Hq} (l:nu J' J) (ha:J a=some (.lst xs)) (hn:J' a=none) (h:Q (.fl xs) J'):Fg Q (.ref a) J:=⟨.fl xs,J',l,.inr ⟨a,xs,rfl,rfl,ha,hn⟩,h⟩
section
variable {P:Program} {w:World} {K:PySem.W.Frag} {mg:Str→Option Value} {base:Heap}
theorem Fg.kn {J:Hq} {H:Hp} {Q2:PV→Hq→Prop} {Q:VK} (k:Kn K J H Q2 Q):Kn K J H (Fg Q2) Q:=fun z J1 u H1 rz r1 e1 ⟨x,J',l,hx,q⟩=>by
 have el:=Ext.less (K:=K) (H:=H1) l
 rcases hx with rfl | ⟨a,xs,rfl,rfl,ha,hn⟩
 ·exact k x J' u H1 (el.rep rz) (r1.less l) (e1.trans el) q
 ·cases rz
  obtain ⟨vs,h1,h2⟩:=r1 _ _ ha
  exact k (.fl xs) J' _ H1 ⟨a,vs,rfl,.inl ⟨hn,.inl h1⟩,el.iS h2⟩ (r1.less l) (e1.trans el) q
theorem Hu {x qual:Str} {st:Stmt} {f:Addr} {fd:FuncData} {N ps:List Str} {k:Nat} {sp:cH} (F:cm K x qual st f fd) (S:aw N ps (L2.aj st)) (len:∀ xs J Q E,sp xs J Q E→xs.length=ps.length)
  (hbody:∀ (cdv:Value) (A:Around) (outer:List Env) (s:Shared) (H:Hp) (E:XK) (G:G2) (xs:List PV) (J:Hq) (Q:PV→Hq→Prop) (E2:Addr→Hq→Prop),bX k (A.deeper (envOfC qual (L2.aj st) s.heap.objs.size f cdv))→sp xs J Q E2 →
   E4 (Cg P w K mg base N qual (L2.aj st) f cdv A outer s H E) G E2 E →
   ∃ t,RB (Cg P w K mg base N qual (L2.aj st) f cdv A outer s H E) G (L2.b_ st) t∧t { nx:=fun _ J'=>Fg Q .non J',rt:=Fg Q } (zh N xs) J):aO P w K mg base (c5 P w) (k + 1) f fd ps (dI K sp):=by
 have:=ON (sp:=fun xs J Q E=>∃ Q0,Q=Fg Q0∧sp xs J Q0 E) F S (fun xs J Q E ⟨Q0,_,h⟩=>len xs J Q0 E h) (fun cdv A outer s H E G xs J Q E2 hr ⟨Q0,eq,h⟩ B=>by subst eq;exact hbody cdv A outer s H E G xs J Q0 E2 hr h B)
 exact this.imp fun vs H Q E ⟨xs,J,Q2,E2,a,b,c,d,e⟩=>⟨xs,J,Fg Q2,E2,a,b,⟨Q2,rfl,c⟩,Fg.kn d,e⟩
end
theorem IG {X:Cx} {G:G2}:E4 X G (fun _ _=>False) L2.E0:=⟨fun _ _ _ _ _ _ _ ⟨_,_,_,_,_,z⟩=>z.elim,fun _ _ _ _ _ z=>z.elim⟩
theorem n8 {K:PySem.W.Frag} {J:Hq} {H:Hp}:∀ ns:List Int,aS K J H (ns.map PV.int) (ns.map V.int)
 | []=>rfl
 | n :: ns=>⟨_,_,rfl,rfl,n8 ns⟩
end Ov
namespace Ov
open PySem PySem.Spec PyProof.Rows L2
theorem KJ {α:Type} (a b c d e:α) (xs:List α):c_ (a :: b :: c :: d :: e :: xs) 4=some e:=ba (j:=4) rfl
theorem KL {α:Type} (a b c d e f:α) (xs:List α):c_ (a :: b :: c :: d :: e :: f :: xs) 5=some f:=ba (j:=5) rfl
theorem KN {α:Type} (a b c d e f g:α) (xs:List α):c_ (a :: b :: c :: d :: e :: f :: g :: xs) 6=some g:=ba (j:=6) rfl
theorem KO {α:Type} (a b c d e f g h:α) (xs:List α):c_ (a :: b :: c :: d :: e :: f :: g :: h :: xs) 7=some h:=ba (j:=7) rfl
theorem KP {α:Type} (a b c d e f g h i:α) (xs:List α):c_ (a :: b :: c :: d :: e :: f :: g :: h :: i :: xs) 8=some i:=ba (j:=8) rfl
theorem KQ {α:Type} (a b c d e f g h i j:α) (xs:List α):c_ (a :: b :: c :: d :: e :: f :: g :: h :: i :: j :: xs) 9=some j:=ba (j:=9) rfl
theorem Ir {α:Type} (a b c d e f g h i j k:α) (xs:List α):c_ (a :: b :: c :: d :: e :: f :: g :: h :: i :: j :: k :: xs) 10=some k:=ba (j:=10) rfl
theorem Iu {α:Type} (a b c d e f g h i j k l:α) (xs:List α):c_ (a :: b :: c :: d :: e :: f :: g :: h :: i :: j :: k :: l :: xs) 11=some l:=ba (j:=11) rfl
theorem Lk:(5≤sizeLine)=True:=eq_true (dZ (by decide))
theorem Ll:(6≤sizeLine)=True:=eq_true (dZ (by decide))
theorem Lm:(7≤sizeLine)=True:=eq_true (dZ (by decide))
theorem Lo:(8≤sizeLine)=True:=eq_true (dZ (by decide))
theorem Lp:(9≤sizeLine)=True:=eq_true (dZ (by decide))
theorem I_:(10≤sizeLine)=True:=eq_true (dZ (by decide))
theorem Jb:(11≤sizeLine)=True:=eq_true (dZ (by decide))
theorem Jc:(12≤sizeLine)=True:=eq_true (dZ (by decide))
theorem mU {ss:List Int} (h:ss.all (fun s=>decide (0 < s) && decide (s < 2 ^ 63))=true):∀ s∈ss,0 < s∧Bd 9000 s:=fun s hs=>by
 have:=List.all_eq_true.mp h s hs
 rw [Bool.and_eq_true,decide_eq_true_eq,decide_eq_true_eq] at this
 exact ⟨this.1,(Bd.small (by omega) (by omega)).mono (by decide)⟩
theorem Sz.div {n:Nat} {t b:Int} (ht:Bd n t) (hb:Bd n b) (h:b≠0):Sz n (Rat.divInt t b):=⟨ht.le (Af t b),hb.le (ua h)⟩
end Ov
namespace Ov
open PySem PySem.Spec PyProof.Rows
open L2 (V HO Hp Inv Cx VK XK TE TT TA TS TG pX TI TO k9 Ends vS Loc Gl Rd RelV Vals fF xO cx pQ sG pT k8 R2 upd aJ aQ c7 gM Sp rj It bG du bX Passes oV aF Meth Mk Binds aO cm aw c_ gK fg)
section
variable {X:Cx} {G:G2}
abbrev Bg:=PV→PV→PV→Hq→(Hq→Prop)→Prop
def Na (X:Cx) (q:Bg):Prop:=∃ r,k8 X r∧∀ J H o i y ov iv u R2 R,cq X.K J H o ov→cq X.K J H i iv→cq X.K J H y u→Rep X.K J H→q o i y J R2→(∀ J' H',Rep X.K J' H'→Ext X.K J H J' H'→R2 J'→R H')→r ov iv u H R
def Nn (to ti:di) (t:Bg):yc:=fun y τ J R=>to τ J fun o J1=>ti τ J1 fun i J2=>t o i y J2 fun J3=>R τ J3
theorem JM {o i:Expr} {to ti:di} {t:Bg} {pos:Pos} (hs:Na X t) (ho:RE X G o to) (hi:RE X G i ti)
  (ha:∀ v,assign (.Subscript o i pos) X.env v=(do
   let ov ← holding [v] (eval o X.env)
   let iv ← holding [v,ov] (eval i X.env)
   standAt pos
   holding [v,ov,iv] (setItem ov iv v)
   release [v,ov,iv] []):=by intro _;rfl):RG X G (.Subscript o i pos) (Nn to ti t):=by
 obtain ⟨r,hr,lf⟩:=hs
 exact ⟨NT (L2.uH ho.run hi.run hr ha) fun v σ H Q ⟨y,τ,J,Q2,ry,a2,h,k⟩ =>
  ⟨τ,J,_,a2,h,fun x J1 ov H1 rx r1 e1 h1=>⟨τ,J1,_,a2.go r1 e1,h1,fun z J2 iv H2 rz r2 e2 h2 =>
   lf J2 H2 x z y ov iv v _ _ (e2.rep rx) rz (e2.rep (e1.rep ry)) r2 h2 fun J3 H3 r3 e3 q=>k τ J3 σ H3 ((((a2.sl.ext e1).ext e2).ext e3)) r3 ((e1.trans e2).trans e3) q⟩⟩⟩
def LW:Bg:=fun o i y J R=>∃ p xs k j,o=.ref p∧i=.int k∧J p=some (.lst xs)∧L2.Ci xs.length k=some j∧R (put J p (.lst (xs.set j y)))
theorem uY {o i e:Expr} {to ti te:di} {t:Bg} {pos pos':Pos} (hs:Na X t) (ho:RE X G o to) (hi:RE X G i ti) (he:RE X G e te)
  (ha:∀ v,assign (.Subscript o i pos') X.env v=(do
   let ov ← holding [v] (eval o X.env)
   let iv ← holding [v,ov] (eval i X.env)
   standAt pos'
   holding [v,ov,iv] (setItem ov iv v)
   release [v,ov,iv] []):=by intro _;rfl)
  (hq:swapsWithSole [.Subscript o i pos'] e pos.line X.env=pure false:=by rfl) (hw:swappedStores [.Subscript o i pos'] e X.env=pure none:=by rfl)
  (h1:(assignEach [.Subscript o i pos'] X.env).map (·.2)=[assign (.Subscript o i pos') X.env]:=by rfl):RS X G (.Assign [.Subscript o i pos'] e pos) (si te (Nn to ti t)):=uX he (JM hs ho hi ha) hq hw h1
def Ol (X:Cx) (op:Operator) (q:me):Prop:=∃ r,L2.M_ X op r∧LR X.K r q
def LZ (i:Nat) (te:di) (q:me):jJ:=fun D τ J=>∃ x,τ[i]?=some (some x)∧te τ J fun y J1=>q x y J1 fun z J2=>D.nx (τ.set i (some z)) J2
theorem Em {i:Nat} {x:Str} {e:Expr} {te:di} {op:Operator} {q:me} {pos pos':Pos} (hN:X.N.Nodup) (hi:X.N[i]?=some x) (hx:Loc X.env.scope x) (he:RE X G e te) (ho:Ol X op q) (hf:X.fn x=true∨X.env.scope.names.lookup x=some .local:=by first | exact .inl rfl | exact .inr rfl | assumption) :
  RS X G (.AugAssign (.Name x pos') op e pos) (LZ i te q):=by
 obtain ⟨r,hr,lf⟩:=ho
 exact ⟨yV (L2.JA hN hi hx he.run hr hf) fun D σ H ⟨τ,J,D2,a2,⟨x,hx,h⟩,g⟩=>by
  obtain ⟨v,h1,h2⟩:=a2.sl.get _ _ hx
  exact ⟨v,h1,τ,J,_,a2,h,fun y J1 u H1 ry r1 e1 q1=>lf J1 H1 x y v u _ _ (e1.rep h2) ry r1 q1 fun z J2 u2 H2 rz r2 e2 q2=>g.nx _ J2 _ H2 (((a2.sl.ext e1).ext e2).set i rz) r2 (e1.trans e2) q2⟩⟩
theorem C_:Ol X .Sub (Ea fun i j=>.int (i - j)):=⟨_,L2.IS,fun J H x y v w Q2 Q rx ry r ⟨i,j,ex,ey,q⟩ k=>by
 subst ex ey;cases rx;cases ry;exact ⟨i,j,rfl,rfl,k (.int _) J _ H rfl r .refl q⟩⟩
end
theorem fJ {xs:List PV} {ok:Hq→Prop} {g:yc} {tb:jJ} {D:En} {τ:Sr} {J1:Hq} (Pv:Nat→Sr→Hq→Prop) (h0:Pv 0 τ J1) (hk:∀ i τ J,Pv i τ J→ok J)
  (hs:∀ (i:Nat) x τ J,xs[i]?=some x→Pv i τ J→g x τ J fun τ2 J2=>tb { D with nx:=Pv (i + 1),ct:=Pv (i + 1),bk:=D.nx } τ2 J2) (hd:∀ τ J,Pv xs.length τ J→D.nx τ J):Fo ⟨xs,ok⟩ g tb D τ J1:=⟨Pv,h0,hk,hs,hd⟩
theorem zC {α:Type} (xs:List α) (x:α):c_ (xs ++ [x]) (-1)=some x:=by
 unfold L2.c_ L2.Ci
 rw [if_neg (by decide),if_pos (by simp;omega)]
 have e:(-1 + ((xs ++ [x]).length:Int)).toNat=xs.length:=by simp only [List.length_append,List.length_cons,List.length_nil];omega
 rw [e]
 simp
theorem j9 {K:PySem.W.Frag} {h:Heap} {mg:Str→Option Value} {x:Str} {C:Addr} (X:K.In h) (G:h.Ns mainGlobals mg) (a:PySem.W.nsIn K mainGlobals x=some (some (.ref C))) (b:(PySem.W.excIn K C Nf "ValueError.__new__" && E3 K C)=true):Own K mg x C :=
 ⟨PySem.W.mg_of X G a,(Bool.and_eq_true_iff.mp b).1,G7 (Bool.and_eq_true_iff.mp b).2⟩
theorem mB {J:Hq} {x:PV} {ys:List PV} (h:lQ J x=some ys):x=.fl ys∨∃ a,x=.ref a∧J a=some (.lst ys):=by
 cases x with
 | fl xs=>cases h;exact .inl rfl
 | ref a =>
  right
  refine ⟨a,rfl,?_⟩
  unfold lQ at h
  simp only at h
  split at h
  ·rename_i e;cases h;exact e
  ·cases h
 | _=>cases h
theorem Ho {J:Hq} {x:PV} {ys:List PV} (h:lQ J x=some ys):zp J x=some "list":=by
 rcases mB h with rfl | ⟨a,rfl,ha⟩
 ·rfl
 ·rw [MK,ha]
theorem yB {J:Hq} {x:PV} {ys:List PV} (h:lQ J x=some ys):um J x=some ys.length:=by
 rcases mB h with rfl | ⟨a,rfl,ha⟩
 ·rfl
 ·rw [Hk,ha];rfl
theorem Dw {J:Hq} {x:PV} {ys:List PV} (h:lQ J x=some ys) (i:Int):fK J x (.int i)=c_ ys i:=by
 rcases mB h with rfl | ⟨a,rfl,ha⟩
 ·rfl
 ·rw [K',ha]
def II (j:Nat):List PV:=.bl true :: (List.range 10).map fun k=>.bl (decide (j=k))
def N6 (c:Nat→Addr) (N n:Nat) (t:(Addr→Hq→Prop)→jJ):jJ:=fun D τ J =>
 t (fun a J'=>∃ j,j < 10∧a=c j∧D.nx ((List.replicate N none).set n (some (.fl (II j)))) J') D τ J
section
variable {X:Cx} {G:G2}
end
theorem JT {a b:jJ} {D:En} {τ:Sr} {J:Hq} (h:a { D with nx:=fun τ' J'=>b D τ' J' } τ J):cK a b D τ J:=h
def Ku (J:Hq):PV→Option (List PV)
 | .tup xs=>some xs
 | .fl xs=>some xs
 | .ref a=>match J a with
  | some (.lst xs)=>some xs
  | _=>none
 | _=>none
theorem EH {K:PySem.W.Frag} {J:Hq} {H:Hp} {y:PV} {u:V} {xs:List PV} (h:Ku J y=some xs) (r:cq K J H y u) (rr:Rep K J H):∃ p vs,u=.ref p∧(c7 K H p vs∨gM K H p vs)∧aS K J H xs vs:=by
 cases y with
 | tup ys=>cases h;obtain ⟨a,vs,rfl,h1,h2⟩:=r;exact ⟨a,vs,rfl,.inr h1,h2⟩
 | fl ys=>cases h;obtain ⟨a,vs,rfl,h1,h2⟩:=r;exact ⟨a,vs,rfl,.inl h1.sq,h2⟩
 | ref a =>
  cases r
  unfold Ku at h
  simp only at h
  split at h
  ·rename_i e;cases h
   obtain ⟨vs,h1,h2⟩:=rr _ _ e
   exact ⟨a,vs,rfl,.inl (c7.of h1),h2⟩
  ·cases h
 | _=>cases h
theorem jx {K:PySem.W.Frag} {J:Hq} {H:Hp}:∀ {ns:List Str} {vs:List V},aS K J H (ns.map PV.str) vs→vs=ns.map V.str
 | [],_,h=>h
 | n :: ns,_,⟨v,us,e,h,k⟩=>by subst e;cases h;rw [jx k];rfl
theorem mI {K:PySem.W.Frag} {J:Hq} {H:Hp}:∀ {ns:List Int} {vs:List V},aS K J H (ns.map PV.int) vs→vs=ns.map V.int
 | [],_,h=>h
 | n :: ns,_,⟨v,us,e,h,k⟩=>by subst e;cases h;rw [mI k];rfl
theorem zD {α:Type} [BEq α] [LawfulBEq α] [DecidableEq α] (x y:α):(x == y)=decide (x=y):=by by_cases h:x=y <;> simp [h]
theorem FG (s:Str) (ss:List Str):L2.Kp (.str s) (ss.map V.str)=decide (s∈ss):=by
 unfold L2.Kp
 induction ss with
 | nil=>rfl
 | cons x ss ih =>
  rw [List.map_cons,List.any_cons,ih,show L2.E6 (.str x) (.str s)=(x == s) from rfl,zD]
  by_cases h:x=s
  ·subst h;simp
  ·simp [h,show ¬ s=x from fun e=>h e.symm]
theorem FF (s:Int) (ss:List Int):L2.Kp (.int s) (ss.map V.int)=decide (s∈ss):=by
 unfold L2.Kp
 induction ss with
 | nil=>rfl
 | cons x ss ih =>
  rw [List.map_cons,List.any_cons,ih,show L2.E6 (.int x) (.int s)=(x == s) from rfl,zD]
  by_cases h:x=s
  ·subst h;simp
  ·simp [h,show ¬ s=x from fun e=>h e.symm]
section
variable {X:Cx} {G:G2}
def LM (f:Bool→Bool):me:=fun x y J Q=>∃ (s:Str) (ss:List Str),x=.str s∧Ku J y=some (ss.map .str)∧Q (.bl (f (decide (s∈ss)))) J
def NV (f:Bool→Bool):me:=fun x y J Q=>∃ (s:Int) (ss:List Int),x=.int s∧Ku J y=some (ss.map .int)∧Q (.bl (f (decide (s∈ss)))) J
theorem Bn (ss:List Str):(ss.map V.str).all L2.jL=true:=by simp [L2.jL]
theorem Bl (ss:List Int):(ss.map V.int).all L2.jL=true:=by simp [L2.jL]
theorem Ai:md X (compareOp .NotIn) (LM not):=⟨_,L2.uE,fun J H x y v w Q2 Q rx ry r ⟨s,ss,ex,hy,q⟩ k=>by
 subst ex;cases rx
 obtain ⟨p,vs,rfl,hq,h2⟩:=EH hy ry r
 cases jx h2
 exact ⟨p,_,rfl,hq,rfl,Bn ss,k (.bl _) J _ H (by rw [if_pos rfl,FG];rfl) r .refl q⟩⟩
theorem Ju:md X (compareOp .In) (NV id):=⟨_,L2.BQ,fun J H x y v w Q2 Q rx ry r ⟨s,ss,ex,hy,q⟩ k=>by
 subst ex;cases rx
 obtain ⟨p,vs,rfl,hq,h2⟩:=EH hy ry r
 cases mI h2
 exact ⟨p,_,rfl,hq,rfl,Bl ss,k (.bl _) J _ H (by rw [if_neg (by decide),FF];rfl) r .refl q⟩⟩
end
end Ov
namespace L2
open PySem PySem.Spec PyProof.Rows
section
variable {X:Cx} {tg:Expr}
end
end L2
namespace Ov
open PySem PySem.Spec PyProof.Rows
open L2 (V HO Hp Inv Cx VK XK TE TT TA TS TG pX TI TO k9 Ends vS Loc Gl Rd RelV Vals fF xO cx pQ sG pT k8 R2 upd aJ aQ c7 gM Sp rj It bG du bX Passes oV aF Meth Mk Binds aO cm aw c_ gK fg)
section
variable {X:Cx} {G:G2} {tg:Expr}
theorem nN {K:PySem.W.Frag} {J:Hq} {H:Hp} {y:PV} {u:V} {xs:List PV} (h:lQ J y=some xs) (r:cq K J H y u) (rr:Rep K J H):∃ p vs,u=.ref p∧c7 K H p vs∧aS K J H xs vs:=by
 rcases mB h with rfl | ⟨a,rfl,ha⟩
 ·obtain ⟨a,vs,rfl,h1,h2⟩:=r;exact ⟨a,vs,rfl,h1.sq,h2⟩
 ·cases r
  obtain ⟨vs,h1,h2⟩:=rr _ _ ha
  exact ⟨a,vs,rfl,c7.of h1,h2⟩
end
end Ov
namespace L2
open PySem PySem.Spec PyProof.Rows
section
variable {X:Cx} {pins:List (Addr × Obj)} {σ:St} {H:Hp} {s:Shared} {h':Heap}
theorem Inv.pI {t':Nat} {ch:List Addr} (I:Inv X pins σ H s) (k:∀ b o,b ∉ ch→s.heap.get? b=some o→h'.get? b=some o) (hf:∀ b∈ch,i4 X pins H b):Inv X pins σ H { s with heap:=h',toks:=t' }:=by
 have nit:∀ b u,H b=some u→b ∉ ch:=fun b u e z=>by rw [(hf b z).1] at e;cases e
 refine I.step (g':=s.gens) (d':=s.drawn) (ch:=ch) (fun b hb=>?_) (fun b o _ _ hc e _=>k b o hc e) (fun b o _ _ hc e _=>⟨o.slots,k b o hc e⟩) (fun _ _ _ _ n=>n)
  (fun b o hc e=>⟨o,k b o hc e⟩) (fun _ _ e=>e) (fun _ _ _ e=>e) (fun b ps e=>⟨#[],by rw [e];simp⟩) (fun m hm=>?_) (fun b u e=>?_) I.bare
 ·obtain ⟨f0,f1,f2,f3,f4,f5⟩:=hf b hb
  exact ⟨f3,f1,f4,f5⟩
 ·obtain ⟨o,es,ep,ho,r⟩:=hm
  exact ⟨o,es,ep,k _ o (fun z=>(hf _ z).2.1 rfl) ho,r⟩
 ·refine (I.hok b u e).lZ (fun c v hc q=>k c v ?_ q) (fun _ q=>q) fun _ _ q=>q
  rcases hc with z | z
  ·rw [z];exact nit b u e
  ·exact nit c _ z
end
def Ot (K:PySem.W.Frag) (a b:Addr):It :=
 ⟨fun i H=>∃ xs ys x y,c7 K H a xs∧c7 K H b ys∧xs[i]?=some x∧ys[i]?=some y,
  fun i H z H'=>∃ T x y,H T=none∧z=.ref T∧H'=upd H T (.tup [x,y])∧(∀ xs,c7 K H a xs→xs[i]?=some x)∧∀ ys,c7 K H b ys→ys[i]?=some y,
  fun i H=>∃ xs ys,c7 K H a xs∧c7 K H b ys∧(xs.length≤i∨ys.length≤i)⟩
theorem EX {P:Program} {w:World} {K:PySem.W.Frag} {elts:List Expr} {x1} {pos:Pos} {z TI TO i1 i2 l1 l2:Addr} (D:ZipApart z TI TO i1 i2 l1 l2) :
  Turn P w K (.Tuple elts x1 pos) (Ot K l1 l2) [z,TI,TO,i1,i2] z (fun i h=>IsZip h z TI TO .none∧IsPair h TI (.ref i1) (.ref i2)∧(∃ a b,IsPair h TO a b)∧h.IsListIter i1 l1 i∧h.IsListIter i2 l2 i) where
 mem:=by simp
 obj:=fun i h ⟨hz,hTI,⟨a,b,hTO⟩,h1,h2⟩ c hc=>by
  simp only [List.mem_cons,List.not_mem_nil,or_false] at hc
  rcases hc with rfl | rfl | rfl | rfl | rfl
  ·exact ⟨_,hz,fun v z=>by cases z⟩
  ·exact ⟨_,hTI,fun v z=>by cases z⟩
  ·exact ⟨_,hTO,fun v z=>by cases z⟩
  ·obtain ⟨o,e,c,d⟩:=h1;exact ⟨o,e,fun v z=>by rw [d] at z;cases z⟩
  ·obtain ⟨o,e,c,d⟩:=h2;exact ⟨o,e,fun v z=>by rw [d] at z;cases z⟩
 keep:=fun i h h' ⟨hz,hTI,⟨a,b,hTO⟩,h1,h2⟩ k=>⟨k z (by simp) _ hz,k TI (by simp) _ hTI,⟨a,b,k TO (by simp) _ hTO⟩,h1.at fun o e=>k i1 (by simp) o e,h2.at fun o e=>k i2 (by simp) o e⟩
 item:=by
  intro X hP hw hK hc i pins s σ H E I hf st hg
  subst hP hw hK
  obtain ⟨hz,hTI,⟨a,b,hTO⟩,h1,h2⟩:=st
  obtain ⟨xs,ys,x,y,hqx,hqy,hx,hy⟩:=hg
  obtain ⟨its,rv,p,hzx⟩:=I.list hqx
  obtain ⟨jts,ru,p',hzy⟩:=I.list hqy
  obtain ⟨u,hu,rx⟩:=rv.get hx
  obtain ⟨v,hv,ry⟩:=ru.get hy
  refine wpAny_pyNext_zip_item D hz hTI hTO h1 h2 p.isList p'.isList (x:=u) (y:=v) (by simpa using hu) (by simpa using hv) fun h' a1 a2 a3 a4 a5 a6 hk=>?_
  refine ⟨_,rfl,wpAny_letOwnedTupleGo_zip a1 fun h'' hz' hs'=>?_⟩
  have hT:H s.heap.objs.size=none:=I.hok.fresh (Nat.le_refl _)
  have lt:∀ {c o},s.heap.get? c=some o→c≠s.heap.objs.size:=fun e=>Nat.ne_of_lt (Heap.lt_size e)
  have nz:s.heap.objs.size≠z:=Ne.symm (lt hz)
  have I0:Inv X pins σ (upd H s.heap.objs.size (.tup [x,y])) { s with heap:=s.heap.push { cls:=.type "tuple",data:=.seq #[u,v] },toks:=s.toks }:=I.laid (t':=s.toks) (fun b u e=>Heap.get?_push_of_some _ e) (Nat.le_refl _) ⟨by simp [sizeLine],[u,v],.cons rx (.cons ry .nil),⟨_,Heap.get?_push_size _ rfl,rfl,_,rfl⟩⟩
  have fpn:∀ b∈[z,TI,TO,i1,i2],b≠s.heap.objs.size:=fun b hb=>by
   simp only [List.mem_cons,List.not_mem_nil,or_false] at hb
   rcases hb with rfl | rfl | rfl | rfl | rfl
   ·exact lt hz
   ·exact lt hTI
   ·exact lt hTO
   ·obtain ⟨o,e,_⟩:=h1;exact lt e
   ·obtain ⟨o,e,_⟩:=h2;exact lt e
  have fpu:∀ b∈[z,TI,TO,i1,i2],i4 X pins (upd H s.heap.objs.size (.tup [x,y])) b:=fun b hb=>⟨by rw [aQ (fpn b hb)];exact (hf b hb).1,(hf b hb).2⟩
  have I1:Inv X pins σ (upd H s.heap.objs.size (.tup [x,y])) { s with heap:=h'' }:=Inv.pI (s:={ s with heap:=s.heap.push { cls:=.type "tuple",data:=.seq #[u,v] },toks:=s.toks }) (t':=s.toks) (ch:=[z,TI,TO,i1,i2]) I0 (fun b o hb e=>by
   simp only [List.mem_cons,List.not_mem_nil,or_false,not_or] at hb
   rcases Heap.get?_push_cases e with ⟨rfl,rfl⟩ | e'
   ·exact hs'.extBut _ _ hb.1 a5
   ·exact hs'.extBut _ _ hb.1 (hk b o hb.1 hb.2.2.1 hb.2.2.2.1 hb.2.2.2.2 e')) fpu
  refine ⟨.ref s.heap.objs.size,_,I1,rfl,⟨_,x,y,hT,rfl,rfl,fun zs hq=>by rw [I.j1 hq hqx];exact hx,fun zs hq=>by rw [I.j1 hq hqy];exact hy⟩,⟨hz',hs'.extBut _ _ D.TIz (hk _ _ D.TIz D.TITO D.TIi1 D.TIi2 hTI),⟨_,_,hs'.extBut _ _ D.TOz a2⟩,a3.extBut hs'.extBut D.i1z,a4.extBut hs'.extBut D.i2z⟩,fun b hb=>(fpu b hb).1⟩
 done:=by
  intro X hP hw hK hc i pins s σ H E I hf st hg
  subst hP hw hK
  obtain ⟨hz,hTI,⟨a,b,hTO⟩,h1,h2⟩:=st
  obtain ⟨xs,ys,hqx,hqy,hl⟩:=hg
  obtain ⟨its,rv,p,hzx⟩:=I.list hqx
  obtain ⟨jts,ru,p',hzy⟩:=I.list hqy
  have e1:=rv.length
  have e2:=ru.length
  refine wpAny_pyNext_zip_end (I.ok.hd hc) D hz hTI hTO h1 h2 p.isList p'.isList ?_ fun h' hk=>⟨rfl,I.pI (t':=s.toks) (ch:=[z,TI,TO,i1,i2]) (fun b o hb e=>?_) hf⟩
  ·rcases hl with hl | hl
   ·exact .inl (by simp;omega)
   ·exact .inr (by simp;omega)
  ·simp only [List.mem_cons,List.not_mem_nil,or_false,not_or] at hb
   exact hk b o hb.1 hb.2.2.1 hb.2.2.2.1 hb.2.2.2.2 e
 self:=fun _ _ _ _ _ st h=>wpAny_pyIter_zip st.1 h
def Np (K:PySem.W.Frag) (ta:TA):TI:=fun σ H R=>ta σ H fun vs H1=>∃ a b xs ys,vs=[.ref a,.ref b]∧c7 K H1 a xs∧c7 K H1 b ys∧R (Ot K a b) H1
section
variable {X:Cx}
theorem Jz {l m:Expr} {elts:List Expr} {x1} {tp:Pos} {ta:TA} {p pos:Pos} (hg:Gl X "zip") (hm:X.mg "zip"=none) (ha:PA X [l,m] ta) (hs:starEach [l,m] X.env=(false,eval l X.env) :: starEach [m] X.env:=by rfl) (hp:(backTo pos (starEach [m] X.env)).any (·.1)=false:=by rfl):PI X (.Tuple elts x1 tp) (.Call (.Name "zip" p) [l,m] [] pos) (Np X.K ta):=by
 intro pins s σ H R I h
 refine Call_ (lN I hg hm PyProof.Rows.Boot.«zip» (PyProof.Rows.callWith_type1 (b7 (ha pos pins s σ H _ I h) fun us s1 ⟨vs,H1,I1,r1,q1⟩=>?_) hs hp))
 obtain ⟨a,b,xs,ys,e,hqa,hqb,q⟩:=q1
 subst e
 cases r1 with
 | cons r rr =>
  cases rr with
  | cons r' rr' =>
   cases rr'
   cases r
   cases r'
   obtain ⟨its,rv,pl,hz⟩:=I1.list hqa
   obtain ⟨jts,ru,pl',hz'⟩:=I1.list hqb
   refine call_zip_2 pl.isList pl'.isList fun h' b1 b2 b3 b4 b5 b6 hk=>?_
   refine wpAny_pyIter_zip b1 ?_
   have la:a < s1.heap.objs.size:=by obtain ⟨o,e,_⟩:=pl.isList;exact Heap.lt_size e
   have lb:b < s1.heap.objs.size:=by obtain ⟨o,e,_⟩:=pl'.isList;exact Heap.lt_size e
   have D:ZipApart (s1.heap.objs.size + 4) (s1.heap.objs.size + 2) (s1.heap.objs.size + 3) s1.heap.objs.size (s1.heap.objs.size + 1) a b:=by
    have la':@LT.lt Nat _ a s1.heap.objs.size:=la
    have lb':@LT.lt Nat _ b s1.heap.objs.size:=lb
    constructor <;> (show @Ne Nat _ _;omega)
   refine ⟨_,_,_,_,H1,rfl,I1.kept (t':=s1.toks) hk,EX D,⟨b1,b2,⟨_,_,b3⟩,b4,b5⟩,fun c hc=>?_,q⟩
   have hc':s1.heap.objs.size≤c:=by
    simp only [List.mem_cons,List.not_mem_nil,or_false] at hc
    show @LE.le Nat _ _ _
    rcases hc with rfl | rfl | rfl | rfl | rfl
    ·exact Nat.le_add_right _ _
    ·exact Nat.le_add_right _ _
    ·exact Nat.le_add_right _ _
    ·exact Nat.le_refl _
    ·exact Nat.le_add_right _ _
   exact I1.Bo hc' (I1.hok.fresh hc')
end
end L2
namespace Ov
open PySem PySem.Spec PyProof.Rows
open L2 (V HO Hp Inv Cx VK XK TE TT TA TS TG pX TI TO k9 Ends vS Loc Gl Rd RelV Vals fF xO cx pQ sG pT k8 R2 upd aJ aQ c7 gM Sp rj It bG du bX Passes oV aF Meth Mk Binds aO cm aw c_ gK fg)
section
variable {X:Cx} {G:G2}
def OI (ta:oy):rK:=fun τ J R=>ta τ J fun vs J1=>∃ x y xs ys,vs=[x,y]∧lQ J1 x=some xs∧lQ J1 y=some ys∧R ⟨(xs.zip ys).map fun p=>.tup [p.1,p.2],fun J'=>lQ J' x=some xs∧lQ J' y=some ys⟩ J1
theorem JO {l m:Expr} {elts:List Expr} {x1} {tp:Pos} {ta:oy} {p pos:Pos} (hg:Gl X "zip") (hm:X.mg "zip"=none) (ha:RA X G [l,m] ta) (hs:starEach [l,m] X.env=(false,eval l X.env) :: starEach [m] X.env:=by rfl) (hp:(backTo pos (starEach [m] X.env)).any (·.1)=false:=by rfl) :
  RI X G (.Tuple elts x1 tp) (.Call (.Name "zip" p) [l,m] [] pos) (OI ta):=⟨Kr (L2.Jz hg hm ha.run hs hp) fun σ H R ⟨τ,J,R2,a2,h,k⟩=>⟨τ,J,_,a2,h,fun vs J1 us H1 rs r1 e1 ⟨x,y,xs,ys,ev,hx,hy,q⟩=>by
 subst ev
 obtain ⟨v,us',rfl,rv,v',us'',rfl,rv',e'⟩:=rs
 cases e'
 obtain ⟨a,ws,rfl,h1,h2⟩:=nN hx rv r1
 obtain ⟨b,ws',rfl,h1',h2'⟩:=nN hy rv' r1
 refine ⟨a,b,ws,ws',rfl,h1,h1',k _ J1 _ H1 ?_ r1 e1 q⟩
 have at_:∀ J' H',Ext X.K J1 H1 J' H'→Rep X.K J' H'→lQ J' x=some xs∧lQ J' y=some ys→∃ vs us,c7 X.K H' a vs∧aS X.K J' H' xs vs∧c7 X.K H' b us∧aS X.K J' H' ys us:=fun J' H' e r o=>by
  obtain ⟨c,vs,eb,g1,g2⟩:=nN o.1 (e.rep rv) r
  cases eb
  obtain ⟨c',us,eb,g1',g2'⟩:=nN o.2 (e.rep rv') r
  cases eb
  exact ⟨vs,us,g1,g2,g1',g2'⟩
 exact {
  go:=fun J' H' e r o i hi=>by
   obtain ⟨vs,us,s,rs,s',rs'⟩:=at_ J' H' e r o
   rw [List.length_map,List.length_zip] at hi
   have i1:i < vs.length:=by rw [← rs.length];omega
   have i2:i < us.length:=by rw [← rs'.length];omega
   exact ⟨vs,us,vs[i],us[i],s,s',List.getElem?_eq_getElem i1,List.getElem?_eq_getElem i2⟩
  yl:=fun J' H' e r o i hi v H2 y=>by
   obtain ⟨vs,us,s,rs,s',rs'⟩:=at_ J' H' e r o
   obtain ⟨T,z,z',hT,rfl,rfl,y1,y2⟩:=y
   obtain ⟨c,ec,rc⟩:=rs.get' (y1 vs s)
   obtain ⟨c',ec',rc'⟩:=rs'.get' (y2 us s')
   have sm:=bG.new hT (.tup [z,z'])
   have e2:=Ext.same (K:=X.K) (J:=J') sm
   refine ⟨.tup [c,c'],?_,⟨T,[z,z'],rfl,.inl (.inl aJ),e2.iS ⟨z,_,rfl,rc,z',_,rfl,rc',rfl⟩⟩,r.same sm,e2⟩
   rw [List.getElem?_map,(List.getElem?_zip_eq_some (z:=(c,c'))).mpr ⟨ec,ec'⟩];rfl
  stop:=fun J' H' e r o=>by
   obtain ⟨vs,us,s,rs,s',rs'⟩:=at_ J' H' e r o
   refine ⟨vs,us,s,s',?_⟩
   rw [List.length_map,List.length_zip,← rs.length,← rs'.length]
   omega }⟩⟩
end
end Ov
namespace L2
open PySem PySem.Spec PyProof.Rows
section
variable {α β:Type}
def lp (kvs:List (Str × α)) (k:Str):Option α:=(kvs.find? fun kv=>decide (kv.1=k)).map (·.2)
def uN (kvs:List (Str × α)) (k:Str) (v:α):List (Str × α):=if kvs.any (fun kv=>decide (kv.1=k)) then kvs.map (fun kv=>if kv.1=k then (kv.1,v) else kv) else kvs ++ [(k,v)]
def CS (kvs:List (Str × α)) (k:Str):List (Str × α):=kvs.filter fun kv=>decide (kv.1≠k)
theorem m9 (p:Str × α) (r:List (Str × α)) (k:Str):lp (p :: r) k=if p.1=k then some p.2 else lp r k:=by
 unfold lp
 rw [List.find?_cons]
 by_cases h:p.1=k <;> simp [h]
theorem Am (kvs:List (Str × α)) (k:Str) (v:α):(uN kvs k v).length≤kvs.length + 1:=by
 unfold uN;split <;> simp
theorem Fv (kvs:List (Str × α)) (k:Str):(CS kvs k).length≤kvs.length:=List.length_filter_le _ _
abbrev oW (R:α→β→Prop):List (Str × α)→List (Str × β)→Prop:=Paired fun p q=>p.1=q.1∧R p.2 q.2
variable {R:α→β→Prop}
theorem oW.va {kvs:List (Str × α)} {vs:List (Str × β)} (h:oW R kvs vs) (k:Str):(∀ x,lp kvs k=some x→∃ y,lp vs k=some y∧R x y)∧(lp kvs k).isSome=(lp vs k).isSome:=by
 induction h with
 | nil=>exact ⟨fun x e=>by simp [lp] at e,rfl⟩
 | @cons p q kvs vs r _ ih =>
  rw [m9,m9,← r.1]
  by_cases e:p.1=k
  ·rw [if_pos e,if_pos e];exact ⟨fun x z=>by cases z;exact ⟨_,rfl,r.2⟩,rfl⟩
  ·rw [if_neg e,if_neg e];exact ih
theorem oW.any {kvs:List (Str × α)} {vs:List (Str × β)} (h:oW R kvs vs) (k:Str):(kvs.any fun kv=>decide (kv.1=k))=vs.any fun kv=>decide (kv.1=k):=by
 induction h with
 | nil=>rfl
 | cons r _ ih=>rw [List.any_cons,List.any_cons,ih,r.1]
theorem oW.snoc {kvs:List (Str × α)} {vs:List (Str × β)} (h:oW R kvs vs) {k:Str} {x:α} {y:β} (r:R x y):oW R (kvs ++ [(k,x)]) (vs ++ [(k,y)]):=by
 induction h with
 | nil=>exact .cons ⟨rfl,r⟩ .nil
 | cons q _ ih=>exact .cons q ih
theorem oW.pu {kvs:List (Str × α)} {vs:List (Str × β)} (h:oW R kvs vs) {k:Str} {x:α} {y:β} (r:R x y):oW R (uN kvs k x) (uN vs k y):=by
 unfold uN
 rw [h.any k]
 split
 ·rename_i hany;clear hany
  induction h with
  | nil=>exact .nil
  | @cons p q kvs vs z _ ih =>
   rw [List.map_cons,List.map_cons]
   refine .cons ?_ ih
   by_cases e:p.1=k
   ·rw [if_pos e,if_pos (z.1 ▸ e)];exact ⟨z.1,r⟩
   ·rw [if_neg e,if_neg (z.1 ▸ e)];exact z
 ·exact h.snoc r
theorem oW.dr {kvs:List (Str × α)} {vs:List (Str × β)} (h:oW R kvs vs) (k:Str):oW R (CS kvs k) (CS vs k):=by
 unfold CS
 induction h with
 | nil=>exact .nil
 | @cons p q kvs vs z _ ih =>
  rw [List.filter_cons,List.filter_cons,z.1]
  split
  ·exact .cons z ih
  ·exact ih
theorem oW.len {kvs:List (Str × α)} {vs:List (Str × β)} (h:oW R kvs vs):kvs.length=vs.length:=Paired.length h
theorem oW.keys {kvs:List (Str × α)} {vs:List (Str × β)} (h:oW R kvs vs):kvs.map (·.1)=vs.map (·.1):=by
 induction h with
 | nil=>rfl
 | cons r _ ih=>rw [List.map_cons,List.map_cons,ih,r.1]
end
theorem tL (vs:List (Str × Value)) (k:Str):valueAt vs k=lp vs k:=rfl
theorem str_is {P:Program} {w:World} {k:Str} {u:Value} (r:RelV (.str k) u):(PySem.strKind P w).is k u=true:=by
 obtain ⟨t,rfl⟩:=r
 simp [PySem.strKind,Value.isStrOf]
theorem Df {P:Program} {w:World} {k:Str} {u:Value} (h:(PySem.strKind P w).is k u=true):RelV (.str k) u:=Value.isStrOf_shape h
section
variable {X:Cx} {pins:List (Addr × Obj)} {σ:St} {H:Hp} {s:Shared} {a:Addr} {A:Around} {E:Value→Shared→Prop} {kvs:List (Str × V)} {ep:Nat}
theorem ly (I:Inv X pins σ H s) (e:H a=some (.dE kvs ep)):kvs.length≤sizeLine∧(a == sysModules)=false∧∃ vs,oW RelV kvs vs∧s.heap.DictAt (PySem.strKind X.prog X.w) a vs ep:=I.hok a _ e
theorem p7 {h':Heap} {t':Nat} {kvs':List (Str × V)} {vs':List (Str × Value)} (I:Inv X pins σ H s) (e:H a=some (.dE kvs ep)) (hs:Heap.SameBut a s.heap h') (hz:kvs'.length≤sizeLine) (hd:(a == sysModules)=false) (rel:oW RelV kvs' vs') (dd:h'.DictOf (PySem.strKind X.prog X.w) a vs') :
  ∃ ep',Inv X pins σ (upd H a (.dE kvs' ep')) { s with heap:=h',toks:=t' }:=by
 obtain ⟨ep',da⟩:=dd.dictAt
 refine ⟨ep',I.write (x:=a) (e:=a) (by rw [e];exact True.intro) (.inl rfl) (fun b q hb z=>(hs.2 b hb).trans z) (let ⟨q,_,_,hq,_⟩:=dd;⟨q,hq⟩) ⟨hz,hd,vs',rel,da⟩⟩
theorem Inv.KS (I:Inv X pins σ H s):sysModules < s.heap.objs.size:=by
 have h:mainGlobals < s.heap.objs.size:=(I.mod.glob.keeps I.bk).lt
 exact Nat.lt_trans (by decide) h
end
theorem Bt {P:Program} {w:World} {kvs:List (Str × V)} {vs:List (Str × Value)} (rel:oW RelV kvs vs):∀ {us:List Value},us.length=kvs.length→(∀ (j:Nat) (v:Value),us[j]?=some v→∃ k x,vs[j]?=some (k,x)∧(PySem.strKind P w).is k v=true)→Vals (kvs.map fun kv=>V.str kv.1) us:=by
 induction rel with
 | nil =>
  intro us hlen _
  cases us with
  | nil=>exact .nil
  | cons _ _=>cases hlen
 | @cons p q kvs vs z _ ih =>
  intro us hlen hget
  cases us with
  | nil=>cases hlen
  | cons u us =>
   rw [List.map_cons]
   refine .cons ?_ (ih (by simpa using hlen) fun j v e=>?_)
   ·obtain ⟨k,x,e1,e2⟩:=hget 0 u rfl
    rw [List.getElem?_cons_zero] at e1
    cases e1
    rw [z.1];exact Df e2
   ·obtain ⟨k,x,e1,e2⟩:=hget (j + 1) v (by rw [List.getElem?_cons_succ];exact e)
    rw [List.getElem?_cons_succ] at e1
    exact ⟨k,x,e1,e2⟩
def N2:R2:=fun x y H Q=>∃ a kvs ep k v,x=.ref a∧y=.str k∧H a=some (.dE kvs ep)∧lp kvs k=some v∧Q v H
def JI (f:Bool→Bool):R2:=fun x y H Q=>∃ a kvs ep k,x=.str k∧y=.ref a∧H a=some (.dE kvs ep)∧Q (.bl (f (lp kvs k).isSome)) H
def JK:List V→Hp→VK→Prop:=fun xs H Q=>∃ a kvs ep,xs=[.ref a]∧H a=some (.dE kvs ep)∧∀ p,H p=none→Q (.ref p) (upd H p (.lst (kvs.map fun kv=>.str kv.1)))
def Mf:V→List V→Hp→VK→Prop:=fun x xs H Q=>∃ a kvs ep k v,x=.ref a∧xs=[.str k]∧H a=some (.dE kvs ep)∧lp kvs k=some v∧∀ ep',Q v (upd H a (.dE (CS kvs k) ep'))
def Mh:k9:=fun o i v H Q=>∃ a kvs ep k,o=.ref a∧i=.str k∧H a=some (.dE kvs ep)∧kvs.length < sizeLine∧∀ ep',Q (upd H a (.dE (uN kvs k v) ep'))
def Mx:TE:=fun _ H Q=>∀ p,H p=none→∀ ep,Q (.ref p) (upd H p (.dE [] ep))
section
variable {X:Cx}
theorem K8:pQ X N2:=by
 intro value slice pins s σ H x y v u Q I rx ry q hs
 obtain ⟨a,kvs,ep,k,z,rfl,rfl,hp,hz,q⟩:=q
 cases rx
 obtain ⟨_,hd,vs,rel,da⟩:=ly I hp
 have hT:s.TypeIs (.ref a) "dict":=da.dictOf.typeIs
 obtain ⟨w',hw,rw'⟩:=(rel.va k).1 z hz
 unfold subscriptTail
 refine wpAny_bind ?_
 rw [getitemInPython_of_ne hT.not_modules]
 refine wpAny_bind (wpAny_specialOf hT PySem.F.slot_dict_getitem.lookup ?_)
 have fin:wpAny (model X.prog X.w) X.A (subscripted slice false (.ref a) u) (fun r s₃=>wpAny (model X.prog X.w) X.A (letTemporaryGo value (.ref a) r >>= fun _=>pure r) (EP X pins σ Q) X.xe s₃) X.xe s:=by
  rw [hs]
  exact wpAny_operating (wpAny_getItem_of (str_is ry) da.dictOf.mapOf hw (wpAny_bind (wpAny_letTemporaryGo (wpAny_pure ⟨z,H,I.tok _,rw',q⟩))))
 first
  | exact wpAny_pure (wpAny_bind fin)
  | exact wpAny_bind (wpAny_pure (wpAny_bind fin))
  | exact wpAny_bind fin
theorem Jq:fF X (compareOp .In) (JI id):=by
 intro pins s σ H x y v u Q I rx ry ⟨a,kvs,ep,k,ex,ey,hp,q⟩
 subst ex ey
 cases ry
 obtain ⟨_,hd,vs,rel,da⟩:=ly I hp
 refine wpAny_in_of (str_is rx) hd da.dictOf.mapOf ?_
 exact ⟨.bl _,H,I.tok _,by rw [tL,← (rel.va k).2];rfl,q⟩
theorem BS:fF X (compareOp .NotIn) (JI not):=by
 intro pins s σ H x y v u Q I rx ry ⟨a,kvs,ep,k,ex,ey,hp,q⟩
 subst ex ey
 cases ry
 obtain ⟨_,hd,vs,rel,da⟩:=ly I hp
 refine wpAny_notIn_of (str_is rx) hd da.dictOf.mapOf ?_
 exact ⟨.bl _,H,I.tok _,by rw [tL,← (rel.va k).2];rfl,q⟩
theorem vX (hc:X.calm=true):cx X (.type "list") JK:=by
 intro pins s σ H xs us Q I r ⟨a,kvs,ep,ex,hp,q⟩
 subst ex
 obtain ⟨u,rfl,ru⟩:=vals1 r
 cases ru
 obtain ⟨hz,hd,vs,rel,da⟩:=ly I hp
 have hl:=rel.len
 refine PySem.W.kdl_call (PySem.W.kdl_dict (knd:=PySem.strKind X.prog X.w) (kvs:=vs) (ep:=ep) hd) (I.ok.hd hc) da (by rw [← hl];exact hz) fun h' tk acc c hk hS hacc=>?_
 have hkeys:Vals (kvs.map fun kv=>V.str kv.1) acc.toList:=by
  have hlen:acc.toList.length=kvs.length:=by rw [Array.length_toList,hacc.1,hl]
  have hget:∀ j v,acc.toList[j]?=some v→∃ k x,vs[j]?=some (k,x)∧(PySem.strKind X.prog X.w).is k v=true:=fun j v e=>hacc.2 j v (by rw [← Array.getElem?_toList];exact e)
  exact Bt rel hlen hget
 have I2:Inv X pins σ (upd H s.heap.objs.size (.lst (kvs.map fun kv=>V.str kv.1))) { s with heap:=h',toks:=tk } :=
  I.laid (t':=tk) hk (Nat.le_refl _) (show c9 X.prog X.w _ _ _ (.lst _) from ⟨by rw [List.length_map];exact hz,acc.toList,c,hkeys,by rw [Array.toArray_toList];exact hS⟩)
 exact ⟨.ref s.heap.objs.size,_,I2,rfl,q _ (I.hok.fresh (Nat.le_refl _))⟩
theorem FU:pT X "dict.pop" Mf:=by
 intro pins s σ H x xs v us Q I rx r ⟨a,kvs,ep,k,z,ex,exs,hp,hv,q⟩
 subst ex exs
 cases rx
 obtain ⟨u,rfl,ru⟩:=vals1 r
 obtain ⟨hz,hd,vs,rel,da⟩:=ly I hp
 obtain ⟨w',hw,rw'⟩:=(rel.va k).1 z hv
 have hpart:(keyPart u).isSome=true:=by obtain ⟨t,q⟩:=(show ∃ t,u=Value.str k t from ru);subst q;rfl
 refine call_meetsIn PySem.F.slot_dict_pop da.dictOf.typeIs PySem.F.entry_dict_pop (PySem.F.args_dict_pop_2 _ _) (meets_dict_pop_there (PySem.strKind X.prog X.w) a (str_is ru) [] (.inl rfl) hpart)
  ⟨vs,w',da.dictOf,by rw [← rel.len];exact hz,hw,fun h' dd' hs=>?_⟩
 obtain ⟨ep',I2⟩:=p7 (t':=s.toks + 1) I hp hs (Nat.le_trans (Fv kvs k) hz) hd (rel.dr k) dd'
 exact ⟨z,_,I2,rw',q ep'⟩
theorem JV:k8 X Mh:=by
 intro pins s σ H o i v ov iv u Q I ro ri rv ⟨a,kvs,ep,k,eo,ei,hp,hl,q⟩
 subst eo ei
 cases ro
 obtain ⟨hz,hd,vs,rel,da⟩:=ly I hp
 refine wpAny_setItem_pairs (hsz:=by rw [← rel.len];exact hz) (str_is ri) da.dictOf fun h' dd' hs=>?_
 obtain ⟨ep',I2⟩:=p7 (t':=s.toks + 1) I hp hs (show (uN kvs k v).length≤sizeLine from Nat.le_trans (Am kvs k v) hl) hd (rel.pu rv) dd'
 exact ⟨_,I2,q ep'⟩
theorem Gf {pos:Pos}:PE X (.Dict [] [] pos) Mx:=fun pins s σ H Q I h=>by
 have hd:(s.heap.push { cls:=.type "dict",data:=.dict #[] }).DictOf (PySem.strKind X.prog X.w) s.heap.objs.size []:=Heap.DictOf.new s.heap
 obtain ⟨ep,da⟩:=hd.dictAt
 exact wpAny_Dict_empty ⟨.ref s.heap.objs.size,_,I.laid (a:=s.heap.objs.size) (o:=.dE [] ep) (t':=s.toks) (fun _ _ q=>Heap.get?_push_of_some _ q) (Nat.le_refl _)
  ⟨Nat.zero_le _,beq_eq_false_iff_ne.mpr (Ne.symm (Nat.ne_of_lt I.KS)),[],.nil,da⟩,rfl,h _ (I.hok.fresh (Nat.le_refl _)) ep⟩
end
def Om (a:Addr) (ks:List Str) (ep:Nat):It :=
 ⟨fun i H=>(∃ kvs,H a=some (.dE kvs ep)∧kvs.map (·.1)=ks)∧i < ks.length,
  fun i H z H'=>H'=H∧∃ k,ks[i]?=some k∧z=.str k,
  fun i H=>(∃ kvs,H a=some (.dE kvs ep)∧kvs.map (·.1)=ks)∧ks.length≤i⟩
theorem B8 {P:Program} {w:World} {K:PySem.W.Frag} {tg:Expr} (a it:Addr) (ks:List Str) (ep:Nat):Turn P w K tg (Om a ks ep) [it] it (fun i h=>h.IsKeyIter it a i ks.length ep) where
 mem:=by simp
 obj:=fun i h st b hb=>by
  have e:b=it:=by simpa using hb
  subst e
  obtain ⟨o,e,c,d⟩:=st
  exact ⟨o,e,fun v z=>by rw [d] at z;cases z⟩
 keep:=fun i h h' st k=>st.at fun o e=>k it (by simp) o e
 item:=by
  intro X hP hw hK hc i pins s σ H E I hf st hg
  subst hP hw hK
  obtain ⟨⟨kvs,hp,hks⟩,hi⟩:=hg
  obtain ⟨hz,hd,vs,rel,da⟩:=ly I hp
  have hl:ks.length=vs.length:=by rw [← hks,List.length_map];exact rel.len
  obtain ⟨f0,f1,f2,f3,f4,f5⟩:=hf it (by simp)
  obtain ⟨⟨k,x⟩,hx⟩:∃ p,vs[i]?=some p:=⟨vs[i]'(by omega),List.getElem?_eq_getElem (by omega)⟩
  have hk:ks[i]?=some k:=by rw [← hks,rel.keys,List.getElem?_map,hx];rfl
  refine wpAny_pyNext_dict_item (by rw [← hl];exact st) da hx fun key h' hkey st' sb=>?_
  rw [← hl] at st'
  have I1:Inv X pins σ H { s with heap:=h' }:=I.turned (t':=s.toks) (fun b o hb e=>(sb.2 b hb).trans e) f0 f1 f3 f4 f5
  obtain ⟨o,e,c,d⟩:=id st'
  exact ⟨key,rfl,zV (s:={ s with heap:=h' }) e c d (by decide) ⟨.str k,H,I1,Df hkey,⟨rfl,k,hk,rfl⟩,st',fun b hb=>(hf b hb).1⟩⟩
 done:=by
  intro X hP hw hK hc i pins s σ H E I hf st hg
  subst hP hw hK
  obtain ⟨⟨kvs,hp,hks⟩,hi⟩:=hg
  obtain ⟨hz,hd,vs,rel,da⟩:=ly I hp
  have hl:ks.length=vs.length:=by rw [← hks,List.length_map];exact rel.len
  obtain ⟨f0,f1,f2,f3,f4,f5⟩:=hf it (by simp)
  refine wpAny_pyNext_dict_end (I.ok.hd hc) (by rw [← hl];exact st) da (by rw [List.getElem?_eq_none_iff];omega) fun h' hk=>⟨rfl,I.turned (t':=s.toks) (fun b o hb e=>hk b o hb e) f0 f1 f3 f4 f5⟩
 self:=fun _ _ _ _ _ st h=>wpAny_pyIter_keyiter st h
def K5 (td:TE):TI:=fun σ H R=>td σ H fun x H1=>∃ a kvs ep,x=.ref a∧H1 a=some (.dE kvs ep)∧R (Om a (kvs.map (·.1)) ep) H1
theorem Gg {X:Cx} {tg l:Expr} {tl:TE} (hl:PE X l tl):PI X tg l (K5 tl):=by
 intro pins s σ H R I h
 refine b7 (hl pins s σ H _ I h) fun v s1 ⟨x,H1,I1,r1,q1⟩=>?_
 obtain ⟨a,kvs,ep,e,hp,q⟩:=q1
 subst e
 cases r1
 obtain ⟨hz,hd,vs,rel,da⟩:=ly I1 hp
 refine wpAny_pyIter_dict hd da ?_
 refine ⟨s1.heap.objs.size,[s1.heap.objs.size],_,_,H1,rfl,I1.kept (t':=s1.toks) fun b o e=>Heap.get?_push_of_some _ e,B8 a _ (kvs.map (·.1)) ep,⟨_,Heap.get?_push_size _ rfl,rfl,by rw [List.length_map,rel.len];rfl⟩,fun b hb=>?_,q⟩
 have e:b=s1.heap.objs.size:=by simpa using hb
 subst e
 exact I1.Bo (Nat.le_refl _) (I1.hok.fresh (Nat.le_refl _))
end L2
namespace Ov
open PySem PySem.Spec PyProof.Rows L2
def Kz (X:Cx) (ifs:List Expr) (t:TT):Prop :=
 ∀ (pins:List (Addr × Obj)) (s:Shared) (σ:L2.St) (H:Hp) (Q:Bool→Hp→Prop),Inv X pins σ H s→t σ H Q →
  wpAny (model X.prog X.w) X.A (forIn ifs true fun c r=>if r=true then do let ok ← isTrue c X.env (eval c X.env);pure (ForInStep.yield ok) else pure (ForInStep.yield r)) (TP X pins σ Q) X.xe s
theorem Gp {X:Cx}:Kz X [] (fun _ H Q=>Q true H):=fun pins s σ H Q I h=>by rw [List.forIn_nil];exact wpAny_pure ⟨H,I,h⟩
section
variable {prog:Program} {w:World} {A:Around} {R:Result→Shared→Prop} {s:Shared}
theorem yz {kx vx iter:Expr} {ifs:List Expr} {x:Str} {px:Pos} {sc:Scope} {pos:Pos} {it:Value} {D:Addr} {env:Env} (I:Nat→Shared→Prop)
  (turn:∀ n s,I n s→wpAny (model prog w) A (pyNext it) (fun r s₁=>match r with
   | none=>R (.ok .next) s₁
   | some v=>wpAny (model prog w) A (letOwnedTupleGo (.Name x px) it v) (fun _ s₂=>wpAny (model prog w) A (assign (.Name x px) env v) (fun _ s₃=>wpAny (model prog w) A (forIn ifs true fun c r=>if r=true then do let ok ← isTrue c env (eval c env);pure (ForInStep.yield ok) else pure (ForInStep.yield r)) (fun ok s₃=>if ok=true then wpAny (model prog w) A (eval kx env) (fun kv s₄ =>
     wpAny (model prog w) A (eval vx env) (fun vv s₅=>wpAny (model prog w) A (dictSet D kv vv) (fun _ s₅=>∃ m,m < n∧I m s₅) (fun _ _=>False) s₅) (fun _ _=>False) s₄) (fun _ _=>False) s₃ else ∃ m,m < n∧I m s₃) (fun _ _=>False) s₃) (fun _ _=>False) s₂) (fun _ _=>False) s₁) (fun _ _=>False) s)
  (n:Nat) (h:I n s):codeAny (model prog w) A (.compLoop (.DictComp kx vx [⟨.Name x px,iter,ifs,0⟩] sc pos) 0 it (.ref D) env) R s:=by
 refine codeAny_loop rfl I (fun n s hI=>?_) n h
 show wpAny _ _ ((compTurn (.DictComp kx vx [⟨.Name x px,iter,ifs,0⟩] sc pos) 0 it (.ref D) env).onRaise (fun x=>do noteFrame x env;theTreesLotGoes x)) _ _ s
 refine wpAny_noted ?_
 rw [compTurn_dict]
 have no:∀ (e:Value) (s':Shared),False→notedBy (model prog w) A env (fun e s'=>R (.error e) s') e s':=fun _ _ z=>z.elim
 refine wpAny_bind (wpAny_standAt (wpAny_bind (wpAny_mono (turn n s hI) (fun r s₁ h₁=>?_) no)))
 cases r with
 | none=>exact wpAny_pure h₁
 | some v =>
  refine wpAny_bind (wpAny_mono h₁ (fun _ s₂ h₂=>?_) no)
  refine wpAny_bind (wpAny_mono h₂ (fun _ s₃ h₃=>wpAny_bind (wpAny_mono h₃ (fun ok s₃' h₃'=>?_) no)) no)
  cases ok with
  | false=>exact wpAny_pure ⟨rfl,h₃'⟩
  | true =>
   exact wpAny_bind (wpAny_bind (wpAny_mono h₃' (fun kv s₄ h₄=>wpAny_bind (wpAny_holding (wpAny_mono h₄ (fun vv s₅ h₅=>wpAny_bind (wpAny_standAt (wpAny_holding (wpAny_mono h₅ (fun _ s₆ h₆=>wpAny_pure ⟨rfl,h₆⟩) no)))) no))) no))
end
def OZ (wi:TI) (ks:List (Str × Nat)) (tc:TT) (tk te:TE):TE:=fun σ H Q=>wi σ H fun J H1=>∀ D,H1 D=none→∀ ep,∃ W:Nat→Nat→Hp→Prop,(∃ m,W 0 m (upd H1 D (.dE [] ep))) ∧
 ∀ i m H2,W i m H2→(J.stop i H2∧Q (.ref D) H2)∨(J.go i H2∧∀ v H3,J.yld i H2 v H3→tc (some v :: dk ks σ) H3 fun b H4=>if b=true then tk (some v :: dk ks σ) H4 fun y H5=>te (some v :: dk ks σ) H5 fun z H6=>∃ kvs ep k,y=.str k∧H6 D=some (.dE kvs ep)∧kvs.length < sizeLine∧∃ m',m' < m∧∀ ep',W (i + 1) m' (upd H6 D (.dE (L2.uN kvs k z) ep')) else ∃ m',m' < m∧W (i + 1) m' H4)
section
variable {X:Cx}
theorem B0 {kx vx iter:Expr} {ifs:List Expr} {x:Str} {px:Pos} {sc:Scope} {pos:Pos} {tk te:TE} {tc:TT} {ks:List (Str × Nat)} {cl:List (Str × Addr)} {pins:List (Addr × Obj)} {σ:L2.St} {H:Hp} {s:Shared} {it:Addr} {fp:List Addr} {tn:Nat→Heap→Prop} {J:It} {Q:VK}
  {RR:Value→Addr→Result→Shared→Prop} {E:Value→Shared→Prop}
  (hc:X.calm=true) (ok:cO sc X.env.scope X.N x ks) (h1:∀ y c,cl.lookup y=some c→X.env.cells.lookup y=some c) (h2:∀ y∈sc.names,y.2=.free→∃ c,cl.lookup y.1=some c)
  (hk:∀ cl C s₀ H₀ fp pins,PE (e_ X sc cl C x ks s₀ H₀ fp pins) kx tk) (he:∀ cl C s₀ H₀ fp pins,PE (e_ X sc cl C x ks s₀ H₀ fp pins) vx te) (hcn:∀ cl C s₀ H₀ fp pins,Kz (e_ X sc cl C x ks s₀ H₀ fp pins) ifs tc)
  (I:Inv X pins σ H s) (T:Turn X.prog X.w X.K (.Name x px) J fp it tn) (st:tn 0 s.heap) (f:∀ b∈fp,i4 X pins H b)
  (hw:∀ D,H D=none→∀ ep,∃ W:Nat→Nat→Hp→Prop,(∃ m,W 0 m (upd H D (.dE [] ep)))∧∀ i m H2,W i m H2→(J.stop i H2∧Q (.ref D) H2) ∨
   (J.go i H2∧∀ v H3,J.yld i H2 v H3→tc (some v :: dk ks σ) H3 fun b H4=>if b=true then tk (some v :: dk ks σ) H4 fun y H5=>te (some v :: dk ks σ) H5 fun z H6=>∃ kvs ep k,y=.str k∧H6 D=some (.dE kvs ep)∧kvs.length < sizeLine∧∃ m',m' < m∧∀ ep',W (i + 1) m' (upd H6 D (.dE (L2.uN kvs k z) ep')) else ∃ m',m' < m∧W (i + 1) m' H4))
  (hR:∀ (D C:Addr) (s':Shared) (H':Hp) (m:Str→Option Value),Inv X pins σ H' s'→Q (.ref D) H'→s'.heap.Ns C m→H' C=none→C≠X.env.locals→X.s₀.heap.objs.size≤C→(∀ y c,X.env.cells.lookup y=some c→c≠C)→(∀ p∈X.pn ++ pins,p.1≠C)→RR (.ref D) C (.ok .next) s') :
  wpAny (model X.prog X.w) X.A newDict (fun acc s₃=>wpAny (model X.prog X.w) X.A (newFunctionEnv sc X.env.globals cl [] X.env.qual none .none (some X.env)) (fun cenv s₄ =>
   codeAny (model X.prog X.w) X.A (.compStart (.DictComp kx vx [⟨.Name x px,iter,ifs,0⟩] sc pos) 0 (.ref it) acc { cenv with scope:=relabel sc X.env }) (RR acc cenv.locals) s₄) E s₃) E s:=by
 have okk:=ok
 obtain ⟨kd,nc,lx,ll,fr,kk,nd⟩:=okk
 have hD0:H s.heap.objs.size=none:=I.hok.fresh (Nat.le_refl _)
 have hdd:(s.heap.push { cls:=.type "dict",dict:=none,data:=.dict #[] }).DictOf (PySem.strKind X.prog X.w) s.heap.objs.size []:=Heap.DictOf.new s.heap
 obtain ⟨ep0,da⟩:=hdd.dictAt
 obtain ⟨W,⟨m0,w0⟩,turn⟩:=hw s.heap.objs.size hD0 ep0
 refine wpAny_newObj_type ?_
 have I3:Inv X pins σ (upd H s.heap.objs.size (.dE [] ep0)) { s with heap:=s.heap.push { cls:=.type "dict",dict:=none,data:=.dict #[] } } :=
  I.laid (t':=s.toks) (fun b u e=>Heap.get?_push_of_some _ e) (Nat.le_refl _) ⟨Nat.zero_le _,beq_eq_false_iff_ne.mpr (Ne.symm (Nat.ne_of_lt I.KS)),[],.nil,da⟩
 have st3:tn 0 (s.heap.push { cls:=.type "dict",dict:=none,data:=.dict #[] }):=T.keep 0 _ _ st fun b hb o e=>Heap.get?_push_of_some _ e
 clear da hdd
 generalize hD:s.heap.objs.size=D at *
 generalize hH:upd H D (.dE [] ep0)=H3 at *
 generalize hs3:({ s with heap:=s.heap.push { cls:=.type "dict",dict:=none,data:=.dict #[] } }:Shared)=s3 at *
 have e3:s.heap.push { cls:=.type "dict",dict:=none,data:=.dict #[] }=s3.heap:=by rw [← hs3]
 rw [e3] at st3
 have fD:∀ b∈fp,b≠D:=fun b hb z=>by
  obtain ⟨o,ho,_⟩:=T.obj 0 _ st b hb
  have:=Heap.lt_size ho
  rw [z,← hD] at this
  exact Nat.lt_irrefl _ this
 have f3:∀ b∈fp,i4 X pins H3 b:=fun b hb=>⟨by rw [← hH,aQ (fD b hb)];exact (f b hb).1,(f b hb).2⟩
 have g3:∀ b∈fp,∃ o,s3.heap.get? b=some o:=fun b hb=>by
  obtain ⟨o,ho,_⟩:=T.obj 0 _ st3 b hb
  exact ⟨o,ho⟩
 refine wpAny_newFunctionEnv nc (by intro y hy;simp at hy) (fun h₁ hns hsb=>?_) kd
 have kp:∀ b o,s3.heap.get? b=some o→h₁.get? b=some o:=fun b o e=>hsb.extBut b o (Nat.ne_of_lt (Heap.lt_size e)) (Heap.get?_push_of_some _ e)
 have J0:=qk (fp:=fp) (cl:=cl) (t':=s3.toks + ([]:List (Str × Value)).length) I3 ok h1 h2 (fun b hb=>⟨f3 b hb,g3 b hb⟩) hns kp
 have st4:tn 0 h₁:=T.keep 0 _ _ st3 fun b hb o e=>kp b o e
 have ltC:∀ b o,s3.heap.get? b=some o→b≠s3.heap.objs.size:=fun b o e=>Nat.ne_of_lt (Heap.lt_size e)
 have cC:∀ y c,X.env.cells.lookup y=some c→c≠s3.heap.objs.size:=fun y c e=>by
  obtain ⟨v,o,ho,_⟩:=I3.cell y c e
  exact ltC c o ho
 have pC:∀ p∈X.pn ++ pins,p.1≠s3.heap.objs.size:=fun p hp=>ltC _ _ (I3.pin p hp).1
 have lC:s3.heap.objs.size≠X.env.locals:=Nat.ne_of_gt I3.lt
 have fX:∀ {H':Hp},(∀ b∈fp,H' b=none)→∀ b∈fp,i4 (e_ X sc cl s3.heap.objs.size x ks s3 H3 fp pins) [] H' b:=fun hn b hb=>by
  obtain ⟨o,ho⟩:=g3 b hb
  obtain ⟨_,q1,q2,q3,q4,q5⟩:=f b hb
  refine ⟨hn b hb,ltC b o ho,fun z=>?_,.inl hb,fun y c e=>q4 y c (h1 y c e),fun p hp=>q5 p (by simpa [e_] using hp)⟩
  rcases List.mem_cons.mp (I3.l3 b z) with e | e
  ·exact q1 e
  ·exact q2 e
 have back:∀ {o:Option V} {H':Hp} {s':Shared},Inv (e_ X sc cl s3.heap.objs.size x ks s3 H3 fp pins) [] (o :: dk ks σ) H' s'→Inv X pins σ H' s':=fun {o H' s'} J=>by
  obtain ⟨hh,g,d,t,os'⟩:=s'
  obtain rfl:os'=s3.os:=J.os
  exact I3.call (h':=hh) (g':=g) (d':=d) (t':=t) (ch:=fp) J.base J.hok J.bare fun b hb=>⟨(f b hb).2.2.2.1,(f b hb).2.1,(f b hb).2.2.2.2.1,(f b hb).2.2.2.2.2⟩
 have lookX:(relabel sc X.env).names.lookup x=some .local:=lookup_relabel_local lx
 have loop:∀ s',(∃ (i:Nat) (o:Option V) (H':Hp),Inv (e_ X sc cl s3.heap.objs.size x ks s3 H3 fp pins) [] (o :: dk ks σ) H' s'∧tn i s'.heap∧(∀ b∈fp,H' b=none)∧W i m0 H') →
   codeAny (model X.prog X.w) X.A (.compLoop (.DictComp kx vx [⟨.Name x px,iter,ifs,0⟩] sc pos) 0 (.ref it) (.ref D) (compEnvC sc cl s3.heap.objs.size X.env)) (RR (.ref D) s3.heap.objs.size) s':=by
  intro s' hs'
  refine yz (fun n s'=>∃ (i:Nat) (o:Option V) (H':Hp),Inv (e_ X sc cl s3.heap.objs.size x ks s3 H3 fp pins) [] (o :: dk ks σ) H' s'∧tn i s'.heap∧(∀ b∈fp,H' b=none)∧W i n H') ?_ m0 hs'
  rintro n s5 ⟨i,o,H5,J5,t5,n5,w5⟩
  rcases turn i n H5 w5 with ⟨stop,hq⟩ | ⟨go,step⟩
  ·refine b7 (T.done (e_ X sc cl s3.heap.objs.size x ks s3 H3 fp pins) rfl rfl rfl hc i [] s5 _ H5 _ J5 (fX n5) t5 stop) fun r s6 ⟨hr,J6⟩=>?_
   subst hr
   obtain ⟨m,hm,_⟩:=J6.loc
   exact hR D _ s6 H5 m (back J6) hq hm J6.free lC I3.sz cC pC
  ·refine b7 (T.item (e_ X sc cl s3.heap.objs.size x ks s3 H3 fp pins) rfl rfl rfl hc i [] s5 _ H5 _ J5 (fX n5) t5 go) fun r s6 ⟨u,hr,h6⟩=>?_
   subst hr
   refine b7 h6 fun _ s7 ⟨v,H7,J7,r7,y7,t7,n7⟩=>?_
   have J7':=J7.pinned (fX n7) (T.obj _ _ t7)
   refine wpAny_assign_Name (fC (X:=e_ X sc cl s3.heap.objs.size x ks s3 H3 fp pins) (i:=0) J7' nd rfl (.inl lookX) r7 (fun s8 J8=>?_) (.inr lookX))
   refine b7 (hcn cl s3.heap.objs.size s3 H3 fp pins _ s8 _ H7 _ J8 (step v H7 y7)) fun ok s8' ⟨H8,J8',q8⟩=>?_
   cases ok with
   | false =>
    simp only [Bool.false_eq_true,if_false] at q8 ⊢
    obtain ⟨m',hm,w'⟩:=q8
    refine ⟨m',hm,i + 1,_,_,J8'.fE,?_,?_,w'⟩
    ·exact T.keep _ _ _ t7 fun b hb o e=>(J8'.pin (b,o) (List.mem_append_right _ (List.mem_append_right _ (bZ hb e)))).1
    ·intro b hb
     obtain ⟨o,e,d⟩:=T.obj _ _ t7 b hb
     exact (J8'.pin (b,o) (List.mem_append_right _ (List.mem_append_right _ (bZ hb e)))).2.1
   | true =>
    simp only [if_true] at q8 ⊢
    refine b7 (hk cl s3.heap.objs.size s3 H3 fp pins _ s8' _ H8 _ J8' q8) fun ky s8'' ⟨vk,H8',J8'',rk,q8'⟩=>?_
    refine b7 (he cl s3.heap.objs.size s3 H3 fp pins _ s8'' _ H8' _ J8'' q8') fun y s9 ⟨vy,H9,J9,r9,kvs,ep,k,ek,hys,hz,m',hm,w'⟩=>?_
    subst ek
    obtain ⟨hz',hd',vs,rel,da⟩:=ly J9 hys
    refine wpAny_dictSet_pairs (hsz:=by rw [← rel.len];exact hz') (str_is rk) da.dictOf fun h' dd' hsb=>?_
    obtain ⟨ep',J10⟩:=p7 (t':=s9.toks + 1) J9 hys hsb (show (L2.uN kvs k vy).length≤sizeLine from Nat.le_trans (Am kvs k vy) hz) hd' (rel.pu r9) dd'
    refine ⟨m',hm,i + 1,_,_,J10.fE,?_,?_,w' ep'⟩
    ·exact T.keep _ _ _ t7 fun b hb o e=>(J10.pin (b,o) (List.mem_append_right _ (List.mem_append_right _ (bZ hb e)))).1
    ·intro b hb
     obtain ⟨o,e,d⟩:=T.obj _ _ t7 b hb
     exact (J10.pin (b,o) (List.mem_append_right _ (List.mem_append_right _ (bZ hb e)))).2.1
 have l0:=loop _ ⟨0,none,H3,J0,st4,fun b hb=>(f3 b hb).1,w0⟩
 exact codeAny_compStart_dict l0 (T.self _ 0 _ _ _ st4 l0)
theorem LF {kx vx iter:Expr} {ifs:List Expr} {x:Str} {px:Pos} {sc:Scope} {pos:Pos} {wi:TI} {tk te:TE} {tc:TT} (osc:Scope) (N:List Str) (ks:List (Str × Nat)) (hc:X.calm=true) (ho:X.env.scope=osc) (hN:X.N=N) (hi:PI X (.Name x px) iter wi)
  (hk:∀ cl C s₀ H₀ fp pins,PE (e_ X sc cl C x ks s₀ H₀ fp pins) kx tk) (he:∀ cl C s₀ H₀ fp pins,PE (e_ X sc cl C x ks s₀ H₀ fp pins) vx te) (hcn:∀ cl C s₀ H₀ fp pins,Kz (e_ X sc cl C x ks s₀ H₀ fp pins) ifs tc) (ok:cO sc osc N x ks:=by decide +kernel) (hs:∀ x,foldedSetIterable iter X.env x=pure x:=by intro _;rfl) :
  PE X (.DictComp kx vx [⟨.Name x px,iter,ifs,0⟩] sc pos) (OZ wi ks tc tk te):=by
 intro pins s σ H Q I hw
 obtain ⟨cl,hcl,h1,h2⟩:=jg (mE ok I ho)
 have ok':cO sc X.env.scope X.N x ks:=by rw [ho,hN];exact ok
 rw [arm_eval_DictComp]
 refine wpAny_comprehension_free (use:=none) rfl hs hcl ok.1 ok.2.2.2.1 (b7 (hi pins s σ H _ I hw) fun v s1 h3=>b7 h3 fun itv s2 h4=>?_)
 obtain ⟨it,fp,tn,J,H2,rfl,I2,T,st2,f2,hR⟩:=h4
 refine B0 (RR:=fun acc C=>compPost (model X.prog X.w) X.A X.xe none (EP X pins σ Q) acc C) hc ok' h1 h2 hk he hcn I2 T st2 f2 hR ?_
 intro D C s' H' m J' q hn hC cl' cs cc cp
 refine ⟨m,hn,fun h' hsb=>⟨.ref D,H',?_,rfl,q⟩⟩
 exact J'.turned (t':=s'.toks) (it:=C) (fun b o ne e=>hsb.extBut b o ne e) hC cl' (.inr cs) cc cp
end
end Ov
namespace Ov
open PySem PySem.Spec PyProof.Rows
open L2 (V HO Hp Inv Cx VK XK TE TT TA TS TG pX TI TO k9 Ends vS Loc Gl Rd RelV Vals fF xO cx pQ sG pT k8 R2 upd aJ aQ c7 gM Sp rj It bG du bX Passes oV aF Meth Mk Binds aO cm aw c_ gK fg lp uN CS oW)
section
variable {K:PySem.W.Frag} {J:Hq} {H:Hp}
theorem eO:∀ {kvs:List (Str × PV)} {gs:List (Str × V)},lI K J H kvs gs→oW (cq K J H) kvs gs
 | [],[],_=>.nil
 | [],_ :: _,h=>by cases h.1
 | _ :: _,[],h=>by cases h.1
 | (k,y) :: fs,(k',w) :: gs,h=>by
  obtain ⟨h1,v',us,h2,h3,h4⟩:=h
  simp only [List.map_cons,List.cons.injEq] at h1 h2
  obtain ⟨rfl,h1⟩:=h1
  obtain ⟨rfl,rfl⟩:=h2
  exact .cons ⟨rfl,h3⟩ (eO ⟨h1,h4⟩)
theorem w9:∀ {kvs:List (Str × PV)} {gs:List (Str × V)},oW (cq K J H) kvs gs→lI K J H kvs gs
 | _,_,.nil=>⟨rfl,rfl⟩
 | _,_,.cons (a:=p) (b:=q) r t=>by
  obtain ⟨h1,h2⟩:=w9 t
  exact ⟨by rw [List.map_cons,List.map_cons,h1,r.1],q.2,_,rfl,r.2,h2⟩
theorem Ext.kA {p:Addr} {kvs kvs':List (Str × PV)} {gs gs':List (Str × V)} {ep ep':Nat} (h:J p=some (.dct kvs ep)) (k:H p=some (.dE gs ep)):Ext K J H (put J p (.dct kvs' ep')) (upd H p (.dE gs' ep')):=by
 have sm:∀ a u,a≠p→Rd H a u→Rd (upd H p (.dE gs' ep')) a u:=fun a u ne z=>by
  rcases z with z | ⟨o,z⟩
  ·exact .inl (by rw [aQ ne];exact z)
  ·exact .inr ⟨o,by rw [aQ ne];exact z⟩
 refine ⟨fun a vs' z=>?_,fun a o z q _=>?_⟩
 ·rcases z with z | z
  ·have ne:a≠p:=by
    intro e;subst e
    rcases z with z | ⟨o,z⟩
    ·rw [k] at z;cases z
    ·rw [k] at z;cases z
   exact .inl (sm a _ ne z)
  ·exact .inr z
 ·have ne:a≠p:=by intro e;subst e;rw [h] at z;cases z
  exact ⟨by rw [au ne];exact z,by rw [aQ ne];exact q⟩
theorem Rep.kA {p:Addr} {kvs kvs':List (Str × PV)} {gs gs':List (Str × V)} {ep ep':Nat} (r:Rep K J H) (h:J p=some (.dct kvs ep)) (k:H p=some (.dE gs ep)) (q:oW (cq K J H) kvs' gs'):Rep K (put J p (.dct kvs' ep')) (upd H p (.dE gs' ep')):=by
 have e:=Ext.kA (K:=K) (kvs':=kvs') (gs':=gs') (ep':=ep') h k
 refine r.B' e p (fun a ne=>au ne) (fun a o ne _ z=>by rw [aQ ne];exact z) fun u z=>?_
 rw [av] at z;cases z
 exact ⟨gs',aJ,e.xi (w9 q)⟩
theorem Rep.Hi {p:Addr} {ep:Nat} (r:Rep K J H) (n:H p=none):Rep K (put J p (.dct [] ep)) (upd H p (.dE [] ep)):=by
 have e:=Ext.laid (K:=K) (J:=J) (o:=.dE [] ep) (u:=.dct [] ep) n
 refine r.B' e p (fun a ne=>au ne) (fun a o ne _ z=>by rw [aQ ne];exact z) fun u z=>?_
 rw [av] at z;cases z
 exact ⟨[],aJ,⟨rfl,rfl⟩⟩
end
def LP:me:=fun x y J Q=>∃ a kvs ep k v,x=.ref a∧y=.str k∧J a=some (.dct kvs ep)∧lp kvs k=some v∧Q v J
def Gs (f:Bool→Bool):me:=fun x y J Q=>∃ a kvs ep k,x=.str k∧y=.ref a∧J a=some (.dct kvs ep)∧Q (.bl (f (lp kvs k).isSome)) J
def LQ:zA:=fun xs J Q=>∃ a kvs ep,xs=[.ref a]∧J a=some (.dct kvs ep)∧Q (.int kvs.length) J
def Ec:zA:=fun xs J Q=>∃ a kvs ep,xs=[.ref a]∧J a=some (.dct kvs ep)∧Q (.fl (kvs.map fun kv=>.str kv.1)) J
def HH:Ce:=fun x xs J Q=>∃ a kvs ep k v,x=.ref a∧xs=[.str k]∧J a=some (.dct kvs ep)∧lp kvs k=some v∧∀ ep',Q v (put J a (.dct (CS kvs k) ep'))
def HI:Bg:=fun o i y J R=>∃ a kvs ep k,o=.ref a∧i=.str k∧J a=some (.dct kvs ep)∧kvs.length < sizeLine∧∀ ep',R (put J a (.dct (uN kvs k y) ep'))
def HM:di:=fun _ J Q=>∀ p,J p=none→∀ ep,Q (.ref p) (put J p (.dct [] ep))
def OD (te:di):rK:=fun τ J R=>te τ J fun x J1=>∃ a kvs ep,x=.ref a∧J1 a=some (.dct kvs ep)∧R ⟨kvs.map fun kv=>.str kv.1,fun J'=>J' a=some (.dct kvs ep)⟩ J1
section
variable {X:Cx} {G:G2}
theorem cQ:M7 X LP:=⟨_,L2.K8,fun J H x y v w Q2 Q rx ry r ⟨a,kvs,ep,k,z,ex,ey,ja,hz,q⟩ kn=>by
 subst ex ey
 cases rx;cases ry
 obtain ⟨gs,h1,h2⟩:=r _ _ ja
 obtain ⟨u,hu,ru⟩:=((eO h2).va k).1 z hz
 exact ⟨a,gs,ep,k,u,rfl,rfl,h1,hu,kn z J u H ru r .refl q⟩⟩
theorem Dv (f:Bool→Bool):LR X.K (L2.JI f) (Gs f):=fun J H x y v w Q2 Q rx ry r ⟨a,kvs,ep,k,ex,ey,ja,q⟩ kn=>by
 subst ex ey
 cases rx;cases ry
 obtain ⟨gs,h1,h2⟩:=r _ _ ja
 exact ⟨a,gs,ep,k,rfl,rfl,h1,by rw [← ((eO h2).va k).2];exact kn (.bl _) J _ H rfl r .refl q⟩
theorem Jt:md X (compareOp .In) (Gs id):=⟨_,L2.Jq,Dv id⟩
theorem F8:md X (compareOp .NotIn) (Gs not):=⟨_,L2.BS,Dv not⟩
theorem n9 {K:PySem.W.Frag} {J:Hq} {H:Hp}:∀ {ks:List Str},aS K J H (ks.map PV.str) (ks.map V.str)
 | []=>rfl
 | k :: ks=>⟨_,_,rfl,rfl,n9 (ks:=ks)⟩
theorem v3 (hc:X.calm=true):Ig X (.type "list") Ec:=⟨_,L2.vX hc,fun J H xs vs Q2 Q rs r ⟨a,kvs,ep,ex,ja,q⟩ k=>by
 subst ex;obtain ⟨v,us,rfl,rv,e⟩:=rs;cases e;cases rv
 obtain ⟨gs,h1,h2⟩:=r _ _ ja
 refine ⟨a,gs,ep,rfl,h1,fun p hp=>?_⟩
 have hk:aS X.K J H (kvs.map fun kv=>PV.str kv.1) (gs.map fun kv=>V.str kv.1):=by
  have:=(eO h2).keys
  rw [show (kvs.map fun kv=>PV.str kv.1)=(kvs.map (·.1)).map PV.str by rw [List.map_map];rfl,show (gs.map fun kv=>V.str kv.1)=(gs.map (·.1)).map V.str by rw [List.map_map];rfl,this]
  exact n9
 obtain ⟨x1,x2,x3⟩:=yH r hk hp
 exact k _ J _ _ x1 x2 x3 q⟩
theorem FR:G8 X "dict" "dict.pop" HH:=⟨_,L2.FU,fun J H x xs v vs Q2 Q rx rs r ⟨a,kvs,ep,k,z,ex,exs,ja,hz,q⟩ kn=>by
 subst ex exs;cases rx
 obtain ⟨u,us,rfl,ru,e⟩:=rs;cases e;cases ru
 obtain ⟨gs,h1,h2⟩:=r _ _ ja
 have pk:=eO h2
 obtain ⟨y,hy,ry⟩:=(pk.va k).1 z hz
 refine ⟨a,gs,ep,k,y,rfl,rfl,h1,hy,fun ep'=>?_⟩
 have e2:=Ext.kA (K:=X.K) (kvs':=CS kvs k) (gs':=CS gs k) (ep':=ep') ja h1
 exact kn z _ y _ (e2.rep ry) (r.kA ja h1 (pk.dr k)) e2 (q ep')⟩
theorem pE:Na X HI:=⟨_,L2.JV,fun J H o i y ov iv u R2 R ro ri ry r ⟨a,kvs,ep,k,eo,ei,ja,hl,q⟩ kk=>by
 subst eo ei;cases ro;cases ri
 obtain ⟨gs,h1,h2⟩:=r _ _ ja
 have pk:=eO h2
 refine ⟨a,gs,ep,k,rfl,rfl,h1,by rw [← pk.len];exact hl,fun ep'=>?_⟩
 exact kk _ _ (r.kA ja h1 (pk.pu ry)) (Ext.kA (K:=X.K) ja h1) (q ep')⟩
theorem Aw {pos:Pos}:RE X G (.Dict [] [] pos) HM:=⟨lh L2.Gf fun σ H Q ⟨τ,J,Q2,a2,q,k⟩ p hp ep=>k (.ref p) _ _ _ rfl (a2.hp.Hi hp) (.laid hp) (q p (a2.hp.free hp) ep)⟩
theorem pd {tg l:Expr} {tl:di} (hl:RE X G l tl):RI X G tg l (OD tl):=⟨Kr (L2.Gg hl.run) fun σ H R ⟨τ,J,R2,a2,h,k⟩=>⟨τ,J,_,a2,h,fun x J1 v H1 rx r1 e1 ⟨a,kvs,ep,ex,ja,q⟩=>by
 subst ex;cases rx
 obtain ⟨gs,h1,h2⟩:=r1 _ _ ja
 have pk:=eO h2
 have hl':=pk.len
 refine ⟨a,gs,ep,rfl,h1,k _ J1 _ H1 ?_ r1 e1 q⟩
 have hks:=pk.keys
 have key:∀ J' H',Rep X.K J' H'→J' a=some (.dct kvs ep)→∃ gs',H' a=some (.dE gs' ep)∧gs'.map (·.1)=gs.map (·.1):=fun J' H' r o=>by
  obtain ⟨gs',h1',h2'⟩:=r _ _ o
  exact ⟨gs',h1',by rw [← (eO h2').keys,hks]⟩
 exact {
  go:=fun J' H' e r o i hi=>⟨key J' H' r o,by rw [List.length_map] at hi ⊢;omega⟩
  yl:=fun J' H' e r o i hi v H2 y=>by
   obtain ⟨rfl,k,hk,rfl⟩:=y
   rw [← hks,List.getElem?_map] at hk
   obtain ⟨kv,hkv,rfl⟩:=Option.map_eq_some_iff.mp hk
   exact ⟨.str kv.1,by rw [List.getElem?_map,hkv];rfl,rfl,r,.refl⟩
  stop:=fun J' H' e r o=>⟨key J' H' r o,by rw [List.length_map,List.length_map];omega⟩ }⟩⟩
def N1 (wi:rK) (ks:List (Str × Nat)) (tc:lK) (tk te:di):di:=fun τ J Q=>wi τ J fun it J1=>∀ D,J1 D=none→∀ ep,∃ W:Nat→Hq→Prop,W 0 (put J1 D (.dct [] ep))∧(∀ i J2,W i J2→it.ok J2) ∧
 (∀ i x J2,it.xs[i]?=some x→W i J2→tc (some x :: oh ks τ) J2 fun b J3=>if b=true then tk (some x :: oh ks τ) J3 fun y J4=>te (some x :: oh ks τ) J4 fun z J5 =>
  ∃ kvs ep k,y=.str k∧J5 D=some (.dct kvs ep)∧kvs.length < sizeLine∧∀ ep',W (i + 1) (put J5 D (.dct (uN kvs k z) ep')) else W (i + 1) J3)∧∀ J2,W it.xs.length J2→Q (.ref D) J2
theorem Fs {wi:rK} {ks:List (Str × Nat)} {tc:lK} {tk te:di}:∀ σ H Q,LE X.K G (N1 wi ks tc tk te) σ H Q→OZ (LI X.K G wi) ks (LT X.K G tc) (LE X.K G tk) (LE X.K G te) σ H Q:=fun σ H Q ⟨τ,J,Q2,a2,h,k⟩ =>
 ⟨τ,J,_,a2,h,fun it J1 I H1 ir r1 e1 w D hD ep=>by
  obtain ⟨W,w0,wok,step,fin⟩:=w D (r1.free hD) ep
  refine ⟨fun i m H2=>m=it.xs.length - i∧i≤it.xs.length∧∃ J2,Rep X.K J2 H2∧Ext X.K J1 H1 J2 H2∧W i J2,⟨_,rfl,Nat.zero_le _,_,r1.Hi hD,.laid hD,w0⟩,?_⟩
  rintro i m H2 ⟨rfl,hi,J2,r2,e2,w2⟩
  by_cases hlt:i < it.xs.length
  ·refine .inr ⟨ir.go J2 H2 e2 r2 (wok i J2 w2) i hlt,fun v H3 y=>?_⟩
   obtain ⟨x,ex,rx,r3,e3⟩:=ir.yl J2 H2 e2 r2 (wok i J2 w2) i hlt v H3 y
   have a3:vK X.K G (some x :: oh ks τ) J2 (some v :: dk ks σ) H3:=⟨AA (a2.sl.ext ((e1.trans e2).trans e3)) rx ks,r3,((a2.ext.trans e1).trans e2).trans e3⟩
   refine ⟨_,_,_,a3,step i x J2 ex w2,fun b J4 H4 r4 e4 q=>?_⟩
   cases b with
   | false =>
    simp only [Bool.false_eq_true,if_false] at q ⊢
    exact ⟨_,by omega,rfl,hlt,J4,r4,(e2.trans e3).trans e4,q⟩
   | true =>
    simp only [if_true] at q ⊢
    refine ⟨_,_,_,a3.go r4 e4,q,fun yk J5 u H5 rk r5 e5 q5=>?_⟩
    refine ⟨_,_,_,(a3.go r4 e4).go r5 e5,q5,fun z J6 vz H6 rz r6 e6 ⟨kvs,ep2,kk,ek,jD,hl,q6⟩=>?_⟩
    subst ek
    cases rk
    obtain ⟨gs,h1,h2⟩:=r6 _ _ jD
    have pk:=eO h2
    refine ⟨gs,ep2,kk,rfl,h1,by rw [← pk.len];exact hl,it.xs.length - (i + 1),by omega,fun ep'=>⟨rfl,hlt,_,r6.kA jD h1 (pk.pu rz),?_,q6 ep'⟩⟩
    exact ((((e2.trans e3).trans e4).trans e5).trans e6).trans (Ext.kA (K:=X.K) jD h1)
  ·have ei:i=it.xs.length:=by omega
   subst ei
   exact .inl ⟨ir.stop J2 H2 e2 r2 (wok _ J2 w2),k (.ref D) J2 _ H2 rfl r2 (e1.trans e2) (fin J2 w2)⟩⟩
theorem NU {X:Cx} {ifs:List Expr} {t t':TT} (h:Kz X ifs t) (k:∀ σ H Q,t' σ H Q→t σ H Q):Kz X ifs t':=fun pins s σ H Q I q=>h pins s σ H Q I (k _ _ _ q)
variable {kx vx iter cnd:Expr} {x y:Str} {px py:Pos} {sc:Scope} {pos spos:Pos} {wi:rK} {tk te:di} {tc:lK} {i:Nat}
theorem Mm (osc:Scope) (N:List Str) (ks:List (Str × Nat)) (hc:X.calm=true) (ho:X.env.scope=osc) (hN:X.N=N) (hi:RI X G (.Name x px) iter wi) (hk:∀ cl C s₀ H₀ fp pins,RE (e_ X sc cl C x ks s₀ H₀ fp pins) G kx tk) (he:∀ cl C s₀ H₀ fp pins,RE (e_ X sc cl C x ks s₀ H₀ fp pins) G vx te)
  (ok:cO sc osc N x ks:=by decide +kernel) (hs:∀ x,foldedSetIterable iter X.env x=pure x:=by intro _;rfl):RE X G (.DictComp kx vx [⟨.Name x px,iter,[],0⟩] sc pos) (N1 wi ks xg tk te) :=
 ⟨lh (LF osc N ks hc ho hN hi.run (fun cl C s₀ H₀ fp pins=>(hk cl C s₀ H₀ fp pins).run) (fun cl C s₀ H₀ fp pins=>(he cl C s₀ H₀ fp pins).run) (fun cl C s₀ H₀ fp pins=>NU Gp fun σ H Q ⟨τ,J,Q2,a2,q,k⟩=>k true J H a2.hp .refl q) ok hs) Fs⟩
end
def zf (tabs:List Addr):cH:=fun xs J Q _=>∃ ns:List Int,xs=[.fl (ns.map .int)]∧ns.length≤63∧(∀ T∈tabs,J T=some .tab)∧(∀ a,a ∉ tabs→J a=none)∧∀ J',(∀ T∈tabs,J' T=some .tab)→Q (.bl true) J'
def EA (tabs:List Addr) (K:PySem.W.Frag):Sp:=fun vs H Q _=>∃ (a:Addr) (ns:List Int),vs=[.ref a]∧c7 K H a (ns.map V.int)∧ns.length≤63∧(∀ T∈tabs,H T=some (.ext (eE T))) ∧
 (∀ b,H b≠none→b=a∨b∈tabs)∧(∀ u,H a=some u→∃ o xs,u=.oJ o (.lst xs))∧∀ H',bG H H'→Q (.bl true) H'
theorem Bv {P:Program} {w:World} {K:PySem.W.Frag} {mg:Str→Option Value} {base:Heap} {k:Nat} {f:Addr} {fd:FuncData} {ps:List Str} {tabs:List Addr} (F:aO P w K mg base (c5 P w) k f fd ps (dI K (zf tabs))) :
  aO P w K mg base L2.pK k f fd ps (EA tabs K) :=
 F.ML.imp fun vs H Q E ⟨a,ns,e,hS,hl,hT,hA,hK,q⟩=>by
  subst e
  classical
  have na:∀ u,H a=some u→a ∉ tabs:=fun u hu hm=>by
   obtain ⟨o,xs,rfl⟩:=hK u hu
   rw [hT a hm] at hu;cases hu
  refine ⟨[.fl (ns.map .int)],fun b=>if b∈tabs then some .tab else none,fun x J'=>x=.bl true∧∀ T∈tabs,J' T=some .tab,fun _ _=>False,⟨.ref a,[],rfl,⟨a,ns.map V.int,rfl,?_,n8 ns⟩,rfl⟩,?_,⟨ns,rfl,hl,fun T hT=>if_pos hT,fun b hb=>if_neg hb,fun J' h=>⟨rfl,h⟩⟩,?_,?_⟩
  ·rcases hS with h | h
   ·refine .inl ⟨?_,h⟩
    have:a ∉ tabs:=by
     rcases h with h | ⟨o,h⟩
     ·exact na _ h
     ·exact na _ h
    exact if_neg this
   ·exact .inr h
  ·intro b o z
   by_cases hb:b∈tabs
   ·have z':=(if_pos hb).symm.trans z
    cases z'
    exact hT b hb
   ·have z':=(if_neg hb).symm.trans z
    cases z'
  ·rintro z J' u H' rz rr ee ⟨rfl,ht⟩
   cases rz
   refine q H' fun b o hb=>?_
   rcases hA b (by rw [hb];simp) with rfl | hm
   ·obtain ⟨ob,xs,rfl⟩:=hK o hb
    exact (ee.ll b _ (if_neg (na _ hb)) hb (.inr ⟨_,_,rfl⟩)).2
   ·have:=hT b hm
    rw [hb] at this;cases this
    exact rr b _ (ht b hm)
  ·intro _ _ _ _ _ z;exact z.elim
end Ov
namespace L2
open PySem PySem.Spec PyProof.Rows
def Nq (k:Str):Value→Bool
 | .str y _=>y.cps.toList == k.cps.toList
 | _=>false
theorem Cb {ss:List Str} {us:List Value} (r:Vals (ss.map V.str) us):us.length=ss.length∧∀ (j:Nat) (u:Value),us[j]?=some u→∃ y t,ss[j]?=some y∧u=.str y t:=by
 induction ss generalizing us with
 | nil=>cases r;exact ⟨rfl,fun j u e=>by simp at e⟩
 | cons y ss ih =>
  rw [List.map_cons] at r
  cases r with
  | cons ru rr =>
   obtain ⟨t,rfl⟩:=ru
   obtain ⟨h1,h2⟩:=ih rr
   refine ⟨by simp [h1],fun j u e=>?_⟩
   cases j with
   | zero=>cases e;exact ⟨y,t,rfl,rfl⟩
   | succ j=>exact h2 j u (by simpa using e)
theorem sU {α β:Type} (f:α→β):∀ (l:List α) (j:Nat),(l.eraseIdx j).map f=(l.map f).eraseIdx j
 | [],_=>rfl
 | _ :: _,0=>rfl
 | x :: l,j + 1=>by simp only [List.eraseIdx_cons_succ,List.map_cons,sU f l j]
section
variable {X:Cx}
def Ef:V→List V→Hp→VK→Prop:=fun x vs H Q=>∃ (l:Addr) (ss:List Str) (k:Str) (j:Nat),x=.ref l∧vs=[.str k]∧H l=some (.lst (ss.map V.str))∧ss[j]?=some k∧(∀ m:Nat,m < j→ss[m]?≠some k)∧Q .non (upd H l (.lst ((ss.eraseIdx j).map V.str)))
theorem yG:pT X "list.remove" Ef:=by
 intro pins s σ H x vs v us Q I rx rv h
 obtain ⟨l,ss,k,j,rfl,rfl,hH,hj,hno,q⟩:=h
 cases rx
 obtain ⟨u,rfl,ru⟩:=rv.one
 obtain ⟨t,rfl⟩:=ru
 obtain ⟨z,its,n,r,hl,e⟩:=I.Dy hH
 obtain ⟨h1,h2⟩:=Cb r
 obtain ⟨hjl,hje⟩:=List.getElem?_eq_some_iff.mp hj
 have hz:ss.length≤sizeLine:=by simpa using z
 have at_:∀ (m:Nat) (hm:m < its.toArray.size),Nq k its.toArray[m]=decide (ss[m]?=some k):=fun m hm=>by
  obtain ⟨y,t',hy,hu⟩:=h2 m its[m] (List.getElem?_eq_getElem (by simpa using hm))
  show Nq k its[m]=_
  rw [hu,hy]
  show (y.cps.toList == k.cps.toList)=_
  by_cases hk:y=k
  ·subst hk;simp
  ·have:(y.cps.toList == k.cps.toList)=false:=by
    rw [beq_eq_false_iff_ne]
    intro z
    exact hk (by cases y;cases k;simp at z;rw [z])
   rw [this];symm;exact decide_eq_false fun z=>hk (Option.some.inj z)
 refine call_meets PySem.F.slot_list_remove ⟨_,e,rfl⟩ PySem.F.entry_list_remove (PySem.F.args_list_remove_2 _ _)
  (MeetsSeq.list_remove l its.toArray n (.str k t) (Nq k) (fun y hy=>?_) j (by simpa using (show j < its.length by omega)) ?_ (fun m hm hlt=>?_) (by rw [List.size_toArray];omega)) ⟨e,?_⟩
 ·obtain ⟨m,hm⟩:=List.mem_iff_getElem?.mp (show y∈its by simpa using hy)
  obtain ⟨y',t',_,rfl⟩:=h2 m y hm
  exact SeqRoads2.EqGives.str _ _ _ _
 ·rw [at_];exact decide_eq_true hj
 ·rw [at_];exact decide_eq_false (hno m hlt)
 ·refine ⟨.non,_,I.Dx (its':=its.eraseIdx j) hH e (by rw [List.eraseIdxIfInBounds_toArray]) ?_ ?_,rfl,q⟩
  ·rw [sU];exact r.eraseIdx j
  ·rw [List.length_map];exact Nat.le_trans (List.length_eraseIdx_le _ _) hz
end
end L2
namespace Ov
open PySem PySem.Spec PyProof.Rows
open L2 (V HO Hp Inv Cx VK XK TE TT TA TS TG pX TI TO k9 Ends vS Loc Gl Rd RelV Vals fF xO cx pQ sG pT k8 R2 upd aJ aQ c7 gM Sp rj It bG du bX Passes oV aF Meth Mk Binds aO cm aw c_ gK fg)
section
variable {X:Cx} {G:G2}
def JE:Ce:=fun x xs J Q=>∃ (a:Addr) (ss:List Str) (k:Str) (j:Nat),x=.ref a∧xs=[.str k]∧J a=some (.lst (ss.map .str))∧ss[j]?=some k∧(∀ m:Nat,m < j→ss[m]?≠some k)∧Q (.int (j:Nat)) J
def Ar:Ce:=fun x xs J Q=>∃ (a:Addr) (ss:List Str) (k:Str) (j:Nat),x=.ref a∧xs=[.str k]∧J a=some (.lst (ss.map .str))∧ss[j]?=some k∧(∀ m:Nat,m < j→ss[m]?≠some k)∧Q .non (put J a (.lst ((ss.eraseIdx j).map .str)))
theorem BD:G8 X "list" "list.remove" Ar:=⟨_,L2.yG,fun J H x xs v vs Q2 Q rx rs r ⟨a,ss,k,j,ex,exs,ja,hj,hno,q⟩ kn=>by
 subst ex exs;cases rx
 obtain ⟨w,us,rfl,rw',e⟩:=rs;cases e;cases rw'
 obtain ⟨ws,h1,h2⟩:=r _ _ ja
 cases jx h2
 exact ⟨a,ss,k,j,rfl,rfl,h1,hj,hno,kn .non _ _ _ rfl (r.wrote (ys:=(ss.eraseIdx j).map .str) ja h1 n9) (.wrote ja h1) q⟩⟩
variable {a b c:Expr} {ta tb tc:di} {pos:Pos}
def uT (q q':me) (ta tb tc:di):di:=fun τ J Q=>ta τ J fun x J1=>tb τ J1 fun y J2=>q x y J2 fun z J3=>∃ k,z=.bl k∧(if k=true then tc τ J3 fun w J4=>q' y w J4 Q else Q (.bl false) J3)
theorem yi {r r':R2} {q q':me} (lr:LR X.K r q) (lr':LR X.K r' q'):∀ σ H Q,LE X.K G (uT q q' ta tb tc) σ H Q→L2.EN r r' (LE X.K G ta) (LE X.K G tb) (LE X.K G tc) σ H Q:=fun σ H Q ⟨τ,J,Q2,a2,hh,k⟩=>⟨τ,J,_,a2,hh,fun x J1 v H1 rx r1 e1 q1=>⟨τ,J1,_,a2.go r1 e1,q1,fun y J2 w H2 ry r2 e2 q2 =>
  lr J2 H2 x y v w _ _ (e2.rep rx) ry r2 q2 fun z J3 u H3 rz r3 e3 ⟨kk,ez,q3⟩=>by
   subst ez;cases rz
   refine ⟨kk,rfl,?_⟩
   cases kk with
   | false=>simp only [Bool.false_eq_true,if_false] at q3 ⊢;exact k (.bl false) J3 _ H3 rfl r3 ((e1.trans e2).trans e3) q3
   | true =>
    simp only [if_true] at q3 ⊢
    exact ⟨τ,J3,_,((a2.go r1 e1).go r2 e2).go r3 e3,q3,fun w2 J4 u4 H4 r4 rr4 e4 q4=>lr' J4 H4 y w2 w u4 Q2 Q ((e3.trans e4).rep ry) r4 rr4 q4 fun z' J' u' H' rz' rr' ee' qq=>k z' J' u' H' rz' rr' ((((e1.trans e2).trans e3).trans e4).trans ee') qq⟩⟩⟩
theorem El {op op':CmpOp} {q q':me} (ho:md X (compareOp op) q) (ho':md X (compareOp op') q') (ha:RE X G a ta) (hb:RE X G b tb) (hc:RE X G c tc) (hm:lastMarks [op,op'] [b,c]=false:=by with_unfolding_all rfl) :
  RE X G (.Compare a [op,op'] [b,c] pos) (uT q q' ta tb tc):=by
 obtain ⟨r,h,lr⟩:=ho
 obtain ⟨r',h',lr'⟩:=ho'
 exact ⟨lh (L2.DY h h' ha.run hb.run hc.run hm) (yi lr lr')⟩
end
end Ov
namespace L2
open PySem PySem.Spec PyProof.Rows
def Oo (K:PySem.W.Frag) (a:Addr):It :=
 ⟨fun i H=>∃ xs x,c7 K H a xs∧xs[i]?=some x,
  fun i H z H'=>∃ T x,H T=none∧z=.ref T∧H'=upd H T (.tup [.int (i:Nat),x])∧(∀ xs,c7 K H a xs→xs[i]?=some x),
  fun i H=>∃ xs,c7 K H a xs∧xs.length≤i⟩
theorem B9 {P:Program} {w:World} {K:PySem.W.Frag} {elts:List Expr} {x1} {pos:Pos} {e it l:Addr} (ne:e≠it) :
  Turn P w K (.Tuple elts x1 pos) (Oo K l) [e,it] e (fun i h=>(∃ old,IsEnum h e it (i:Int) old)∧h.IsListIter it l i) where
 mem:=by simp
 obj:=fun i h ⟨⟨old,he⟩,h1⟩ c hc=>by
  simp only [List.mem_cons,List.not_mem_nil,or_false] at hc
  rcases hc with rfl | rfl
  ·exact ⟨_,he,fun v z=>by cases z⟩
  ·obtain ⟨o,e,c,d⟩:=h1;exact ⟨o,e,fun v z=>by rw [d] at z;cases z⟩
 keep:=fun i h h' ⟨⟨old,he⟩,h1⟩ k=>⟨⟨old,k e (by simp) _ he⟩,h1.at fun o q=>k it (by simp) o q⟩
 item:=by
  intro X hP hw hK hc i pins s σ H E I hf st hg
  subst hP hw hK
  obtain ⟨⟨old,he⟩,h1⟩:=st
  obtain ⟨xs,x,hqx,hx⟩:=hg
  obtain ⟨its,rv,p,hzx⟩:=I.list hqx
  obtain ⟨u,hu,rx⟩:=rv.get hx
  refine wpAny_pyNext_enum_item he h1 p.isList (x:=u) (by simpa using hu) ne fun h' a1 a3 a5 a6 hk=>?_
  refine ⟨_,rfl,wpAny_letOwnedTupleGo_enum a1 fun h'' hz' hs'=>?_⟩
  have hT:H s.heap.objs.size=none:=I.hok.fresh (Nat.le_refl _)
  have lt:∀ {c o},s.heap.get? c=some o→c≠s.heap.objs.size:=fun e=>Nat.ne_of_lt (Heap.lt_size e)
  have I0:Inv X pins σ (upd H s.heap.objs.size (.tup [.int (i:Nat),x])) { s with heap:=s.heap.push { cls:=.type "tuple",data:=.seq #[.int i s.toks,u] },toks:=s.toks + 1 }:=I.laid (t':=s.toks + 1) (fun b u e=>Heap.get?_push_of_some _ e) (Nat.le_refl _) ⟨by simp [sizeLine],[.int i s.toks,u],.cons ⟨_,rfl⟩ (.cons rx .nil),⟨_,Heap.get?_push_size _ rfl,rfl,_,rfl⟩⟩
  have fpn:∀ b∈[e,it],b≠s.heap.objs.size:=fun b hb=>by
   simp only [List.mem_cons,List.not_mem_nil,or_false] at hb
   rcases hb with rfl | rfl
   ·exact lt he
   ·obtain ⟨o,e,_⟩:=h1;exact lt e
  have fpu:∀ b∈[e,it],i4 X pins (upd H s.heap.objs.size (.tup [.int (i:Nat),x])) b:=fun b hb=>⟨by rw [aQ (fpn b hb)];exact (hf b hb).1,(hf b hb).2⟩
  have I1:Inv X pins σ (upd H s.heap.objs.size (.tup [.int (i:Nat),x])) { s with heap:=h'',toks:=s.toks + 1 }:=Inv.pI (s:={ s with heap:=s.heap.push { cls:=.type "tuple",data:=.seq #[.int i s.toks,u] },toks:=s.toks + 1 }) (t':=s.toks + 1) (ch:=[e,it]) I0 (fun b o hb eb=>by
   simp only [List.mem_cons,List.not_mem_nil,or_false,not_or] at hb
   rcases Heap.get?_push_cases eb with ⟨rfl,rfl⟩ | e'
   ·exact hs'.extBut _ _ hb.1 a5
   ·exact hs'.extBut _ _ hb.1 (hk b o hb.1 hb.2 e')) fpu
  refine ⟨.ref s.heap.objs.size,_,I1,rfl,⟨_,x,hT,rfl,rfl,fun zs hq=>by rw [I.j1 hq hqx];exact hx⟩,⟨⟨_,by rw [Int.natCast_add];exact hz'⟩,a3.extBut hs'.extBut (Ne.symm ne)⟩,fun b hb=>(fpu b hb).1⟩
 done:=by
  intro X hP hw hK hc i pins s σ H E I hf st hg
  subst hP hw hK
  obtain ⟨⟨old,he⟩,h1⟩:=st
  obtain ⟨xs,hqx,hl⟩:=hg
  obtain ⟨its,rv,p,hzx⟩:=I.list hqx
  have e1:=rv.length
  refine wpAny_pyNext_enum_end (I.ok.hd hc) he h1 p.isList (by rw [List.getElem?_toArray,List.getElem?_eq_none_iff];omega) fun h' hk=>⟨rfl,I.pI (t':=s.toks) (ch:=[e,it]) (fun b o hb e=>?_) hf⟩
  simp only [List.mem_cons,List.not_mem_nil,or_false,not_or] at hb
  exact hk b o hb.2 e
 self:=fun _ _ _ _ _ st h=>let ⟨⟨_,he⟩,_⟩:=st;wpAny_pyIter_enum he h
def K6 (K:PySem.W.Frag) (ta:TA):TI:=fun σ H R=>ta σ H fun vs H1=>∃ a xs,vs=[.ref a]∧c7 K H1 a xs∧R (Oo K a) H1
section
variable {X:Cx}
theorem Gh {l:Expr} {elts:List Expr} {x1} {tp:Pos} {ta:TA} {p pos:Pos} (hg:Gl X "enumerate") (hm:X.mg "enumerate"=none) (ha:PA X [l] ta) (hs:starEach [l] X.env=(false,eval l X.env) :: starEach [] X.env:=by rfl) (hp:(backTo pos (starEach [] X.env)).any (·.1)=false:=by rfl):PI X (.Tuple elts x1 tp) (.Call (.Name "enumerate" p) [l] [] pos) (K6 X.K ta):=by
 intro pins s σ H R I h
 refine Call_ (lN I hg hm PyProof.Rows.Boot.«enumerate» (PyProof.Rows.callWith_type1 (b7 (ha pos pins s σ H _ I h) fun us s1 ⟨vs,H1,I1,r1,q1⟩=>?_) hs hp))
 obtain ⟨a,xs,e,hqa,q⟩:=q1
 subst e
 cases r1 with
 | cons r rr =>
  cases rr
  cases r
  obtain ⟨its,rv,pl,hz⟩:=I1.list hqa
  refine call_enumerate_list pl.isList ?_
  intro h' b1 b2 b6 hk
  refine wpAny_pyIter_enum b1 ?_
  have ne:s1.heap.objs.size + 1≠s1.heap.objs.size:=Nat.succ_ne_self _
  refine ⟨_,_,_,_,H1,rfl,I1.kept (t':=s1.toks) hk,B9 ne,⟨⟨_,b1⟩,b2⟩,fun c hc=>?_,q⟩
  have hc':s1.heap.objs.size≤c:=by
   simp only [List.mem_cons,List.not_mem_nil,or_false] at hc
   show @LE.le Nat _ _ _
   rcases hc with rfl | rfl
   ·exact Nat.le_add_right _ _
   ·exact Nat.le_refl _
  exact I1.Bo hc' (I1.hok.fresh hc')
end
end L2
namespace Ov
open PySem PySem.Spec PyProof.Rows
open L2 (V HO Hp Inv Cx VK XK TE TT TA TS TG pX TI TO k9 Ends vS Loc Gl Rd RelV Vals fF xO cx pQ sG pT k8 R2 upd aJ aQ c7 gM Sp rj It bG du bX Passes oV aF Meth Mk Binds aO cm aw c_ gK fg)
def wc (xs:List PV):List PV:=(List.range xs.length).zipWith (fun i x=>PV.tup [.int ((i:Nat):Int),x]) xs
theorem kG (xs:List PV):(wc xs).length=xs.length:=by unfold wc;simp
theorem sT (xs:List PV) (i:Nat) (x:PV) (h:xs[i]?=some x):(wc xs)[i]?=some (.tup [.int (i:Int),x]):=by
 unfold wc
 obtain ⟨hi,e⟩:=List.getElem?_eq_some_iff.mp h
 rw [List.getElem?_zipWith,List.getElem?_range hi,h]
section
variable {X:Cx} {G:G2}
def OE (ta:oy):rK:=fun τ J R=>ta τ J fun vs J1=>∃ x xs,vs=[x]∧lQ J1 x=some xs∧R ⟨wc xs,fun J'=>lQ J' x=some xs⟩ J1
theorem GC {l:Expr} {elts:List Expr} {x1} {tp:Pos} {ta:oy} {p pos:Pos} (hg:Gl X "enumerate") (hm:X.mg "enumerate"=none) (ha:RA X G [l] ta) (hs:starEach [l] X.env=(false,eval l X.env) :: starEach [] X.env:=by rfl) (hp:(backTo pos (starEach [] X.env)).any (·.1)=false:=by rfl) :
  RI X G (.Tuple elts x1 tp) (.Call (.Name "enumerate" p) [l] [] pos) (OE ta):=⟨Kr (L2.Gh hg hm ha.run hs hp) fun σ H R ⟨τ,J,R2,a2,h,k⟩=>⟨τ,J,_,a2,h,fun vs J1 us H1 rs r1 e1 ⟨x,xs,ev,hx,q⟩=>by
 subst ev
 obtain ⟨v,us',rfl,rv,e'⟩:=rs
 cases e'
 obtain ⟨a,ws,rfl,h1,h2⟩:=nN hx rv r1
 refine ⟨a,ws,rfl,h1,k _ J1 _ H1 ?_ r1 e1 q⟩
 have at_:∀ J' H',Ext X.K J1 H1 J' H'→Rep X.K J' H'→lQ J' x=some xs→∃ vs,c7 X.K H' a vs∧aS X.K J' H' xs vs:=fun J' H' e r o=>by
  obtain ⟨c,vs,eb,g1,g2⟩:=nN o (e.rep rv) r
  cases eb
  exact ⟨vs,g1,g2⟩
 exact {
  go:=fun J' H' e r o i hi=>by
   obtain ⟨vs,s,rs⟩:=at_ J' H' e r o
   rw [kG] at hi
   exact ⟨vs,vs[i]'(by rw [← rs.length];exact hi),s,by simp⟩
  yl:=fun J' H' e r o i hi v H2 y=>by
   obtain ⟨vs,s,rs⟩:=at_ J' H' e r o
   obtain ⟨T,z,hT,rfl,rfl,y1⟩:=y
   obtain ⟨c,ec,rc⟩:=rs.get' (y1 vs s)
   have sm:=bG.new hT (.tup [.int (i:Nat),z])
   have e2:=Ext.same (K:=X.K) (J:=J') sm
   refine ⟨.tup [.int (i:Int),c],sT _ _ _ ec,⟨T,[.int (i:Nat),z],rfl,.inl (.inl aJ),e2.iS ⟨.int (i:Nat),_,rfl,rfl,z,_,rfl,rc,rfl⟩⟩,r.same sm,e2⟩
  stop:=fun J' H' e r o=>by
   obtain ⟨vs,s,rs⟩:=at_ J' H' e r o
   exact ⟨vs,s,by rw [kG,← rs.length];exact Nat.le_refl _⟩ }⟩⟩
end
section
variable {X:Cx} {pins:List (Addr × Obj)} {σ:L2.St} {H:Hp} {s:Shared}
open Classical in
def eT (K:PySem.W.Frag) (H:Hp) (zs:List Py) (y:Py) (u:Value):Bool:=decide (∃ z∈zs,∃ v,RelV v u∧At K H z v∧kH z y=true)
end
section
variable {X:Cx} {G:G2}
end
end Ov
namespace Ov
open PySem
structure aD where
 m:Rat
 h:Str
 f:Str
 deriving DecidableEq
def slt (a b:Str):Prop:=a.cps.toList < b.cps.toList
instance (a b:Str):Decidable (slt a b):=inferInstanceAs (Decidable (a.cps.toList < b.cps.toList))
def aD.lt (a b:aD):Bool:=if a.m=b.m then (if a.h=b.h then decide (slt a.f b.f) else decide (slt a.h b.h)) else decide (a.m < b.m)
theorem mV (a:Str):¬ slt a a:=List.lt_irrefl _
theorem oj {a b c:Str} (h:slt a b) (k:slt b c):slt a c:=List.lt_trans h k
theorem DF:∀ (a b:List Nat),a≠b→a < b∨b < a
 | [],[],h=>absurd rfl h
 | [],_ :: _,_=>.inl (List.nil_lt_cons _ _)
 | _ :: _,[],_=>.inr (List.nil_lt_cons _ _)
 | x :: a,y :: b,h=>by
  rcases Nat.lt_trichotomy x y with z | z | z
  ·exact .inl (List.cons_lt_cons_iff.mpr (.inl z))
  ·subst z
   rcases DF a b (fun e=>h (by rw [e])) with q | q
   ·exact .inl (List.cons_lt_cons_iff.mpr (.inr ⟨rfl,q⟩))
   ·exact .inr (List.cons_lt_cons_iff.mpr (.inr ⟨rfl,q⟩))
  ·exact .inr (List.cons_lt_cons_iff.mpr (.inl z))
theorem vp {a b:Str} (h:a≠b):slt a b∨slt b a:=by
 have ne:a.cps.toList≠b.cps.toList:=fun e=>h (by cases a;cases b;simp at e;rw [e])
 exact DF _ _ ne
theorem JX {a b:Str} (h:slt a b):a≠b:=fun e=>by subst e;exact mV _ h
theorem aD.lt_iff (a b:aD):a.lt b=true↔a.m < b.m∨(a.m=b.m∧(slt a.h b.h∨(a.h=b.h∧slt a.f b.f))):=by
 unfold aD.lt
 by_cases e:a.m=b.m
 ·rw [if_pos e]
  have n:¬ a.m < b.m:=by rw [e];exact Rat.lt_irrefl
  by_cases k:a.h=b.h
  ·rw [if_pos k]
   have n2:¬ slt a.h b.h:=fun z=>JX z k
   simp [e,k,n,n2]
   try (intro z;first | exact absurd z Rat.lt_irrefl | exact absurd z (mV _))
  ·rw [if_neg k]
   simp [e,k]
   try (intro z;exact absurd z Rat.lt_irrefl)
 ·rw [if_neg e]
  simp [e]
theorem aD.Jh (a:aD):a.lt a=false:=by
 cases h:a.lt a with
 | false=>rfl
 | true =>
  rcases (aD.lt_iff a a).mp h with h | ⟨_,h | ⟨_,h⟩⟩
  ·exact absurd h Rat.lt_irrefl
  ·exact absurd h (mV _)
  ·exact absurd h (mV _)
theorem tw {a b c:Rat} (h:a < b) (k:b < c):a < c:=by grind
theorem aD.lt_trans {a b c:aD} (h:a.lt b=true) (k:b.lt c=true):a.lt c=true:=by
 rw [aD.lt_iff] at *
 rcases h with h | ⟨e,h⟩ <;> rcases k with k | ⟨e',k⟩
 ·exact .inl (tw h k)
 ·exact .inl (e' ▸ h)
 ·exact .inl (e ▸ k)
 ·refine .inr ⟨e.trans e',?_⟩
  rcases h with h | ⟨z,h⟩ <;> rcases k with k | ⟨z',k⟩
  ·exact .inl (oj h k)
  ·exact .inl (z' ▸ h)
  ·exact .inl (z ▸ k)
  ·exact .inr ⟨z.trans z',oj h k⟩
theorem aD.Dz {a b:aD} (h:a≠b):a.lt b=true∨b.lt a=true:=by
 rw [aD.lt_iff,aD.lt_iff]
 by_cases e:a.m=b.m
 ·by_cases z:a.h=b.h
  ·have:a.f≠b.f:=fun q=>h (by cases a;cases b;simp_all)
   rcases vp this with q | q
   ·exact .inl (.inr ⟨e,.inr ⟨z,q⟩⟩)
   ·exact .inr (.inr ⟨e.symm,.inr ⟨z.symm,q⟩⟩)
  ·rcases vp z with q | q
   ·exact .inl (.inr ⟨e,.inl q⟩)
   ·exact .inr (.inr ⟨e.symm,.inl q⟩)
 ·rcases (by grind:a.m < b.m∨b.m < a.m) with q | q
  ·exact .inl (.inl q)
  ·exact .inr (.inl q)
def i_ (l:List aD):Prop:=l.Pairwise fun a b=>a.lt b=true
def iG (b:aD) (l:List aD):List aD:=l.filter (fun x=>x.lt b) ++ b :: l.filter (fun x=>!x.lt b)
def tE (h f:Str) (x:aD):Bool:=decide (x.h=h∧x.f=f)
def cP (h f:Str) (l:List aD):List aD:=l.filter fun x=>!tE h f x
theorem sP {h f:Str} {l:List aD} (s:i_ l):i_ (cP h f l):=s.filter _
theorem wg {b:aD} {l:List aD} (s:i_ l) (n:∀ x∈l,x≠b):i_ (iG b l):=by
 unfold iG i_
 rw [List.pairwise_append]
 refine ⟨s.filter _,?_,?_⟩
 ·rw [List.pairwise_cons]
  refine ⟨fun y hy=>?_,s.filter _⟩
  rw [List.mem_filter] at hy
  rcases aD.Dz (n y hy.1) with q | q
  ·simp [q] at hy
  ·exact q
 ·intro x hx y hy
  rw [List.mem_filter] at hx
  rcases List.mem_cons.mp hy with rfl | hy
  ·exact hx.2
  ·rw [List.mem_filter] at hy
   rcases aD.Dz (n y hy.1) with q | q
   ·simp [q] at hy
   ·exact aD.lt_trans hx.2 q
theorem Fw {h f:Str} {l:List aD} {m:Rat}:∀ x∈cP h f l,x≠⟨m,h,f⟩:=fun x hx e=>by
 subst e
 unfold cP at hx
 rw [List.mem_filter] at hx
 simp [tE] at hx
theorem tm (p:aD→Bool):∀ {l:List aD} {i:Nat},i≤l.length→(∀ (j:Nat) x,j < i→l[j]?=some x→p x=true)→(∀ (j:Nat) x,i≤j→l[j]?=some x→p x=false)→l.take i ++ l.drop i=l∧l.filter p=l.take i∧l.filter (fun x=>!p x)=l.drop i
 | l,0,_,_,h=>by
  refine ⟨by simp,?_,?_⟩
  ·rw [List.take_zero]
   apply List.filter_eq_nil_iff.mpr
   intro x hx
   obtain ⟨j,hj⟩:=List.mem_iff_getElem?.mp hx
   rw [h j x (Nat.zero_le _) hj];simp
  ·rw [List.drop_zero]
   apply List.filter_eq_self.mpr
   intro x hx
   obtain ⟨j,hj⟩:=List.mem_iff_getElem?.mp hx
   rw [h j x (Nat.zero_le _) hj];rfl
 | [],i + 1,hi,_,_=>by simp at hi
 | x :: l,i + 1,hi,h1,h2=>by
  obtain ⟨a,b,c⟩:=tm p (l:=l) (i:=i) (by simpa using hi) (fun j y hj e=>h1 (j + 1) y (by omega) (by simpa using e)) (fun j y hj e=>h2 (j + 1) y (by omega) (by simpa using e))
  have hx:p x=true:=h1 0 x (by omega) rfl
  refine ⟨by simp,?_,?_⟩
  ·rw [List.filter_cons,hx];simp [b]
  ·rw [List.filter_cons,hx];simp [c]
theorem ud {b:aD} {l:List aD} {i:Nat} (hi:i≤l.length) (h1:∀ (j:Nat) x,j < i→l[j]?=some x→x.lt b=true) (h2:∀ (j:Nat) x,i≤j→l[j]?=some x→x.lt b=false):l.take i ++ b :: l.drop i=iG b l:=by
 obtain ⟨_,e1,e2⟩:=tm (fun x=>x.lt b) hi h1 h2
 unfold iG
 rw [e1,e2]
theorem AR {l:List aD} {b x y:aD} {i j:Nat} (s:i_ l) (hx:l[i]?=some x) (hy:l[j]?=some y) (h:j≤i) (k:x.lt b=true):y.lt b=true:=by
 rcases Nat.lt_or_eq_of_le h with h | h
 ·obtain ⟨hi,ei⟩:=List.getElem?_eq_some_iff.mp hx
  obtain ⟨hj,ej⟩:=List.getElem?_eq_some_iff.mp hy
  have:=List.pairwise_iff_getElem.mp s j i hj hi h
  rw [ei,ej] at this
  exact aD.lt_trans this k
 ·subst h;rw [hx] at hy;cases hy;exact k
theorem qZ {l:List aD} {b x y:aD} {i j:Nat} (s:i_ l) (hx:l[i]?=some x) (hy:l[j]?=some y) (h:i≤j) (k:x.lt b=false):y.lt b=false:=by
 cases q:y.lt b with
 | false=>rfl
 | true=>rw [AR s hy hx h q] at k;cases k
theorem C7 {b x:aD} {l:List aD} (h:x∈iG b l):x=b∨x∈l:=by
 unfold iG at h
 rcases List.mem_append.mp h with h | h
 ·exact .inr (List.mem_filter.mp h).1
 ·rcases List.mem_cons.mp h with h | h
  ·exact .inl h
  ·exact .inr (List.mem_filter.mp h).1
theorem mn (p:aD→Bool):∀ l:List aD,(l.filter p).length + (l.filter fun x=>!p x).length=l.length
 | []=>rfl
 | x :: l=>by
  have:=mn p l
  cases h:p x <;> simp [h] <;> omega
theorem qi (b:aD) (l:List aD):(iG b l).length=l.length + 1:=by
 unfold iG
 rw [List.length_append,List.length_cons]
 have:=mn (fun x=>x.lt b) l
 omega
theorem nC (h f:Str) (l:List aD):(cP h f l).length≤l.length:=List.length_filter_le _ _
structure aV where
 m:Rat
 p:Rat
 v:Int
 deriving DecidableEq
def aV.at (l:aV) (t:Rat):Rat:=l.p + (t - l.m) * l.v
def turned (rows:List aV) (t:Rat) (v:Int):List aV :=
 match rows.getLast? with
 | none=>[]
 | some l =>
  let rest:=if l.m=t then rows.dropLast else rows
  if rest.getLast?.map aV.v=some v then rest else rest ++ [⟨t,l.at t,v⟩]
theorem g8 (ls:List aV) (l:aV) (t:Rat) (v:Int):turned (ls ++ [l]) t v =
  if l.m=t then (if ls.getLast?.map aV.v=some v then ls else ls ++ [⟨t,l.at t,v⟩]) else (if l.v=v then ls ++ [l] else ls ++ [l] ++ [⟨t,l.at t,v⟩]):=by
 unfold turned
 simp only [List.getLast?_concat,List.dropLast_concat]
 split
 ·rfl
 ·simp only [List.getLast?_concat,Option.map_some,Option.some.injEq]
theorem tK {rows:List aV} {t:Rat} {v:Int} (h:rows≠[]):turned rows t v≠[]:=by
 obtain ⟨ls,l,rfl⟩:∃ ls l,rows=ls ++ [l]:=⟨rows.dropLast,rows.getLast h,(List.dropLast_concat_getLast h).symm⟩
 rw [g8]
 split
 ·split
  ·rename_i e
   intro z;subst z;cases e
  ·simp
 ·split <;> simp
theorem zo {rows:List aV} {t:Rat} {v:Int} {x:aV} (h:x∈turned rows t v):x∈rows∨∃ l∈rows,x=⟨t,l.at t,v⟩:=by
 by_cases e:rows=[]
 ·subst e;cases h
 obtain ⟨ls,l,rfl⟩:∃ ls l,rows=ls ++ [l]:=⟨rows.dropLast,rows.getLast e,(List.dropLast_concat_getLast e).symm⟩
 rw [g8] at h
 have key:∀ {y:List aV},(∀ z∈y,z∈ls ++ [l])→x∈y ++ [⟨t,l.at t,v⟩]→x∈ls ++ [l]∨∃ l'∈ls ++ [l],x=⟨t,l'.at t,v⟩:=fun hy hx=>by
  rcases List.mem_append.mp hx with h | h
  ·exact .inl (hy _ h)
  ·exact .inr ⟨l,by simp,by simpa using h⟩
 split at h
 ·split at h
  ·exact .inl (List.mem_append.mpr (.inl h))
  ·exact key (fun z hz=>List.mem_append.mpr (.inl hz)) h
 ·split at h
  ·exact .inl h
  ·exact key (fun z hz=>hz) h
theorem l5 (rows:List aV) (t:Rat) (v:Int):(turned rows t v).length≤rows.length + 1:=by
 by_cases e:rows=[]
 ·subst e;simp [turned]
 obtain ⟨ls,l,rfl⟩:∃ ls l,rows=ls ++ [l]:=⟨rows.dropLast,rows.getLast e,(List.dropLast_concat_getLast e).symm⟩
 rw [g8]
 split <;> split <;> simp <;> omega
def wt (rows:List aV) (t:Rat):Option aV:=(rows.filter fun l=>decide (l.m≤t)).getLast?
def lb (ms:List Rat) (t:Rat):Nat→Nat
 | 0=>0
 | k + 1=>if ms.getD k 0≤t then k + 1 else lb ms t k
theorem Hj (ms:List Rat) (t:Rat):∀ k,lb ms t k≤k
 | 0=>Nat.le_refl _
 | k + 1=>by unfold lb;split;exact Nat.le_refl _;exact Nat.le_succ_of_le (Hj ms t k)
theorem Dm {ms:List Rat} {t:Rat} {j:Nat} (h:ms.getD j 0≤t):∀ {k},j < k→0 < lb ms t k
 | 0,hk=>absurd hk (Nat.not_lt_zero _)
 | k + 1,hk=>by
  unfold lb
  split
  ·exact Nat.succ_pos _
  ·rename_i c
   exact Dm h (by rcases Nat.lt_succ_iff_lt_or_eq.mp hk with e | e;exact e;subst e;exact absurd h c)
theorem Ae (t:Rat) (rows:List aV):∀ k,k≤rows.length→((rows.take k).filter fun l=>decide (l.m≤t)).getLast?=if lb (rows.map aV.m) t k=0 then none else rows[lb (rows.map aV.m) t k - 1]?
 | 0,_=>rfl
 | k + 1,hk=>by
  have hk':k < rows.length:=by omega
  have e:rows.take (k + 1)=rows.take k ++ [rows[k]]:=by rw [List.take_add_one,List.getElem?_eq_getElem hk'];rfl
  have em:(rows.map aV.m).getD k 0=rows[k].m:=by simp [List.getD,hk']
  rw [e,List.filter_append]
  unfold lb
  rw [em]
  by_cases c:rows[k].m≤t
  ·rw [if_pos c,List.filter_cons,if_pos (decide_eq_true c),List.filter_nil,List.getLast?_concat,if_neg (Nat.succ_ne_zero _),Nat.add_sub_cancel,List.getElem?_eq_getElem hk']
  ·rw [if_neg c,List.filter_cons,if_neg (by simp [c]),List.filter_nil,List.append_nil]
   exact Ae t rows k (by omega)
theorem Ds (rows:List aV) (t:Rat):wt rows t=if lb (rows.map aV.m) t rows.length=0 then none else rows[lb (rows.map aV.m) t rows.length - 1]?:=by
 have:=Ae t rows rows.length (Nat.le_refl _)
 rw [List.take_length] at this
 exact this
def MR (g:Option Rat) (t:Rat):Bool:=match g with | none=>true | some q=>decide (t < q)
def there (rows:List aV) (g:Option Rat) (t:Rat):Bool :=
 match rows.head? with
 | none=>false
 | some l=>!decide (t < l.m) && MR g t
theorem EV {rows:List aV} {g:Option Rat} {t:Rat} (h:there rows g t=true):∃ l,wt rows t=some l∧l∈rows∧l.m≤t∧0 < lb (rows.map aV.m) t rows.length∧rows[lb (rows.map aV.m) t rows.length - 1]?=some l:=by
 cases rows with
 | nil=>cases h
 | cons l0 ls =>
  have h0:l0.m≤t:=by
   unfold there at h
   simp only [List.head?_cons,Bool.and_eq_true,Bool.not_eq_true',decide_eq_false_iff_not] at h
   exact Rat.not_lt.mp h.1
  have hp:0 < lb ((l0 :: ls).map aV.m) t (l0 :: ls).length:=Dm (j:=0) (by simpa using h0) (by simp)
  have hle:=Hj ((l0 :: ls).map aV.m) t (l0 :: ls).length
  have hx:=Ds (l0 :: ls) t
  rw [if_neg (by omega)] at hx
  obtain ⟨l,hl⟩:∃ l,(l0 :: ls)[lb ((l0 :: ls).map aV.m) t (l0 :: ls).length - 1]?=some l:=⟨_,List.getElem?_eq_getElem (by omega)⟩
  rw [hl] at hx
  have hm:=List.mem_of_getLast? hx
  rw [List.mem_filter] at hm
  exact ⟨l,hx,hm.1,of_decide_eq_true hm.2,hp,hl⟩
def Sc (D A:Nat) (q:Rat):Prop:=∃ a:Int,q * (D:Rat)=(a:Rat)∧a.natAbs≤A
theorem Sc.mono {D A B:Nat} {q:Rat} (h:Sc D A q) (k:A≤B):Sc D B q:=let ⟨a,e,l⟩:=h;⟨a,e,Nat.le_trans l k⟩
theorem Ly {D:Nat} (h:0 < D):(D:Rat)≠0:=by
 intro e
 have:D=0:=by exact_mod_cast e
 omega
theorem Sc.sz {D A n:Nat} {q:Rat} (h:Sc D A q) (hD:0 < D) (h1:D < 2 ^ n) (h2:A < 2 ^ n):Sz n q:=by
 obtain ⟨a,e,l⟩:=h
 have nz:=Ly hD
 have:q=Rat.divInt a (D:Int):=by
  rw [Rat.divInt_eq_div,← e]
  have:((D:Int):Rat)=(D:Rat):=rfl
  rw [this]
  generalize (D:Rat)=d at nz ⊢
  grind
 rw [this]
 exact Sz.div ⟨Nat.lt_of_le_of_lt l h2⟩ ⟨by simpa using h1⟩ (by omega)
theorem Sc.scale {D A E:Nat} {p:Rat} (h:Sc D A p):Sc (E * D) (E * A) p:=by
 obtain ⟨a,e,l⟩:=h
 refine ⟨E * a,?_,?_⟩
 ·rw [Rat.intCast_mul,← e]
  have h1:((E * D:Nat):Rat)=(E:Rat) * (D:Rat):=Rat.natCast_mul ..
  have h2:((E:Int):Rat)=(E:Rat):=rfl
  rw [h1,h2]
  grind
 ·rw [Int.natAbs_mul];exact Nat.mul_le_mul (by simp) l
theorem Sc.Jl {D A:Nat} {t:Int} {b:Nat} (hb:0 < b) (hd:b ∣ D) (hA:t.natAbs * (D / b)≤A):Sc D A (Rat.divInt t b):=by
 obtain ⟨c,rfl⟩:=hd
 rw [Nat.mul_div_cancel_left _ hb] at hA
 refine ⟨t * c,?_,by rw [Int.natAbs_mul];simpa using hA⟩
 have nb:=Ly hb
 have e1:((b:Int):Rat)=(b:Rat):=rfl
 have e2:((c:Int):Rat)=(c:Rat):=rfl
 rw [Rat.divInt_eq_div,Rat.intCast_mul,e1,e2,Rat.natCast_mul]
 generalize (b:Rat)=b at nb ⊢
 grind
def hW:Nat:=9690712164777231700912800
theorem OJ:∀ b:Nat,1≤b→b≤60→b ∣ hW:=by
 intro b h1 h2
 have:∀ b:Fin 61,1≤b.val→b.val ∣ hW:=by decide
 exact this ⟨b,by omega⟩ h1
theorem ui:0 < hW:=by decide
def MM:Nat:=2097152 * hW
structure O2 (D k:Nat) (l:aV):Prop where
 m:Sc hW MM l.m
 p:Sc (D * hW) (hW * 2 ^ 101 + k * (2000 * (D * MM))) l.p
 v:l.v.natAbs≤1000
theorem Lw:MM < 2 ^ 106:=by decide
theorem qw {q:Rat} (h:Sc hW MM q):Sz 106 q:=h.sz ui (by decide) Lw
structure Gd (D k:Nat) (rows:List aV):Prop where
 ne:rows≠[]
 ok:∀ l∈rows,O2 D k l
 len:rows.length≤k + 1
def Later (c q:Rat):Prop:=q=c∨∃ u s:Nat,1≤u∧u≤60∧1≤s∧s≤500 * u∧q=Rat.divInt ((c.num * u).fdiv c.den + s) u
theorem Later.sc {c q:Rat} {A:Nat} (h:Later c q) (k:Sc hW A c):Sc hW (A + 501 * hW) q:=by
 rcases h with rfl | ⟨u,s,h1,h2,h3,h4,rfl⟩
 ·exact k.mono (Nat.le_add_right _ _)
 obtain ⟨a,e,l⟩:=k
 obtain ⟨w,hw⟩:=OJ u h1 h2
 refine Sc.Jl (by omega) ⟨w,hw⟩ ?_
 have ew:hW / u=w:=by rw [hw,Nat.mul_div_cancel_left _ (by omega)]
 rw [ew]
 have hf:((c.num * u).fdiv c.den) * c.den≤c.num * u∧c.num * u < ((c.num * u).fdiv c.den + 1) * c.den:=by
  rw [Int.fdiv_eq_ediv_of_nonneg _ (by omega)]
  have:=dJ c
  constructor
  ·exact Int.ediv_mul_le _ (by omega)
  ·have:=Int.lt_ediv_add_one_mul_self (c.num * u) this;exact this
 have ea:c.num * (hW:Int)=a * c.den:=by
  have h1:=cast_eq c
  have h2:=dQ c
  have h3:((hW:Nat):Rat)=(((hW:Nat):Int):Rat):=rfl
  have:((c.num * (hW:Int):Int):Rat)=((a * c.den:Int):Rat):=by
   rw [Rat.intCast_mul,Rat.intCast_mul,h1,← e,h3]
   grind
  exact_mod_cast this
 have hL:(hW:Int)=u * w:=by rw [hw];simp
 have hw0:0 < w:=by
  rcases Nat.eq_zero_or_pos w with z | z
  ·rw [z,Nat.mul_zero] at hw;exact absurd hw (by decide)
  ·exact z
 rw [hL] at ea
 have hd:=dJ c
 generalize hF:(c.num * u).fdiv c.den=F at hf ⊢
 generalize hN:c.num=N at *
 generalize hDD:(c.den:Int)=d at *
 have g1:F * w≤a:=by
  have:F * w * d≤a * d:=by
   rw [← ea]
   have:=Int.mul_le_mul_of_nonneg_right hf.1 (show (0:Int)≤w by omega)
   calc F * w * d=F * d * w:=by rw [Int.mul_right_comm]
    _≤N * u * w:=this
    _=N * (u * w):=Int.mul_assoc ..
  exact Int.le_of_mul_le_mul_right this hd
 have g2:a≤(F + 1) * w:=by
  have:a * d≤(F + 1) * w * d:=by
   rw [← ea]
   have:=Int.mul_le_mul_of_nonneg_right (Int.le_of_lt hf.2) (show (0:Int)≤w by omega)
   calc N * (u * w)=N * u * w:=(Int.mul_assoc ..).symm
    _≤(F + 1) * d * w:=this
    _=(F + 1) * w * d:=by rw [Int.mul_right_comm]
  exact Int.le_of_mul_le_mul_right this hd
 have hsw:s * w≤500 * (u * w):=by
  calc s * w≤500 * u * w:=Nat.mul_le_mul_right _ h4
   _=500 * (u * w):=Nat.mul_assoc ..
 have huw:w≤u * w:=Nat.le_mul_of_pos_left _ (by omega)
 rw [hw]
 have:(F + s).natAbs * w=((F + s) * w).natAbs:=by rw [Int.natAbs_mul];simp
 rw [this,Int.add_mul]
 rw [Int.add_mul,Int.one_mul] at g2
 have hsw':(s:Int) * w≤500 * ((u * w:Nat):Int):=by exact_mod_cast hsw
 generalize F * (w:Int)=x at *
 have hs0:(0:Int)≤(s:Int) * w:=Int.mul_nonneg (by omega) (by omega)
 generalize (s:Int) * w=y at *
 generalize u * w=z at *
 omega
theorem Later.le {c q:Rat} (h:Later c q):c≤q:=by
 rcases h with rfl | ⟨u,s,h1,h2,h3,h4,rfl⟩
 ·exact Rat.le_refl
 have hf:c.num * u < ((c.num * u).fdiv c.den + 1) * c.den:=by
  rw [Int.fdiv_eq_ediv_of_nonneg _ (by omega)]
  exact Int.lt_ediv_add_one_mul_self (c.num * u) (dJ c)
 generalize (c.num * u).fdiv c.den=F at hf ⊢
 have h5:c.num * u≤(F + s) * c.den:=by
  have:(F + 1) * c.den≤(F + s) * c.den:=Int.mul_le_mul_of_nonneg_right (by omega) (by omega)
  omega
 have hu:(0:Rat) < (u:Rat):=by exact_mod_cast (show 0 < u by omega)
 have hd:(0:Rat) < ((c.den:Int):Rat):=by exact_mod_cast dJ c
 refine Rat.not_lt.mp fun hlt=>?_
 rw [Rat.divInt_eq_div] at hlt
 have e1:((u:Int):Rat)=(u:Rat):=rfl
 rw [e1,Rat.div_lt_iff hu] at hlt
 have h6:=Rat.mul_lt_mul_of_pos_right hlt hd
 have e2:c * (u:Rat) * ((c.den:Int):Rat)=((c.num * u:Int):Rat):=by
  rw [Rat.intCast_mul,cast_eq c,e1];grind
 rw [e2,← Rat.intCast_mul] at h6
 have h7:(F + s) * c.den < c.num * u:=by exact_mod_cast h6
 omega
section
variable {α:Type} {lt:α→α→Bool}
def oK (lt:α→α→Bool) (b:α) (l:List α):List α:=l.filter (fun x=>lt x b) ++ b :: l.filter (fun x=>!lt x b)
def nv (lt:α→α→Bool) (l:List α):Prop:=l.Pairwise fun a b=>lt a b=true
theorem DW (p:α→Bool):∀ {l:List α} {i:Nat},i≤l.length→(∀ (j:Nat) x,j < i→l[j]?=some x→p x=true)→(∀ (j:Nat) x,i≤j→l[j]?=some x→p x=false)→l.filter p=l.take i∧l.filter (fun x=>!p x)=l.drop i
 | l,0,_,_,h=>by
  refine ⟨?_,?_⟩
  ·rw [List.take_zero]
   apply List.filter_eq_nil_iff.mpr
   intro x hx
   obtain ⟨j,hj⟩:=List.mem_iff_getElem?.mp hx
   rw [h j x (Nat.zero_le _) hj];simp
  ·rw [List.drop_zero]
   apply List.filter_eq_self.mpr
   intro x hx
   obtain ⟨j,hj⟩:=List.mem_iff_getElem?.mp hx
   rw [h j x (Nat.zero_le _) hj];rfl
 | [],i + 1,hi,_,_=>by simp at hi
 | x :: l,i + 1,hi,h1,h2=>by
  obtain ⟨b,c⟩:=DW p (l:=l) (i:=i) (by simpa using hi) (fun j y hj e=>h1 (j + 1) y (by omega) (by simpa using e)) (fun j y hj e=>h2 (j + 1) y (by omega) (by simpa using e))
  have hx:p x=true:=h1 0 x (by omega) rfl
  refine ⟨?_,?_⟩
  ·rw [List.filter_cons,hx];simp [b]
  ·rw [List.filter_cons,hx];simp [c]
theorem z_ {b:α} {l:List α} {i:Nat} (hi:i≤l.length) (h1:∀ (j:Nat) x,j < i→l[j]?=some x→lt x b=true) (h2:∀ (j:Nat) x,i≤j→l[j]?=some x→lt x b=false):l.take i ++ b :: l.drop i=oK lt b l:=by
 obtain ⟨e1,e2⟩:=DW (fun x=>lt x b) hi h1 h2
 unfold oK
 rw [e1,e2]
theorem wj {b x:α} {l:List α}:x∈oK lt b l↔x=b∨x∈l:=by
 unfold oK
 rw [List.mem_append,List.mem_cons,List.mem_filter,List.mem_filter]
 constructor
 ·rintro (h | h | h)
  ·exact .inr h.1
  ·exact .inl h
  ·exact .inr h.1
 ·rintro (h | h)
  ·exact .inr (.inl h)
  ·cases e:lt x b
   ·exact .inr (.inr ⟨h,by simp⟩)
   ·exact .inl ⟨h,rfl⟩
theorem C8 (b:α) (l:List α):(oK lt b l).length=l.length + 1:=by
 unfold oK
 rw [List.length_append,List.length_cons]
 have:∀ l:List α,(l.filter fun x=>lt x b).length + (l.filter fun x=>!lt x b).length=l.length:=by
  intro l
  induction l with
  | nil=>rfl
  | cons x l ih=>cases h:lt x b <;> simp [h] <;> omega
 have:=this l
 omega
theorem C9 (tr:∀ {a b c},lt a b=true→lt b c=true→lt a c=true) {b:α} {l:List α} (s:nv lt l) (MA:∀ x∈l,lt x b=true∨lt b x=true):nv lt (oK lt b l):=by
 unfold oK nv
 rw [List.pairwise_append]
 refine ⟨s.filter _,?_,?_⟩
 ·rw [List.pairwise_cons]
  refine ⟨fun y hy=>?_,s.filter _⟩
  rw [List.mem_filter] at hy
  rcases MA y hy.1 with q | q
  ·simp [q] at hy
  ·exact q
 ·intro x hx y hy
  rw [List.mem_filter] at hx
  rcases List.mem_cons.mp hy with rfl | hy
  ·exact hx.2
  ·rw [List.mem_filter] at hy
   rcases MA y hy.1 with q | q
   ·simp [q] at hy
   ·exact tr hx.2 q
theorem xJ (tr:∀ {a b c},lt a b=true→lt b c=true→lt a c=true) {l:List α} {b x y:α} {i j:Nat} (s:nv lt l) (hx:l[i]?=some x) (hy:l[j]?=some y) (h:j≤i) (k:lt x b=true):lt y b=true:=by
 rcases Nat.lt_or_eq_of_le h with h | h
 ·obtain ⟨hi,ei⟩:=List.getElem?_eq_some_iff.mp hx
  obtain ⟨hj,ej⟩:=List.getElem?_eq_some_iff.mp hy
  have:=List.pairwise_iff_getElem.mp s j i hj hi h
  rw [ei,ej] at this
  exact tr this k
 ·subst h;rw [hx] at hy;cases hy;exact k
theorem B6 (tr:∀ {a b c},lt a b=true→lt b c=true→lt a c=true) {l:List α} {b x y:α} {i j:Nat} (s:nv lt l) (hx:l[i]?=some x) (hy:l[j]?=some y) (h:i≤j) (k:lt x b=false):lt y b=false:=by
 cases q:lt y b with
 | false=>rfl
 | true=>have:=xJ (lt:=lt) (b:=b) tr s hy hx h q;rw [this] at k;cases k
theorem m3 (E7:∀ a,lt a a=false) (tr:∀ {a b c},lt a b=true→lt b c=true→lt a c=true):∀ {l k:List α},nv lt l→nv lt k→(∀ x,x∈l↔x∈k)→l=k
 | [],[],_,_,_=>rfl
 | [],y :: k,_,_,h=>by have:=(h y).mpr List.mem_cons_self;cases this
 | x :: l,[],_,_,h=>by have:=(h x).mp List.mem_cons_self;cases this
 | x :: l,y :: k,hl,hk,h=>by
  obtain ⟨a1,a2⟩:=List.pairwise_cons.mp hl
  obtain ⟨b1,b2⟩:=List.pairwise_cons.mp hk
  have exy:x=y:=by
   rcases List.mem_cons.mp ((h x).mp List.mem_cons_self) with e | e
   ·exact e
   ·rcases List.mem_cons.mp ((h y).mpr List.mem_cons_self) with e' | e'
    ·exact e'.symm
    ·have:=tr (a1 y e') (b1 x e)
     rw [E7] at this;cases this
  subst exy
  rw [m3 E7 tr a2 b2 fun z=>?_]
  constructor
  ·intro hz
   rcases List.mem_cons.mp ((h z).mp (List.mem_cons_of_mem _ hz)) with e | e
   ·have:=a1 z hz;rw [e,E7] at this;cases this
   ·exact e
  ·intro hz
   rcases List.mem_cons.mp ((h z).mpr (List.mem_cons_of_mem _ hz)) with e | e
   ·have:=b1 z hz;rw [e,E7] at this;cases this
   ·exact e
end
structure Ky where
 p:Rat
 v:Int
 n:Str
 deriving DecidableEq
def Ky.lt (a b:Ky):Bool:=if a.p=b.p then (if a.v=b.v then decide (slt a.n b.n) else decide (a.v < b.v)) else decide (a.p < b.p)
theorem Ky.lt_iff (a b:Ky):a.lt b=true↔a.p < b.p∨(a.p=b.p∧(a.v < b.v∨(a.v=b.v∧slt a.n b.n))):=by
 unfold Ky.lt
 by_cases e:a.p=b.p
 ·rw [if_pos e]
  have n:¬ a.p < b.p:=by rw [e];exact Rat.lt_irrefl
  by_cases k:a.v=b.v
  ·rw [if_pos k,decide_eq_true_eq]
   have n2:¬ a.v < b.v:=by omega
   exact ⟨fun h=>.inr ⟨e,.inr ⟨k,h⟩⟩,fun h=>by
    rcases h with h | ⟨_,h | h⟩
    ·exact absurd h n
    ·exact absurd h n2
    ·exact h.2⟩
  ·rw [if_neg k,decide_eq_true_eq]
   exact ⟨fun h=>.inr ⟨e,.inl h⟩,fun h=>by
    rcases h with h | ⟨_,h | h⟩
    ·exact absurd h n
    ·exact h
    ·exact absurd h.1 k⟩
 ·rw [if_neg e,decide_eq_true_eq]
  exact ⟨.inl,fun h=>by
   rcases h with h | h
   ·exact h
   ·exact absurd h.1 e⟩
theorem Ky.E7 (a:Ky):a.lt a=false:=by
 cases h:a.lt a with
 | false=>rfl
 | true =>
  rcases (Ky.lt_iff a a).mp h with h | ⟨_,h | ⟨_,h⟩⟩
  ·exact absurd h Rat.lt_irrefl
  ·omega
  ·exact absurd h (mV _)
theorem Ky.tr {a b c:Ky} (h:a.lt b=true) (k:b.lt c=true):a.lt c=true:=by
 rw [Ky.lt_iff] at *
 rcases h with h | ⟨e,h⟩ <;> rcases k with k | ⟨e',k⟩
 ·exact .inl (tw h k)
 ·exact .inl (e' ▸ h)
 ·exact .inl (e ▸ k)
 ·refine .inr ⟨e.trans e',?_⟩
  rcases h with h | ⟨z,h⟩ <;> rcases k with k | ⟨z',k⟩
  ·exact .inl (by omega)
  ·exact .inl (by omega)
  ·exact .inl (by omega)
  ·exact .inr ⟨z.trans z',oj h k⟩
theorem Ky.MA {a b:Ky} (h:a.n≠b.n):a.lt b=true∨b.lt a=true:=by
 rw [Ky.lt_iff,Ky.lt_iff]
 by_cases e:a.p=b.p
 ·by_cases z:a.v=b.v
  ·rcases vp h with q | q
   ·exact .inl (.inr ⟨e,.inr ⟨z,q⟩⟩)
   ·exact .inr (.inr ⟨e.symm,.inr ⟨z.symm,q⟩⟩)
  ·rcases (by omega:a.v < b.v∨b.v < a.v) with q | q
   ·exact .inl (.inr ⟨e,.inl q⟩)
   ·exact .inr (.inr ⟨e.symm,.inl q⟩)
 ·rcases (by grind:a.p < b.p∨b.p < a.p) with q | q
  ·exact .inl (.inl q)
  ·exact .inr (.inl q)
theorem Ky.KI {a b:Ky} (h:a.lt b=true):b.lt a=false:=by
 cases k:b.lt a with
 | false=>rfl
 | true=>have:=Ky.tr h k;rw [Ky.E7] at this;cases this
def cu (ks:List Ky):List Ky:=ks.foldl (fun acc x=>oK Ky.lt x acc) []
theorem iN (ks:List Ky) (x:Ky):cu (ks ++ [x])=oK Ky.lt x (cu ks):=by unfold cu;rw [List.foldl_append];rfl
theorem snoc_ind {α:Type} {p:List α→Prop} (h0:p []) (h1:∀ l x,p l→p (l ++ [x])) (l:List α):p l:=by
 have:∀ l:List α,p l.reverse:=by
  intro l
  induction l with
  | nil=>exact h0
  | cons x l ih=>rw [List.reverse_cons];exact h1 _ _ ih
 have:=this l.reverse
 rwa [List.reverse_reverse] at this
theorem ju {α:Type} {l:List α} {x:α} (h:(l ++ [x]).Nodup):l.Nodup∧x ∉ l:=by
 rw [List.nodup_append] at h
 exact ⟨h.1,fun hm=>h.2.2 x hm x (by simp) rfl⟩
theorem bz:∀ (ks:List Ky) (x:Ky),x∈cu ks↔x∈ks:=by
 intro ks
 refine snoc_ind (p:=fun ks=>∀ x:Ky,x∈cu ks↔x∈ks) (fun x=>by simp [cu]) (fun ks y ih x=>?_) ks
 rw [iN,wj,ih,List.mem_append,List.mem_singleton]
 exact Or.comm
theorem cR {ks:List Ky} (h:(ks.map Ky.n).Nodup):nv Ky.lt (cu ks):=by
 revert h
 refine snoc_ind (p:=fun ks=>(ks.map Ky.n).Nodup→nv Ky.lt (cu ks)) (fun _=>List.Pairwise.nil) (fun ks y ih h=>?_) ks
 ·rw [List.map_append,List.map_cons,List.map_nil] at h
  obtain ⟨h1,h2⟩:=ju h
  rw [iN]
  refine C9 (lt:=Ky.lt) Ky.tr (ih h1) fun x hx=>Ky.MA fun e=>h2 ?_
  rw [← e]
  exact List.mem_map_of_mem ((bz ks x).mp hx)
theorem iM (ks:List Ky):(cu ks).length=ks.length:=by
 refine snoc_ind (p:=fun ks=>(cu ks).length=ks.length) rfl (fun ks y ih=>?_) ks
 rw [iN,C8,ih,List.length_append];rfl
theorem wU {ks js:List Ky} (h:(ks.map Ky.n).Nodup) (k:(js.map Ky.n).Nodup) (e:∀ x,x∈ks↔x∈js):cu ks=cu js :=
 m3 (lt:=Ky.lt) Ky.E7 Ky.tr (cR h) (cR k) fun x=>by rw [bz,bz];exact e x
def key (t:Rat) (x:Str × aV):Ky:=⟨x.2.at t,x.2.v,x.1⟩
def cS (t:Rat) (fs:List (Str × aV)):List Str:=(cu (fs.map (key t))).map Ky.n
theorem cv (t:Rat) (fs:List (Str × aV)):(fs.map (key t)).map Ky.n=fs.map (·.1):=by rw [List.map_map];rfl
theorem wZ {t:Rat} {fs:List (Str × aV)} {n:Str}:n∈cS t fs↔n∈fs.map (·.1):=by
 rw [← cv t fs]
 unfold cS
 rw [List.mem_map,List.mem_map]
 exact ⟨fun ⟨x,h,e⟩=>⟨x,(bz _ _).mp h,e⟩,fun ⟨x,h,e⟩=>⟨x,(bz _ _).mpr h,e⟩⟩
theorem wY (t:Rat) (fs:List (Str × aV)):(cS t fs).length=fs.length:=by unfold cS;rw [List.length_map,iM,List.length_map]
theorem k6 {l:List Ky} (s:nv Ky.lt l) (h:∀ x∈l,∀ y∈l,x.n=y.n→x=y):(l.map Ky.n).Nodup:=by
 refine List.pairwise_map.mpr (s.imp_of_mem fun {a b} ha hb hab e=>?_)
 have:=h a ha b hb e
 subst this
 rw [Ky.E7] at hab;cases hab
theorem iJ {ks:List Ky} (h:(ks.map Ky.n).Nodup):∀ x∈ks,∀ y∈ks,x.n=y.n→x=y:=by
 intro x hx y hy e
 obtain ⟨i,hi,rfl⟩:=List.getElem_of_mem hx
 obtain ⟨j,hj,rfl⟩:=List.getElem_of_mem hy
 have:=(List.getElem_inj (xs:=ks.map Ky.n) (i:=i) (j:=j) (h₀:=by simpa using hi) (h₁:=by simpa using hj) h).mp (by rw [List.getElem_map,List.getElem_map];exact e)
 subst this;rfl
theorem qC {t:Rat} {fs:List (Str × aV)} (h:(fs.map (·.1)).Nodup):(cS t fs).Nodup:=by
 rw [← cv t fs] at h
 exact k6 (cR h) fun x hx y hy e=>iJ h x ((bz _ _).mp hx) y ((bz _ _).mp hy) e
theorem wW {t:Rat} {fs gs:List (Str × aV)} (h:(fs.map (·.1)).Nodup) (k:(gs.map (·.1)).Nodup) (e:∀ x,x∈fs.map (key t)↔x∈gs.map (key t)):cS t fs=cS t gs:=by
 unfold cS
 rw [wU (by rw [cv];exact h) (by rw [cv];exact k) e]
theorem gJ {α β:Type} {fs:List (Str × α)} {f:α→β} (h:(fs.map (·.1)).Nodup) {n:Str} {l:α} (hm:(n,l)∈fs):L2.lp (fs.map fun x=>(x.1,f x.2)) n=some (f l):=by
 induction fs with
 | nil=>cases hm
 | cons x fs ih =>
  rw [List.map_cons,List.nodup_cons] at h
  rw [List.map_cons,L2.m9]
  rcases List.mem_cons.mp hm with e | e
  ·subst e;rw [if_pos rfl]
  ·have ne:x.1≠n:=fun z=>h.1 (by rw [z];exact List.mem_map_of_mem (f:=fun x:Str × α=>x.1) e)
   rw [if_neg ne];exact ih h.2 e
theorem vI {α β:Type} {fs:List (Str × α)} {f:α→β} (h:(fs.map (·.1)).Nodup) {n:Str} (hm:n∈fs.map (·.1)):∃ l,(n,l)∈fs∧L2.lp (fs.map fun x=>(x.1,f x.2)) n=some (f l):=by
 obtain ⟨⟨m,l⟩,hx,rfl⟩:=List.mem_map.mp hm
 exact ⟨l,hx,gJ h hx⟩
theorem G6 {α β:Type} {fs:List (Str × α)} {f:α→β} {n:Str} (hm:n ∉ fs.map (·.1)):L2.lp (fs.map fun x=>(x.1,f x.2)) n=none:=by
 induction fs with
 | nil=>rfl
 | cons x fs ih =>
  rw [List.map_cons,L2.m9]
  rw [List.map_cons,List.mem_cons,not_or] at hm
  rw [if_neg (fun e=>hm.1 e.symm)];exact ih hm.2
theorem Ca {α β:Type} {fs:List (Str × α)} {f:α→β} {n:Str} (h:(fs.map (·.1)).Nodup):(L2.lp (fs.map fun x=>(x.1,f x.2)) n).isSome=decide (n∈fs.map (·.1)):=by
 by_cases hm:n∈fs.map (·.1)
 ·obtain ⟨l,_,e⟩:=vI (f:=f) h hm
  rw [e,decide_eq_true hm];rfl
 ·rw [G6 hm,decide_eq_false hm];rfl
theorem yY {α β:Type} {fs:List (Str × α)} {f:α→β} {n:Str} {l:α} (hm:n ∉ fs.map (·.1)):L2.uN (fs.map fun x=>(x.1,f x.2)) n (f l)=(fs ++ [(n,l)]).map fun x=>(x.1,f x.2):=by
 unfold L2.uN
 rw [if_neg,List.map_append]
 ·rfl
 ·intro h
  rw [List.any_eq_true] at h
  obtain ⟨y,hy,e⟩:=h
  obtain ⟨x,hx,rfl⟩:=List.mem_map.mp hy
  exact hm (by rw [← of_decide_eq_true e];exact List.mem_map_of_mem (f:=fun x:Str × α=>x.1) hx)
def PP:Nat:=1000000 * hW + 1000 * MM
structure rh (l:aV):Prop where
 m0:0≤l.m
 m:Sc hW MM l.m
 p:∃ a:Int,l.p * (hW:Rat)=(a:Rat)
 b0:-(1000000 + 1000 * l.m)≤l.p
 b1:l.p≤1000000 + 1000 * l.m
 v:l.v.natAbs≤1000
theorem Lb:(0:Rat) < (hW:Rat):=by
 have:((0:Nat):Rat) < ((hW:Nat):Rat):=Rat.natCast_lt_natCast.mpr ui
 simpa using this
theorem rh.sc {l:aV} (h:rh l):Sc hW PP l.p:=by
 obtain ⟨a,ha⟩:=h.p
 obtain ⟨k,hk,hk1⟩:=h.m
 have hL:=Lb
 have b0:=h.b0
 have b1:=h.b1
 have e1:(a:Rat)≤(((1000000 * hW + 1000 * k:Int)):Rat):=by
  rw [← ha,Rat.intCast_add,Rat.intCast_mul,Rat.intCast_mul,← hk]
  have:l.p * (hW:Rat)≤(1000000 + 1000 * l.m) * (hW:Rat):=Rat.mul_le_mul_of_nonneg_right b1 (Rat.le_of_lt hL)
  have e:(((hW:Nat):Int):Rat)=(hW:Rat):=rfl
  rw [e]
  grind
 have e2:(((-(1000000 * hW + 1000 * k):Int)):Rat)≤(a:Rat):=by
  rw [← ha,Rat.intCast_neg,Rat.intCast_add,Rat.intCast_mul,Rat.intCast_mul,← hk]
  have:-(1000000 + 1000 * l.m) * (hW:Rat)≤l.p * (hW:Rat):=Rat.mul_le_mul_of_nonneg_right b0 (Rat.le_of_lt hL)
  have e:(((hW:Nat):Int):Rat)=(hW:Rat):=rfl
  rw [e]
  grind
 have e1:=Rat.intCast_le_intCast.mp e1
 have e2:=Rat.intCast_le_intCast.mp e2
 refine ⟨a,ha,?_⟩
 unfold PP
 have:(k:Int)≤MM:=by omega
 have:-(MM:Int)≤k:=by omega
 omega
theorem LJ:PP < 2 ^ 120:=by decide
theorem rh.OP {l:aV} (h:rh l):Sz 120 l.p:=h.sc.sz ui (by decide) LJ
theorem rh.OK {l:aV} (h:rh l):Sz 120 l.m:=(qw h.m).mono (by decide)
theorem rh.at {l:aV} {t:Rat} {v:Int} (h:rh l) (h0:l.m≤t) (ht:Sc hW MM t) (hv:v.natAbs≤1000):rh ⟨t,l.at t,v⟩:=by
 have hm:=h.m0
 have t0:0≤t:=Rat.le_trans hm h0
 have d0:0≤t - l.m:=by grind
 have v1:(l.v:Rat)≤1000:=by
  have:((l.v:Int):Rat)≤((1000:Int):Rat):=Rat.intCast_le_intCast.mpr (by have:=h.v;omega)
  exact this
 have v2:-1000≤(l.v:Rat):=by
  have:((-1000:Int):Rat)≤((l.v:Int):Rat):=Rat.intCast_le_intCast.mpr (by have:=h.v;omega)
  exact this
 have m1:(t - l.m) * (l.v:Rat)≤(t - l.m) * 1000:=Rat.mul_le_mul_of_nonneg_left v1 d0
 have m2:(t - l.m) * (-1000)≤(t - l.m) * (l.v:Rat):=Rat.mul_le_mul_of_nonneg_left v2 d0
 have b0:=h.b0
 have b1:=h.b1
 refine ⟨t0,ht,?_,?_,?_,hv⟩
 ·obtain ⟨a,ha⟩:=h.p
  obtain ⟨k,hk,_⟩:=h.m
  obtain ⟨j,hj,_⟩:=ht
  refine ⟨a + (j - k) * l.v,?_⟩
  unfold aV.at
  dsimp only
  rw [Rat.intCast_add,Rat.intCast_mul,Rat.intCast_sub,← ha,← hk,← hj]
  grind
 ·show -(1000000 + 1000 * t)≤l.p + (t - l.m) * (l.v:Rat)
  grind
 ·show l.p + (t - l.m) * (l.v:Rat)≤1000000 + 1000 * t
  grind
theorem rh.new {t:Rat} {p v:Int} (t0:0≤t) (ht:Sc hW MM t) (hp:p.natAbs≤1000000) (hv:v.natAbs≤1000):rh ⟨t,(p:Rat),v⟩:=by
 have p1:(p:Rat)≤1000000:=by
  have:((p:Int):Rat)≤((1000000:Int):Rat):=Rat.intCast_le_intCast.mpr (by omega)
  exact this
 have p2:-1000000≤(p:Rat):=by
  have:((-1000000:Int):Rat)≤((p:Int):Rat):=Rat.intCast_le_intCast.mpr (by omega)
  exact this
 refine ⟨t0,ht,⟨p * hW,by rw [Rat.intCast_mul];rfl⟩,?_,?_,hv⟩
 ·show -(1000000 + 1000 * t)≤(p:Rat)
  grind
 ·show (p:Rat)≤1000000 + 1000 * t
  grind
def Bh (b:aD) (l:List aD):List aD:=if b∈l then l else iG b l
theorem sX {b x:aD} {l:List aD}:x∈iG b l↔x=b∨x∈l:=wj (lt:=aD.lt)
theorem CA {b x:aD} {l:List aD}:x∈Bh b l↔x=b∨x∈l:=by
 unfold Bh
 split
 ·rename_i h
  exact ⟨.inr,fun z=>by rcases z with rfl | z;exact h;exact z⟩
 ·exact sX
theorem CB {b:aD} {l:List aD} (s:i_ l):i_ (Bh b l):=by
 unfold Bh
 split
 ·exact s
 ·rename_i h
  exact wg s fun x hx e=>h (e ▸ hx)
def sh (bs:List aD):List aD:=bs.foldl (fun acc b=>Bh b acc) []
theorem tj (bs:List aD) (b:aD):sh (bs ++ [b])=Bh b (sh bs):=by unfold sh;rw [List.foldl_append];rfl
theorem wQ (bs:List aD) (x:aD):x∈sh bs↔x∈bs:=by
 refine snoc_ind (p:=fun bs=>∀ x:aD,x∈sh bs↔x∈bs) (fun x=>by simp [sh]) (fun bs y ih x=>?_) bs x
 rw [tj,CA,ih,List.mem_append,List.mem_singleton]
 exact Or.comm
theorem wR (bs:List aD):i_ (sh bs):=by
 refine snoc_ind (p:=fun bs=>i_ (sh bs)) List.Pairwise.nil (fun bs y ih=>?_) bs
 rw [tj];exact CB ih
theorem m4 {l k:List aD} (h:i_ l) (h':i_ k) (e:∀ x,x∈l↔x∈k):l=k:=m3 (lt:=aD.lt) aD.Jh aD.lt_trans h h' e
def cY (t:Rat) (a b:Ky):Rat:=t + (b.p - a.p) / ((a.v - b.v:Int):Rat)
def gQ (t:Rat) (a b:Ky):aD:=⟨cY t a b,a.n,b.n⟩
def eK (t:Rat) (ks:List Ky) (m:Rat):List aD:=sh (((ks.flatMap fun a=>ks.map fun b=>(a,b)).filter fun p=>decide (p.2.v < p.1.v∧p.1.p < p.2.p∧cY t p.1 p.2≤m)).map fun p=>gQ t p.1 p.2)
theorem kJ {t m:Rat} {ks:List Ky} {x:aD}:x∈eK t ks m↔∃ a∈ks,∃ b∈ks,b.v < a.v∧a.p < b.p∧cY t a b≤m∧x=gQ t a b:=by
 unfold eK
 rw [wQ,List.mem_map]
 constructor
 ·rintro ⟨⟨a,b⟩,h,rfl⟩
  rw [List.mem_filter,List.mem_flatMap] at h
  obtain ⟨⟨c,hc,h1⟩,h2⟩:=h
  obtain ⟨d,hd,e⟩:=List.mem_map.mp h1
  cases e
  have h2:=of_decide_eq_true h2
  exact ⟨_,hc,_,hd,h2.1,h2.2.1,h2.2.2,rfl⟩
 ·rintro ⟨a,ha,b,hb,h1,h2,h3,rfl⟩
  exact ⟨(a,b),List.mem_filter.mpr ⟨List.mem_flatMap.mpr ⟨a,ha,List.mem_map.mpr ⟨b,hb,rfl⟩⟩,decide_eq_true ⟨h1,h2,h3⟩⟩,rfl⟩
theorem kK (t m:Rat) (ks:List Ky):i_ (eK t ks m):=wR _
def fI (t:Rat) (ks:List Ky):List aD:=sh ((((cu ks).zip (cu ks).tail).filter fun p=>decide (p.2.v < p.1.v)).map fun p=>gQ t p.1 p.2)
theorem cW {α:Type} {l:List α} {a b:α}:(a,b)∈l.zip l.tail↔∃ i:Nat,l[i]?=some a∧l[i + 1]?=some b:=by
 constructor
 ·intro h
  obtain ⟨i,hi⟩:=List.mem_iff_getElem?.mp h
  obtain ⟨h1,h2⟩:=List.getElem?_zip_eq_some.mp hi
  exact ⟨i,h1,by rw [List.getElem?_tail] at h2;exact h2⟩
 ·rintro ⟨i,h1,h2⟩
  exact List.mem_iff_getElem?.mpr ⟨i,List.getElem?_zip_eq_some.mpr ⟨h1,by rw [List.getElem?_tail];exact h2⟩⟩
theorem yg {t:Rat} {ks:List Ky} {x:aD}:x∈fI t ks↔∃ (i:Nat) (a b:Ky),(cu ks)[i]?=some a∧(cu ks)[i + 1]?=some b∧b.v < a.v∧x=gQ t a b:=by
 unfold fI
 rw [wQ,List.mem_map]
 constructor
 ·rintro ⟨⟨a,b⟩,h,rfl⟩
  rw [List.mem_filter] at h
  obtain ⟨i,h1,h2⟩:=cW.mp h.1
  exact ⟨i,a,b,h1,h2,of_decide_eq_true h.2,rfl⟩
 ·rintro ⟨i,a,b,h1,h2,h3,rfl⟩
  exact ⟨(a,b),List.mem_filter.mpr ⟨cW.mpr ⟨i,h1,h2⟩,decide_eq_true h3⟩,rfl⟩
theorem yh (t:Rat) (ks:List Ky):i_ (fI t ks):=wR _
theorem BU {t m:Rat} {ks js:List Ky} (e:∀ x,x∈ks↔x∈js):eK t ks m=eK t js m :=
 m4 (kK _ _ _) (kK _ _ _) fun x=>by
  rw [kJ,kJ]
  constructor
  ·rintro ⟨a,ha,b,hb,r⟩;exact ⟨a,(e a).mp ha,b,(e b).mp hb,r⟩
  ·rintro ⟨a,ha,b,hb,r⟩;exact ⟨a,(e a).mpr ha,b,(e b).mpr hb,r⟩
theorem ye {t:Rat} {ks js:List Ky} (h:(ks.map Ky.n).Nodup) (k:(js.map Ky.n).Nodup) (e:∀ x,x∈ks↔x∈js):fI t ks=fI t js:=by
 unfold fI;rw [wU h k e]
def mD (l l':aV):Rat:=(l'.at 0 - l.at 0) / ((l.v - l'.v:Int):Rat)
theorem EJ {a b:Int} (h:a≠b):((a - b:Int):Rat)≠0:=by
 intro e
 have:(a - b:Int)=0:=by exact_mod_cast (show ((a - b:Int):Rat)=((0:Int):Rat) from e)
 omega
theorem o4 {t:Rat} {n n':Str} {l l':aV} (h:l.v≠l'.v):mD l l'=cY t (key t (n,l)) (key t (n',l')):=by
 have k:=EJ h
 unfold mD cY key aV.at
 dsimp only
 rw [Rat.intCast_sub] at *
 grind
theorem Ej {a b:Rat} (ha:0 < a) (hb:0 < b):0 < a / b:=by
 have e:a / b * b=a:=by grind
 rcases Rat.le_total (a:=a / b) (b:=0) with h | h
 ·have:=Rat.mul_le_mul_of_nonneg_right h (Rat.le_of_lt hb)
  rw [e,Rat.zero_mul] at this
  exact absurd ha (Rat.not_lt.mpr this)
 ·rcases (by grind:a / b=0∨0 < a / b) with h | h
  ·rw [h,Rat.zero_mul] at e;rw [← e] at ha;exact absurd ha Rat.lt_irrefl
  ·exact h
def FO (t:Rat) (l l':aV):Option Rat:=if l.v≠l'.v∧t < mD l l' then some (mD l l') else none
theorem FP {t:Rat} {n n':Str} {l l':aV} (h:(key t (n,l)).lt (key t (n',l'))=true):(l.v≠l'.v∧t < mD l l')↔(l'.v < l.v∧l.at t < l'.at t):=by
 rw [Ky.lt_iff] at h
 unfold key at h
 dsimp only at h
 constructor
 ·rintro ⟨h1,h2⟩
  rw [o4 (t:=t) (n:=n) (n':=n') h1] at h2
  unfold cY key at h2
  dsimp only at h2
  have k:=EJ h1
  have h3:0 < (l'.at t - l.at t) / ((l.v - l'.v:Int):Rat):=by grind
  have hp:l.at t≠l'.at t:=by
   intro e
   rw [e] at h3
   have:(l'.at t - l'.at t) / ((l.v - l'.v:Int):Rat)=0:=by grind
   rw [this] at h3
   exact absurd h3 Rat.lt_irrefl
  have hlt:l.at t < l'.at t:=by
   rcases h with h | ⟨h,_⟩
   ·exact h
   ·exact absurd h hp
  refine ⟨?_,hlt⟩
  rcases (by omega:l'.v < l.v∨l.v < l'.v) with q | q
  ·exact q
  ·exfalso
   have hn:((l.v - l'.v:Int):Rat) < 0:=by
    have:((l.v - l'.v:Int):Rat) < ((0:Int):Rat):=Rat.intCast_lt_intCast.mpr (by omega)
    exact this
   have hd:0 < l'.at t - l.at t:=by grind
   have e:(l'.at t - l.at t) / ((l.v - l'.v:Int):Rat) * ((l.v - l'.v:Int):Rat)=l'.at t - l.at t:=by grind
   generalize (l'.at t - l.at t) / ((l.v - l'.v:Int):Rat)=z at h3 e
   have:z * ((l.v - l'.v:Int):Rat) < 0:=by
    have:=Rat.mul_lt_mul_of_pos_left hn h3
    rwa [Rat.mul_zero] at this
   grind
 ·rintro ⟨h1,h2⟩
  have hne:l.v≠l'.v:=by omega
  refine ⟨hne,?_⟩
  rw [o4 (t:=t) (n:=n) (n':=n') hne]
  unfold cY key
  dsimp only
  have hpos:0 < ((l.v - l'.v:Int):Rat):=by
   have:((0:Int):Rat) < ((l.v - l'.v:Int):Rat):=Rat.intCast_lt_intCast.mpr (by omega)
   exact this
  have hd:0 < l'.at t - l.at t:=by grind
  have:0 < (l'.at t - l.at t) / ((l.v - l'.v:Int):Rat):=Ej hd hpos
  grind
end Ov
namespace Ov
def fA (t:Rat) (c:Ky × Ky→Bool) (rows:List aD) (p:Ky × Ky):List aD:=if c p=true then iG (gQ t p.1 p.2) (cP p.1.n p.2.n rows) else rows
def bq (t:Rat) (c:Ky × Ky→Bool) (ps:List (Ky × Ky)):List aD:=ps.foldl (fA t c) []
theorem dm (t:Rat) (c:Ky × Ky→Bool) (ps:List (Ky × Ky)) (p:Ky × Ky):bq t c (ps ++ [p])=fA t c (bq t c ps) p:=by unfold bq;rw [List.foldl_append];rfl
theorem fc (t:Rat) (c:Ky × Ky→Bool) (ps:List (Ky × Ky)):i_ (bq t c ps):=by
 refine snoc_ind (p:=fun ps=>i_ (bq t c ps)) List.Pairwise.nil (fun l x ih=>?_) ps
 rw [dm]
 unfold fA
 split
 ·exact wg (sP ih) Fw
 ·exact ih
theorem kI (t:Rat) (c:Ky × Ky→Bool) (ps:List (Ky × Ky)):(bq t c ps).length≤ps.length:=by
 refine snoc_ind (p:=fun ps=>(bq t c ps).length≤ps.length) (Nat.le_refl _) (fun l x ih=>?_) ps
 rw [dm,List.length_append]
 unfold fA
 split
 ·rw [qi]
  have:=nC x.1.n x.2.n (bq t c l)
  simp only [List.length_cons,List.length_nil];omega
 ·omega
theorem f_ {t:Rat} {c:Ky × Ky→Bool} {x:aD} (ps:List (Ky × Ky)):x∈bq t c ps→∃ p∈ps,c p=true∧x=gQ t p.1 p.2:=by
 refine snoc_ind (p:=fun ps=>x∈bq t c ps→∃ p∈ps,c p=true∧x=gQ t p.1 p.2) (fun h=>by cases h) (fun l y ih h=>?_) ps
 rw [dm] at h
 unfold fA at h
 split at h
 ·rename_i hc
  rcases C7 h with e | h
  ·exact ⟨y,by simp,hc,e⟩
  ·obtain ⟨p,hp,k⟩:=ih (List.mem_filter.mp h).1
   exact ⟨p,List.mem_append.mpr (.inl hp),k⟩
 ·obtain ⟨p,hp,k⟩:=ih h
  exact ⟨p,List.mem_append.mpr (.inl hp),k⟩
def rH (ps:List (Ky × Ky)):Prop:=∀ p∈ps,∀ q∈ps,p.1.n=q.1.n→p.2.n=q.2.n→p=q
theorem nF {t:Rat} {c:Ky × Ky→Bool} {x:aD} (ps:List (Ky × Ky)):rH ps→(x∈bq t c ps↔∃ p∈ps,c p=true∧x=gQ t p.1 p.2):=by
 refine snoc_ind (p:=fun ps=>rH ps→(x∈bq t c ps↔∃ p∈ps,c p=true∧x=gQ t p.1 p.2)) (fun _=>Iff.intro (fun h=>nomatch h) (fun h=>by obtain ⟨_,h,_⟩:=h;cases h)) (fun l y ih inj=>?_) ps
 have ih:=ih fun p hp q hq=>inj p (List.mem_append.mpr (.inl hp)) q (List.mem_append.mpr (.inl hq))
 refine ⟨f_ _,?_⟩
 rintro ⟨p,hp,hc,rfl⟩
 rw [dm]
 unfold fA
 have hold:p∈l→gQ t p.1 p.2∈bq t c l:=fun h=>ih.mpr ⟨p,h,hc,rfl⟩
 split
 ·rename_i hy
  rw [sX]
  by_cases e:p=y
  ·left;rw [e]
  ·right
   have hl:p∈l:=by
    rcases List.mem_append.mp hp with h | h
    ·exact h
    ·exact absurd (by simpa using h) e
   refine List.mem_filter.mpr ⟨hold hl,?_⟩
   unfold tE
   have:¬ ((gQ t p.1 p.2).h=y.1.n∧(gQ t p.1 p.2).f=y.2.n):=fun z=>e (inj p hp y (by simp) z.1 z.2)
   rw [decide_eq_false this];rfl
 ·rename_i hy
  rcases List.mem_append.mp hp with h | h
  ·exact hold h
  ·have:p=y:=by simpa using h
   subst this;exact absurd hc hy
theorem sV {t:Rat} {c:Ky × Ky→Bool} {ps:List (Ky × Ky)} {p:Ky × Ky} (inj:rH (ps ++ [p])) (h:p ∉ ps):cP p.1.n p.2.n (bq t c ps)=bq t c ps:=by
 unfold cP
 refine List.filter_eq_self.mpr fun x hx=>?_
 obtain ⟨q,hq,_,rfl⟩:=f_ _ hx
 unfold tE
 have:¬ ((gQ t q.1 q.2).h=p.1.n∧(gQ t q.1 q.2).f=p.2.n):=fun z=>by
  have:=inj q (List.mem_append.mpr (.inl hq)) p (by simp) z.1 z.2
  subst this;exact h hq
 rw [decide_eq_false this];rfl
theorem rH.of {ks:List Ky} (h:(ks.map Ky.n).Nodup) {ps:List (Ky × Ky)} (hp:∀ p∈ps,p.1∈ks∧p.2∈ks):rH ps:=fun p h1 q h2 e1 e2=>by
 have a:=iJ h p.1 (hp p h1).1 q.1 (hp q h2).1 e1
 have b:=iJ h p.2 (hp p h1).2 q.2 (hp q h2).2 e2
 cases p;cases q;simp only at a b;rw [a,b]
def xP (ks:List Ky):Nat→List (Ky × Ky)
 | 0=>[]
 | i + 1=>xP ks i ++ (match ks[i]? with | some a=>(ks.drop (i + 1)).map fun b=>(a,b) | none=>[])
theorem m8 {ks:List Ky} {p:Ky × Ky}:∀ {i:Nat},p∈xP ks i↔∃ i' j,i' < i∧i' < j∧ks[i']?=some p.1∧ks[j]?=some p.2
 | 0=>⟨fun h=>(by cases h),fun ⟨_,_,h,_⟩=>by omega⟩
 | i + 1=>by
  unfold xP
  rw [List.mem_append,m8 (i:=i)]
  constructor
  ·rintro (⟨i',j,h1,h⟩ | h)
   ·exact ⟨i',j,by omega,h⟩
   ·cases e:ks[i]? with
    | none=>rw [e] at h;cases h
    | some a =>
     rw [e] at h
     obtain ⟨b,hb,rfl⟩:=List.mem_map.mp h
     obtain ⟨j,hj⟩:=List.mem_iff_getElem?.mp hb
     rw [List.getElem?_drop] at hj
     exact ⟨i,_,by omega,by omega,e,hj⟩
  ·rintro ⟨i',j,h1,h2,h3,h4⟩
   by_cases e:i' < i
   ·exact .inl ⟨i',j,e,h2,h3,h4⟩
   ·have:i'=i:=by omega
    subst this
    right
    rw [h3]
    refine List.mem_map.mpr ⟨p.2,List.mem_iff_getElem?.mpr ⟨j - (i' + 1),?_⟩,rfl⟩
    rw [List.getElem?_drop,show i' + 1 + (j - (i' + 1))=j by omega];exact h4
def bU (t m:Rat) (p:Ky × Ky):Bool:=decide (p.2.v < p.1.v∧p.1.p < p.2.p∧cY t p.1 p.2≤m)
def cI (p:Ky × Ky):Bool:=decide (p.2.v < p.1.v)
theorem G5 {t m:Rat} {ks:List Ky} (h:(ks.map Ky.n).Nodup):bq t (bU t m) (xP (cu ks) (cu ks).length)=eK t ks m:=by
 have hs:=cR h
 have hn:((cu ks).map Ky.n).Nodup:=k6 hs (fun x hx y hy e=>iJ h x ((bz _ _).mp hx) y ((bz _ _).mp hy) e)
 refine m4 (fc _ _ _) (kK _ _ _) fun x=>?_
 rw [nF _ (rH.of hn fun p hp=>by
  obtain ⟨i,j,_,_,h3,h4⟩:=m8.mp hp
  exact ⟨List.mem_of_getElem? h3,List.mem_of_getElem? h4⟩),kJ]
 constructor
 ·rintro ⟨p,hp,hc,rfl⟩
  obtain ⟨i,j,_,_,h3,h4⟩:=m8.mp hp
  have hc:=of_decide_eq_true hc
  exact ⟨p.1,(bz _ _).mp (List.mem_of_getElem? h3),p.2,(bz _ _).mp (List.mem_of_getElem? h4),hc.1,hc.2.1,hc.2.2,rfl⟩
 ·rintro ⟨a,ha,b,hb,h1,h2,h3,rfl⟩
  obtain ⟨i,hi⟩:=List.mem_iff_getElem?.mp ((bz _ _).mpr ha)
  obtain ⟨j,hj⟩:=List.mem_iff_getElem?.mp ((bz _ _).mpr hb)
  have hab:a.lt b=true:=(Ky.lt_iff a b).mpr (.inl h2)
  have hij:i < j:=by
   obtain ⟨hil,ei⟩:=List.getElem?_eq_some_iff.mp hi
   obtain ⟨hjl,ej⟩:=List.getElem?_eq_some_iff.mp hj
   rcases Nat.lt_trichotomy i j with z | z | z
   ·exact z
   ·subst z;rw [ei] at ej;subst ej;rw [Ky.E7] at hab;cases hab
   ·have:=List.pairwise_iff_getElem.mp hs j i hjl hil z
    rw [ei,ej] at this
    rw [Ky.KI this] at hab;cases hab
  exact ⟨(a,b),m8.mpr ⟨i,j,(List.getElem?_eq_some_iff.mp hi).1,hij,hi,hj⟩,decide_eq_true ⟨h1,h2,h3⟩,rfl⟩
theorem vV {t m:Rat} {ks:List Ky} (h:(ks.map Ky.n).Nodup):bq t (bU t m) (ks.flatMap fun a=>ks.map fun b=>(a,b))=eK t ks m:=by
 have hm:∀ p:Ky × Ky,p∈(ks.flatMap fun a=>ks.map fun b=>(a,b))↔p.1∈ks∧p.2∈ks:=fun p=>by
  rw [List.mem_flatMap]
  constructor
  ·rintro ⟨a,ha,hb⟩
   obtain ⟨b,hb',rfl⟩:=List.mem_map.mp hb
   exact ⟨ha,hb'⟩
  ·rintro ⟨ha,hb⟩
   exact ⟨p.1,ha,List.mem_map.mpr ⟨p.2,hb,rfl⟩⟩
 refine m4 (fc _ _ _) (kK _ _ _) fun x=>?_
 rw [nF _ (rH.of h fun p hp=>(hm p).mp hp),kJ]
 constructor
 ·rintro ⟨p,hp,hc,rfl⟩
  have hc:=of_decide_eq_true hc
  exact ⟨p.1,((hm p).mp hp).1,p.2,((hm p).mp hp).2,hc.1,hc.2.1,hc.2.2,rfl⟩
 ·rintro ⟨a,ha,b,hb,h1,h2,h3,rfl⟩
  exact ⟨(a,b),(hm _).mpr ⟨ha,hb⟩,decide_eq_true ⟨h1,h2,h3⟩,rfl⟩
theorem rb {t:Rat} {ks:List Ky} (h:(ks.map Ky.n).Nodup):bq t cI ((cu ks).zip (cu ks).tail)=fI t ks:=by
 have hs:=cR h
 have hn:((cu ks).map Ky.n).Nodup:=k6 hs (fun x hx y hy e=>iJ h x ((bz _ _).mp hx) y ((bz _ _).mp hy) e)
 refine m4 (fc _ _ _) (yh _ _) fun x=>?_
 rw [nF _ (rH.of hn fun p hp=>by
  obtain ⟨i,h3,h4⟩:=cW.mp (show (p.1,p.2)∈_ from hp)
  exact ⟨List.mem_of_getElem? h3,List.mem_of_getElem? h4⟩),yg]
 constructor
 ·rintro ⟨p,hp,hc,rfl⟩
  obtain ⟨i,h3,h4⟩:=cW.mp (show (p.1,p.2)∈_ from hp)
  exact ⟨i,p.1,p.2,h3,h4,of_decide_eq_true hc,rfl⟩
 ·rintro ⟨i,a,b,h1,h2,h3,rfl⟩
  exact ⟨(a,b),cW.mpr ⟨i,h1,h2⟩,decide_eq_true h3,rfl⟩
end Ov
set_option maxHeartbeats 4000000
namespace Ov
open PySem PySem.Spec PyProof.Rows L2
def top (i:Nat):Stmt:=PySem.Challenge.pw_overhaul_k27_foretold.main.body.getD i (.Pass ⟨0,0,0,0⟩)
set_option compiler.extract_closed false
set_option hygiene false
local macro_rules | `(tactic| dsimp! only [$ls,*])=>`(tactic| simp only [GZ,AW,zi,qa,GY,AZ,GU,A2,ET,M1,B7,tC,rI,E8,rU,OS,OW,GP,GO,GQ,Int.reduceLT,GX,xK,zk,H0,q_,G0,EO,GV,AX,AU,GW,EM,My,tB,MY,AV,MX,As,FA,zS,Fx,zY,zZ,Hd,L8,L_,HL,Ma,Pe,dH,fN,lq,CG,HO.lst.injEq,HO.tup.injEq,List.set_cons_zero,List.set_cons_succ,List.getElem?_cons_zero,List.getElem?_cons_succ,Option.some.injEq,exists_eq_left',exists_eq_left,exists_and_left,exists_eq,exists_eq',V.int.injEq,V.bl.injEq,V.ref.injEq,V.str.injEq,V.ty.injEq,decide_eq_true_eq,true_and,and_true,List.cons.injEq,List.append_nil,List.cons_append,List.nil_append,reduceCtorEq,Bool.not_eq_true',decide_eq_false_iff_not,and_assoc,ite_not,if_true,if_false,Bool.false_eq_true,decide_true,decide_false,L2.start,List.map_cons,List.map_nil,List.length_cons,List.length_nil,Nat.reduceAdd,Nat.reduceSub,List.replicate,t_,Cx.Jk,Cx.ra,false_and,and_false,exists_false,false_or,or_false,id,dk,Option.getD_some,L9,M0,AY,pG,Mi,Kb,Fz,HS,$ls,*])
local macro_rules | `(tactic| simp_arith [$t:term])=>`(tactic| refine ON F $t (fun xs J Q E h=>?_) (fun cdv A outer s H E G xs J Q E2 hr h B=>?_))
local macro_rules | `(tactic| simp_arith! only [$ls,*])=>`(tactic| simp only [Gv,N6,Nn,LW,LZ,jw,rC,vL,OY,rB,Mj,Gu,N3,Mc,HJ,Md,HN,OU,sj,kg,Ml,Mb,OT,Av,HP,OX,L5,NY,L4,xf,L6,Gy,Gx,qJ,Au,Mg,HR,y0,Fy,OB,OA,OC,si,Me,HK,n6,xg,OF,OH,OG,O8,NZ,N0,Ea,qI,qU,LU,OR,Eb,HF,LY,LX,NX,LK,JF,LN,JD,D',NW,uS,LV,D_,Aq,LL,NB,NA,K',NK,NL,Lf,Ld,Hk,Oh,MH,Of,Oi,Oj,Oe,MK,MD,H_,MC,MF,MB,ME,Ny,Nz,K7,Nr,Nu,Nw,Nx,Nt,Nv,Oa,Oc,Ob,HE,Iy,IA,KW,Iz,KY,An,uP,JC,Gq,uO,eq_int,eq_str,K0,zO,IT,IU,MJ,I9,qp,IK,zh,List.map_cons,List.map_nil,List.length_cons,List.length_nil,Nat.reduceAdd,Nat.reduceSub,Nat.reduceLeDiff,List.replicate,List.cons_append,List.nil_append,List.append_nil,List.getElem?_cons_zero,List.getElem?_cons_succ,List.set_cons_zero,List.set_cons_succ,Option.some.injEq,exists_eq_left',exists_eq_left,exists_and_left,exists_eq,exists_eq',PV.int.injEq,PV.bl.injEq,PV.ref.injEq,PV.str.injEq,PV.ty.injEq,PV.tup.injEq,PV.fl.injEq,HQ.lst.injEq,HQ.ins.injEq,HQ.dct.injEq,decide_eq_true_eq,true_and,and_true,List.cons.injEq,reduceCtorEq,Bool.not_eq_true',decide_eq_false_iff_not,and_assoc,ite_not,if_true,if_false,Bool.false_eq_true,decide_true,decide_false,false_and,and_false,exists_false,false_or,or_false,id,dH,fN,lq,CG,KJ,KL,KN,KO,KP,KQ,Ir,Iu,Pg,Bool.not_true,Bool.not_false,Option.map_some,av,Bool.and_true,Bool.true_and,Bool.and_false,Bool.false_and,Hm,Lg,Lh,Li,Lj,Lk,Ll,Lm,Lo,Lp,I_,Jb,Jc,MI,ty_int,ty_bool,ty_str,Kg,ty_list,String.reduceEq,List.isEmpty_cons,List.isEmpty_nil,oh,Option.getD_some,List.not_mem_nil,exists_const,LP,Gs,LQ,Ec,HH,HI,HM,OD,JE,Ar,uT,OE,$ls,*])
local macro_rules | `(tactic| simp_all! only [$ls,*])=>`(tactic| repeat (first | refine JT ?_ | simp_arith! only [$ls,*]))
section
variable {P:Program} {w:World} {K:PySem.W.Frag} {mg:Str→Option Value} {base:Heap}
abbrev mP:Stmt:=(top 12)
theorem og:L2.aw ["one","two"] ["one","two"] (L2.aj mP):=dT
def qX:Sp:=fun vs H Q _=>∃ a b:Int,vs=[.int a,.int b]∧Q (.int (Int.gcd a b:Nat)) H
theorem BJ {f:Addr} {fd:FuncData} (F:cm K "shared" "shared" mP f fd) (Z:Cd mg):aO P w K mg base pK 1 f fd ["one","two"] qX:=by
 refine F.ok og (fun vs H Q E h=>?_) (fun cdv A outer s H vs Q E hr h=>?_)
 ·obtain ⟨a,b,rfl,_⟩:=h
  rfl
 obtain ⟨a,b,rfl,q⟩:=h
 refine ⟨_,(QB.run (aZ (nY (i:=0) (j:=1) rfl og.nd rfl rfl (by decide) rfl rfl (aW (dU mi rfl Z.abs boot_abs (aW (pv 0) bK)) (aW (dU mi rfl Z.abs boot_abs (aW (pv 1) bK)) bK)) rfl)
   (aZ (kb PassesOwn.never (dA Hy (pv 1) aP (ay _)) (bL (nY (i:=0) (j:=1) rfl og.nd rfl rfl (by decide) rfl rfl (aW (pv 1) (aW (bB gB (pv 0) (pv 1)) bK)) rfl)))
   (bL (dN (pv 0)))))),?_⟩
 refine ⟨_,rfl,a,rfl,_,rfl,b,rfl,_,_,rfl,?_⟩
 refine xN (fun σ H'=>∃ x y:Int,σ=[some (.int x),some (.int y)]∧H=H'∧0≤x∧0≤y∧Int.gcd x y=Int.gcd a b) (fun σ _=>match σ with | [_,some (.int y)]=>y.toNat | _=>0)
  ⟨_,_,rfl,rfl,by split <;> omega,by split <;> omega,FC a b⟩ ?_ (fun σ H Q Q' m h=>?_)
 ·rintro σ H' ⟨x,y,rfl,rfl,hx,hy,hg⟩
  dsimp! only [rJoin]
  split
  ·rename_i hy0
   subst hy0
   rw [← hg,zT hx] at q
   exact q
  ·rename_i hy0
   have h1:=Int.emod_lt_of_pos x (show 0 < y by omega)
   have h2:=Int.emod_nonneg x hy0
   exact ⟨by omega,hy,h2,(we hy0).trans hg,by omega⟩
 ·obtain ⟨v,e,hs,k,ek,hq⟩:=h
  exact ⟨v,e,hs,k,ek,m _ _ hq⟩
def Dig:List Int→List Int→Prop
 | [],[]=>True
 | d :: ds,s :: ss=>(0≤d∧d < s)∧Dig ds ss
 | _,_=>False
theorem Dig.snoc:∀ {ds ss:List Int} {d s:Int},Dig ds ss→0≤d→d < s→Dig (ds ++ [d]) (ss ++ [s])
 | [],[],_,_,_,h0,h1=>⟨⟨h0,h1⟩,trivial⟩
 | _ :: _,_ :: _,_,_,h,h0,h1=>⟨h.1,Dig.snoc h.2 h0 h1⟩
 | [],_ :: _,_,_,h,_,_=>h.elim
 | _ :: _,[],_,_,h,_,_=>h.elim
theorem Dig.cons:∀ {ds ss:List Int} {s:Int},Dig ds (s :: ss)→∃ d r,ds=d :: r∧0≤d∧d < s∧Dig r ss
 | [],_,_,h=>h.elim
 | d :: r,_,_,h=>⟨d,r,rfl,h.1.1,h.1.2,h.2⟩
theorem Dig.nil:∀ {ds:List Int},Dig ds []→ds=[]
 | [],_=>rfl
 | _ :: _,h=>h.elim
theorem Dig.len:∀ {ds ss:List Int},Dig ds ss→ds.length=ss.length
 | [],[],_=>rfl
 | _ :: _,_ :: _,h=>congrArg Nat.succ (Dig.len h.2)
 | [],_ :: _,h=>h.elim
 | _ :: _,[],h=>h.elim
theorem take_snoc {xs:List Int} {i:Nat} {x:Int} (h:xs[i]?=some x):xs.take (i + 1)=xs.take i ++ [x]:=by
 rw [List.take_add_one,h]
 rfl
theorem qj {ns:List Int} {i:Nat} {y:V} (h:(ns.map V.int)[i]?=some y):∃ z,y=V.int z∧ns[i]?=some z:=by
 rw [List.getElem?_map] at h
 cases e:ns[i]? with
 | none=>rw [e] at h;cases h
 | some z=>rw [e] at h;exact ⟨z,(Option.some.inj h).symm,rfl⟩
abbrev u_:Stmt:=(top 44)
theorem GI:L2.aw ["_law_script","_law_k"] ["_law_script","_law_k"] (L2.aj u_):=dT
abbrev mL:Stmt:=(top 45)
theorem dF:L2.aw ["_law_cell_here","_law_sizes","_law_out","_law_rest","_law_size","_law_one","_law_k","_law_two"] ["_law_cell_here","_law_sizes"] (L2.aj mL):=dT
def qT (K:PySem.W.Frag):Sp:=fun vs H Q _=>∃ (c:Int) (a:Addr) (ss:List Int),vs=[.int c,.ref a]∧c7 K H a (ss.map V.int)∧(∀ s∈ss,0 < s∧Bd 9000 s)∧ss.length≤1000 ∧
 ∀ (r:Addr) (H':Hp) (ds:List Int),H r=none→bG H H'→H' r=some (.lst (ds.map V.int))→Dig ds ss→Q (.ref r) H'
theorem BI {f:Addr} {fd:FuncData} (F:cm K "_law_digits" "_law_digits" mL f fd) (Z:Cd mg):aO P w K mg base pK 1 f fd ["_law_cell_here","_law_sizes"] (qT K):=by
 refine F.ok dF (fun vs H Q E h=>?_) (fun cdv A outer s H vs Q E hr h=>?_)
 ·obtain ⟨c,a,ss,rfl,_⟩:=h
  rfl
 obtain ⟨c,a,ss,rfl,hS,hs,hl,q⟩:=h
 refine ⟨_,(QB.run (aZ (cV (i:=2) dF.nd rfl (Or.inl rfl) (j_ bK))
   (aZ (mG (dA Hv (pv 0) (bB DR aP aP) (ay _)) (aZ (cV (i:=3) dF.nd rfl (Or.inl rfl) (bB yL (pv 0) (bB DR aP aP)))
   (aZ (nX PassesOwn.never rfl (mF (pv 1)) (kL (i:=4) dF.nd rfl (Or.inl rfl)) (aZ (kO (qE PySem.F.plainAttrs_list PySem.F.slot_list_append PySem.F.type_list_append f' (pv 2) (aW (bB gB (pv 3) (pv 4)) bK)))
   (bL (cV (i:=3) dF.nd rfl (Or.inl rfl) (bB gA (pv 3) (pv 4))))))
   (bL (dN (pv 2))))) fR)
   (aZ (cV (i:=5) dF.nd rfl (Or.inl rfl) (bB gB (pv 0) aP))
   (aZ (nX PassesOwn.never rfl (gd rfl Z.range (aW (dU jf rfl Z.len boot_len (aW (pv 1) bK)) bK)) (kL (i:=6) dF.nd rfl (Or.inl rfl)) (aZ (cV (i:=5) dF.nd rfl (Or.inl rfl) (bB gB (bB jv (bB cM (pv 5) aP) (bB cM aP (bB jv (pv 6) aP))) aP))
   (aZ (cV (i:=7) dF.nd rfl (Or.inl rfl) (bB gB (bB jv (bB jv (bB cM (pv 5) (pv 5)) (bB cM aP (pv 5))) (pv 6)) aP))
   (bL (kO (qE PySem.F.plainAttrs_list PySem.F.slot_list_append PySem.F.type_list_append f' (pv 2) (aW (bB gB (bB gA (pv 7) aP) (cj uf (pv 1) (pv 6) (fun _ _=>rfl))) bK)))))))
   (bL (dN (pv 2)))))))),?_⟩
 refine ⟨Nat.zero_le _,fun r hr'=>?_⟩
 have g0:=bG.new hr' (.lst [])
 refine ⟨_,rfl,_,_,rfl,rfl,⟨by decide,by decide,by decide⟩,_,_,rfl,rfl,_,rfl,?_⟩
 refine Dg (fun _=>?_) (fun _=>?_)
 ·refine ⟨_,rfl,_,_,rfl,rfl,⟨by decide,by decide,by decide⟩,_,_,rfl,rfl,?_⟩
  refine ⟨_,rfl,a,rfl,⟨_,g0.seq hS⟩,C0 (K:=K) (a:=a) (xs:=ss.map V.int) (fun i σ H2=>∃ (ds:List Int) (rest:Int) (u:Option V),σ=[some (.int c),some (.ref a),some (.ref r),some (.int rest),u,none,none,none] ∧
   bG H H2∧H2 r=some (.lst (ds.map V.int))∧Dig ds (ss.take i)) ⟨[],_,none,rfl,g0,aJ,trivial⟩ (fun i σ H2 _ ⟨_,_,_,_,s2,_⟩=>s2.seq hS) ?_ ?_⟩
  ·rintro i y σ H2 hi ⟨ds,rest,u,rfl,s2,hd,hD⟩
   obtain ⟨z,rfl,hz⟩:=qj hi
   obtain ⟨z0,zb⟩:=hs z (List.mem_of_getElem? hz)
   have hil:i < ss.length:=(List.getElem?_eq_some_iff.mp hz).1
   have dl:=hD.len
   rw [List.length_take] at dl
   refine ⟨_,rfl,.inl ⟨rfl,_,c7.of hd⟩,_,rfl,_,rfl,_,_,rfl,rfl,z0,r,_,_,rfl,rfl,hd,?_,?_⟩
   ·rw [List.length_map]
    exact a9 (by omega)
   refine ⟨_,rfl,_,rfl,_,_,rfl,rfl,⟨by omega,zb⟩,?_⟩
   refine ⟨ds ++ [rest % z],_,_,rfl,s2.Ks hr' _,?_,?_⟩
   ·rw [aJ,List.map_append]
    rfl
   ·rw [take_snoc hz]
    exact hD.snoc (Int.emod_nonneg _ (by omega)) (Int.emod_lt_of_pos _ z0)
  ·rintro σ H2 ⟨ds,rest,u,rfl,s2,hd,hD⟩
   rw [List.length_map,List.take_length] at hD
   exact ⟨_,rfl,q r H2 ds hr' s2 hd hD⟩
 ·refine ⟨_,rfl,_,_,rfl,rfl,(show (0:Int) < 2147483647 by decide),?_⟩
  refine ⟨_,rfl,a,_,rfl,.inl (g0.seq hS),_,rfl,?_,?_,sW (lo:=0) (n:=(ss.map V.int).length) (fun i σ H2=>∃ (ds:List Int) (one:Int) (u v:Option V),σ=[some (.int c),some (.ref a),some (.ref r),none,none,some (.int one),u,v] ∧
   0≤one∧one < 2147483647∧bG H H2∧H2 r=some (.lst (ds.map V.int))∧Dig ds (ss.take i)) ⟨[],_,none,none,rfl,Int.emod_nonneg _ (by decide),Int.emod_lt_of_pos _ (by decide),g0,aJ,trivial⟩ ?_ ?_⟩
  ·omega
  ·rw [List.length_map];omega
  ·rintro i σ H2 hi ⟨ds,one,u,v,rfl,o0,o1,s2,hd,hD⟩
   rw [List.length_map] at hi
   have hz:ss[i]?=some ss[i]:=List.getElem?_eq_getElem hi
   obtain ⟨z0,zb⟩:=hs ss[i] (List.getElem_mem hi)
   have dl:=hD.len
   rw [List.length_take] at dl
   have e1:c_ (ss.map V.int) (0 + (i:Int))=some (.int ss[i]):=by
    rw [Int.zero_add]
    exact ba (by rw [List.getElem?_map,hz];rfl)
   dsimp! only [rJoin]
   have A0:0≤(one * 48271 + 10007 * (0 + (i:Int) + 1)) % 2147483629:=Int.emod_nonneg _ (by decide)
   have A1:(one * 48271 + 10007 * (0 + (i:Int) + 1)) % 2147483629 < 2147483629:=Int.emod_lt_of_pos _ (by decide)
   generalize (one * 48271 + 10007 * (0 + (i:Int) + 1)) % 2147483629=A at A0 A1 ⊢
   generalize ((A * A + 69621 * A + (0 + (i:Int))) % 2147483563).fdiv 11=B
   have small:∀ x:Int,0≤x→x < 2147483648→Bd 64 x:=fun x h1 h2=>Bd.small (by omega) (by omega)
   refine ⟨.of (small _ o0 (by omega)) (small _ (by decide) (by decide)),.of (small _ (by decide) (by decide)) (small _ (by omega) (by omega)),.of (small _ A0 (by omega)) (small _ A0 (by omega)),
    .of (small _ (by decide) (by decide)) (small _ A0 (by omega)),.inl ⟨rfl,_,c7.of hd⟩,⟨by decide,(small _ (by decide) (by decide)).mono (by decide)⟩,_,s2.seq hS,_,e1,_,rfl,z0,_,hd,?_,A0,by omega,s2.Ks hr' _,ds ++ [B % ss[i]],?_,?_⟩
   ·rw [List.length_map]
    exact a9 (by omega)
   ·rw [aJ,List.map_append]
    rfl
   ·rw [take_snoc hz]
    exact hD.snoc (Int.emod_nonneg _ (by omega)) (Int.emod_lt_of_pos _ z0)
  ·rintro σ H2 ⟨ds,one,u,v,rfl,o0,o1,s2,hd,hD⟩
   rw [List.length_map,List.take_length] at hD
   exact ⟨_,rfl,q r H2 ds hr' s2 hd hD⟩
def KC (H:Hp) (q:Rat) (Q:VK):Prop:=∀ (r:Addr) (H':Hp),bG H H'→H' r=some (.tup [.int q.num,.int q.den])→Q (.ref r) H'
abbrev jA:Stmt:=(top 13)
theorem ko:L2.aw ["top","bottom","divisor"] ["top","bottom"] (L2.aj jA):=dT
def gI:Sp:=fun vs H Q _=>∃ t b:Int,vs=[.int t,.int b]∧b≠0∧Bd 9000 b∧KC H (Rat.divInt t b) Q
theorem C3 {n:Nat} {t b:Int} (h:b≠0) (hb:Bd n b):Bd n ((Int.gcd t b:Nat):Int):=hb.le (by have:=IM (t:=t) h;omega)
theorem wJ {f:Addr} {fd:FuncData} (F:cm K "fraction" "fraction" jA f fd) (Z:Cd mg) (iz:rd P w K mg base 1 "shared" ["one","two"] qX):aO P w K mg base pK 2 f fd ["top","bottom"] gI:=by
 refine F.ok ko (fun vs H Q E h=>?_) (fun cdv A outer s H vs Q E hr h=>?_)
 ·obtain ⟨t,b,rfl,_⟩:=h
  rfl
 obtain ⟨t,b,rfl,hb,bb,q⟩:=h
 have hg:=zU (t:=t) hb
 have gb:=C3 (t:=t) hb bb
 refine ⟨_,(QB.run (aZ (mG (dA DQ (pv 1) aP (ay _)) nZ fR)
   (aZ (cV (i:=2) ko.nd rfl (Or.inl rfl) (w8 iz hr (by decide) rfl (aW (pv 0) (aW (pv 1) bK))))
   (w_ (mG (dA Ah (pv 1) aP (ay _)) (bL (cV (i:=2) ko.nd rfl (Or.inl rfl) (Ak EZ (pv 2)))) fR)
   (bL (dN (qG (aW (bB gA (pv 0) (pv 2)) (aW (bB gA (pv 1) (pv 2)) bK))))))))),?_⟩
 refine ⟨_,rfl,rfl,_,rfl,?_⟩
 refine Dg (fun c=>absurd (V.int.inj (of_decide_eq_true c)) hb) (fun _=>?_)
 refine ⟨_,rfl,_,rfl,t,b,rfl,?_⟩
 refine ⟨fun σ' H'=>∃ d:Int,σ'=[some (.int t),some (.int b),some (.int d)]∧H=H'∧d≠0∧Bd 9000 d∧t.fdiv d=(Rat.divInt t b).num∧b.fdiv d=(Rat.divInt t b).den,?_,?_⟩
 ·refine ⟨_,rfl,_,_,rfl,rfl,_,rfl,Dg (fun c=>?_) (fun c=>?_)⟩
  ·have c':b < 0:=of_decide_eq_true c
   exact ⟨_,rfl,_,rfl,_,rfl,rfl,by omega,gb.neg,Ag c',Fu c'⟩
  ·have c':0 < b:=by
    have:=of_decide_eq_false (Bool.eq_false_iff.mpr c)
    omega
   exact ⟨_,rfl,rfl,by omega,gb,ur c',den_pos c'⟩
 rintro _ _ ⟨d,rfl,rfl,hd,bd,e1,e2⟩
 refine ⟨_,rfl,_,rfl,_,_,rfl,rfl,⟨hd,bd⟩,_,rfl,_,rfl,_,_,rfl,rfl,⟨hd,bd⟩,(by show 2≤sizeLine;decide),fun p hp=>?_⟩
 exact q p _ (bG.new hp _) (by rw [aJ];show some (HO.tup [V.int (t.fdiv d),V.int (b.fdiv d)])=_;rw [e1,e2])
abbrev Ay:Stmt:=(top 47)
theorem vm:L2.aw ["_law_top","_law_bottom","_law_one","_law_two"] ["_law_top","_law_bottom"] (L2.aj Ay):=dT
def HV:Sp:=fun vs H Q _=>∃ t b:Int,vs=[.int t,.int b]∧0 < b∧Bd 9000 b∧KC H (Rat.divInt t b) Q
theorem Jm {f:Addr} {fd:FuncData} (F:cm K "_law_low" "_law_low" Ay f fd) (Z:Cd mg):aO P w K mg base pK 1 f fd ["_law_top","_law_bottom"] HV:=by
 refine F.ok vm (fun vs H Q E h=>?_) (fun cdv A outer s H vs Q E hr h=>?_)
 ·obtain ⟨t,b,rfl,_⟩:=h
  rfl
 obtain ⟨t,b,rfl,hb,bb,q⟩:=h
 have hg:=zU (t:=t) (show b≠0 by omega)
 have gb:=C3 (t:=t) (show b≠0 by omega) bb
 refine ⟨_,(QB.run (aZ (cV (i:=2) vm.nd rfl (Or.inl rfl) (dU mi rfl Z.abs boot_abs (aW (pv 0) bK)))
   (aZ (cV (i:=3) vm.nd rfl (Or.inl rfl) (pv 1))
   (aZ (kb PassesOwn.never (dA Hy (pv 3) aP (ay _)) (bL (nY (i:=2) (j:=3) rfl vm.nd rfl rfl (by decide) rfl rfl (aW (pv 3) (aW (bB gB (pv 2) (pv 3)) bK)) rfl)))
   (bL (dN (qG (aW (bB gA (pv 0) (pv 2)) (aW (bB gA (pv 1) (pv 2)) bK))))))))),?_⟩
 refine ⟨_,rfl,t,rfl,_,rfl,?_⟩
 refine xN (fun σ H'=>∃ x y:Int,σ=[some (.int t),some (.int b),some (.int x),some (.int y)]∧H=H'∧0≤x∧0≤y∧Int.gcd x y=Int.gcd t b) (fun σ _=>match σ with | [_,_,_,some (.int y)]=>y.toNat | _=>0)
  ⟨_,_,rfl,rfl,by split <;> omega,by omega,C2 t b⟩ ?_ (fun σ H Q Q' m h=>?_)
 ·rintro σ H' ⟨x,y,rfl,rfl,hx,hy,hg'⟩
  dsimp! only [rJoin]
  split
  ·rename_i hy0
   subst hy0
   have ex:x=((Int.gcd t b:Nat):Int):=by rw [← hg',zT hx]
   subst ex
   refine ⟨⟨by omega,gb⟩,⟨by omega,gb⟩,(by show 2≤sizeLine;decide),fun p hp=>?_⟩
   exact q p _ (bG.new hp _) (by rw [aJ,ur hb,den_pos hb])
  ·rename_i hy0
   have h1:=Int.emod_lt_of_pos x (show 0 < y by omega)
   have h2:=Int.emod_nonneg x hy0
   exact ⟨by omega,hy,h2,(we hy0).trans hg',by omega⟩
 ·obtain ⟨v,e,hs,k,ek,hq⟩:=h
  exact ⟨v,e,hs,k,ek,m _ _ hq⟩
theorem EK {m n:Nat} {t b:Int} (hb:b≠0) (h1:Bd m t) (h2:Bd n b) (k:Nat) (hm:m≤k) (hn:n≤k):Sz k (Rat.divInt t b) :=
 ⟨(h1.le (Af t b)).mono hm,(h2.le (ua hb)).mono hn⟩
theorem uq (p q:Rat):(p.den:Int) * (q.den:Int)≠0:=Int.mul_ne_zero (fb p) (fb q)
theorem Sz.add {m n k:Nat} {p q:Rat} (h:Sz m p) (g:Sz n q) (hk:m + n + 1≤k:=by decide):Sz k (p + q):=by
 rw [← add_eq]
 exact EK (uq p q) (.add (.mul h.num g.den (Nat.le_refl _)) (.mul g.num h.den (Nat.le_refl _)) (Nat.le_refl _)) (.mul h.den g.den (Nat.le_refl _)) k (by omega) (by omega)
theorem Sz.sub {m n k:Nat} {p q:Rat} (h:Sz m p) (g:Sz n q) (hk:m + n + 1≤k:=by decide):Sz k (p - q):=by
 rw [← sub_eq]
 exact EK (uq p q) (.sub (.mul h.num g.den (Nat.le_refl _)) (.mul g.num h.den (Nat.le_refl _)) (Nat.le_refl _)) (.mul h.den g.den (Nat.le_refl _)) k (by omega) (by omega)
theorem Sz.mul {m n k:Nat} {p:Rat} {i:Int} (h:Sz m p) (g:Bd n i) (hk:m + n≤k:=by decide):Sz k (p * i):=by
 rw [← mul_eq]
 exact EK (fb p) (.mul h.num g (Nat.le_refl _)) h.den k hk (by omega)
def Ms (K:PySem.W.Frag) (g:Rat→Rat→Rat):Sp:=fun vs H Q _=>∃ (a b:Addr) (p q:Rat),vs=[.ref a,.ref b]∧Kj K H a p∧Kj K H b q∧Sz 4000 p∧Sz 4000 q∧KC H (g p q) Q
abbrev ve:Stmt:=(top 14)
theorem GN:L2.aw ["one","two"] ["one","two"] (L2.aj ve):=dT
theorem F1 {f:Addr} {fd:FuncData} (F:cm K "plus" "plus" ve f fd) (Z:Cd mg) (bY:rd P w K mg base 2 "fraction" ["top","bottom"] gI):aO P w K mg base pK 3 f fd ["one","two"] (Ms K fun p q=>p + q):=by
 refine F.ok GN (fun vs H Q E h=>?_) (fun cdv A outer s H vs Q E hr h=>?_)
 ·obtain ⟨a,b,p,q,rfl,_⟩:=h
  rfl
 obtain ⟨a,b,p,q,rfl,ha,hb,sp,sq,k⟩:=h
 refine ⟨_,(QB.run (bL (dN (w8 bY hr (by decide) rfl (aW (bB jv (bB cM (cj cT (pv 0) aP (fun _ _=>rfl)) (cj cT (pv 1) aP (fun _ _=>rfl))) (bB cM (cj cT (pv 1) aP (fun _ _=>rfl)) (cj cT (pv 0) aP (fun _ _=>rfl)))) (aW (bB cM (cj cT (pv 0) aP (fun _ _=>rfl)) (cj cT (pv 1) aP (fun _ _=>rfl))) bK)))))),?_⟩
 refine ⟨_,rfl,_,_,_,_,rfl,rfl,ha,rfl,_,rfl,_,_,_,_,rfl,rfl,hb,rfl,_,_,rfl,rfl,.of sp.num sq.den,_,rfl,_,_,_,_,rfl,rfl,hb,rfl,_,rfl,_,_,_,_,rfl,rfl,ha,rfl,_,_,rfl,rfl,.of sq.num sp.den,_,_,rfl,rfl,_,rfl,_,_,_,_,rfl,rfl,ha,rfl,_,rfl,_,_,_,_,rfl,rfl,hb,rfl,_,_,rfl,rfl,.of sp.den sq.den,_,_,rfl,uq p q,.mul sp.den sq.den,?_⟩
 rw [add_eq]
 exact k
abbrev ph:Stmt:=(top 15)
theorem Eo:L2.aw ["one","two"] ["one","two"] (L2.aj ph):=dT
theorem DH {f:Addr} {fd:FuncData} (F:cm K "minus" "minus" ph f fd) (Z:Cd mg) (bY:rd P w K mg base 2 "fraction" ["top","bottom"] gI):aO P w K mg base pK 3 f fd ["one","two"] (Ms K fun p q=>p - q):=by
 refine F.ok Eo (fun vs H Q E h=>?_) (fun cdv A outer s H vs Q E hr h=>?_)
 ·obtain ⟨a,b,p,q,rfl,_⟩:=h
  rfl
 obtain ⟨a,b,p,q,rfl,ha,hb,sp,sq,k⟩:=h
 refine ⟨_,(QB.run (bL (dN (w8 bY hr (by decide) rfl (aW (bB yL (bB cM (cj cT (pv 0) aP (fun _ _=>rfl)) (cj cT (pv 1) aP (fun _ _=>rfl))) (bB cM (cj cT (pv 1) aP (fun _ _=>rfl)) (cj cT (pv 0) aP (fun _ _=>rfl)))) (aW (bB cM (cj cT (pv 0) aP (fun _ _=>rfl)) (cj cT (pv 1) aP (fun _ _=>rfl))) bK)))))),?_⟩
 refine ⟨_,rfl,_,_,_,_,rfl,rfl,ha,rfl,_,rfl,_,_,_,_,rfl,rfl,hb,rfl,_,_,rfl,rfl,.of sp.num sq.den,_,rfl,_,_,_,_,rfl,rfl,hb,rfl,_,rfl,_,_,_,_,rfl,rfl,ha,rfl,_,_,rfl,rfl,.of sq.num sp.den,_,_,rfl,rfl,_,rfl,_,_,_,_,rfl,rfl,ha,rfl,_,rfl,_,_,_,_,rfl,rfl,hb,rfl,_,_,rfl,rfl,.of sp.den sq.den,_,_,rfl,uq p q,.mul sp.den sq.den,?_⟩
 rw [sub_eq]
 exact k
abbrev pq:Stmt:=(top 16)
theorem Er:L2.aw ["one","many"] ["one","many"] (L2.aj pq):=dT
def AO (K:PySem.W.Frag):Sp:=fun vs H Q _=>∃ (a:Addr) (p:Rat) (m:Int),vs=[.ref a,.int m]∧Kj K H a p∧Sz 9000 p∧Bd 9000 m∧KC H (p * m) Q
theorem DJ {f:Addr} {fd:FuncData} (F:cm K "times" "times" pq f fd) (Z:Cd mg) (bY:rd P w K mg base 2 "fraction" ["top","bottom"] gI):aO P w K mg base pK 3 f fd ["one","many"] (AO K):=by
 refine F.ok Er (fun vs H Q E h=>?_) (fun cdv A outer s H vs Q E hr h=>?_)
 ·obtain ⟨a,p,m,rfl,_⟩:=h
  rfl
 obtain ⟨a,p,m,rfl,ha,sp,bm,k⟩:=h
 refine ⟨_,(QB.run (bL (dN (w8 bY hr (by decide) rfl (aW (bB cM (cj cT (pv 0) aP (fun _ _=>rfl)) (pv 1)) (aW (cj cT (pv 0) aP (fun _ _=>rfl)) bK)))))),?_⟩
 refine ⟨_,rfl,_,_,_,_,rfl,rfl,ha,rfl,_,rfl,_,_,rfl,rfl,.of sp.num bm,_,rfl,_,_,_,_,rfl,rfl,ha,rfl,_,_,rfl,fb p,sp.den,?_⟩
 rw [mul_eq]
 exact k
abbrev vc:Stmt:=(top 17)
theorem GK:L2.aw ["one","two"] ["one","two"] (L2.aj vc):=dT
def EB (K:PySem.W.Frag):Sp:=fun vs H Q _=>∃ (a b:Addr) (p q:Rat),vs=[.ref a,.ref b]∧Kj K H a p∧Kj K H b q∧Sz 9000 p∧Sz 9000 q∧Q (.bl (decide (p < q))) H
theorem FL (p q:Rat):decide (p.num * q.den < q.num * p.den)=decide (p < q):=decide_eq_decide.mpr (Rat.lt_iff p q).symm
theorem F0 {f:Addr} {fd:FuncData} (F:cm K "less" "less" vc f fd) (Z:Cd mg):aO P w K mg base pK 1 f fd ["one","two"] (EB K):=by
 refine F.ok GK (fun vs H Q E h=>?_) (fun cdv A outer s H vs Q E hr h=>?_)
 ·obtain ⟨a,b,p,q,rfl,_⟩:=h
  rfl
 obtain ⟨a,b,p,q,rfl,ha,hb,sp,sq,k⟩:=h
 refine ⟨_,(QB.run (bL (dN (o7 Ah (bB cM (cj cT (pv 0) aP (fun _ _=>rfl)) (cj cT (pv 1) aP (fun _ _=>rfl))) (bB cM (cj cT (pv 1) aP (fun _ _=>rfl)) (cj cT (pv 0) aP (fun _ _=>rfl))) (ay _))))),?_⟩
 refine ⟨_,rfl,_,_,_,_,rfl,rfl,ha,rfl,_,rfl,_,_,_,_,rfl,rfl,hb,rfl,_,_,rfl,rfl,.of sp.num sq.den,_,rfl,_,_,_,_,rfl,rfl,hb,rfl,_,rfl,_,_,_,_,rfl,rfl,ha,rfl,_,_,rfl,rfl,.of sq.num sp.den,_,_,rfl,rfl,?_⟩
 show Q (.bl (decide (p.num * q.den < q.num * p.den))) H
 rw [FL]
 exact k
theorem Aa {K:PySem.W.Frag} {J:Hq} {H:Hp}:∀ {ns:List Int} {vs:List V},aS K J H (ns.map PV.int) vs→vs=ns.map V.int
 | [],_,h=>h
 | n :: ns,_,⟨v,us,e,h,k⟩=>by subst e;cases h;rw [Aa k];rfl
theorem Jo {K:PySem.W.Frag} {J:Hq} {H:Hp} {x:PV} {vs:List V} (h:aS K J H [x] vs):∃ v,vs=[v]∧cq K J H x v:=by
 obtain ⟨v,us,rfl,h1,h2⟩:=h;cases h2;exact ⟨v,rfl,h1⟩
theorem jI {K:PySem.W.Frag} {J:Hq} {H:Hp} {x y:PV} {vs:List V} (h:aS K J H [x,y] vs):∃ v u,vs=[v,u]∧cq K J H x v∧cq K J H y u:=by
 obtain ⟨v,us,rfl,h1,u,us',rfl,h2,h3⟩:=h;cases h3;exact ⟨v,u,rfl,h1,h2⟩
theorem p_ {K:PySem.W.Frag} {J:Hq} {H:Hp} {q:Rat} {v:V} (h:cq K J H (fr q) v):∃ a,v=.ref a∧Kj K H a q:=by
 obtain ⟨a,vs,rfl,h1,h2⟩:=h
 obtain ⟨x,y,rfl,r1,r2⟩:=jI h2
 cases r1;cases r2
 exact ⟨a,rfl,h1⟩
theorem uW {K:PySem.W.Frag} {J:Hq} {H:Hp} {q:Rat} {Q2:PV→Hq→Prop} {Q:VK} (r:Rep K J H) (k:Kn K J H Q2 Q) (h:Q2 (fr q) J):KC H q Q:=fun a H' s e =>
 k (fr q) J (.ref a) H' ⟨a,_,rfl,gM.of e,⟨_,_,rfl,rfl,_,_,rfl,rfl,rfl⟩⟩ (r.same s) (.same s) h
def zd:cH:=fun xs J Q _=>∃ (c:Int) (ss:List Int),xs=[.int c,.fl (ss.map .int)]∧(∀ s∈ss,0 < s∧Bd 9000 s)∧ss.length≤1000∧∀ ds,Dig ds ss→Q (.fl (ds.map .int)) J
theorem wu (C:rd P w K mg base 1 "_law_digits" ["_law_cell_here","_law_sizes"] (qT K)):bh P w K mg base 1 "_law_digits" ["_law_cell_here","_law_sizes"] zd:=C.lift fun xs J vs H Q2 E2 Q E rs r ⟨c,ss,ex,h0,h1,q⟩ kn=>by
 subst ex
 obtain ⟨v,u,rfl,r1,⟨a,ws,rfl,h2,h3⟩⟩:=jI rs
 cases r1;cases Aa h3
 refine ⟨c,a,ss,rfl,h2.sq,h0,h1,fun p H' ds hp s e D=>kn (.fl (ds.map .int)) J (.ref p) H' ⟨p,_,rfl,.inl ⟨r.free hp,.inl e⟩,n8 ds⟩ (r.same s) (.same s) (q ds D)⟩
def jF:cH:=fun xs J Q _=>∃ t b:Int,xs=[.int t,.int b]∧0 < b∧Bd 9000 b∧Q (fr (Rat.divInt t b)) J
theorem Dt (C:rd P w K mg base 1 "_law_low" ["_law_top","_law_bottom"] HV):bh P w K mg base 1 "_law_low" ["_law_top","_law_bottom"] jF:=C.lift fun xs J vs H Q2 E2 Q E rs r ⟨t,b,ex,h0,h1,q⟩ kn=>by
 subst ex
 obtain ⟨v,u,rfl,r1,r2⟩:=jI rs
 cases r1;cases r2
 exact ⟨t,b,rfl,h0,h1,uW r kn q⟩
def dG:cH:=fun xs J Q _=>∃ p q:Rat,xs=[fr p,fr q]∧Sz 9000 p∧Sz 9000 q∧Q (.bl (decide (p < q))) J
theorem By (C:rd P w K mg base 1 "less" ["one","two"] (EB K)):bh P w K mg base 1 "less" ["one","two"] dG:=C.lift fun xs J vs H Q2 E2 Q E rs r ⟨p,q,ex,h0,h1,z⟩ kn=>by
 subst ex
 obtain ⟨v,u,rfl,r1,r2⟩:=jI rs
 obtain ⟨a,rfl,f1⟩:=p_ r1
 obtain ⟨b,rfl,f2⟩:=p_ r2
 exact ⟨a,b,p,q,rfl,f1,f2,h0,h1,kn (.bl _) J _ H rfl r .refl z⟩
def y_ (g:Rat→Rat→Rat):cH:=fun xs J Q _=>∃ p q:Rat,xs=[fr p,fr q]∧Sz 4000 p∧Sz 4000 q∧Q (fr (g p q)) J
theorem Hl {x:Str} {ps:List Str} {k:Nat} {g:Rat→Rat→Rat} (C:rd P w K mg base k x ps (Ms K g)):bh P w K mg base k x ps (y_ g):=C.lift fun xs J vs H Q2 E2 Q E rs r ⟨p,q,ex,h0,h1,z⟩ kn=>by
 subst ex
 obtain ⟨v,u,rfl,r1,r2⟩:=jI rs
 obtain ⟨a,rfl,f1⟩:=p_ r1
 obtain ⟨b,rfl,f2⟩:=p_ r2
 exact ⟨a,b,p,q,rfl,f1,f2,h0,h1,uW r kn z⟩
theorem Bz (C:rd P w K mg base 3 "plus" ["one","two"] (Ms K fun p q=>p + q)):bh P w K mg base 3 "plus" ["one","two"] (y_ fun p q=>p + q):=Hl C
theorem yw (C:rd P w K mg base 3 "minus" ["one","two"] (Ms K fun p q=>p - q)):bh P w K mg base 3 "minus" ["one","two"] (y_ fun p q=>p - q):=Hl C
def qY:cH:=fun xs J Q _=>∃ (p:Rat) (m:Int),xs=[fr p,.int m]∧Sz 9000 p∧Bd 9000 m∧Q (fr (p * m)) J
theorem yy (C:rd P w K mg base 3 "times" ["one","many"] (AO K)):bh P w K mg base 3 "times" ["one","many"] qY:=C.lift fun xs J vs H Q2 E2 Q E rs r ⟨p,m,ex,h0,h1,z⟩ kn=>by
 subst ex
 obtain ⟨v,u,rfl,r1,r2⟩:=jI rs
 obtain ⟨a,rfl,f1⟩:=p_ r1
 cases r2
 exact ⟨a,p,m,rfl,f1,h0,h1,uW r kn z⟩
def aV.V (l:aV):PV:=.tup [fr l.m,fr l.p,.int l.v]
theorem xM (m p:Rat) (v:Int):PV.tup [fr m,fr p,.int v]=(aV.mk m p v).V:=rfl
theorem wm (J:Hq) (l:aV):fK J l.V (.int 0)=some (fr l.m):=dH _ _
theorem Hf (J:Hq) (l:aV):fK J l.V (.int 1)=some (fr l.p):=fN _ _ _
theorem j0 (J:Hq) (l:aV):fK J l.V (.int 2)=some (.int l.v):=lq _ _ _ _
theorem Og (J:Hq) (l:aV):zp J l.V=some "tuple":=rfl
theorem Le (J:Hq) (l:aV):um J l.V=some 3:=rfl
theorem HC (l:aV):mH l.V=true:=by simp [aV.V,Ao,n4,xa,uO,An]
theorem Ni (l:aV):Fq l.V=True:=eq_true ⟨HC l,by simp [aV.V,fr,gE,gF,dep,dR]⟩
theorem K1 (a b:aV):eqQ a.V b.V=decide (a=b):=by
 unfold aV.V
 rw [ub,dS,dS,dS,oX,zO,zO,eq_int,Bool.and_true,← Bool.decide_and,← Bool.decide_and]
 apply decide_eq_decide.mpr
 cases a;cases b
 simp [aV.mk.injEq]
theorem KG (a b:aV):(a.V=b.V)=(a=b):=by
 apply propext
 constructor
 ·intro e
  have:=K1 a b
  rw [e,eq_self] at this
  exact of_decide_eq_true this.symm
 ·intro e;rw [e]
def mZ:cH:=fun xs J Q _=>∃ (l:aV) (t:Rat),xs=[l.V,fr t]∧Sz 900 l.m∧Sz 900 l.p∧Sz 900 t∧Bd 64 l.v∧Q (fr (l.at t)) J
abbrev jE:Stmt:=(top 25)
theorem g6:L2.aw ["leg","moment","begun","place","pace"] ["leg","moment"] (L2.aj jE):=dT
theorem uD {f:Addr} {fd:FuncData} (F:cm K "place_on" "place_on" jE f fd) (Z:bV mg) (xR:bh P w K mg base 3 "plus" ["one","two"] (y_ fun p q=>p + q)) (l9:bh P w K mg base 3 "minus" ["one","two"] (y_ fun p q=>p - q)) (tQ:bh P w K mg base 3 "times" ["one","many"] qY) :
  aO P w K mg base (c5 P w) 4 f fd ["leg","moment"] (dI K mZ):=by
 simp_arith [g6]
 ·obtain ⟨l,t,rfl,_⟩:=h;rfl
 obtain ⟨l,t,rfl,sb,sp,sm,bv,q⟩:=h
 have s1:Sz 1801 (t - l.m):=sm.sub sb
 have s2:Sz 1900 ((t - l.m) * (l.v:Rat)):=s1.mul bv
 refine ⟨_,(ai (uX (rv 0) (qM rfl (cZ (bF (i:=2) g6.nd rfl (Or.inl rfl)) (cZ (bF (i:=3) g6.nd rfl (Or.inl rfl)) (cZ (bF (i:=4) g6.nd rfl (Or.inl rfl)) mJ)))))
   (ak (az (aM xR B hr (by decide) rfl (af (rv 3) (af (aM tQ B hr (by decide) rfl (af (aM l9 B hr (by decide) rfl (af (rv 1) (af (rv 2) ah))) (af (rv 4) ah))) ah)))))),?_⟩
 simp_arith! only [cK,aV.V,y_,qY]
 exact ⟨rfl,sm.mono (by decide),sb.mono (by decide),s1.mono (by decide),bv.mono (by decide),sp.mono (by decide),s2.mono (by decide),q⟩
theorem IL (n:Int):PV.tup [.int n,.int 1]=fr (n:Rat):=rfl
theorem kF (p q:Rat):p.num * (q.den:Int)=q.num * (p.den:Int)↔p=q:=by
 have a:=cast_eq p
 have b:=cast_eq q
 have c:=dQ p
 have d:=dQ q
 constructor
 ·intro h
  have h':((p.num * (q.den:Int):Int):Rat)=((q.num * (p.den:Int):Int):Rat):=by rw [h]
  rw [Rat.intCast_mul,Rat.intCast_mul,a,b] at h'
  grind
 ·intro h;rw [h]
def gv:Option Rat→PV
 | none=>.non
 | some q=>fr q
structure E5 (cL:Addr) (J:Hq) (p r:Addr) (rows:List aV) (g:Option Rat):Prop where
 o:J p=some (.ins cL [("rows",.ref r),("gone",gv g)])
 l:J r=some (.lst (rows.map aV.V))
theorem E5.ne {cL:Addr} {J:Hq} {p r:Addr} {rows:List aV} {g:Option Rat} (h:E5 cL J p r rows g):r≠p:=by
 intro e;subst e;have:=h.o;rw [h.l] at this;cases this
structure ox (n:Nat) (l:aV):Prop where
 m:Sz n l.m
 p:Sz n l.p
 v:Bd 64 l.v
theorem ox.mono {n k:Nat} {l:aV} (h:ox n l) (e:n≤k):ox k l:=⟨h.m.mono e,h.p.mono e,h.v⟩
theorem Je (a b:PV):([("rows",a),("gone",b)]:List (Str × PV)).lookup ("rows":Str)=some a:=rfl
theorem Pa (a b:PV):([("rows",a),("gone",b)]:List (Str × PV)).lookup ("gone":Str)=some b:=rfl
theorem Du {m:Str} (a b:PV) (h:(m == ("rows":Str))=false) (k:(m == ("gone":Str))=false):([("rows",a),("gone",b)]:List (Str × PV)).lookup m=none:=by rw [List.lookup_cons,h];simp only;rw [List.lookup_cons,k];rfl
theorem Lu (a b:PV):([("rows",a),("gone",b)]:List (Str × PV)).lookup ("turn":Str)=none:=Du a b (by decide +kernel) (by decide +kernel)
theorem NG (a b:PV):([("rows",a),("gone",b)]:List (Str × PV)).lookup ("leave":Str)=none:=Du a b (by decide +kernel) (by decide +kernel)
theorem NH (a b:PV):([("rows",a),("gone",b)]:List (Str × PV)).lookup ("legs":Str)=none:=Du a b (by decide +kernel) (by decide +kernel)
theorem NI (a b:PV):([("rows",a),("gone",b)]:List (Str × PV)).lookup ("there":Str)=none:=Du a b (by decide +kernel) (by decide +kernel)
theorem NJ (a b:PV):([("rows",a),("gone",b)]:List (Str × PV)).lookup ("leg_at":Str)=none:=Du a b (by decide +kernel) (by decide +kernel)
theorem Ht:(("rows":Str)=("gone":Str))=False:=eq_false (by decide +kernel)
theorem gx {J:Hq} {l:Addr} {o:HQ} (h:J l=none):nu J (put J l o):=fun a=>by
 by_cases e:a=l
 ·subst e;exact .inr h
 ·rw [au e];exact .inl rfl
theorem Gk (x z:PV):n6 ("gone":Str) z (n6 ("rows":Str) x [])=([("rows",x),("gone",z)]:List (Str × PV)):=by simp only [n6,Ht,if_false]
abbrev eV:Stmt:=(L2.inClass (top 29) 0)
theorem oS:L2.aw ["self","moment","place","pace"] ["self","moment","place","pace"] (L2.aj eV):=dT
def AH (cL:Addr):cH:=fun xs J Q _=>∃ (p:Addr) (l:aV),xs=[.ref p,fr l.m,fr l.p,.int l.v]∧J p=some (.ins cL [])∧∀ r,J r=none→Q .non (put (put J r (.lst [l.V])) p (.ins cL [("rows",.ref r),("gone",.non)]))
theorem wG {cL f:Addr} {fd:FuncData} (F:cm K "__init__" "Log.__init__" eV f fd) (bt:dt K mg "Log" cL) (aR:aF K cL "rows") (bM:aF K cL "gone"):aO P w K mg base (c5 P w) 1 f fd ["self","moment","place","pace"] (dI K (AH cL)):=by
 simp_arith [oS]
 ·obtain ⟨p,l,rfl,_⟩:=h;rfl
 obtain ⟨p,l,rfl,hp,q⟩:=h
 refine ⟨_,(ai (iu bt.cl aR (rv 0) (ki (af (cG (af (rv 1) (af (rv 2) (af (rv 3) ah)))) ah)))
   (ak (iu bt.cl bM (rv 0) lT))),?_⟩
 simp_arith! only [cK,xM]
 intro r hr'
 have ne:p≠r:=by intro e;subst e;rw [hp] at hr';cases hr'
 refine ⟨[],by rw [au ne];exact hp,by decide,by show (1:Nat) < 1000;decide,?_⟩
 rw [d4,Gk]
 exact q r hr'
abbrev jz:Stmt:=(L2.inClass (top 29) 1)
theorem oG:L2.aw ["self","moment","pace","place"] ["self","moment","pace"] (L2.aj jz):=dT
def vB (cL:Addr):cH:=fun xs J Q _=>∃ p r rows g t v,xs=[.ref p,fr t,.int v]∧E5 cL J p r rows g∧rows≠[]∧rows.length≤900∧Sz 900 t∧(∀ l∈rows,ox 900 l)∧Q .non (put J r (.lst ((turned rows t v).map aV.V)))
theorem wI {cL f:Addr} {fd:FuncData} (F:cm K "turn" "Log.turn" jz f fd) (Z:bV mg) (bt:dt K mg "Log" cL) (aR:aF K cL "rows") (d8:bh P w K mg base 4 "place_on" ["leg","moment"] mZ):aO P w K mg base (c5 P w) 5 f fd ["self","moment","pace"] (dI K (vB cL)):=by
 simp_arith [oG]
 ·obtain ⟨p,r,rows,g,t,v,rfl,_⟩:=h;rfl
 obtain ⟨p,r,rows,g,t,v,rfl,b,hne,hl,st,sl,q⟩:=h
 obtain ⟨ls,l,rfl⟩:∃ ls l,rows=ls ++ [l]:=⟨rows.dropLast,rows.getLast hne,(List.dropLast_concat_getLast hne).symm⟩
 have bo:=b.o
 have bl:=b.l
 have npr:=b.ne
 have sl':=sl l (by simp)
 have hla:c_ ((ls ++ [l]).map aV.V) (-1)=some l.V:=by rw [List.map_append];exact zC _ _
 refine ⟨_,(ai (aE (i:=3) oG.nd rfl (Or.inl rfl) (aM d8 B hr (by decide) rfl (af (aq ar (aY bt.cl aR (rv 0)) (tq ou ag) (fun _ _=>rfl)) (af (rv 1) ah))))
   (eL (aU (aI (df hr.aX) (aq ar (aq ar (aY bt.cl aR (rv 0)) (tq ou ag) (fun _ _=>rfl)) ag (fun _ _=>rfl)) (rv 1) (L2.ay _)) (ak (bc (Ek PySem.F.plainAttrs_list PySem.F.slot_list_pop PySem.F.type_list_pop Ji (aY bt.cl aR (rv 0))))) aH)
   (ai (aU (c4 (eQ (JR (aY bt.cl aR (rv 0))) (dB (aI (df hr.aX) (aq ar (aq ar (aY bt.cl aR (rv 0)) (tq ou ag) (fun _ _=>rfl)) ag (fun _ _=>rfl)) (rv 2) (L2.ay _))))) (ak GG) aH)
   (ak (bc (lz PySem.F.plainAttrs_list PySem.F.slot_list_append PySem.F.type_list_append nQ (aY bt.cl aR (rv 0)) (af (cG (af (rv 1) (af (rv 3) (af (rv 2) ah)))) ah))))))),?_⟩
 simp_arith! only [cK,bo,bl,Je]
 refine ⟨_,hla,l,t,rfl,sl'.m,sl'.p,st,sl'.v,?_⟩
 obtain ⟨M,hM⟩:∃ M:Sr→Hq→Prop,∀ τ' J',M τ' J'↔τ'=[some (.ref p),some (fr t),some (.int v),some (fr (l.at t))]∧J'=put J r (.lst ((if l.m=t then ls else ls ++ [l]).map aV.V)):=⟨_,fun _ _=>Iff.rfl⟩
 refine ⟨M,?_,?_⟩
 ·simp_arith! only [cK,bo,bl,Je,hla,wm]
  split
  ·rename_i e
   refine ⟨l.V,by simp,(hM _ _).mpr ⟨rfl,?_⟩⟩
   rw [if_pos e,List.map_append,List.map_cons,List.map_nil,List.dropLast_concat]
  ·rename_i e
   exact (hM _ _).mpr ⟨rfl,by rw [if_neg e,yZ bl]⟩
 ·intro τ' J' hm
  obtain ⟨rfl,rfl⟩:=(hM _ _).mp hm
  clear hm hM M
  have et:turned (ls ++ [l]) t v=if (if l.m=t then ls else ls ++ [l]).getLast?.map aV.v=some v then (if l.m=t then ls else ls ++ [l]) else (if l.m=t then ls else ls ++ [l]) ++ [⟨t,l.at t,v⟩]:=by
   unfold turned
   simp only [List.getLast?_concat,List.dropLast_concat]
  have hrl:(if l.m=t then ls else ls ++ [l]).length≤900:=by
   split
   ·rw [List.length_append] at hl;omega
   ·exact hl
  rw [et] at q
  generalize (if l.m=t then ls else ls ++ [l])=rest at q hrl ⊢
  simp_arith! only [cK,au (Ne.symm npr),bo,Je,d4,xM]
  rcases List.eq_nil_or_concat rest with rfl | ⟨ks,k,rfl⟩
  ·simp only [List.getLast?_nil,Option.map_none,reduceCtorEq,if_false,List.nil_append] at q
   simpa [Hm,sizeLine] using q
  ·rw [List.concat_eq_append] at *
   rw [List.getLast?_concat,Option.map_some] at q
   have hk:c_ ((ks ++ [k]).map aV.V) (-1)=some k.V:=by rw [List.map_append];exact zC _ _
   simp_arith! only [cK,hk,j0,List.length_map]
   rw [if_pos (by simp)]
   by_cases e:k.v=v
   ·rw [if_pos e];rw [if_pos (congrArg some e)] at q;exact q
   ·rw [if_neg e];rw [if_neg (fun z=>e (Option.some.inj z))] at q
    refine ⟨a9 (by omega),?_⟩
    rw [List.map_append] at q
    exact q
abbrev jy:Stmt:=(L2.inClass (top 29) 3)
theorem xo:L2.aw ["self"] ["self"] (L2.aj jy):=dT
def AI (cL:Addr):cH:=fun xs J Q _=>∃ p r rows g,xs=[.ref p]∧E5 cL J p r rows g∧(Q (.fl (rows.map aV.V)) J∨∀ l,J l=none→Q (.ref l) (put J l (.lst (rows.map aV.V))))
theorem wH {cL f:Addr} {fd:FuncData} (F:cm K "legs" "Log.legs" jy f fd) (Z:bV mg) (bt:dt K mg "Log" cL) (aR:aF K cL "rows"):aO P w K mg base (c5 P w) 1 f fd ["self"] (dI K (AI cL)):=by
 refine Hu F xo (fun xs J Q E h=>?_) (fun cdv A outer s H E G xs J Q E2 hr h B=>?_)
 ·obtain ⟨p,r,rows,g,rfl,_⟩:=h;rfl
 obtain ⟨p,r,rows,g,rfl,b,q⟩:=h
 have bo:=b.o
 have bl:=b.l
 refine ⟨_,(ak (az (iP p5 rfl Z.list boot_list (af (aY bt.cl aR (rv 0)) ah)))),?_⟩
 simp_arith! only [cK,bo,bl,Je]
 intro l hl
 rcases q with q | q
 ·exact Fg.oJ (gx hl) av hl q
 ·exact Fg.same (q l hl)
theorem Oz {rows:List aV} {i:Nat} {b:aV} (h:rows[i]?=some b):c_ (rows.map aV.V) (i:Int)=some b.V:=ba (by rw [List.getElem?_map,h];rfl)
abbrev kS:Stmt:=(top 19)
theorem lV:L2.aw ["rows","moment","at"] ["rows","moment"] (L2.aj kS):=dT
def xx:cH:=fun xs J Q _=>∃ (x:PV) (t:Rat) (ys:List PV) (ms:List Rat),xs=[x,fr t]∧lQ J x=some ys∧ys.length=ms.length∧ms.length≤900∧(∀ (i:Nat) y m,ys[i]?=some y→ms[i]?=some m→fK J y (.int 0)=some (fr m))∧Sz 9000 t∧(∀ m∈ms,Sz 9000 m)∧Q (.int ((lb ms t ms.length:Int) - 1)) J
theorem wK {f:Addr} {fd:FuncData} (F:cm K "last_by" "last_by" kS f fd) (Z:bV mg) (d7:bh P w K mg base 1 "less" ["one","two"] dG):aO P w K mg base (c5 P w) 2 f fd ["rows","moment"] (dI K xx):=by
 simp_arith [lV]
 ·obtain ⟨x,t,ys,ms,rfl,_⟩:=h;rfl
 obtain ⟨x,t,ys,ms,rfl,hx,hlen,hl,h0,st,sm,q⟩:=h
 refine ⟨_,(ai (aE (i:=2) lV.nd rfl (Or.inl rfl) (aL dM (aG bH rfl Z.len boot_len (af (rv 0) ah)) ag))
   (ai (iX bR (c4 (eQ (aI DS (rv 2) ag (L2.ay _)) (dB (bj (aM d7 B hr (by decide) rfl (af (rv 1) (af (aq ar (aq ar (rv 0) (rv 2) (fun _ _=>rfl)) ag (fun _ _=>rfl)) ah))))))) (ak (Em (i:=2) lV.nd rfl (Or.inl rfl) ag C_)))
   (ak (az (rv 2))))),?_⟩
 simp_arith! only [cK,yB hx,hlen]
 refine ⟨fun k τ J'=>∃ j:Nat,τ=[some x,some (fr t),some (.int ((j:Int) - 1))]∧J'=J∧j≤ms.length∧k=j∧lb ms t ms.length=lb ms t j,⟨_,ms.length,rfl,rfl,Nat.le_refl _,rfl,rfl⟩,?_⟩
 rintro k τ J' ⟨j,rfl,rfl,hj,rfl,hb⟩
 simp_arith! only [cK,Dw hx,dG]
 cases k with
 | zero =>
  rw [if_neg (by omega)]
  rw [hb] at q
  exact q
 | succ k =>
  rw [if_pos (by omega)]
  obtain ⟨y,hy⟩:∃ y,ys[k]?=some y:=⟨_,List.getElem?_eq_getElem (by omega)⟩
  obtain ⟨m,hm⟩:∃ m,ms[k]?=some m:=⟨_,List.getElem?_eq_getElem (by omega)⟩
  have ha:c_ ys (((k + 1:Nat):Int) - 1)=some y:=by
   have:((k + 1:Nat):Int) - 1=(k:Int):=by omega
   rw [this];exact ba hy
  have em:ms.getD k 0=m:=by simp [List.getD,hm]
  have hu:lb ms t (k + 1)=if m≤t then k + 1 else lb ms t k:=by
   show (if ms.getD k 0≤t then k + 1 else lb ms t k)=_
   rw [em]
  refine ⟨_,ha,_,h0 k y m hy hm,m,rfl,st,sm m (List.mem_of_getElem? hm),?_⟩
  by_cases c:t < m
  ·rw [if_pos c]
   have hn:¬ m≤t:=Rat.not_le.mpr c
   rw [if_neg hn] at hu
   refine ⟨fun τ J''=>τ=[some x,some (fr t),some (.int ((k:Int) - 1))]∧J''=J',fun τ' J'' ⟨e1,e2⟩=>⟨k,Nat.lt_succ_self _,k,e1,e2,by omega,rfl,by rw [hb,hu]⟩,?_⟩
   simp_arith! only [cK]
   have:((k + 1:Nat):Int) - 1 - 1=(k:Int) - 1:=by omega
   exact this
  ·rw [if_neg c]
   rw [if_pos (Rat.not_lt.mp c)] at hu
   rw [hb,hu] at q
   exact q
abbrev gY:Stmt:=(L2.inClass (top 29) 5)
theorem mS:L2.aw ["self","moment","joined"] ["self","moment"] (L2.aj gY):=dT
def xw (cL:Addr):cH:=fun xs J Q _=>∃ p r rows g t,xs=[.ref p,fr t]∧E5 cL J p r rows g∧rows≠[]∧Sz 900 t∧(∀ l∈rows,ox 900 l)∧(∀ q,g=some q→Sz 900 q)∧Q (.bl (there rows g t)) J
theorem uz {cL f:Addr} {fd:FuncData} (F:cm K "there" "Log.there" gY f fd) (Z:bV mg) (bt:dt K mg "Log" cL) (aR:aF K cL "rows") (bM:aF K cL "gone") (d7:bh P w K mg base 1 "less" ["one","two"] dG):aO P w K mg base (c5 P w) 2 f fd ["self","moment"] (dI K (xw cL)):=by
 simp_arith [mS]
 ·obtain ⟨p,r,rows,g,t,rfl,_⟩:=h;rfl
 obtain ⟨p,r,rows,g,t,rfl,b,hne,st,sl,sg,q⟩:=h
 have bo:=b.o
 have bl:=b.l
 obtain ⟨l,ls,rfl⟩:∃ l ls,rows=l :: ls:=List.exists_cons_of_ne_nil hne
 have sl':=(sl l (by simp)).m
 refine ⟨_,(ai (aE (i:=2) mS.nd rfl (Or.inl rfl) (aq ar (aq ar (aY bt.cl aR (rv 0)) ag (fun _ _=>rfl)) ag (fun _ _=>rfl)))
   (ai (aU (bj (aM d7 B hr (by decide) rfl (af (rv 1) (af (rv 2) ah)))) (ak (az dn)) aH)
   (ak (az (Mp (fh LC (aY bt.cl bM (rv 0)) lT (L2.ay _)) (uV (aM d7 B hr (by decide) rfl (af (rv 1) (af (aY bt.cl bM (rv 0)) ah))))))))),?_⟩
 simp_arith! only [cK,bo,bl,Je,Pa,wm,dG]
 refine ⟨st.mono (by decide),sl'.mono (by decide),?_⟩
 unfold there at q
 simp only [List.head?_cons] at q
 by_cases c:t < l.m
 ·rw [if_pos c]
  rw [decide_eq_true c] at q
  exact q
 ·rw [if_neg c]
  rw [decide_eq_false c] at q
  cases g with
  | none=>simpa [gv,K7,H_,MR] using q
  | some u =>
   simp only [gv,qp,Bool.false_eq_true,if_false]
   simp only [MR] at q
   refine ⟨u,rfl,st.mono (by decide),(sg u rfl).mono (by decide),?_⟩
   simpa using q
abbrev f9:Stmt:=(L2.inClass (top 29) 6)
theorem sx:L2.aw ["self","moment"] ["self","moment"] (L2.aj f9):=dT
def xu (cL eN:Addr):cH:=fun xs J Q E=>∃ p r rows g t,xs=[.ref p,fr t]∧E5 cL J p r rows g∧rows≠[]∧rows.length≤900∧Sz 900 t∧(∀ l∈rows,ox 900 l)∧(∀ q,g=some q→Sz 900 q)∧(there rows g t=true→∀ l,wt rows t=some l→Q l.V J)∧(there rows g t=false→E eN J)
theorem sf {cL eN f:Addr} {fd:FuncData} (F:cm K "leg_at" "Log.leg_at" f9 f fd) (Z:bV mg) (bt:dt K mg "Log" cL) (aR:aF K cL "rows") (gj:Own K mg "NotThere" eN) (j6:cJ P w K mg base cL 2 "there" ["self","moment"] (xw cL))
  (A5:bh P w K mg base 2 "last_by" ["rows","moment"] xx):aO P w K mg base (c5 P w) 3 f fd ["self","moment"] (dI K (xu cL eN)):=by
 simp_arith [sx]
 ·obtain ⟨p,r,rows,g,t,rfl,_⟩:=h;rfl
 obtain ⟨p,r,rows,g,t,rfl,b,hne,hl,st,sl,sg,q,qe⟩:=h
 have bo:=b.o
 have bl:=b.l
 refine ⟨_,(ai (aU (bQ (bj (bp (pl:=_) j6 B hr (by decide) (rv 0) (af (rv 1) ah)))) (ak (dW gj rfl cF B.kn rfl (af bW ah))) aH)
   (ak (az (aq ar (aY bt.cl aR (rv 0)) (aM A5 B hr (by decide) rfl (af (aY bt.cl aR (rv 0)) (af (rv 1) ah))) (fun _ _=>rfl))))),?_⟩
 simp_arith! only [cK,bo,bl,Je]
 refine ⟨NI _ _,p,r,rows,g,t,rfl,b,hne,st,sl,sg,?_⟩
 simp_arith! only [cK,fL,bo,bl,Je]
 cases hc:there rows g t with
 | false=>rw [if_pos rfl];exact qe hc
 | true =>
  rw [if_neg (by decide)]
  obtain ⟨l,h1,h2,h3,h4,h5⟩:=EV hc
  refine ⟨_,t,rows.map aV.V,rows.map aV.m,rfl,by simp_arith! only [cK,bl],by simp,by simpa using hl,?_,st.mono (by decide),?_,?_⟩
  ·intro i y m hy hm
   rw [List.getElem?_map] at hy hm
   cases e:rows[i]? with
   | none=>rw [e] at hy;cases hy
   | some z=>rw [e] at hy hm;cases hy;cases hm;exact wm _ _
  ·intro m hm
   obtain ⟨z,hz,rfl⟩:=List.mem_map.mp hm
   exact (sl z hz).m.mono (by decide)
  ·rw [List.length_map]
   simp_arith! only [cK,bl]
   refine ⟨l.V,?_,q hc l h1⟩
   have:((lb (rows.map aV.m) t rows.length:Nat):Int) - 1=((lb (rows.map aV.m) t rows.length - 1:Nat):Int):=by omega
   rw [this]
   exact Oz h5
abbrev gX:Stmt:=(L2.inClass (top 29) 2)
theorem vi:L2.aw ["self","moment"] ["self","moment"] (L2.aj gX):=dT
def xt (cL:Addr):cH:=fun xs J Q _=>∃ p r rows g t,xs=[.ref p,fr t]∧E5 cL J p r rows g∧Q .non (put J p (.ins cL [("rows",.ref r),("gone",fr t)]))
theorem uy {cL f:Addr} {fd:FuncData} (F:cm K "leave" "Log.leave" gX f fd) (Z:bV mg) (bt:dt K mg "Log" cL) (bM:aF K cL "gone"):aO P w K mg base (c5 P w) 1 f fd ["self","moment"] (dI K (xt cL)):=by
 simp_arith [vi]
 ·obtain ⟨p,r,rows,g,t,rfl,_⟩:=h;rfl
 obtain ⟨p,r,rows,g,t,rfl,b,q⟩:=h
 have bo:=b.o
 refine ⟨_,(ak (iu bt.cl bM (rv 0) (rv 1))),?_⟩
 simp_arith! only [cK,bo,Ht]
 exact ⟨by decide,q⟩
theorem jV {l:aV} {t:Rat} (h:ox 900 l) (sm:Sz 900 t):Sz 3000 (l.at t):=by
 have s1:Sz 1801 (t - l.m):=sm.sub h.m
 have s2:Sz 1900 ((t - l.m) * (l.v:Rat)):=s1.mul h.v
 exact h.p.add s2
abbrev fq:Stmt:=(top 27)
theorem gH:L2.aw ["name","leg","other_name","other_leg","moment","place","other_place"] ["name","leg","other_name","other_leg","moment"] (L2.aj fq):=dT
def EC:cH:=fun xs J Q _=>∃ (n n':Str) (l l':aV) (t:Rat),xs=[.str n,l.V,.str n',l'.V,fr t]∧ox 900 l∧ox 900 l'∧Sz 900 t∧Q (.bl ((key t (n,l)).lt (key t (n',l')))) J
theorem oP {f:Addr} {fd:FuncData} (F:cm K "lies_behind" "lies_behind" fq f fd) (Z:bV mg) (d8:bh P w K mg base 4 "place_on" ["leg","moment"] mZ) (d7:bh P w K mg base 1 "less" ["one","two"] dG):aO P w K mg base (c5 P w) 5 f fd ["name","leg","other_name","other_leg","moment"] (dI K EC):=by
 simp_arith [gH]
 ·obtain ⟨n,n',l,l',t,rfl,_⟩:=h;rfl
 obtain ⟨n,n',l,l',t,rfl,sl,sl',st,q⟩:=h
 refine ⟨_,(ai (aE (i:=5) gH.nd rfl (Or.inl rfl) (aM d8 B hr (by decide) rfl (af (rv 1) (af (rv 4) ah))))
   (ai (aE (i:=6) gH.nd rfl (Or.inl rfl) (aM d8 B hr (by decide) rfl (af (rv 3) (af (rv 4) ah))))
   (ai (aU (aI (iK hr.aX) (rv 5) (rv 6) (L2.ay _)) (ak (az (aM d7 B hr (by decide) rfl (af (rv 5) (af (rv 6) ah))))) aH)
   (ai (aU (aI (iK hr.aX) (aq ar (rv 1) ag (fun _ _=>rfl)) (aq ar (rv 3) ag (fun _ _=>rfl)) (L2.ay _)) (ak (az (fh gC (aq ar (rv 1) ag (fun _ _=>rfl)) (aq ar (rv 3) ag (fun _ _=>rfl)) (L2.ay _)))) aH)
   (ak (az (fh yM (rv 0) (rv 2) (L2.ay _)))))))),?_⟩
 simp_all! only []
 refine ⟨l,t,rfl,sl.m,sl.p,st,sl.v,?_⟩
 simp_all! only []
 refine ⟨l',t,rfl,sl'.m,sl'.p,st,sl'.v,?_⟩
 have a1:=jV sl st
 have a2:=jV sl' st
 simp_all! only []
 unfold Ky.lt key at q
 dsimp only at q
 by_cases e:l.at t=l'.at t
 ·rw [if_pos e] at q
  rw [if_pos e]
  simp_all! only [j0]
  by_cases e2:l.v=l'.v
  ·rw [if_pos e2] at q
   rw [if_pos e2]
   simp_all! only []
   exact q
  ·rw [if_neg e2] at q
   rw [if_neg e2]
   simp_all! only [j0]
   exact q
 ·rw [if_neg e] at q
  rw [if_neg e]
  simp_all! only [dG]
  exact ⟨a1.mono (by decide),a2.mono (by decide),q⟩
abbrev jB:Stmt:=(top 41)
theorem fB:L2.aw ["legs","moment","names","name","at"] ["legs","moment"] (L2.aj jB):=dT
def bS (fs:List (Str × aV)):List (Str × PV):=fs.map fun x=>(x.1,x.2.V)
def tF:cH:=fun xs J Q _=>∃ (D:Addr) (fs:List (Str × aV)) (ep:Nat) (t:Rat),xs=[.ref D,fr t]∧J D=some (.dct (bS fs) ep)∧(fs.map (·.1)).Nodup∧fs.length≤100∧Sz 900 t∧(∀ x∈fs,ox 900 x.2)∧∀ p,J p=none→Q (.ref p) (put J p (.lst ((cS t fs).map .str)))
theorem uB {f:Addr} {fd:FuncData} (F:cm K "in_order" "in_order" jB f fd) (Z:bV mg) (rA:bh P w K mg base 5 "lies_behind" ["name","leg","other_name","other_leg","moment"] EC):aO P w K mg base (c5 P w) 6 f fd ["legs","moment"] (dI K tF):=by
 simp_arith [fB]
 ·obtain ⟨D,fs,ep,t,rfl,_⟩:=h;rfl
 obtain ⟨D,fs,ep,t,rfl,hD,hnd,hlen,st,sl,q⟩:=h
 refine ⟨_,(ai (aE (i:=2) fB.nd rfl (Or.inl rfl) (ki ah))
   (ai (dO bR rfl (pd (rv 0)) (bF (i:=3) fB.nd rfl (Or.inl rfl)) (ai (aE (i:=4) fB.nd rfl (Or.inl rfl) (aG bH rfl Z.len boot_len (af (rv 2) ah)))
   (ai (iX bR (c4 (eQ (aI j8 (rv 4) ag (L2.ay _)) (dB (bj (aM rA B hr (by decide) rfl (af (rv 3) (af (aq cQ (rv 0) (rv 3) (fun _ _=>rfl)) (af (aq ar (rv 2) (aL dM (rv 4) ag) (fun _ _=>rfl)) (af (aq cQ (rv 0) (aq ar (rv 2) (aL dM (rv 4) ag) (fun _ _=>rfl)) (fun _ _=>rfl)) (af (rv 1) ah)))))))))) (ak (Em (i:=4) fB.nd rfl (Or.inl rfl) ag C_)))
   (ak (bc (lz PySem.F.plainAttrs_list PySem.F.slot_list_insert PySem.F.type_list_insert iI (rv 2) (af (rv 4) (af (rv 3) ah))))))))
   (ak (az (rv 2))))),?_⟩
 simp_all! only []
 intro r hr'
 have nDr:D≠r:=by intro e;subst e;rw [hD] at hr';cases hr'
 simp_all! only [au nDr,hD]
 have hkv:(bS fs).map (fun kv=>PV.str kv.1)=fs.map fun x=>PV.str x.1:=by unfold bS;rw [List.map_map];rfl
 rw [hkv]
 obtain ⟨Inv,hInv⟩:∃ Inv:Nat→Sr→Hq→Prop,∀ i τ J',Inv i τ J'↔∃ (u3 u4:Option PV),τ=[some (.ref D),some (fr t),some (.ref r),u3,u4]∧J'=put J r (.lst ((cS t (fs.take i)).map .str)):=⟨_,fun _ _ _=>Iff.rfl⟩
 refine fJ Inv ((hInv _ _ _).mpr ⟨_,_,rfl,rfl⟩) (fun i τ J' h=>?_) ?_ ?_
 ·obtain ⟨_,_,_,rfl⟩:=(hInv _ _ _).mp h
  rw [au nDr];exact hD
 ·intro i x τ J' hx hv
  obtain ⟨u3,u4,rfl,rfl⟩:=(hInv _ _ _).mp hv
  clear hv
  have hi:i < fs.length:=by have:=(List.getElem?_eq_some_iff.mp hx).1;simpa using this
  rw [List.getElem?_map,List.getElem?_eq_getElem hi] at hx
  cases hx
  rcases hfi:fs[i] with ⟨n,l⟩
  have hmem:(n,l)∈fs:=by rw [← hfi];exact List.getElem_mem hi
  have et:fs.take (i + 1)=fs.take i ++ [(n,l)]:=by rw [List.take_add_one,List.getElem?_eq_getElem hi,hfi];rfl
  have hndt:((fs.take (i + 1)).map (·.1)).Nodup:=by rw [List.map_take];exact hnd.sublist (List.take_sublist _ _)
  rw [et,List.map_append,List.map_cons,List.map_nil] at hndt
  obtain ⟨hnd1,hnew⟩:=ju hndt
  obtain ⟨ys,hys⟩:∃ ys,cu ((fs.take i).map (key t))=ys:=⟨_,rfl⟩
  have srt:nv Ky.lt ys:=by rw [← hys];exact cR (by rw [cv];exact hnd1)
  have hyl:ys.length=i:=by rw [← hys,iM,List.length_map,List.length_take];omega
  have hym:∀ y∈ys,∃ l',(y.n,l')∈fs∧y=key t (y.n,l')∧y.n≠n:=fun y hy=>by
   rw [← hys,bz,List.mem_map] at hy
   obtain ⟨x',hx',rfl⟩:=hy
   exact ⟨x'.2,List.mem_of_mem_take hx',rfl,fun e=>hnew (List.mem_map.mpr ⟨x',hx',e⟩)⟩
  have eo:(cS t (fs.take i)).map PV.str=ys.map fun y=>PV.str y.n:=by unfold cS;rw [hys,List.map_map];rfl
  have en:(cS t (fs.take (i + 1))).map PV.str=(oK Ky.lt (key t (n,l)) ys).map fun y=>PV.str y.n:=by
   unfold cS;rw [et,List.map_append,List.map_cons,List.map_nil,iN,hys,List.map_map];rfl
  rw [eo]
  have hvn:lp (bS fs) n=some l.V:=gJ (f:=aV.V) hnd hmem
  have sll:=sl _ hmem
  simp_all! only [av,List.length_map]
  refine ⟨fun m τ' J'=>m≤ys.length∧τ'=[some (.ref D),some (fr t),some (.ref r),some (.str n),some (.int (m:Nat))]∧J'=put J r (.lst (ys.map fun y=>PV.str y.n))∧∀ (j:Nat) y,m≤j→ys[j]?=some y→(key t (n,l)).lt y=true,⟨ys.length,Nat.le_refl _,rfl,rfl,fun j y hj e=>by rw [List.getElem?_eq_none hj] at e;cases e⟩,?_⟩
  rintro m τ' J' ⟨hm,rfl,rfl,hall⟩
  have fin:(∀ (j:Nat) y,j < m→ys[j]?=some y→y.lt (key t (n,l))=true)→Inv (i + 1) [some (.ref D),some (fr t),some (.ref r),some (.str n),some (.int (m:Nat))] (put J r (.lst ((ys.map fun y=>PV.str y.n).take m ++ .str n :: (ys.map fun y=>PV.str y.n).drop m))):=fun hlow=>by
   refine (hInv _ _ _).mpr ⟨_,_,rfl,?_⟩
   rw [en,← z_ hm hlow fun j y hj e=>Ky.KI (hall j y hj e),List.map_append,List.map_cons,List.map_take,List.map_drop]
   rfl
  simp_all! only [av,au nDr,hD,hvn]
  by_cases c0:0 < m
  ·rw [if_pos (by omega)]
   obtain ⟨m',rfl⟩:∃ m',m=m' + 1:=⟨m - 1,by omega⟩
   obtain ⟨y,hy⟩:∃ y,ys[m']?=some y:=⟨_,List.getElem?_eq_getElem (by omega)⟩
   obtain ⟨l',hl',ey,ny⟩:=hym y (List.mem_of_getElem? hy)
   have ha:c_ (ys.map fun y=>PV.str y.n) (((m' + 1:Nat):Int) - 1)=some (.str y.n):=by
    rw [show ((m' + 1:Nat):Int) - 1=((m':Nat):Int) by omega]
    exact ba (by rw [List.getElem?_map,hy];rfl)
   have hvy:lp (bS fs) y.n=some l'.V:=gJ (f:=aV.V) hnd hl'
   simp_all! only [ha,hvy]
   refine ⟨n,y.n,l,l',t,rfl,sll,sl _ hl',st,?_⟩
   rw [← ey]
   cases hc:(key t (n,l)).lt y with
   | true =>
    simp_all! only []
    refine ⟨_,fun τ'' J'' h=>⟨m',Nat.lt_succ_self _,h⟩,⟨by omega,?_,rfl,fun j z hj e=>?_⟩⟩
    ·rw [show ((m' + 1:Nat):Int) - 1=((m':Nat):Int) by omega]
    ·rcases Nat.lt_or_eq_of_le hj with h | h
     ·exact hall j z (by omega) e
     ·subst h;rw [hy] at e;cases e;exact hc
   | false =>
    simp_all! only [av]
    refine ⟨_,m' + 1,rfl,rfl,by rw [List.length_map];omega,a9 (by rw [List.length_map];omega),by omega,?_⟩
    rw [d4]
    refine fin fun j z hj e=>?_
    have hyx:y.lt (key t (n,l))=true:=by
     rcases Ky.MA (a:=y) (b:=key t (n,l)) ny with h | h
     ·exact h
     ·rw [hc] at h;cases h
    exact xJ (lt:=Ky.lt) Ky.tr srt hy e (by omega) hyx
  ·rw [if_neg (by omega)]
   simp_all! only [av]
   refine ⟨_,m,rfl,rfl,by rw [List.length_map];omega,a9 (by rw [List.length_map];omega),by omega,?_⟩
   rw [d4]
   exact fin fun j z hj e=>by omega
 ·intro τ J' hv
  obtain ⟨u3,u4,rfl,rfl⟩:=(hInv _ _ _).mp hv
  rw [List.length_map,List.take_length]
  simp_all! only []
  exact q r hr'
def pU (K:PySem.W.Frag) (mg:Str→Option Value):Prop:=∃ a:Addr,mg "NOUGHT"=some (.ref a)∧∀ H:Hp,gM K H a [.int 0,.int 1]
theorem BG {K:PySem.W.Frag} {h:Heap} {mg:Str→Option Value} (X:K.In h) (G:h.Ns mainGlobals mg) {a:Addr} {od:Option Addr} {n:Nat} {sl:Array (Option Value)} {t u:Tok}
  (e:PySem.W.nsIn K mainGlobals "NOUGHT"=some (some (.ref a))) (l:K.lookup a=some ⟨.type "tuple",od,.seq #[.int 0 t,.int 1 u] n,sl⟩):pU K mg :=
 ⟨a,PySem.W.mg_of X G e,fun _=>.inr ⟨_,_,_,l,rfl,rfl,(by show 2≤sizeLine;decide),.cons ⟨t,rfl⟩ (.cons ⟨u,rfl⟩ .nil)⟩⟩
structure Cf where
 n:Str
 a:Addr
 r:Addr
 w:List aV
 g:Option Rat
structure Ln where
 t:Rat
 d:Addr
 e:Nat
 o:Addr
 cs:List Cf
 row:List Str
def Cf.cur (c:Cf):aV:=c.w.getLast?.getD ⟨0,0,0⟩
def Ln.Cj (L:Ln):List Cf:=L.cs.filter fun c=>c.g.isNone
def Ln.fs (L:Ln):List (Str × aV):=L.Cj.map fun c=>(c.n,c.cur)
structure a_ (cN cL:Addr) (J:Hq) (p:Addr) (L:Ln):Prop where
 ob:J p=some (.ins cN [("now",fr L.t),("logs",.ref L.d),("row",.ref L.o)])
 dc:J L.d=some (.dct (L.cs.map fun c=>(c.n,PV.ref c.a)) L.e)
 rw:J L.o=some (.lst (L.row.map .str))
 lg:∀ c∈L.cs,E5 cL J c.a c.r c.w c.g
 ap:(L.cs.map Cf.r).Nodup
 ao:∀ c∈L.cs,c.r≠L.o
structure a8 (L:Ln):Prop where
 nd:(L.cs.map Cf.n).Nodup
 ne:∀ c∈L.cs,c.w≠[]
 le:∀ c∈L.cs,∀ l∈c.w,l.m≤L.t
 ck:∀ c∈L.cs,∀ l∈c.w,rh l
 len:∀ c∈L.cs,c.w.length≤200
 gz:∀ c∈L.cs,∀ q,c.g=some q→Sc hW MM q∧q≤L.t
 t0:0≤L.t
 ts:Sc hW MM L.t
 many:L.cs.length≤100
 rm:∀ n,n∈L.row↔n∈L.fs.map (·.1)
 rn:L.row.Nodup
 rl:L.row.length≤12
structure cn (L:Ln):Prop extends a8 L where
 row:L.row=cS L.t L.fs
def Ln.own (L:Ln) (p a:Addr):Prop:=a=p∨a=L.d∨a=L.o∨∃ c∈L.cs,a=c.a∨a=c.r
structure Mv (J J':Hq) (S S':Addr→Prop):Prop where
 keep:∀ a o,J a=some o→¬ S a→J' a=some o
 own:∀ a,S' a→S a∨J a=none
 mono:∀ a,J' a=none→J a=none
theorem Mv.refl (J:Hq) (S:Addr→Prop):Mv J J S S:=⟨fun _ _ h _=>h,fun _ h=>.inl h,fun _ h=>h⟩
theorem Mv.trans {J J' J'':Hq} {S S' S'':Addr→Prop} (h:Mv J J' S S') (k:Mv J' J'' S' S''):Mv J J'' S S'':=by
 refine ⟨fun a o e n=>k.keep a o (h.keep a o e n) fun z=>?_,fun a z=>?_,fun a z=>h.mono a (k.mono a z)⟩
 ·rcases h.own a z with q | q
  ·exact n q
  ·rw [q] at e;cases e
 ·rcases k.own a z with q | q
  ·exact h.own a q
  ·exact .inr (h.mono a q)
theorem Mv.new {J:Hq} {S:Addr→Prop} {x:Addr} {o:HQ} (h:J x=none):Mv J (put J x o) S S:=by
 refine ⟨fun a u e _=>?_,fun _ z=>.inl z,fun a z=>?_⟩
 ·rw [au (fun q=>by subst q;rw [h] at e;cases e)];exact e
 ·by_cases q:a=x
  ·subst q;rw [av] at z;cases z
  ·rw [au q] at z;exact z
theorem Mv.BF {J:Hq} {S:Addr→Prop} {x:Addr} {o:HQ} (h:J x=none):Mv J (put J x o) S (fun a=>S a∨a=x) :=
 ⟨(Mv.new (S:=S) h).keep,fun a z=>z.elim .inl fun e=>.inr (by rw [e];exact h),(Mv.new (S:=S) h).mono⟩
theorem a_.keep {cN cL:Addr} {J J':Hq} {p:Addr} {L:Ln} (h:a_ cN cL J p L) (k:∀ a o,L.own p a→J a=some o→J' a=some o):a_ cN cL J' p L :=
 ⟨k _ _ (.inl rfl) h.ob,k _ _ (.inr (.inl rfl)) h.dc,k _ _ (.inr (.inr (.inl rfl))) h.rw,fun c hc=>⟨k _ _ (.inr (.inr (.inr ⟨c,hc,.inl rfl⟩))) (h.lg c hc).o,k _ _ (.inr (.inr (.inr ⟨c,hc,.inr rfl⟩))) (h.lg c hc).l⟩,h.ap,h.ao⟩
theorem a_.some {cN cL:Addr} {J:Hq} {p:Addr} {L:Ln} (h:a_ cN cL J p L) {a:Addr} (o:L.own p a):J a≠none:=by
 rcases o with rfl | rfl | rfl | ⟨c,hc,rfl | rfl⟩
 ·rw [h.ob];exact fun z=>nomatch z
 ·rw [h.dc];exact fun z=>nomatch z
 ·rw [h.rw];exact fun z=>nomatch z
 ·rw [(h.lg c hc).o];exact fun z=>nomatch z
 ·rw [(h.lg c hc).l];exact fun z=>nomatch z
theorem a_.fresh {cN cL:Addr} {J:Hq} {p x:Addr} {L:Ln} {o:HQ} (h:a_ cN cL J p L) (hx:J x=none):a_ cN cL (put J x o) p L :=
 h.keep fun a u ow e=>by rw [au (fun q=>by subst q;rw [hx] at e;cases e)];exact e
theorem IQ {J:Hq} {a b C C':Addr} {fs gs:List (Str × PV)} (h:J a=Option.some (.ins C fs)) (k:J b=Option.some (.ins C' gs)) (n:fs.map (·.1)≠gs.map (·.1)):a≠b:=by
 intro e;subst e;rw [h] at k
 have:=HQ.ins.inj (Option.some.inj k)
 exact n (by rw [this.2])
theorem a_.FV {cN cL:Addr} {J:Hq} {p:Addr} {L:Ln} (h:a_ cN cL J p L):L.d≠p:=by intro e;have:=h.ob;rw [← e,h.dc] at this;cases this
theorem a_.FX {cN cL:Addr} {J:Hq} {p:Addr} {L:Ln} (h:a_ cN cL J p L):L.o≠p:=by intro e;have:=h.ob;rw [← e,h.rw] at this;cases this
theorem a_.NO {cN cL:Addr} {J:Hq} {p:Addr} {L:Ln} (h:a_ cN cL J p L):L.d≠L.o:=by intro e;have:=h.rw;rw [← e,h.dc] at this;cases this
theorem DE:([("rows":Str),("gone":Str)]:List Str)≠[("now":Str),("logs":Str),("row":Str)]:=by decide +kernel
theorem a_.MU {cN cL:Addr} {J:Hq} {p:Addr} {L:Ln} (h:a_ cN cL J p L) {c:Cf} (hc:c∈L.cs):c.a≠p:=IQ (h.lg c hc).o h.ob DE
theorem a_.Kq {cN cL:Addr} {J:Hq} {p:Addr} {L:Ln} (h:a_ cN cL J p L) {c:Cf} (hc:c∈L.cs):c.r≠p:=by intro e;have:=h.ob;rw [← e,(h.lg c hc).l] at this;cases this
theorem a_.OL {cN cL:Addr} {J:Hq} {p:Addr} {L:Ln} (h:a_ cN cL J p L) {c:Cf} (hc:c∈L.cs):c.a≠L.d:=by intro e;have:=h.dc;rw [← e,(h.lg c hc).o] at this;cases this
theorem a_.OM {cN cL:Addr} {J:Hq} {p:Addr} {L:Ln} (h:a_ cN cL J p L) {c:Cf} (hc:c∈L.cs):c.r≠L.d:=by intro e;have:=h.dc;rw [← e,(h.lg c hc).l] at this;cases this
theorem a_.NN {cN cL:Addr} {J:Hq} {p:Addr} {L:Ln} (h:a_ cN cL J p L) {c:Cf} (hc:c∈L.cs):c.a≠L.o:=by intro e;have:=h.rw;rw [← e,(h.lg c hc).o] at this;cases this
theorem a_.Pb {cN cL:Addr} {J:Hq} {p:Addr} {L:Ln} (h:a_ cN cL J p L) {c c':Cf} (hc:c∈L.cs) (hc':c'∈L.cs):c.a≠c'.r:=by intro e;have:=(h.lg c' hc').l;rw [← e,(h.lg c hc).o] at this;cases this
theorem a_.JU {cN cL:Addr} {J:Hq} {p o':Addr} {L:Ln} {row:List Str} (h:a_ cN cL J p L) (ho:J o'=Option.some (.lst (row.map .str))) (nc:∀ c∈L.cs,c.r≠o'):a_ cN cL (put J p (.ins cN [("now",fr L.t),("logs",.ref L.d),("row",.ref o')])) p { L with o:=o',row:=row } :=
 ⟨av,by show put J p _ L.d=_;rw [au h.FV];exact h.dc,by show put J p _ o'=_;rw [au (fun e=>by rw [e,h.ob] at ho;cases ho)];exact ho,
  fun c hc=>⟨by rw [au (h.MU hc)];exact (h.lg c hc).o,by rw [au (h.Kq hc)];exact (h.lg c hc).l⟩,h.ap,nc⟩
theorem gy {J:Hq} {S S':Addr→Prop} {x:Addr} {o:HQ} (hx:S x) (hS:∀ a,S' a→S a∨J a=none):Mv J (put J x o) S S':=by
 refine ⟨fun a u e n=>?_,hS,fun a z=>?_⟩
 ·rw [au (fun q=>by subst q;exact n hx)];exact e
 ·by_cases q:a=x
  ·subst q;rw [av] at z;cases z
  ·rw [au q] at z;exact z
theorem a8.Kf {L:Ln} (h:a8 L):Sz 900 L.t:=(qw h.ts).mono (by decide)
theorem rh.Lv {l:aV} (h:rh l):ox 900 l:=⟨h.OK.mono (by decide),h.OP.mono (by decide),.small (by have:=h.v;omega) (by have:=h.v;omega)⟩
theorem Cf.jh {c:Cf} (h:c.w≠[]):c.w.getLast?=Option.some c.cur∧c.cur∈c.w:=by
 unfold Cf.cur
 rw [List.getLast?_eq_some_getLast h]
 exact ⟨rfl,List.getLast_mem h⟩
theorem a8.O_ {L:Ln} (h:a8 L) {c:Cf} (hc:c∈L.cs):wt c.w L.t=Option.some c.cur:=by
 unfold wt
 rw [List.filter_eq_self.mpr fun l hl=>decide_eq_true (h.le c hc l hl)]
 exact (Cf.jh (h.ne c hc)).1
theorem a8.there {L:Ln} (h:a8 L) {c:Cf} (hc:c∈L.cs) (hg:c.g=none):there c.w c.g L.t=true:=by
 obtain ⟨l,ls,e⟩:=List.exists_cons_of_ne_nil (h.ne c hc)
 have:=h.le c hc l (by rw [e];simp)
 rw [hg,e]
 unfold Ov.there
 simp only [List.head?_cons,MR,Bool.and_true]
 rw [decide_eq_false (Rat.not_lt.mpr this)];rfl
theorem Ln.d3 {L:Ln} {c:Cf}:c∈L.Cj↔c∈L.cs∧c.g=none:=by
 unfold Ln.Cj
 rw [List.mem_filter]
 cases c.g <;> simp
theorem fw (L:Ln):L.fs.map (·.1)=L.Cj.map Cf.n:=by unfold Ln.fs;rw [List.map_map];rfl
theorem a8.Ha {L:Ln} (h:a8 L):(L.fs.map (·.1)).Nodup:=by
 rw [fw]
 unfold Ln.Cj
 exact h.nd.sublist (List.Sublist.map _ List.filter_sublist)
theorem a8.found {L:Ln} (h:a8 L) {n:Str} (hn:n∈L.row):∃ c∈L.cs,c.n=n∧c.g=none:=by
 have:=(h.rm n).mp hn
 rw [fw,List.mem_map] at this
 obtain ⟨c,hc,e⟩:=this
 exact ⟨c,(Ln.d3.mp hc).1,e,(Ln.d3.mp hc).2⟩
theorem a8.va {L:Ln} (h:a8 L) {c:Cf} (hc:c∈L.cs):lp (L.cs.map fun c=>(c.n,PV.ref c.a)) c.n=Option.some (.ref c.a):=by
 have e:(L.cs.map fun c=>(c.n,PV.ref c.a))=((L.cs.map fun c=>(c.n,c.a)).map fun x=>(x.1,PV.ref x.2)):=by rw [List.map_map];rfl
 rw [e]
 exact gJ (f:=PV.ref) (by rw [List.map_map];exact h.nd) (List.mem_map.mpr ⟨c,hc,rfl⟩)
theorem a8.O0 {L:Ln} (h:a8 L) {n:Str}:(lp (L.cs.map fun c=>(c.n,PV.ref c.a)) n).isSome=decide (n∈L.cs.map Cf.n):=by
 have e:(L.cs.map fun c=>(c.n,PV.ref c.a))=((L.cs.map fun c=>(c.n,c.a)).map fun x=>(x.1,PV.ref x.2)):=by rw [List.map_map];rfl
 rw [e,Ca (f:=PV.ref) (by rw [List.map_map];exact h.nd)]
 rw [List.map_map];rfl
theorem a8.uniq {L:Ln} (h:a8 L) {c c':Cf} (hc:c∈L.cs) (hc':c'∈L.cs) (e:c.n=c'.n):c=c':=by
 obtain ⟨i,hi,rfl⟩:=List.getElem_of_mem hc
 obtain ⟨j,hj,rfl⟩:=List.getElem_of_mem hc'
 have:=(List.getElem_inj (xs:=L.cs.map Cf.n) (i:=i) (j:=j) (h₀:=by simpa using hi) (h₁:=by simpa using hj) h.nd).mp (by rw [List.getElem_map,List.getElem_map];exact e)
 subst this;rfl
theorem rR (a b c:PV):([("now",a),("logs",b),("row",c)]:List (Str × PV)).lookup ("now":Str)=Option.some a:=rfl
theorem wy (a b c:PV):([("now",a),("logs",b),("row",c)]:List (Str × PV)).lookup ("logs":Str)=Option.some b:=rfl
theorem rS (a b c:PV):([("now",a),("logs",b),("row",c)]:List (Str × PV)).lookup ("row":Str)=Option.some c:=rfl
theorem eG (m:Str) (a b c:PV) (h:(m == ("now":Str))=false:=by decide +kernel) (k:(m == ("logs":Str))=false:=by decide +kernel) (l:(m == ("row":Str))=false:=by decide +kernel):([("now",a),("logs",b),("row",c)]:List (Str × PV)).lookup m=none:=by
 rw [List.lookup_cons,h];simp only;rw [List.lookup_cons,k];simp only;rw [List.lookup_cons,l];rfl
theorem Lz:(("now":Str)=("logs":Str))=False:=eq_false (by decide +kernel)
theorem Hs:(("now":Str)=("row":Str))=False:=eq_false (by decide +kernel)
theorem Hr:(("logs":Str)=("row":Str))=False:=eq_false (by decide +kernel)
theorem Gj (a b c z:PV):n6 ("row":Str) z ([("now",a),("logs",b),("row",c)]:List (Str × PV))=([("now",a),("logs",b),("row",z)]:List (Str × PV)):=by simp only [n6,Hs,Hr,if_false,if_true]
theorem JY {J:Hq} {a:Addr} {xs:List PV} (h:J a=Option.some (.lst xs)):Ku J (.ref a)=Option.some xs:=by unfold Ku;simp only [h]
abbrev d5:Stmt:=(L2.inClass (top 42) 0)
theorem n_:L2.aw ["self"] ["self"] (L2.aj d5):=dT
def AK (cN cL:Addr):cH:=fun xs J Q _=>∃ p,xs=[.ref p]∧J p=some (.ins cN [])∧∀ J' d e o,a_ cN cL J' p ⟨0,d,e,o,[],[]⟩→Mv J J' (fun a=>a=p) (Ln.own ⟨0,d,e,o,[],[]⟩ p)→Q .non J'
theorem uv {cN cL f:Addr} {fd:FuncData} (F:cm K "__init__" "Lane.__init__" d5 f fd) (N:pU K mg) (ax:dt K mg "Lane" cN) (aA:aF K cN "now") (aK:aF K cN "logs") (aB:aF K cN "row"):aO P w K mg base (c5 P w) 1 f fd ["self"] (dI K (AK cN cL)):=by
 simp_arith [n_]
 ·obtain ⟨p,rfl,_⟩:=h;rfl
 obtain ⟨p,rfl,hp,q⟩:=h
 obtain ⟨aN,gN,sN⟩:=N
 have rN:∀ (J:Hq) (H:Hp),cq K J H (fr 0) (.ref aN):=fun J H=>⟨aN,_,rfl,sN H,⟨_,_,rfl,rfl,_,_,rfl,rfl,rfl⟩⟩
 refine ⟨_,(ai (iu ax.cl aA (rv 0) (fS (v:=.ref aN) (fr 0) rfl gN rfl rN))
   (ai (iu ax.cl aK (rv 0) Aw)
   (ak (iu ax.cl aB (rv 0) (ki ah))))),?_⟩
 simp_all! only [hp]
 refine ⟨by decide,?_⟩
 simp_all! only []
 intro d hd ep
 have FV:d≠p:=by intro e;subst e;rw [av] at hd;cases hd
 simp_all! only [au (Ne.symm FV),av]
 simp only [Lz,if_false]
 refine ⟨by decide,fun o ho=>?_⟩
 have jd:J d=none:=by rw [au FV] at hd;exact hd
 have FX:o≠p:=by intro e;subst e;rw [av] at ho;cases ho
 have nod:o≠d:=by intro e;subst e;rw [au FX,av] at ho;cases ho
 have jo:J o=none:=by rw [au FX,au nod,au FX] at ho;exact ho
 refine ⟨_,by rw [au (Ne.symm FX)];exact av,by show (2:Nat) < 1000;decide,?_⟩
 have pr:n6 ("row":Str) (PV.ref o) ([("now",fr 0),("logs",.ref d)]:List (Str × PV))=([("now",fr 0),("logs",.ref d),("row",.ref o)]:List (Str × PV)):=by simp only [n6,Hs,Hr,if_false]
 rw [pr]
 refine q _ d ep o ⟨av,by rw [au FV,au (Ne.symm nod),au FV];exact av,by rw [au FX];exact av,(by simp),(by simp),(by simp)⟩ ⟨fun a u e na=>?_,fun a ow=>?_,fun a z=>?_⟩
 ·have na1:a≠d:=fun z=>by subst z;rw [jd] at e;cases e
  have na2:a≠o:=fun z=>by subst z;rw [jo] at e;cases e
  rw [au na,au na2,au na,au na1,au na];exact e
 ·rcases ow with rfl | rfl | rfl | ⟨c,hc,_⟩
  ·exact .inl rfl
  ·exact .inr jd
  ·exact .inr jo
  ·cases hc
 ·by_cases z1:a=p
  ·subst z1;rw [av] at z;cases z
  by_cases z2:a=o
  ·subst z2;exact jo
  by_cases z3:a=d
  ·subst z3;exact jd
  rw [au z1,au z2,au z1,au z3,au z1] at z;exact z
abbrev cA:Stmt:=(L2.inClass (top 42) 22)
theorem jP:L2.aw ["self","name"] ["self","name"] (L2.aj cA):=dT
def pD (cN cL eC:Addr):cH:=fun xs J Q E=>∃ p L n,xs=[.ref p,.str n]∧a_ cN cL J p L∧(n∈L.row→Q .non J)∧(n ∉ L.row→E eC J)
theorem jO {cN cL eC f:Addr} {fd:FuncData} (F:cm K "must_be_there" "Lane.must_be_there" cA f fd) (Z:bV mg) (ax:dt K mg "Lane" cN) (aB:aF K cN "row") (eg:Own K mg "NoCraft" eC):aO P w K mg base (c5 P w) 1 f fd ["self","name"] (dI K (pD cN cL eC)):=by
 simp_arith [jP]
 ·obtain ⟨p,L,n,rfl,_⟩:=h;rfl
 obtain ⟨p,L,n,rfl,b,q,qe⟩:=h
 have bo:=b.ob
 refine ⟨_,(ak (aU (aI Ai (rv 1) (aY ax.cl aB (rv 0)) (by with_unfolding_all rfl)) (ak (dW eg rfl cF B.kn rfl (af bW ah))) aH)),?_⟩
 simp_all! only [bo,rS,LM,JY b.rw]
 refine ⟨L.row,rfl,?_⟩
 by_cases c:n∈L.row
 ·rw [if_pos (by simp [c])]
  exact q c
 ·rw [if_neg (by simp [c])]
  simp_all! only [fL]
  exact qe c
abbrev fk:Stmt:=(L2.inClass (top 42) 23)
theorem qO:L2.aw ["self","name"] ["self","name"] (L2.aj fk):=dT
def mY (cN cL eC:Addr):cH:=fun xs J Q E=>∃ p L n,xs=[.ref p,.str n]∧a_ cN cL J p L∧a8 L∧(∀ c∈L.cs,c.n=n→c.g=none→Q c.cur.V J)∧(n ∉ L.row→E eC J)
theorem qy {cN cL eC eN f:Addr} {fd:FuncData} (F:cm K "leg_of" "Lane.leg_of" fk f fd) (Z:bV mg) (ax:dt K mg "Lane" cN) (aK:aF K cN "logs") (aA:aF K cN "now") (a7:cJ P w K mg base cN 1 "must_be_there" ["self","name"] (pD cN cL eC)) (jt:cJ P w K mg base cL 3 "leg_at" ["self","moment"] (xu cL eN)) :
  aO P w K mg base (c5 P w) 4 f fd ["self","name"] (dI K (mY cN cL eC)):=by
 simp_arith [qO]
 ·obtain ⟨p,L,n,rfl,_⟩:=h;rfl
 obtain ⟨p,L,n,rfl,b,ok,q,qe⟩:=h
 have bo:=b.ob
 have bd:=b.dc
 refine ⟨_,(ai (bc (bp (pl:=_) a7 B hr (by decide) (rv 0) (af (rv 1) ah)))
   (ak (az (bp (pl:=_) jt B hr (by decide) (aq cQ (aY ax.cl aK (rv 0)) (rv 1) (fun _ _=>rfl)) (af (aY ax.cl aA (rv 0)) ah))))),?_⟩
 simp_all! only [bo]
 refine ⟨eG _ _ _ _,p,L,n,rfl,b,fun hn=>?_,qe⟩
 obtain ⟨c,hc,rfl,hg⟩:=ok.found hn
 have lo:=(b.lg c hc).o
 simp_all! only [bo,wy,bd,ok.va hc,lo]
 refine ⟨NJ _ _,?_⟩
 simp_all! only [bo,rR]
 refine ⟨c.a,c.r,c.w,c.g,L.t,rfl,b.lg c hc,ok.ne c hc,Nat.le_trans (ok.len c hc) (by decide),ok.Kf,fun l hl=>(ok.ck c hc l hl).Lv,fun q' hq=>(qw (ok.gz c hc q' hq).1).mono (by decide),fun _ l hl=>?_,fun z=>?_⟩
 ·rw [ok.O_ hc] at hl;cases hl
  exact q c hc rfl hg
 ·rw [ok.there hc hg] at z;cases z
abbrev dX:Stmt:=(L2.inClass (top 42) 24)
theorem qQ:L2.aw ["self"] ["self"] (L2.aj dX):=dT
theorem DU {L:Ln} (ok:a8 L) {f:Str→aV} (hf:∀ c∈L.cs,c.g=none→f c.n=c.cur):cS L.t (L.row.map fun n=>(n,f n))=cS L.t L.fs:=by
 refine wW (by rw [List.map_map];show (L.row.map fun n=>n).Nodup;rw [List.map_id'];exact ok.rn) ok.Ha fun x=>?_
 rw [List.mem_map,List.mem_map]
 constructor
 ·rintro ⟨y,hy,rfl⟩
  obtain ⟨n,hn,rfl⟩:=List.mem_map.mp hy
  obtain ⟨c,hc,rfl,hg⟩:=ok.found hn
  exact ⟨(c.n,c.cur),List.mem_map.mpr ⟨c,Ln.d3.mpr ⟨hc,hg⟩,rfl⟩,by rw [hf c hc hg]⟩
 ·rintro ⟨y,hy,rfl⟩
  obtain ⟨c,hc,rfl⟩:=List.mem_map.mp hy
  obtain ⟨hc,hg⟩:=Ln.d3.mp hc
  refine ⟨(c.n,f c.n),List.mem_map.mpr ⟨c.n,(ok.rm c.n).mpr ?_,rfl⟩,by rw [hf c hc hg]⟩
  rw [fw];exact List.mem_map.mpr ⟨c,Ln.d3.mpr ⟨hc,hg⟩,rfl⟩
def Ln.uk (L:Ln) (n:Str):aV:=((L.cs.find? fun c=>decide (c.n=n)).map Cf.cur).getD ⟨0,0,0⟩
theorem a8.uk {L:Ln} (ok:a8 L) {c:Cf} (hc:c∈L.cs):L.uk c.n=c.cur:=by
 unfold Ln.uk
 cases h:L.cs.find? fun d=>decide (d.n=c.n) with
 | none=>have:=List.find?_eq_none.mp h c hc;simp at this
 | some d =>
  have h1:=List.mem_of_find?_eq_some h
  have h2:d.n=c.n:=by simpa using List.find?_some h
  rw [ok.uniq h1 hc h2];rfl
def iZ (cN cL:Addr):cH:=fun xs J Q E=>∃ p L,xs=[.ref p]∧a_ cN cL J p L∧a8 L∧∀ J' o',a_ cN cL J' p { L with o:=o',row:=cS L.t L.fs }→Mv J J' (L.own p) (Ln.own { L with o:=o',row:=cS L.t L.fs } p)→Q .non J'
theorem qA {cN cL eC f:Addr} {fd:FuncData} (F:cm K "settle" "Lane.settle" dX f fd) (Z:bV mg) (ax:dt K mg "Lane" cN) (aB:aF K cN "row") (aA:aF K cN "now") (bJ:cJ P w K mg base cN 4 "leg_of" ["self","name"] (mY cN cL eC)) (xQ:bh P w K mg base 6 "in_order" ["legs","moment"] tF) :
  aO P w K mg base (c5 P w) 7 f fd ["self"] (dI K (iZ cN cL)):=by
 simp_arith [qQ]
 ·obtain ⟨p,L,rfl,_⟩:=h;rfl
 obtain ⟨p,L,rfl,b,ok,q⟩:=h
 have bo:=b.ob
 have br:=b.rw
 refine ⟨_,(ak (iu ax.cl aB (rv 0) (aM xQ B hr (by decide) rfl (af (Mm (L2.aj dX) ["self"] [("self",0)] rfl rfl rfl (fj (aY ax.cl aB (rv 0))) (fun _ _ _ _ _ _=>(rv 0)) (fun _ _ _ _ _ _=>(bp (pl:=_) bJ IG hr (by decide) (rv 1) (af (rv 0) ah)))) (af (aY ax.cl aA (rv 0)) ah))))),?_⟩
 simp_all! only [N1,bo,rS,br]
 intro D hD ep
 have bf:∀ e2 kvs,a_ cN cL (put J D (.dct kvs e2)) p L:=fun e2 kvs=>b.fresh hD
 have hrl:=ok.rl
 refine ⟨fun i J2=>∃ e2,J2=put J D (.dct (bS ((L.row.take i).map fun n=>(n,L.uk n))) e2),⟨ep,rfl⟩,?_,?_,?_⟩
 ·rintro i J2 ⟨e2,rfl⟩;exact (bf e2 _).rw
 ·rintro i x J2 hx ⟨e2,rfl⟩
  have hi:i < L.row.length:=by have:=(List.getElem?_eq_some_iff.mp hx).1;simpa using this
  rw [List.getElem?_map,List.getElem?_eq_getElem hi] at hx
  cases hx
  have hn:L.row[i]∈L.row:=List.getElem_mem hi
  refine ⟨_,(bf e2 _).ob,eG _ _ _ _,p,L,L.row[i],rfl,bf e2 _,ok,fun c hc e hg=>?_,fun z=>absurd hn z⟩
  refine ⟨_,e2,L.row[i],rfl,av,a9 (by simp only [bS,List.length_map,List.length_take];omega),fun ep'=>⟨ep',?_⟩⟩
  rw [d4]
  congr 2
  have et:L.row.take (i + 1)=L.row.take i ++ [L.row[i]]:=by rw [List.take_add_one,List.getElem?_eq_getElem hi];rfl
  rw [et,List.map_append,List.map_cons,List.map_nil,← e,ok.uk hc]
  refine yY (f:=aV.V) (l:=c.cur) fun z=>?_
  rw [List.map_map] at z
  obtain ⟨m,hm,e3⟩:=List.mem_map.mp z
  have hnd:(L.row.take (i + 1)).Nodup:=ok.rn.sublist (List.take_sublist _ _)
  rw [et] at hnd
  exact (ju hnd).2 (by rw [← e,← e3];exact hm)
 ·rintro J2 ⟨e2,rfl⟩
  rw [List.length_map,List.take_length]
  refine ⟨_,(bf e2 _).ob,_,rR _ _ _,D,_,e2,L.t,rfl,av,?_,by rw [List.length_map];omega,ok.Kf,?_,fun o' ho'=>?_⟩
  ·rw [List.map_map];show (L.row.map fun n=>n).Nodup;rw [List.map_id'];exact ok.rn
  ·intro x hx
   obtain ⟨n,hn,rfl⟩:=List.mem_map.mp hx
   obtain ⟨c,hc,rfl,hg⟩:=ok.found hn
   show ox 900 (L.uk c.n)
   rw [ok.uk hc]
   exact (ok.ck c hc _ (Cf.jh (ok.ne c hc)).2).Lv
  ·rw [DU ok fun c hc _=>ok.uk hc]
   have b2:a_ cN cL (put (put J D (.dct (bS (L.row.map fun n=>(n,L.uk n))) e2)) o' (.lst ((cS L.t L.fs).map .str))) p L:=(bf e2 _).fresh ho'
   have jo:J o'=none:=by
    by_cases z:o'=D
    ·subst z;exact hD
    ·rw [au z] at ho';exact ho'
   refine ⟨_,b2.ob,by show (3:Nat) < 1000;decide,?_⟩
   rw [Gj]
   refine q _ o' (b2.JU av fun c hc e=>?_) ?_
   ·have:=(b.lg c hc).l;rw [e,jo] at this;cases this
   ·refine ((Mv.new hD).trans (Mv.BF ho')).trans (gy (.inl (.inl rfl)) fun a ow=>.inl ?_)
    rcases ow with h | h | h | h
    ·exact .inl (.inl h)
    ·exact .inl (.inr (.inl h))
    ·exact .inr h
    ·exact .inl (.inr (.inr (.inr h)))
abbrev gZ:Stmt:=(top 33)
theorem vj:L2.aw ["text"] ["text"] (L2.aj gZ):=dT
def cD:Str:="abcdefghijklmnopqrstuvwxyz0123456789"
def good (y:Str):Bool:=decide (1≤y.cps.size) && decide (y.cps.size≤8) && y.cps.toList.all (ed cD)
def Ez (T:Addr):Sp:=fun vs H Q _=>∃ y:Str,vs=[.str y]∧y.length≤sizeLine∧H T=some (.ext (eE T))∧Q (.bl (good y)) H
theorem uA {T f c:Addr} {fd:FuncData} (F:Fc K mg "good_name" gZ T f fd c) (Z:Cd mg) (Bm:BMain mg base) {k7 pH:Tok} (iF:mg "LONGEST"=some (.int 8 k7)) (mq:mg "SIGNS"=some (.str "abcdefghijklmnopqrstuvwxyz0123456789" pH)) :
  aO P w K mg base pK 1 f fd ["text"] (Ez T):=by
 refine Pc F vj (fun vs H Q E h=>?_) (fun A outer s H vs Q E hr h=>?_)
 ·obtain ⟨y,rfl,_⟩:=h
  rfl
 obtain ⟨y,rfl,hz,hT,q⟩:=h
 refine ⟨_,(aZ (mG (HD (Ap (dA Ah (dU mj rfl Z.len boot_len (aW (pv 0) bK)) aP (ay _)) (uR (dA Hw (dU mj rfl Z.len boot_len (aW (pv 0) bK)) (o8 (v:=.int 8) rfl iF ⟨_,rfl⟩) (ay _))))) (bL (dN w6)) fR)
   (bL (dN (DX rfl Bm rfl F.tab hr rfl Z.all mq (pv 0))))),?_⟩
 have el:y.cps.size=y.length:=rfl
 refine ⟨_,rfl,y,rfl,hz,_,_,rfl,rfl,_,rfl,Dg (fun e=>?_) (fun e=>⟨_,rfl,y,rfl,hz,_,_,rfl,rfl,_,rfl,Dg (fun e2=>?_) (fun e2=>?_)⟩)⟩
 ·have e:(y.length:Int) < 1:=of_decide_eq_true e
  have z:good y=false:=by
   unfold good
   rw [decide_eq_false (show ¬ 1≤y.cps.size by omega)]
   rfl
  show Q (.bl false) H
  rw [← z]
  exact q
 ·have e2:(8:Int) < (y.length:Int):=of_decide_eq_true e2
  have z:good y=false:=by
   unfold good
   rw [decide_eq_false (show ¬ y.cps.size≤8 by omega),Bool.and_false]
   rfl
  show Q (.bl false) H
  rw [← z]
  exact q
 ·have e:¬ (y.length:Int) < 1:=of_decide_eq_false (Bool.eq_false_iff.mpr e)
  have e2:¬ (8:Int) < (y.length:Int):=of_decide_eq_false (Bool.eq_false_iff.mpr e2)
  have z:good y=y.cps.toList.all (ed cD):=by
   unfold good
   rw [decide_eq_true (show 1≤y.cps.size by omega),decide_eq_true (show y.cps.size≤8 by omega)]
   rfl
  refine ⟨_,rfl,y,rfl,hT,?_⟩
  show Q (.bl (y.cps.toList.all (ed cD))) H
  rw [← z]
  exact q
def AG (T:Addr):cH:=fun xs J Q _=>∃ y:Str,xs=[.str y]∧y.length≤sizeLine∧J T=some .tab∧Q (.bl (good y)) J
theorem qv {T:Addr} (C:rd P w K mg base 1 "good_name" ["text"] (Ez T)):bh P w K mg base 1 "good_name" ["text"] (AG T):=C.lift fun xs J vs H Q2 E2 Q E rs r ⟨y,ex,hl,hT,q⟩ kn=>by
 subst ex
 obtain ⟨v,rfl,r1⟩:=Jo rs
 cases r1
 exact ⟨y,rfl,hl,r _ _ hT,kn (.bl _) J _ H rfl r .refl q⟩
theorem zR (L:Ln) {L':Ln} {c:Cf} (h:L'.cs=L.cs ++ [c]) (hg:c.g=none):L'.fs=L.fs ++ [(c.n,c.cur)]:=by
 unfold Ln.fs Ln.Cj
 rw [h,List.filter_append,List.map_append]
 simp [hg]
def Ln.joined (L:Ln) (n:Str) (x v:Int) (L':Ln):Prop:=∃ a r,L'.cs=L.cs ++ [⟨n,a,r,[⟨L.t,(x:Rat),v⟩],none⟩]∧L'.t=L.t
def Ko (x v:Int):Prop:=x.natAbs≤1000000∧v.natAbs≤1000
def AL (cN cL T eB eF eT eU:Addr):cH:=fun xs J Q E=>∃ p L n x v,xs=[.ref p,.str n,.int x,.int v]∧a_ cN cL J p L∧cn L∧J T=some .tab∧n.length≤sizeLine∧L.cs.length < 100∧(good n=false→E eB J)∧(good n=true→¬ Ko x v→E eF J) ∧
 (good n=true→Ko x v→n∈L.cs.map Cf.n→E eT J)∧(good n=true→Ko x v→n ∉ L.cs.map Cf.n→12≤L.row.length→E eU J) ∧
 (good n=true→Ko x v→n ∉ L.cs.map Cf.n→L.row.length < 12→∀ J' L',a_ cN cL J' p L'→cn L'→L.joined n x v L'→Mv J J' (L.own p) (L'.own p)→Q .non J')
abbrev gU:Stmt:=(L2.inClass (top 42) 1)
theorem vg:L2.aw ["self","name","place","pace"] ["self","name","place","pace"] (L2.aj gU):=dT
theorem a_.add {cN cL:Addr} {J:Hq} {p:Addr} {L:Ln} {c:Cf} {ep:Nat} (h:a_ cN cL J p L) (hc:E5 cL J c.a c.r c.w c.g) (h1:c.r ∉ L.cs.map Cf.r) (h2:c.r≠L.o) :
  a_ cN cL (put (put J L.d (.dct ((L.cs ++ [c]).map fun c=>(c.n,PV.ref c.a)) ep)) L.o (.lst ((L.row ++ [c.n]).map .str))) p ⟨L.t,L.d,ep,L.o,L.cs ++ [c],L.row ++ [c.n]⟩:=by
 have n1:c.a≠L.d:=by intro e;have:=h.dc;rw [← e,hc.o] at this;cases this
 have n2:c.a≠L.o:=by intro e;have:=h.rw;rw [← e,hc.o] at this;cases this
 have n3:c.r≠L.d:=by intro e;have:=h.dc;rw [← e,hc.l] at this;cases this
 refine ⟨?_,?_,av,fun x hx=>?_,?_,fun x hx=>?_⟩
 ·rw [au (Ne.symm h.FX),au (Ne.symm h.FV)];exact h.ob
 ·show put (put J L.d _) L.o _ L.d=_
  rw [au h.NO];exact av
 ·rcases List.mem_append.mp hx with hx | hx
  ·exact ⟨by rw [au (h.NN hx),au (h.OL hx)];exact (h.lg x hx).o,by rw [au (h.ao x hx),au (h.OM hx)];exact (h.lg x hx).l⟩
  ·rw [List.mem_singleton] at hx;subst hx
   exact ⟨by rw [au n2,au n1];exact hc.o,by rw [au h2,au n3];exact hc.l⟩
 ·show ((L.cs ++ [c]).map Cf.r).Nodup
  rw [List.map_append,List.map_cons,List.map_nil,List.nodup_append]
  exact ⟨h.ap,by simp,fun x hx y hy e=>by rw [List.mem_singleton] at hy;subst hy;subst e;exact h1 hx⟩
 ·show x.r≠L.o
  rcases List.mem_append.mp hx with hx | hx
  ·exact h.ao x hx
  ·rw [List.mem_singleton] at hx;subst hx;exact h2
theorem a8.add {L:Ln} (h:a8 L) {c:Cf} {l:aV} {ep:Nat} (hw:c.w=[l]) (hg:c.g=none) (hl:rh l) (hm:l.m=L.t) (hn:c.n ∉ L.cs.map Cf.n) (hr:L.row.length < 12) (hs:L.cs.length < 100):a8 ⟨L.t,L.d,ep,L.o,L.cs ++ [c],L.row ++ [c.n]⟩:=by
 have hf:Ln.fs ⟨L.t,L.d,ep,L.o,L.cs ++ [c],L.row ++ [c.n]⟩=L.fs ++ [(c.n,c.cur)]:=zR L rfl hg
 have all:∀ {P:Cf→Prop},(∀ x∈L.cs,P x)→P c→∀ x∈L.cs ++ [c],P x:=fun h1 h2 x hx=>by
  rcases List.mem_append.mp hx with hx | hx
  ·exact h1 x hx
  ·rw [List.mem_singleton] at hx;subst hx;exact h2
 refine ⟨?_,all h.ne (by rw [hw];simp),all h.le (by rw [hw];simp [hm]),all h.ck (by rw [hw];simpa using hl),all h.len (by rw [hw];show (1:Nat)≤200;decide),all h.gz (by rw [hg];intro q e;cases e),h.t0,h.ts,by show (L.cs ++ [c]).length≤100;rw [List.length_append];simp;omega,fun n=>?_,?_,by show (L.row ++ [c.n]).length≤12;rw [List.length_append];simp;omega⟩
 ·show ((L.cs ++ [c]).map Cf.n).Nodup
  rw [List.map_append,List.map_cons,List.map_nil,List.nodup_append]
  exact ⟨h.nd,by simp,fun x hx y hy e=>by rw [List.mem_singleton] at hy;subst hy;subst e;exact hn hx⟩
 ·rw [hf,List.map_append,List.mem_append,List.mem_append,h.rm n];simp
 ·show (L.row ++ [c.n]).Nodup
  rw [List.nodup_append]
  refine ⟨h.rn,by simp,fun x hx y hy e=>?_⟩
  rw [List.mem_singleton] at hy
  rw [e,hy] at hx
  have:=(h.rm _).mp hx
  rw [fw,List.mem_map] at this
  obtain ⟨d,hd,e⟩:=this
  exact hn (List.mem_map.mpr ⟨d,(Ln.d3.mp hd).1,e⟩)
theorem cn.settled {L:Ln} (h:a8 L) (o':Addr):cn { L with o:=o',row:=cS L.t L.fs }:=by
 have hl:(cS L.t L.fs).length≤12:=by
  have h1:(cS L.t L.fs).Perm L.row:=(List.perm_ext_iff_of_nodup (qC h.Ha) h.rn).mpr fun n=>by rw [wZ];exact (h.rm n).symm
  rw [h1.length_eq];exact h.rl
 exact ⟨⟨h.nd,h.ne,h.le,h.ck,h.len,h.gz,h.t0,h.ts,h.many,fun n=>wZ,qC h.Ha,hl⟩,rfl⟩
theorem uw {cN cL T eB eF eT eU f:Addr} {fd:FuncData} (F:cm K "join" "Lane.join" gU f fd) (Z:bV mg) (ax:dt K mg "Lane" cN) (aB:aF K cN "row") (aA:aF K cN "now") (aK:aF K cN "logs") {jH gf vG:Tok} (gr:mg "FARTHEST"=some (.int 1000000 jH)) (eh:mg "FASTEST"=some (.int 1000 gf)) (qd:mg "MOST"=some (.int 12 vG))
  (iB:Own K mg "BadName" eB) (fv:Own K mg "TooFar" eF) (ma:Own K mg "Taken" eT) (pV:Own K mg "Full" eU) (jR:bh P w K mg base 1 "good_name" ["text"] (AG T)) (Cw:ya P w K mg base cL 1 "Log" ["self","moment","place","pace"] (AH cL)) (bA:cJ P w K mg base cN 7 "settle" ["self"] (iZ cN cL)) :
  aO P w K mg base (c5 P w) 8 f fd ["self","name","place","pace"] (dI K (AL cN cL T eB eF eT eU)):=by
 simp_arith [vg]
 ·obtain ⟨p,L,n,x,v,rfl,_⟩:=h;rfl
 obtain ⟨p,L,n,x,v,rfl,b,ok,hT,hnl,hcs,qb,qf,qt,qu,q⟩:=h
 have bo:=b.ob
 have bd:=b.dc
 have br:=b.rw
 refine ⟨_,(ai (aU (bQ (bj (aM jR B hr (by decide) rfl (af (rv 1) ah)))) (ak (dW iB rfl cF B.kn rfl (af bW ah))) aH)
   (ai (aU (c4 (gS (aI j8 (aG yj rfl Z.abs boot_abs (af (rv 2) ah)) (fS (v:=.int 1000000) (.int 1000000) rfl gr ⟨_,rfl⟩ (fun _ _=>rfl)) (L2.ay _)) (fM (aI j8 (aG yj rfl Z.abs boot_abs (af (rv 3) ah)) (fS (v:=.int 1000) (.int 1000) rfl eh ⟨_,rfl⟩ (fun _ _=>rfl)) (L2.ay _))))) (ak (dW fv rfl cF B.kn rfl (af bW ah))) aH)
   (ai (aU (aI Jt (rv 1) (aY ax.cl aK (rv 0)) (by with_unfolding_all rfl)) (ak (dW ma rfl cF B.kn rfl (af bW ah))) aH)
   (ai (aU (aI DS (aG bH rfl Z.len boot_len (af (aY ax.cl aB (rv 0)) ah)) (fS (v:=.int 12) (.int 12) rfl qd ⟨_,rfl⟩ (fun _ _=>rfl)) (L2.ay _)) (ak (dW pV rfl cF B.kn rfl (af bW ah))) aH)
   (ai (uY pE (aY ax.cl aK (rv 0)) (rv 1) (GB Cw B hr (by decide) rfl (af (aY ax.cl aA (rv 0)) (af (cG (af (rv 2) (af ag ah))) (af (rv 3) ah)))))
   (ai (bc (lz PySem.F.plainAttrs_list PySem.F.slot_list_append PySem.F.type_list_append nQ (aY ax.cl aB (rv 0)) (af (rv 1) ah)))
   (ak (bc (dq (pl:=_) bA B hr (by decide) (rv 0)))))))))),?_⟩
 simp_all! only []
 refine ⟨n,rfl,hnl,hT,?_⟩
 cases hg:good n with
 | false =>
  simp_all! only [fL]
  exact qb hg
 | true =>
 simp_all! only []
 by_cases hB:Ko x v
 ·obtain ⟨hx,hv⟩:=id hB
  rw [if_neg (by split <;> omega),if_neg (by split <;> omega)]
  simp_all! only [bo,wy,bd,ok.O0]
  by_cases hm:n∈L.cs.map Cf.n
  ·rw [if_pos hm]
   simp_all! only [fL]
   exact qt hg hB hm
  rw [if_neg hm]
  simp_all! only [bo,rS,br,List.length_map]
  by_cases hr12:12≤L.row.length
  ·rw [if_pos (by omega)]
   simp_all! only [fL]
   exact qu hg hB hm hr12
  rw [if_neg (by omega)]
  simp_all! only [bo,rR]
  intro a ha
  refine ⟨a,⟨L.t,(x:Rat),v⟩,rfl,av,fun r hr'=>?_⟩
  have nra:r≠a:=by intro e;subst e;rw [av] at hr';cases hr'
  have jr:J r=none:=by rw [au nra] at hr';exact hr'
  have b1:a_ cN cL (put (put (put J a (.ins cL [])) r (.lst [(aV.mk L.t (x:Rat) v).V])) a (.ins cL [("rows",.ref r),("gone",.non)])) p L:=b.keep fun c u ow e=>by
   have n1:c≠a:=fun z=>by subst z;rw [ha] at e;cases e
   have n2:c≠r:=fun z=>by subst z;rw [jr] at e;cases e
   rw [au n1,au n2,au n1];exact e
  have l1:E5 cL (put (put (put J a (.ins cL [])) r (.lst [(aV.mk L.t (x:Rat) v).V])) a (.ins cL [("rows",.ref r),("gone",.non)])) a r [⟨L.t,(x:Rat),v⟩] none:=⟨av,by rw [au nra];exact av⟩
  have mv1:Mv J (put (put (put J a (.ins cL [])) r (.lst [(aV.mk L.t (x:Rat) v).V])) a (.ins cL [("rows",.ref r),("gone",.non)])) (L.own p) (fun c=>(L.own p c∨c=a)∨c=r) :=
   ((Mv.BF ha).trans (Mv.BF hr')).trans (gy (.inl (.inr rfl)) fun c h=>.inl h)
  generalize (put (put (put J a (.ins cL [])) r (.lst [(aV.mk L.t (x:Rat) v).V])) a (.ins cL [("rows",.ref r),("gone",.non)]))=J1 at b1 l1 mv1 ⊢
  have bo1:=b1.ob
  have bd1:=b1.dc
  simp_all! only [bo1,wy,bd1]
  refine ⟨a9 (by rw [List.length_map];omega),fun ep'=>?_⟩
  have epu:uN (L.cs.map fun c=>(c.n,PV.ref c.a)) n (PV.ref a)=(L.cs ++ [Cf.mk n a r [⟨L.t,(x:Rat),v⟩] none]).map fun c=>(c.n,PV.ref c.a):=by
   have e:(L.cs.map fun c=>(c.n,PV.ref c.a))=((L.cs.map fun c=>(c.n,c.a)).map fun x=>(x.1,PV.ref x.2)):=by rw [List.map_map];rfl
   rw [e,yY (f:=PV.ref) (l:=a) (by rw [List.map_map];exact hm),List.map_append,List.map_append,List.map_map];rfl
  rw [epu]
  have hrs:r ∉ L.cs.map Cf.r:=fun h=>by
   obtain ⟨c,hc,e⟩:=List.mem_map.mp h
   have:=(b.lg c hc).l;rw [e,jr] at this;cases this
  have hro:r≠L.o:=fun e=>by have:=b.rw;rw [← e,jr] at this;cases this
  have b2:=b1.add (c:=Cf.mk n a r [⟨L.t,(x:Rat),v⟩] none) (ep:=ep') l1 hrs hro
  have ok2:a8 ⟨L.t,L.d,ep',L.o,L.cs ++ [Cf.mk n a r [⟨L.t,(x:Rat),v⟩] none],L.row ++ [n]⟩:=ok.toa8.add (c:=Cf.mk n a r [⟨L.t,(x:Rat),v⟩] none) rfl rfl (rh.new ok.t0 ok.ts hx hv) rfl hm (by omega) hcs
  have bo2:(put J1 L.d (HQ.dct ((L.cs ++ [Cf.mk n a r [⟨L.t,(x:Rat),v⟩] none]).map fun c=>(c.n,PV.ref c.a)) ep')) p=some (.ins cN [("now",fr L.t),("logs",.ref L.d),("row",.ref L.o)]):=by rw [au (Ne.symm b1.FV)];exact b1.ob
  have br2:(put J1 L.d (HQ.dct ((L.cs ++ [Cf.mk n a r [⟨L.t,(x:Rat),v⟩] none]).map fun c=>(c.n,PV.ref c.a)) ep')) L.o=some (.lst (L.row.map .str)):=by rw [au (Ne.symm b1.NO)];exact b1.rw
  have mv2:Mv J1 (put (put J1 L.d (HQ.dct ((L.cs ++ [Cf.mk n a r [⟨L.t,(x:Rat),v⟩] none]).map fun c=>(c.n,PV.ref c.a)) ep')) L.o (.lst ((L.row ++ [n]).map .str))) (fun c=>(L.own p c∨c=a)∨c=r) (Ln.own ⟨L.t,L.d,ep',L.o,L.cs ++ [Cf.mk n a r [⟨L.t,(x:Rat),v⟩] none],L.row ++ [n]⟩ p):=by
   refine (gy (S':=fun c=>(L.own p c∨c=a)∨c=r) (.inl (.inl (.inr (.inl rfl)))) fun c h=>.inl h).trans (gy (.inl (.inl (.inr (.inr (.inl rfl))))) fun c h=>.inl ?_)
   rcases h with h | h | h | ⟨d,hd,h⟩
   ·exact .inl (.inl (.inl h))
   ·exact .inl (.inl (.inr (.inl h)))
   ·exact .inl (.inl (.inr (.inr (.inl h))))
   ·rcases List.mem_append.mp hd with hd | hd
    ·exact .inl (.inl (.inr (.inr (.inr ⟨d,hd,h⟩))))
    ·rw [List.mem_singleton] at hd;subst hd
     rcases h with h | h
     ·exact .inl (.inr h)
     ·exact .inr h
  have mv3:=mv1.trans mv2
  simp_all! only [bo2,rS,br2]
  refine ⟨a9 (by rw [List.length_map];omega),?_⟩
  rw [show L.row.map PV.str ++ [PV.str n]=(L.row ++ [n]).map .str by rw [List.map_append];rfl]
  have bo3:=b2.ob
  generalize (put (put J1 L.d (HQ.dct ((L.cs ++ [Cf.mk n a r [⟨L.t,(x:Rat),v⟩] none]).map fun c=>(c.n,PV.ref c.a)) ep')) L.o (.lst ((L.row ++ [n]).map .str)))=J2 at b2 mv3 bo3 ⊢
  simp_all! only [bo3]
  refine ⟨eG _ _ _ _,p,_,rfl,b2,ok2,fun J' o' b' mv'=>?_⟩
  exact q hg hB hm (by omega) J' _ b' (cn.settled ok2 o') ⟨a,r,rfl,rfl⟩ (mv3.trans mv')
 ·have hf:=qf hg hB
  by_cases h1:x.natAbs≤1000000
  ·have h2:¬ v.natAbs≤1000:=fun h=>hB ⟨h1,h⟩
   rw [if_neg (by split <;> omega),if_pos (by split <;> omega)]
   simp_all! only [fL]
   exact hf
  ·rw [if_pos (by split <;> omega)]
   simp_all! only [fL]
   exact hf
abbrev fW:Stmt:=(L2.inClass (top 42) 7)
theorem so:L2.aw ["self"] ["self"] (L2.aj fW):=dT
def xC (cN cL:Addr):cH:=fun xs J Q _=>∃ p L,xs=[.ref p]∧a_ cN cL J p L∧Q (fr L.t) J
theorem rZ {cN cL f:Addr} {fd:FuncData} (F:cm K "clock" "Lane.clock" fW f fd) (Z:bV mg) (ax:dt K mg "Lane" cN) (aA:aF K cN "now"):aO P w K mg base (c5 P w) 1 f fd ["self"] (dI K (xC cN cL)):=by
 simp_arith [so]
 ·obtain ⟨p,L,rfl,_⟩:=h;rfl
 obtain ⟨p,L,rfl,b,q⟩:=h
 have bo:=b.ob
 refine ⟨_,(ak (az (aY ax.cl aA (rv 0)))),?_⟩
 simp_all! only [bo,rR]
 exact q
abbrev f7:Stmt:=(L2.inClass (top 42) 8)
theorem sv:L2.aw ["self"] ["self"] (L2.aj f7):=dT
def xF (cN cL:Addr):cH:=fun xs J Q _=>∃ p L,xs=[.ref p]∧a_ cN cL J p L∧(Q (.fl (L.row.map .str)) J∨∀ l,J l=none→Q (.ref l) (put J l (.lst (L.row.map .str))))
theorem se {cN cL f:Addr} {fd:FuncData} (F:cm K "order" "Lane.order" f7 f fd) (Z:bV mg) (ax:dt K mg "Lane" cN) (aB:aF K cN "row"):aO P w K mg base (c5 P w) 1 f fd ["self"] (dI K (xF cN cL)):=by
 refine Hu F sv (fun xs J Q E h=>?_) (fun cdv A outer s H E G xs J Q E2 hr h B=>?_)
 ·obtain ⟨p,L,rfl,_⟩:=h;rfl
 obtain ⟨p,L,rfl,b,q⟩:=h
 have bo:=b.ob
 have br:=b.rw
 refine ⟨_,(ak (az (iP p5 rfl Z.list boot_list (af (aY ax.cl aB (rv 0)) ah)))),?_⟩
 simp_all! only [bo,br,rS]
 intro l hl
 rcases q with q | q
 ·exact Fg.oJ (gx hl) av hl q
 ·exact Fg.same (q l hl)
def aD.v (b:aD):PV:=.tup [fr b.m,.str b.h,.str b.f]
theorem Dh (J:Hq) (b:aD):fK J b.v (.int 0)=some (fr b.m):=dH _ _
theorem Di (J:Hq) (b:aD):fK J b.v (.int 1)=some (.str b.h):=fN _ _ _
theorem Dj (J:Hq) (b:aD):fK J b.v (.int 2)=some (.str b.f):=lq _ _ _ _
theorem Od (J:Hq) (b:aD):zp J b.v=some "tuple":=rfl
theorem Lc (J:Hq) (b:aD):um J b.v=some 3:=rfl
theorem HB (b:aD):mH b.v=true:=by simp [aD.v,Ao,n4,xa,uO,uP]
theorem Nh (b:aD):Fq b.v=True:=eq_true ⟨HB b,by simp [aD.v,fr,gE,gF,dep,dR]⟩
theorem Nk (a b:aD):eqQ a.v b.v=decide (a=b):=by
 unfold aD.v
 rw [ub,dS,dS,dS,oX,zO,eq_str,eq_str,Bool.and_true,← Bool.decide_and,← Bool.decide_and]
 apply decide_eq_decide.mpr
 cases a;cases b
 simp [aD.mk.injEq]
theorem EW (a:Rat) (h f:Str):PV.tup [fr a,.str h,.str f]=(aD.mk a h f).v:=rfl
theorem CK (J:Hq) (b:aD):∃ xs,b.v=.tup xs∧¬ (HT.d_ xs.length 0 (some 1)=0∧HT.d_ xs.length xs.length none=xs.length)∧lM xs (some 1) none=[b.h,b.f].map .str:=⟨_,rfl,fun h=>absurd h.1 (show HT.d_ 3 0 (some 1)≠0 by decide),rfl⟩
abbrev ft:Stmt:=(top 21)
theorem qR:L2.aw ["one","other"] ["one","other"] (L2.aj ft):=dT
def vt:cH:=fun xs J Q _=>∃ a b:aD,xs=[a.v,b.v]∧Sz 9000 a.m∧Sz 9000 b.m∧Q (.bl (a.lt b)) J
theorem ND (a b c d:Str):lO [a,b] [c,d]=if a=c then decide (slt b d) else decide (slt a c):=by
 rw [nM]
 by_cases h:a=c
 ·rw [if_pos h,if_pos h,nM]
  by_cases k:b=d
  ·rw [if_pos k,mz];subst k;exact (decide_eq_false (by unfold slt;exact List.lt_irrefl _)).symm
  ·rw [if_neg k];rfl
 ·rw [if_neg h,if_neg h];rfl
theorem oQ {f:Addr} {fd:FuncData} (F:cm K "rings_ahead" "rings_ahead" ft f fd) (Z:bV mg) (d7:bh P w K mg base 1 "less" ["one","two"] dG):aO P w K mg base (c5 P w) 2 f fd ["one","other"] (dI K vt):=by
 simp_arith [qR]
 ·obtain ⟨a,b,rfl,_⟩:=h;rfl
 obtain ⟨a,b,rfl,sa,sb,q⟩:=h
 refine ⟨_,(ai (aU (aI (iK hr.aX) (aq ar (rv 0) ag (fun _ _=>rfl)) (aq ar (rv 1) ag (fun _ _=>rfl)) (L2.ay _)) (ak (az (aM d7 B hr (by decide) rfl (af (aq ar (rv 0) ag (fun _ _=>rfl)) (af (aq ar (rv 1) ag (fun _ _=>rfl)) ah))))) aH)
   (ak (az (fh (F7 hr.Kh) (iQ zg (rv 0) (kQ ag) kP) (iQ zg (rv 1) (kQ ag) kP) (L2.ay _))))),?_⟩
 simp_arith! only [cK,Dh,Di,Dj,dG,HG]
 unfold aD.lt at q
 by_cases e:a.m=b.m
 ·rw [if_pos e] at q ⊢
  obtain ⟨xs,h1,h2,h3⟩:=CK J a
  obtain ⟨ys,h4,h5,h6⟩:=CK J b
  exact ⟨xs,h1,h2,ys,h4,h5,[a.h,a.f],h3,[b.h,b.f],h6,by rw [ND];exact q⟩
 ·rw [if_neg e] at q ⊢
  exact ⟨sa,sb,q⟩
theorem Lq (v:PV):([("rows",v)]:List (Str × PV)).lookup ("rows":Str)=some v:=rfl
theorem Jd {m:Str} (v:PV) (h:(m == ("rows":Str))=false):([("rows",v)]:List (Str × PV)).lookup m=none:=by rw [List.lookup_cons,h];rfl
theorem NF (v:PV):([("rows",v)]:List (Str × PV)).lookup ("drop":Str)=none:=Jd v (by decide +kernel)
theorem Lr (v:PV):([("rows",v)]:List (Str × PV)).lookup ("put":Str)=none:=Jd v (by decide +kernel)
theorem Ls (v:PV):([("rows",v)]:List (Str × PV)).lookup ("told":Str)=none:=Jd v (by decide +kernel)
theorem Gr {J:Hq} {r p:Addr} {a b c:HQ} (h:r≠p):put (put (put J r a) p b) r c=put (put J r c) p b:=by
 rw [D9 (Ne.symm h),d4]
structure E9 (cB:Addr) (J:Hq) (p r:Addr) (rows:List aD):Prop where
 o:J p=some (.ins cB [("rows",.ref r)])
 l:J r=some (.lst (rows.map aD.v))
abbrev dC:Stmt:=(L2.inClass (top 22) 0)
theorem mR:L2.aw ["self"] ["self"] (L2.aj dC):=dT
def vw (cB:Addr):cH:=fun xs J Q _=>∃ p,xs=[.ref p]∧J p=some (.ins cB [])∧∀ r,J r=none→Q .non (put (put J r (.lst [])) p (.ins cB [("rows",.ref r)]))
theorem rV {cB f:Addr} {fd:FuncData} (F:cm K "__init__" "Bells.__init__" dC f fd) (bC:dt K mg "Bells" cB) (aT:aF K cB "rows"):aO P w K mg base (c5 P w) 1 f fd ["self"] (dI K (vw cB)):=by
 simp_arith [mR]
 ·obtain ⟨p,rfl,_⟩:=h;rfl
 obtain ⟨p,rfl,hp,q⟩:=h
 refine ⟨_,(ak (iu bC.cl aT (rv 0) (ki ah))),?_⟩
 simp_arith! only [cK]
 intro r hr'
 have ne:p≠r:=by intro e;subst e;rw [hp] at hr';cases hr'
 exact ⟨[],by rw [au ne];exact hp,by decide,q r hr'⟩
abbrev eR:Stmt:=(L2.inClass (top 22) 2)
theorem iw:L2.aw ["self","hind","fore","kept","found"] ["self","hind","fore"] (L2.aj eR):=dT
def AB (cB:Addr):cH:=fun xs J Q _=>∃ p r rows h f,xs=[.ref p,.str h,.str f]∧E9 cB J p r rows∧rows.length≤900∧∀ r',J r'=none→Q (.bl (decide ((cP h f rows).length < rows.length))) (put (put J r' (.lst ((cP h f rows).map aD.v))) p (.ins cB [("rows",.ref r')]))
def tail3:PV→PV
 | .tup xs=>.tup (lM xs (some 1) none)
 | _=>.non
def Ad (h f:Str) (x:PV):Bool:=!eqQ (tail3 x) (.tup [.str h,.str f])
theorem IV (h f:Str) (b:aD):Ad h f b.v=!tE h f b:=by
 show (!eqQ (.tup [.str b.h,.str b.f]) (.tup [.str h,.str f]))=_
 rw [ub,dS,dS,oX,eq_str,eq_str,Bool.and_true,← Bool.decide_and]
 rfl
theorem CY (h f:Str):∀ rows:List aD,((rows.map aD.v).filter (Ad h f)).map (fun x=>x)=(cP h f rows).map aD.v
 | []=>rfl
 | b :: rows=>by
  have ih:=CY h f rows
  unfold cP at ih ⊢
  rw [List.map_cons,List.filter_cons,List.filter_cons,IV]
  cases tE h f b <;> simp at ih ⊢ <;> exact ih
theorem rT {cB f:Addr} {fd:FuncData} (F:cm K "drop" "Bells.drop" eR f fd) (Z:bV mg) (bC:dt K mg "Bells" cB) (aT:aF K cB "rows"):aO P w K mg base (c5 P w) 1 f fd ["self","hind","fore"] (dI K (AB cB)):=by
 simp_arith [iw]
 ·obtain ⟨p,r,rows,h,f,rfl,_⟩:=h;rfl
 obtain ⟨p,r,rows,h,f,rfl,b,hl,q⟩:=h
 have bo:=b.o
 have bl:=b.l
 refine ⟨_,(ai (GF (i:=3) (L2.aj eR) ["self","hind","fore","kept","found"] [("hind",1),("fore",2)] rfl rfl rfl iw.nd rfl (Or.inl rfl) (fj (aY bC.cl aT (rv 0))) (fun _ _ _ _ _ _=>(rv 0)) (fun _ _ _ _ _ _=>(aI (iK hr.aX) (iQ zg (rv 0) (kQ ag) kP) (cG (af (rv 1) (af (rv 2) ah))) (L2.ay _))))
   (ai (aE (i:=4) iw.nd rfl (Or.inl rfl) (fh gC (aG bH rfl Z.len boot_len (af (rv 3) ah)) (aG bH rfl Z.len boot_len (af (aY bC.cl aT (rv 0)) ah)) (L2.ay _)))
   (ai (iu bC.cl aT (rv 0) (rv 3))
   (ak (az (rv 4)))))),?_⟩
 simp_arith! only [cK,JJ,bo,bl,Lq]
 refine ⟨Ad h f,fun x=>x,⟨by rw [List.length_map];exact a9 (by omega),fun J' sub=>⟨sub _ _ bl,fun x hx=>?_⟩⟩,fun r' hr'=>?_⟩
 ·obtain ⟨b,_,rfl⟩:=List.mem_map.mp hx
  obtain ⟨xs,h1,h2,h3⟩:=CK J' b
  have hk:Ad h f b.v=!eqQ (.tup (lM xs (some 1) none)) (.tup [.str h,.str f]):=by rw [h1];rfl
  simp_arith! only [cK]
  refine ⟨⟨xs,h1,h2,?_⟩,fun _=>trivial⟩
  rw [hk,h3]
  refine ⟨⟨by simp [mH,lj],by simp [gE,gF,dep,dR]⟩,by simp [mH,lj],rfl⟩
 ·have ne:p≠r':=by intro e;subst e;rw [bo] at hr';cases hr'
  have nr:r≠r':=by intro e;subst e;rw [bl] at hr';cases hr'
  simp_arith! only [cK,au ne,au nr,bo,bl,Lq,CY,List.length_map,Int.ofNat_lt]
  exact ⟨by decide,q r' hr'⟩
abbrev gT:Stmt:=(L2.inClass (top 22) 1)
theorem dD:L2.aw ["self","moment","hind","fore","bell","low","high","middle"] ["self","moment","hind","fore"] (L2.aj gT):=dT
def za (cB:Addr):cH:=fun xs J Q _=>∃ p r rows m h f,xs=[.ref p,fr m,.str h,.str f]∧E9 cB J p r rows∧i_ rows∧rows.length≤800∧Sz 9000 m∧(∀ x∈rows,Sz 9000 x.m) ∧
 ∀ r',J r'=none→Q .non (put (put J r' (.lst ((iG ⟨m,h,f⟩ (cP h f rows)).map aD.v))) p (.ins cB [("rows",.ref r')]))
theorem K2 (a b:Nat):((a:Int) + (b:Int)).fdiv 2=(((a + b) / 2:Nat):Int):=by rw [Int.fdiv_eq_ediv_of_nonneg _ (by decide)];omega
theorem O6 (a:Int):CQ a 2=True:=eq_true ⟨by decide,Bd.mono (Bd.small (by decide) (by decide)) (by decide)⟩
theorem CH {rows:List aD} {i:Nat} {b:aD} (h:rows[i]?=some b):c_ (rows.map aD.v) (i:Int)=some b.v:=ba (by rw [List.getElem?_map,h];rfl)
theorem uu {cB f:Addr} {fd:FuncData} (F:cm K "put" "Bells.put" gT f fd) (Z:bV mg) (bC:dt K mg "Bells" cB) (aT:aF K cB "rows") (ji:cJ P w K mg base cB 1 "drop" ["self","hind","fore"] (AB cB))
  (rD:bh P w K mg base 2 "rings_ahead" ["one","other"] vt):aO P w K mg base (c5 P w) 3 f fd ["self","moment","hind","fore"] (dI K (za cB)):=by
 simp_arith [dD]
 ·obtain ⟨p,r,rows,m,h,f,rfl,_⟩:=h;rfl
 obtain ⟨p,r,rows,m,h,f,rfl,b,srt,hl,sm,sr,q⟩:=h
 have bo:=b.o
 refine ⟨_,(ai (bc (bp (pl:=_) ji B hr (by decide) (rv 0) (af (rv 2) (af (rv 3) ah))))
   (ai (aE (i:=4) dD.nd rfl (Or.inl rfl) (cG (af (rv 1) (af (rv 2) (af (rv 3) ah)))))
   (ai (JQ (i:=5) (j:=6) rfl dD.nd rfl rfl (by decide) rfl rfl (af ag (af (aG bH rfl Z.len boot_len (af (aY bC.cl aT (rv 0)) ah)) ah)) rfl)
   (ai (iX bR (aI gC (rv 5) (rv 6) (L2.ay _)) (ai (aE (i:=7) dD.nd rfl (Or.inl rfl) (aL o6 (aL cU (rv 5) (rv 6)) ag))
   (ak (aU (bj (aM rD B hr (by decide) rfl (af (aq ar (aY bC.cl aT (rv 0)) (rv 7) (fun _ _=>rfl)) (af (rv 4) ah)))) (ak (aE (i:=5) dD.nd rfl (Or.inl rfl) (aL cU (rv 7) ag))) (ak (aE (i:=6) dD.nd rfl (Or.inl rfl) (rv 7)))))))
   (ak (bc (lz PySem.F.plainAttrs_list PySem.F.slot_list_insert PySem.F.type_list_insert iI (aY bC.cl aT (rv 0)) (af (rv 5) (af (rv 4) ah))))))))),?_⟩
 simp_arith! only [cK,bo,NF]
 refine ⟨p,r,rows,h,f,rfl,b,by omega,fun r' hr'=>?_⟩
 have Kq:r'≠p:=by intro e;subst e;rw [bo] at hr';cases hr'
 have b1:E9 cB (put (put J r' (.lst ((cP h f rows).map aD.v))) p (.ins cB [("rows",.ref r')])) p r' (cP h f rows):=⟨av,by rw [au Kq];exact av⟩
 have kl:(cP h f rows).length≤800:=Nat.le_trans (nC _ _ _) hl
 have ks:i_ (cP h f rows):=sP srt
 have kz:∀ x∈cP h f rows,Sz 9000 x.m:=fun x hx=>sr x (List.mem_filter.mp hx).1
 have q:=q r' hr'
 generalize hJ:put (put J r' (.lst ((cP h f rows).map aD.v))) p (.ins cB [("rows",.ref r')])=J1 at b1 ⊢
 have hq:put J1 r' (.lst ((iG ⟨m,h,f⟩ (cP h f rows)).map aD.v))=put (put J r' (.lst ((iG ⟨m,h,f⟩ (cP h f rows)).map aD.v))) p (.ins cB [("rows",.ref r')]):=by rw [← hJ,Gr Kq]
 rw [← hq] at q
 clear hq hJ hr'
 have bo:=b1.o
 have bl:=b1.l
 generalize cP h f rows=ks' at *
 simp_arith! only [cK,bo,bl,Lq,EW,List.length_map]
 refine ⟨fun k τ J'=>∃ (lo hi:Nat) (u:Option PV),τ=[some (.ref p),some (fr m),some (.str h),some (.str f),some (aD.mk m h f).v,some (.int lo),some (.int hi),u]∧J'=J1∧k=hi - lo∧lo≤hi∧hi≤ks'.length ∧
  (∀ (j:Nat) x,j < lo→ks'[j]?=some x→x.lt ⟨m,h,f⟩=true)∧(∀ (j:Nat) x,hi≤j→ks'[j]?=some x→x.lt ⟨m,h,f⟩=false),⟨_,0,ks'.length,none,rfl,rfl,rfl,Nat.zero_le _,Nat.le_refl _,fun j x hj=>absurd hj (Nat.not_lt_zero _),fun j x hj e=>by rw [List.getElem?_eq_none hj] at e;cases e⟩,?_⟩
 rintro k τ J' ⟨lo,hi,u,rfl,rfl,rfl,h1,h2,hlo,hhi⟩
 simp_arith! only [cK,bo,bl,Lq,O6,K2,Int.ofNat_lt,vt]
 by_cases hlt:lo < hi
 ·rw [if_pos hlt]
  have hm:(lo + hi) / 2 < ks'.length:=by omega
  obtain ⟨x,hx⟩:∃ x,ks'[(lo + hi) / 2]?=some x:=⟨_,List.getElem?_eq_getElem hm⟩
  refine ⟨fun τ' J''=>∃ (lo' hi':Nat) (u:Option PV),τ'=[some (.ref p),some (fr m),some (.str h),some (.str f),some (aD.mk m h f).v,some (.int lo'),some (.int hi'),u]∧J''=J'∧lo'≤hi'∧hi'≤ks'.length∧hi' - lo' < hi - lo ∧
   (∀ (j:Nat) x,j < lo'→ks'[j]?=some x→x.lt ⟨m,h,f⟩=true)∧(∀ (j:Nat) x,hi'≤j→ks'[j]?=some x→x.lt ⟨m,h,f⟩=false),fun τ' J'' ⟨lo',hi',u,e1,e2,e3,e4,e5,e6,e7⟩=>⟨_,e5,lo',hi',u,e1,e2,rfl,e3,e4,e6,e7⟩,x.v,CH hx,x,rfl,⟨m,h,f⟩,rfl,kz x (List.mem_of_getElem? hx),sm,?_⟩
  cases hc:x.lt ⟨m,h,f⟩ with
  | true =>
   rw [if_pos rfl]
   exact ⟨(lo + hi) / 2 + 1,hi,_,rfl,rfl,by omega,h2,by omega,fun j y hj e=>AR ks hx e (by omega) hc,hhi⟩
  | false =>
   rw [if_neg Bool.false_ne_true]
   exact ⟨lo,(lo + hi) / 2,_,rfl,rfl,by omega,by omega,by omega,hlo,fun j y hj e=>qZ ks hx e hj hc⟩
 ·rw [if_neg hlt]
  have e:lo=hi:=by omega
  subst e
  refine ⟨_,lo,rfl,rfl,by rw [List.length_map];exact h2,by rw [List.length_map];exact a9 (by omega),Nat.lt_of_le_of_lt h2 (Nat.lt_of_le_of_lt kl (by decide)),?_⟩
  rw [← ud h2 hlo hhi,List.map_append,List.map_cons,List.map_take,List.map_drop] at q
  exact q
abbrev fT:Stmt:=(L2.inClass (top 22) 5)
theorem sk:L2.aw ["self"] ["self"] (L2.aj fT):=dT
def vA (cB:Addr):cH:=fun xs J Q _=>∃ p r rows,xs=[.ref p]∧E9 cB J p r rows∧(Q (.fl (rows.map aD.v)) J∨∀ l,J l=none→Q (.ref l) (put J l (.lst (rows.map aD.v))))
theorem rW {cB f:Addr} {fd:FuncData} (F:cm K "told" "Bells.told" fT f fd) (Z:bV mg) (bC:dt K mg "Bells" cB) (aT:aF K cB "rows"):aO P w K mg base (c5 P w) 1 f fd ["self"] (dI K (vA cB)):=by
 refine Hu F sk (fun xs J Q E h=>?_) (fun cdv A outer s H E G xs J Q E2 hr h B=>?_)
 ·obtain ⟨p,r,rows,rfl,_⟩:=h;rfl
 obtain ⟨p,r,rows,rfl,b,q⟩:=h
 have bo:=b.o
 have bl:=b.l
 refine ⟨_,(ak (az (iP p5 rfl Z.list boot_list (af (aY bC.cl aT (rv 0)) ah)))),?_⟩
 simp_arith! only [cK,bo,bl,Lq]
 intro l hl
 rcases q with q | q
 ·exact Fg.oJ (gx hl) av hl q
 ·exact Fg.same (q l hl)
def AE:cH:=fun xs J Q _=>∃ t b:Int,xs=[.int t,.int b]∧b≠0∧Bd 9000 b∧Q (fr (Rat.divInt t b)) J
theorem rQ (C:rd P w K mg base 2 "fraction" ["top","bottom"] gI):bh P w K mg base 2 "fraction" ["top","bottom"] AE:=C.lift fun xs J vs H Q2 E2 Q E rs r ⟨t,b,ex,h0,h1,q⟩ kn=>by
 subst ex
 obtain ⟨v,u,rfl,r1,r2⟩:=jI rs
 cases r1;cases r2
 exact ⟨t,b,rfl,h0,h1,uW r kn q⟩
theorem wA (l l':aV) (h:l.v≠l'.v):Rat.divInt ((l'.at 0 - l.at 0).num) (((l'.at 0 - l.at 0).den:Int) * (l.v - l'.v))=mD l l':=by
 rw [JG _ _ (by omega)];rfl
abbrev kU:Stmt:=(top 26)
theorem lX:L2.aw ["one","other","gain","gap"] ["one","other"] (L2.aj kU):=dT
def AJ:cH:=fun xs J Q _=>∃ l l':aV,xs=[l.V,l'.V]∧ox 900 l∧ox 900 l'∧(l.v=l'.v→Q .non J)∧(l.v≠l'.v→Q (fr (mD l l')) J)
theorem wM {f:Addr} {fd:FuncData} (F:cm K "meeting" "meeting" kU f fd) (Z:bV mg) (N:pU K mg) (d8:bh P w K mg base 4 "place_on" ["leg","moment"] mZ) (l9:bh P w K mg base 3 "minus" ["one","two"] (y_ fun p q=>p - q)) (bY:bh P w K mg base 2 "fraction" ["top","bottom"] AE) :
  aO P w K mg base (c5 P w) 5 f fd ["one","other"] (dI K AJ):=by
 simp_arith [lX]
 ·obtain ⟨l,l',rfl,_⟩:=h;rfl
 obtain ⟨l,l',rfl,sl,sl',q0,q1⟩:=h
 obtain ⟨aN,gN,sN⟩:=N
 have rN:∀ (J:Hq) (H:Hp),cq K J H (fr 0) (.ref aN):=fun J H=>⟨aN,_,rfl,sN H,⟨_,_,rfl,rfl,_,_,rfl,rfl,rfl⟩⟩
 refine ⟨_,(ai (aE (i:=2) lX.nd rfl (Or.inl rfl) (aL dM (aq ar (rv 0) ag (fun _ _=>rfl)) (aq ar (rv 1) ag (fun _ _=>rfl))))
   (ai (aU (aI (df hr.aX) (rv 2) ag (L2.ay _)) (ak (az lT)) aH)
   (ai (aE (i:=3) lX.nd rfl (Or.inl rfl) (aM l9 B hr (by decide) rfl (af (aM d8 B hr (by decide) rfl (af (rv 1) (af (fS (v:=.ref aN) (fr 0) rfl gN rfl rN) ah))) (af (aM d8 B hr (by decide) rfl (af (rv 0) (af (fS (v:=.ref aN) (fr 0) rfl gN rfl rN) ah))) ah))))
   (ak (az (aM bY B hr (by decide) rfl (af (aq ar (rv 3) ag (fun _ _=>rfl)) (af (aL bI (aq ar (rv 3) ag (fun _ _=>rfl)) (rv 2)) ah)))))))),?_⟩
 have z1:Sz 900 (0:Rat):=⟨⟨by decide⟩,⟨by decide⟩⟩
 have s3:=jV sl z1
 have s3':=jV sl' z1
 have s4:Sz 6001 (l'.at 0 - l.at 0):=s3'.sub s3
 have bg:Bd 65 (l.v - l'.v):=sl.v.sub sl'.v
 simp_all! only [j0]
 split
 ·rename_i e;simp_all! only [];exact q0 (by omega)
 rename_i e
 have hv:l.v≠l'.v:=by omega
 simp_all! only []
 refine ⟨l',0,rfl,sl'.m,sl'.p,z1,sl'.v,l,0,rfl,sl.m,sl.p,z1,sl.v,l'.at 0,l.at 0,rfl,s3'.mono (by decide),s3.mono (by decide),?_⟩
 simp_all! only []
 refine ⟨.of s4.den bg,_,_,rfl,Int.mul_ne_zero (fb _) e,(Bd.mul s4.den bg (k:=6100)).mono (by decide),?_⟩
 rw [wA l l' hv]
 exact q1 hv
theorem wB {l l':aV} (sl:ox 900 l) (sl':ox 900 l') (h:l.v≠l'.v):Sz 8000 (mD l l'):=by
 rw [← wA l l' h]
 have z1:Sz 900 (0:Rat):=⟨⟨by decide⟩,⟨by decide⟩⟩
 have s4:Sz 6001 (l'.at 0 - l.at 0):=(jV sl' z1).sub (jV sl z1)
 have bg:Bd 65 (l.v - l'.v):=sl.v.sub sl'.v
 exact Sz.div (s4.num.mono (by decide)) ((Bd.mul s4.den bg (k:=6100)).mono (by decide)) (Int.mul_ne_zero (fb _) (by omega))
theorem a8.MS {L:Ln} (h:a8 L) {c:Cf} (hc:c∈L.cs):ox 900 c.cur:=(h.ck c hc _ (Cf.jh (h.ne c hc)).2).Lv
abbrev f6:Stmt:=(L2.inClass (top 42) 13)
theorem lB:L2.aw ["self","name","other","met"] ["self","name","other"] (L2.aj f6):=dT
def qV (cN cL eC:Addr):cH:=fun xs J Q E=>∃ p L n n',xs=[.ref p,.str n,.str n']∧a_ cN cL J p L∧a8 L∧(∀ c∈L.cs,∀ c'∈L.cs,c.n=n→c'.n=n'→c.g=none→c'.g=none→Q (gv (FO L.t c.cur c'.cur)) J)∧(n ∉ L.row∨n' ∉ L.row→E eC J)
theorem sd {cN cL eC f:Addr} {fd:FuncData} (F:cm K "meets" "Lane.meets" f6 f fd) (Z:bV mg) (ax:dt K mg "Lane" cN) (aA:aF K cN "now") (bJ:cJ P w K mg base cN 4 "leg_of" ["self","name"] (mY cN cL eC)) (A7:bh P w K mg base 5 "meeting" ["one","other"] AJ) (d7:bh P w K mg base 1 "less" ["one","two"] dG):aO P w K mg base (c5 P w) 6 f fd ["self","name","other"] (dI K (qV cN cL eC)):=by
 simp_arith [lB]
 ·obtain ⟨p,L,n,n',rfl,_⟩:=h;rfl
 obtain ⟨p,L,n,n',rfl,b,ok,q,qe⟩:=h
 have bo:=b.ob
 refine ⟨_,(ai (aE (i:=3) lB.nd rfl (Or.inl rfl) (aM A7 B hr (by decide) rfl (af (bp (pl:=_) bJ B hr (by decide) (rv 0) (af (rv 1) ah)) (af (bp (pl:=_) bJ B hr (by decide) (rv 0) (af (rv 2) ah)) ah))))
   (ak (az (Mn (c4 (eQ (aI qB (rv 3) lT (L2.ay _)) (dB (bj (aM d7 B hr (by decide) rfl (af (aY ax.cl aA (rv 0)) (af (rv 3) ah))))))) (rv 3) lT)))),?_⟩
 simp_all! only [bo]
 refine ⟨eG _ _ _ _,p,L,n,rfl,b,ok,fun c hc e hg=>?_,fun z=>qe (.inl z)⟩
 simp_all! only [bo]
 refine ⟨eG _ _ _ _,p,L,n',rfl,b,ok,fun c' hc' e' hg'=>?_,fun z=>qe (.inr z)⟩
 have q:=q c hc c' hc' e e' hg hg'
 have sl:=ok.MS hc
 have sl':=ok.MS hc'
 unfold FO at q
 refine ⟨c.cur,c'.cur,rfl,sl,sl',fun hv=>?_,fun hv=>?_⟩
 ·rw [if_neg (fun z=>z.1 hv)] at q
  simp_all! only []
  exact q
 ·simp_all! only [qp,bo,rR,dG]
  refine ⟨ok.Kf.mono (by decide),(wB sl sl' hv).mono (by decide),?_⟩
  split
  ·rename_i c1
   rw [if_pos ⟨hv,c1⟩] at q
   simp_all! only []
   exact q
  ·rename_i c1
   rw [if_neg (fun z=>c1 z.2)] at q
   exact q
theorem Pf (A:Nat):Sc hW A 0:=⟨0,by rw [Rat.zero_mul];rfl,Nat.zero_le _⟩
theorem a_.DG {cN cL:Addr} {J:Hq} {p T:Addr} {L:Ln} (h:a_ cN cL J p L) (hT:J T=Option.some .tab):¬ L.own p T:=by
 rintro (rfl | rfl | rfl | ⟨c,hc,rfl | rfl⟩)
 ·rw [h.ob] at hT;cases hT
 ·rw [h.dc] at hT;cases hT
 ·rw [h.rw] at hT;cases hT
 ·rw [(h.lg c hc).o] at hT;cases hT
 ·rw [(h.lg c hc).l] at hT;cases hT
theorem K3 {L:Ln} {n:Str} {l:aV} (h:(n,l)∈L.fs):∃ c∈L.cs,c.n=n∧c.g=none∧c.cur=l:=by
 obtain ⟨c,hc,e⟩:=List.mem_map.mp h
 have:=Ln.d3.mp hc
 cases e
 exact ⟨c,this.1,rfl,this.2,rfl⟩
def oq:cH:=fun xs J Q _=>∃ a b:Int,xs=[.int a,.int b]∧Q (.int (Int.gcd a b:Nat)) J
theorem wx (C:rd P w K mg base 1 "shared" ["one","two"] qX):bh P w K mg base 1 "shared" ["one","two"] oq:=C.lift fun xs J vs H Q2 E2 Q E rs r ⟨a,b,ex,q⟩ kn=>by
 subst ex
 obtain ⟨v,u,rfl,r1,r2⟩:=jI rs
 cases r1;cases r2
 exact ⟨a,b,rfl,kn (.int _) J _ H rfl r .refl q⟩
abbrev dg:Stmt:=(top 18)
theorem lU:L2.aw ["pair"] ["pair"] (L2.aj dg):=dT
def xy:cH:=fun xs J Q _=>∃ a b:Int,xs=[.tup [.int a,.int b]]∧Q (.bl (decide (1≤b∧Int.gcd a b=1))) J
theorem k_ {f:Addr} {fd:FuncData} (F:cm K "in_lowest_terms" "in_lowest_terms" dg f fd) (Z:bV mg) (iz:bh P w K mg base 1 "shared" ["one","two"] oq):aO P w K mg base (c5 P w) 2 f fd ["pair"] (dI K xy):=by
 simp_arith [lU]
 ·obtain ⟨a,b,rfl,_⟩:=h;rfl
 obtain ⟨a,b,rfl,q⟩:=h
 refine ⟨_,(ak (az (y4 (fh DS (aq ar (rv 0) ag (fun _ _=>rfl)) ag (L2.ay _)) (uV (fh (df hr.aX) (aM iz B hr (by decide) rfl (af (aq ar (rv 0) ag (fun _ _=>rfl)) (af (aq ar (rv 0) ag (fun _ _=>rfl)) ah))) ag (L2.ay _)))))),?_⟩
 simp_all! only []
 by_cases c:1≤b
 ·simp only [c,decide_true,true_and,if_true] at q ⊢
  simp_all! only [oq]
  have:decide (((Int.gcd a b:Nat):Int)=1)=decide (Int.gcd a b=1):=decide_eq_decide.mpr (by omega)
  rw [this];exact q
 ·simp only [c,decide_false,false_and] at q ⊢
  rw [if_neg (fun z=>z)]
  exact q
abbrev fo:Stmt:=(top 40)
theorem gG:L2.aw ["moment","top","bottom"] ["moment"] (L2.aj fo):=dT
def fP (a b:Int):Bool:=decide (b≤60∧1≤b∧Int.gcd a b=1∧0≤a∧a≤1000000 * b)
def AF:cH:=fun xs J Q _=>∃ a b:Int,xs=[.tup [.int a,.int b]]∧Q (.bl (fP a b)) J
theorem oO {f:Addr} {fd:FuncData} (F:cm K "good_moment" "good_moment" fo f fd) (Z:bV mg) {m5 m6:Tok} (jY:mg "FINEST"=some (.int 60 m5)) (jZ:mg "LATEST"=some (.int 1000000 m6)) (l7:bh P w K mg base 2 "in_lowest_terms" ["pair"] xy):aO P w K mg base (c5 P w) 3 f fd ["moment"] (dI K AF):=by
 simp_arith [gG]
 ·obtain ⟨a,b,rfl,_⟩:=h;rfl
 obtain ⟨a,b,rfl,q⟩:=h
 refine ⟨_,(ai (uX (rv 0) (qM rfl (cZ (bF (i:=1) gG.nd rfl (Or.inl rfl)) (cZ (bF (i:=2) gG.nd rfl (Or.inl rfl)) mJ))))
   (ai (aU (c4 (gS (aI j8 (rv 2) (fS (v:=.int 60) (.int 60) rfl jY ⟨_,rfl⟩ (fun _ _=>rfl)) (L2.ay _)) (fM (bQ (bj (aM l7 B hr (by decide) rfl (af (rv 0) ah))))))) (ak (az dn)) aH)
   (ak (az (El DT DT ag (rv 1) (aL bI (fS (v:=.int 1000000) (.int 1000000) rfl jZ ⟨_,rfl⟩ (fun _ _=>rfl)) (rv 2))))))),?_⟩
 unfold fP at q
 simp_all! only []
 refine ⟨rfl,?_⟩
 simp_all! only []
 by_cases c1:60 < b
 ·rw [if_pos c1]
  rw [decide_eq_false (fun z=>by omega)] at q
  exact q
 rw [if_neg c1]
 simp_all! only []
 refine ⟨a,b,rfl,?_⟩
 by_cases c2:1≤b∧Int.gcd a b=1
 ·rw [decide_eq_true c2]
  simp_all! only [uT]
  by_cases c3:0≤a
  ·simp only [c3,decide_true,if_true]
   refine ⟨.of (.small (x:=1000000) (by decide) (by decide)) (.small (x:=b) (by omega) (by omega)),?_⟩
   have:decide (a≤1000000 * b)=decide (b≤60∧1≤b∧Int.gcd a b=1∧0≤a∧a≤1000000 * b):=decide_eq_decide.mpr ⟨fun z=>⟨by omega,c2.1,c2.2,c3,z⟩,fun z=>z.2.2.2.2⟩
   rw [this];exact q
  ·rw [decide_eq_false (fun z=>c3 z.2.2.2.1)] at q
   simp only [c3,decide_false]
   rw [if_neg (fun z=>z)]
   exact q
 ·rw [decide_eq_false c2]
  rw [decide_eq_false (fun z=>c2 ⟨z.2.1,z.2.2.1⟩)] at q
  simp_all! only []
  exact q
theorem a_.less {cN cL:Addr} {J J':Hq} {p:Addr} {L:Ln} (h:a_ cN cL J p L) (l:nu J J'):a_ cN cL J' p L:=h.keep fun a o _ e=>by
 rcases l a with z | z
 ·rw [← z];exact e
 ·rw [z] at e;cases e
theorem nL {J J':Hq} {p r:Addr} {x y:HQ} (l:nu J J') (hp:J p=none) (hr:J' r=none):nu J (put (put J' r x) p y):=fun a=>by
 by_cases e:a=p
 ·exact .inr (by rw [e];exact hp)
 by_cases e2:a=r
 ·rcases l a with z | z
  ·right;rw [z,e2];exact hr
  ·exact .inr z
 ·rw [au e,au e2];exact l a
theorem sZ {J:Hq} {p r:Addr} {x y z:HQ} (hp:J p=none) (hr:put J p x r=none):nu J (put (put (put J p x) r y) p z):=nL (gx hp) hp hr
theorem wa (xs:List PV) (k:Nat) (h:k≤xs.length):lM xs (some (k:Int)) none=xs.drop k:=by
 unfold lM HT.d_
 simp only [Int.toNat_natCast]
 rw [if_neg (by omega),Nat.min_eq_left h]
 rw [List.take_of_length_le (by rw [List.length_drop];exact Nat.le_refl _)]
theorem cn.keys {L:Ln} (ok:cn L):L.row.map PV.str=(cu (L.fs.map (key L.t))).map fun k=>PV.str k.n:=by rw [ok.row];unfold cS;rw [List.map_map];rfl
theorem uh {L:Ln} (ok:a8 L) {a:Ky} (ha:a∈cu (L.fs.map (key L.t))) {c:Cf} (hc:c∈L.cs) (hg:c.g=none) (e:c.n=a.n):a=key L.t (c.n,c.cur):=by
 obtain ⟨x,hx,rfl⟩:=List.mem_map.mp ((bz _ _).mp ha)
 obtain ⟨c0,hc0,h1,h2,h3⟩:=K3 (n:=x.1) (l:=x.2) hx
 have:c0=c:=ok.uniq hc0 hc (h1.trans e.symm)
 subst this
 show key L.t (x.1,x.2)=_
 rw [← h3,← h1]
theorem kR {L:Ln} (ok:cn L) {a:Ky} (ha:a∈cu (L.fs.map (key L.t))):a.n∈L.row:=by
 rw [ok.row];unfold cS;exact List.mem_map.mpr ⟨a,ha,rfl⟩
theorem mC {L:Ln} (ok:cn L) {a b:Ky} (ha:a∈cu (L.fs.map (key L.t))) (hb:b∈cu (L.fs.map (key L.t))) (h:b.v < a.v):Sz 9000 (cY L.t a b):=by
 obtain ⟨c,hc,hcn,hcg⟩:=ok.found (kR ok ha)
 obtain ⟨c',hc',hcn',hcg'⟩:=ok.found (kR ok hb)
 have ea:=uh ok.toa8 ha hc hcg hcn
 have eb:=uh ok.toa8 hb hc' hcg' hcn'
 have hv:c.cur.v≠c'.cur.v:=by rw [ea,eb] at h;exact fun z=>by have:c'.cur.v < c.cur.v:=h;omega
 rw [ea,eb,← o4 hv]
 exact (wB (ok.MS hc) (ok.MS hc') hv).mono (by decide)
theorem cn.knd {L:Ln} (ok:cn L):((L.fs.map (key L.t)).map Ky.n).Nodup:=by rw [cv];exact ok.Ha
theorem cn.La {L:Ln} (ok:cn L):(cu (L.fs.map (key L.t))).length≤12:=by
 have h1:=ok.rl
 have h2:=congrArg List.length ok.keys
 rw [List.length_map,List.length_map] at h2
 omega
theorem wC {L:Ln} (ok:cn L) {i j:Nat} {a b:Ky} (ha:(cu (L.fs.map (key L.t)))[i]?=some a) (hb:(cu (L.fs.map (key L.t)))[j]?=some b) (hij:i < j) {c c':Cf} (hc:c∈L.cs) (hc':c'∈L.cs) (hg:c.g=none) (hg':c'.g=none) (e:c.n=a.n) (e':c'.n=b.n) :
  FO L.t c.cur c'.cur=if b.v < a.v∧a.p < b.p then some (cY L.t a b) else none:=by
 have ea:=uh ok.toa8 (List.mem_of_getElem? ha) hc hg e
 have eb:=uh ok.toa8 (List.mem_of_getElem? hb) hc' hg' e'
 have hlt:a.lt b=true:=by
  obtain ⟨hil,ei⟩:=List.getElem?_eq_some_iff.mp ha
  obtain ⟨hjl,ej⟩:=List.getElem?_eq_some_iff.mp hb
  have:=List.pairwise_iff_getElem.mp (cR ok.knd) i j hil hjl hij
  rw [ei,ej] at this;exact this
 rw [ea,eb] at hlt ⊢
 have key:=FP hlt
 unfold FO
 by_cases z:c.cur.v≠c'.cur.v∧L.t < mD c.cur c'.cur
 ·rw [if_pos z,if_pos (show (Ov.key L.t (c'.n,c'.cur)).v < (Ov.key L.t (c.n,c.cur)).v∧(Ov.key L.t (c.n,c.cur)).p < (Ov.key L.t (c'.n,c'.cur)).p from key.mp z),o4 z.1]
 ·rw [if_neg z,if_neg (show ¬ ((Ov.key L.t (c'.n,c'.cur)).v < (Ov.key L.t (c.n,c.cur)).v∧(Ov.key L.t (c.n,c.cur)).p < (Ov.key L.t (c'.n,c'.cur)).p) from fun y=>z (key.mpr y))]
theorem GD {L:Ln} (ok:cn L) {i j:Nat} {a b:Ky} (ha:(cu (L.fs.map (key L.t)))[i]?=some a) (hb:(cu (L.fs.map (key L.t)))[j]?=some b) (hij:i < j) (h:b.v < a.v):a.p < b.p:=by
 obtain ⟨hil,ei⟩:=List.getElem?_eq_some_iff.mp ha
 obtain ⟨hjl,ej⟩:=List.getElem?_eq_some_iff.mp hb
 have:=List.pairwise_iff_getElem.mp (cR ok.knd) i j hil hjl hij
 rw [ei,ej,Ky.lt_iff] at this
 rcases this with z | ⟨_,z | ⟨z,_⟩⟩
 ·exact z
 ·omega
 ·omega
abbrev d6:Stmt:=(L2.inClass (top 42) 6)
theorem cf:L2.aw ["self","moment","passings","at","hind","fore","met"] ["self","moment"] (L2.aj d6):=dT
theorem Bx {J J':Hq} {l:Addr} {o:HQ} (h:nu J J'):nu (put J l o) (put J' l o):=fun a=>by
 by_cases e:a=l
 ·subst e;rw [av,av];exact .inl rfl
 ·rw [au e,au e];exact h a
def pB (cN cL eM eP:Addr):cH:=fun xs J Q E=>∃ p L a b,xs=[.ref p,.tup [.int a,.int b]]∧a_ cN cL J p L∧cn L∧(fP a b=false→E eM J)∧(∀ m:Rat,m.num=a→(m.den:Int)=b→fP a b=true→(m < L.t→E eP J)∧(L.t≤m→Q (.fl ((eK L.t (L.fs.map (key L.t)) m).map aD.v)) J∨∀ l,J l=none→Q (.ref l) (put J l (.lst ((eK L.t (L.fs.map (key L.t)) m).map aD.v)))))
theorem nS {cN cL cB eM eP eC f:Addr} {fd:FuncData} (F:cm K "foretold" "Lane.foretold" d6 f fd) (Z:bV mg) (ax:dt K mg "Lane" cN) (aA:aF K cN "now") (aB:aF K cN "row") (fu:Own K mg "BadMoment" eM) (pW:Own K mg "Past" eP) (rq:bh P w K mg base 3 "good_moment" ["moment"] AF) (d7:bh P w K mg base 1 "less" ["one","two"] dG) (kB:ya P w K mg base cB 1 "Bells" ["self"] (vw cB)) (dz:cJ P w K mg base cN 6 "meets" ["self","name","other"] (qV cN cL eC)) (er:cJ P w K mg base cB 3 "put" ["self","moment","hind","fore"] (za cB)) (dw:cJ P w K mg base cB 1 "told" ["self"] (vA cB)):aO P w K mg base (c5 P w) 7 f fd ["self","moment"] (dI K (pB cN cL eM eP)):=by
 refine Hu F cf (fun xs J Q E h=>?_) (fun cdv A outer s H E G xs J Q E2 hr h B=>?_)
 ·obtain ⟨p,L,a,b,rfl,_⟩:=h;rfl
 obtain ⟨p,L,a,bb,rfl,b,ok,qe,q⟩:=h
 have bo:=b.ob
 refine ⟨_,(ai (aU (bQ (bj (aM rq B hr (by decide) rfl (af (rv 1) ah)))) (ak (dW fu rfl cF B.kn rfl (af bW ah))) aH)
   (ai (aU (bj (aM d7 B hr (by decide) rfl (af (rv 1) (af (aY ax.cl aA (rv 0)) ah)))) (ak (dW pW rfl cF B.kn rfl (af bW ah))) aH)
   (ai (aE (i:=2) cf.nd rfl (Or.inl rfl) (qK kB B hr (by decide) rfl))
   (ai (dO bR rfl (GC rfl Z.enumerate (af (aY ax.cl aB (rv 0)) ah)) (qM (n:=2) rfl (cZ (bF (i:=3) cf.nd rfl (Or.inl rfl)) (cZ (bF (i:=4) cf.nd rfl (Or.inl rfl)) mJ))) (ak (dO bR rfl (fj (iQ EG (aY ax.cl aB (rv 0)) (kQ (aL cU (rv 3) ag)) kP)) (bF (i:=5) cf.nd rfl (Or.inl rfl)) (ai (aE (i:=6) cf.nd rfl (Or.inl rfl) (bp (pl:=_) dz B hr (by decide) (rv 0) (af (rv 4) (af (rv 5) ah))))
   (ak (aU (c4 (eQ (aI qB (rv 6) lT (L2.ay _)) (dB (bQ (bj (aM d7 B hr (by decide) rfl (af (rv 1) (af (rv 6) ah)))))))) (ak (bc (bp (pl:=_) er B hr (by decide) (rv 2) (af (rv 6) (af (rv 4) (af (rv 5) ah)))))) aH))))))
   (ak (az (dq (pl:=_) dw B hr (by decide) (rv 2)))))))),?_⟩
 simp_all! only []
 refine ⟨a,bb,rfl,?_⟩
 cases hg:fP a bb with
 | false =>
  simp_all! only [fL]
  exact qe hg
 | true =>
  have hgm:=of_decide_eq_true hg
  obtain ⟨m,hm1,hm2⟩:∃ m:Rat,m.num=a∧(m.den:Int)=bb:=⟨⟨a,bb.toNat,by omega,by
   have:=hgm.2.2.1
   unfold Int.gcd at this
   show Nat.gcd a.natAbs bb.toNat=1
   rw [show bb.toNat=bb.natAbs by omega];exact this⟩,rfl,by show ((bb.toNat:Nat):Int)=bb;omega⟩
  obtain ⟨q1,q2⟩:=q m hm1 hm2 hg
  have ef:PV.tup [.int a,.int bb]=fr m:=by rw [← hm1,← hm2];rfl
  have sm:Sz 900 m:=⟨(Bd.small (x:=m.num) (by omega) (by omega)).mono (by decide),(Bd.small (x:=(m.den:Int)) (by omega) (by omega)).mono (by decide)⟩
  simp_all! only [bo,rR,ef]
  refine ⟨_,_,rfl,sm.mono (by decide),ok.Kf.mono (by decide),?_⟩
  by_cases c1:m < L.t
  ·rw [decide_eq_true c1]
   simp_all! only [fL]
   exact q1 c1
  rw [decide_eq_false c1]
  have q:=q2 (by grind)
  simp_all! only []
  intro pb hpb
  refine ⟨pb,rfl,av,fun r0 hr0=>⟨rfl,?_⟩⟩
  have l0:=sZ (y:=.lst []) (z:=.ins cB [("rows",.ref r0)]) hpb hr0
  have nr0:r0≠pb:=by intro e;subst e;rw [av] at hr0;cases hr0
  have b0:E9 cB (put (put (put J pb (.ins cB [])) r0 (.lst [])) pb (.ins cB [("rows",.ref r0)])) pb r0 []:=⟨av,by rw [au nr0];exact av⟩
  generalize put (put (put J pb (.ins cB [])) r0 (.lst [])) pb (.ins cB [("rows",.ref r0)])=J0 at l0 b0 ⊢
  simp_all! only [(b.less l0).ob,(b.less l0).rw,rS]
  obtain ⟨ks,hks⟩:∃ ks,cu (L.fs.map (key L.t))=ks:=⟨_,rfl⟩
  have hrow:L.row.map PV.str=ks.map fun k=>PV.str k.n:=by rw [← hks];exact ok.keys
  have hkl:ks.length≤12:=by rw [← hks];exact ok.La
  have hup:∀ {ps:List (Ky × Ky)},(∀ p∈ps,p.1∈ks∧p.2∈ks)→∀ x∈bq L.t (bU L.t m) ps,Sz 9000 x.m:=fun hp x hx=>by
   obtain ⟨p,hp',hc,rfl⟩:=f_ _ hx
   have:=of_decide_eq_true hc
   exact mC ok (by rw [hks];exact (hp p hp').1) (by rw [hks];exact (hp p hp').2) this.1
  rw [hrow]
  obtain ⟨Inv,hInv⟩:∃ Inv:Nat→Sr→Hq→Prop,∀ i τ J',Inv i τ J'↔∃ (r:Addr) (u3 u4 u5 u6:Option PV),τ=[some (.ref p),some (fr m),some (.ref pb),u3,u4,u5,u6]∧nu J J'∧E9 cB J' pb r (bq L.t (bU L.t m) (xP ks i))∧(bq L.t (bU L.t m) (xP ks i)).length≤12 * i:=⟨_,fun _ _ _=>Iff.rfl⟩
  refine fJ Inv ((hInv _ _ _).mpr ⟨r0,_,_,_,_,rfl,l0,b0,Nat.le_refl _⟩) (fun i τ J' h=>?_) ?_ ?_
  ·obtain ⟨r,_,_,_,_,_,l',_⟩:=(hInv _ _ _).mp h
   rw [(b.less l').rw,hrow]
  ·intro i x τ J' hx hv
   obtain ⟨r,u3,u4,u5,u6,rfl,l',bb,hle⟩:=(hInv _ _ _).mp hv
   clear hv
   have hi:i < ks.length:=by have:=(List.getElem?_eq_some_iff.mp hx).1;rw [kG,List.length_map] at this;exact this
   have ha:ks[i]?=some ks[i]:=List.getElem?_eq_getElem hi
   rw [sT _ i (.str (ks[i]).n) (by rw [List.getElem?_map,ha];rfl)] at hx
   cases hx
   generalize ks[i]=a at ha ⊢
   simp_all! only [(b.less l').ob,(b.less l').rw,rS]
   rw [hrow,show (i:Int) + 1=((i + 1:Nat):Int) by omega,wa _ _ (by rw [List.length_map];omega),← List.map_drop]
   have eup:xP ks (i + 1)=xP ks i ++ (ks.drop (i + 1)).map fun b=>(a,b):=by show xP ks i ++ _=_;rw [ha]
   have mup:∀ j,∀ p∈xP ks i ++ ((ks.drop (i + 1)).take j).map (fun b=>(a,b)),p.1∈ks∧p.2∈ks:=fun j p hp=>by
    rcases List.mem_append.mp hp with hp | hp
    ·obtain ⟨_,_,_,_,h3,h4⟩:=m8.mp hp
     exact ⟨List.mem_of_getElem? h3,List.mem_of_getElem? h4⟩
    ·obtain ⟨y,hy,rfl⟩:=List.mem_map.mp hp
     exact ⟨List.mem_of_getElem? ha,List.mem_of_mem_drop (List.mem_of_mem_take hy)⟩
   obtain ⟨In2,hIn2⟩:∃ In2:Nat→Sr→Hq→Prop,∀ j τ J',In2 j τ J'↔∃ (r:Addr) (u5 u6:Option PV),τ=[some (.ref p),some (fr m),some (.ref pb),some (.int (i:Int)),some (.str a.n),u5,u6]∧nu J J'∧E9 cB J' pb r (bq L.t (bU L.t m) (xP ks i ++ ((ks.drop (i + 1)).take j).map fun b=>(a,b)))∧(bq L.t (bU L.t m) (xP ks i ++ ((ks.drop (i + 1)).take j).map fun b=>(a,b))).length≤12 * i + j:=⟨_,fun _ _ _=>Iff.rfl⟩
   refine fJ In2 ((hIn2 _ _ _).mpr ⟨r,_,_,rfl,l',by simpa using bb,by simpa using hle⟩) (fun _ _ _ _=>trivial) ?_ ?_
   ·intro j x τ J2 hx hv
    obtain ⟨r2,u5,u6,rfl,l2,bb2,hle2⟩:=(hIn2 _ _ _).mp hv
    clear hv
    have hj:j < (ks.drop (i + 1)).length:=by have:=(List.getElem?_eq_some_iff.mp hx).1;rw [List.length_map] at this;exact this
    have hb:(ks.drop (i + 1))[j]?=some (ks.drop (i + 1))[j]:=List.getElem?_eq_getElem hj
    rw [List.getElem?_map,hb] at hx
    cases hx
    generalize (ks.drop (i + 1))[j]=y at hb ⊢
    have hb':ks[i + 1 + j]?=some y:=by rw [List.getElem?_drop] at hb;exact hb
    have hjl:j < 12:=by rw [List.length_drop] at hj;omega
    have ej:(ks.drop (i + 1)).take (j + 1)=(ks.drop (i + 1)).take j ++ [y]:=by rw [List.take_add_one,hb];rfl
    have ef2:bq L.t (bU L.t m) (xP ks i ++ ((ks.drop (i + 1)).take (j + 1)).map fun b=>(a,b))=fA L.t (bU L.t m) (bq L.t (bU L.t m) (xP ks i ++ ((ks.drop (i + 1)).take j).map fun b=>(a,b))) (a,y):=by
     rw [ej,List.map_append,← List.append_assoc];exact dm _ _ _ _
    have srt:=fc L.t (bU L.t m) (xP ks i ++ ((ks.drop (i + 1)).take j).map fun b=>(a,b))
    have szs:=hup (mup j)
    generalize bq L.t (bU L.t m) (xP ks i ++ ((ks.drop (i + 1)).take j).map fun b=>(a,b))=rows at bb2 hle2 ef2 srt szs
    have lZ:bU L.t m (a,y)=false→∀ {v5 v6},In2 (j + 1) [some (.ref p),some (fr m),some (.ref pb),some (.int (i:Int)),some (.str a.n),v5,v6] J2:=fun hc v5 v6=>by
     have e:fA L.t (bU L.t m) rows (a,y)=rows:=by unfold fA;rw [if_neg (by rw [hc];decide)]
     exact (hIn2 _ _ _).mpr ⟨r2,_,_,rfl,l2,by rw [ef2,e];exact bb2,by rw [ef2,e];omega⟩
    have b2:=b.less l2
    simp_all! only [b2.ob]
    refine ⟨eG _ _ _ _,p,L,a.n,y.n,rfl,b2,ok.toa8,fun c hc c' hc' e e' hg hg'=>?_,fun z=>?_⟩
    ·have hmet:=wC ok (by rw [hks];exact ha) (by rw [hks];exact hb') (by omega) hc hc' hg hg' e e'
     rw [hmet]
     by_cases c2:y.v < a.v∧a.p < y.p
     ·rw [if_pos c2]
      have smk:=mC ok (by rw [hks];exact List.mem_of_getElem? ha) (by rw [hks];exact List.mem_of_getElem? hb') c2.1
      simp_all! only [gv,qp,dG]
      refine ⟨sm.mono (by decide),smk,?_⟩
      by_cases c3:m < cY L.t a y
      ·rw [if_pos c3]
       exact lZ (decide_eq_false (fun z=>by have:=z.2.2;grind))
      ·rw [if_neg c3]
       have hcp:bU L.t m (a,y)=true:=decide_eq_true ⟨c2.1,c2.2,by grind⟩
       have e:fA L.t (bU L.t m) rows (a,y)=iG ⟨cY L.t a y,a.n,y.n⟩ (cP a.n y.n rows):=by unfold fA;rw [if_pos hcp];rfl
       simp_all! only [bb2.o]
       refine ⟨Lr _,pb,r2,rows,cY L.t a y,a.n,y.n,rfl,bb2,srt,by omega,smk,szs,fun r' hr'=>?_⟩
       have nr:r'≠pb:=by intro z;subst z;rw [bb2.o] at hr';cases hr'
       refine (hIn2 _ _ _).mpr ⟨r',_,_,rfl,nL l2 hpb hr',⟨av,by rw [au nr,av,ef2,e]⟩,?_⟩
       rw [ef2,e,qi]
       have:=nC a.n y.n rows
       omega
     ·rw [if_neg c2]
      simp_all! only [gv]
      exact lZ (decide_eq_false (fun z=>c2 ⟨z.1,z.2.1⟩))
    ·rcases z with z | z
     ·exact absurd (kR ok (by rw [hks];exact List.mem_of_getElem? ha)) z
     ·exact absurd (kR ok (by rw [hks];exact List.mem_of_getElem? hb')) z
   ·intro τ J2 hv
    obtain ⟨r2,u5,u6,rfl,l2,bb2,hle2⟩:=(hIn2 _ _ _).mp hv
    rw [List.length_map,List.take_length,← eup] at bb2 hle2
    rw [List.length_drop] at hle2
    exact (hInv _ _ _).mpr ⟨r2,_,_,_,_,rfl,l2,bb2,by omega⟩
  ·intro τ J' hv
   obtain ⟨r,u3,u4,u5,u6,rfl,l',bb,hle⟩:=(hInv _ _ _).mp hv
   rw [kG,List.length_map,← hks,G5 ok.knd] at bb
   simp_all! only [bb.o]
   exact ⟨Ls _,pb,r,_,rfl,bb,q.imp (fun q=>Fg.less l' q) fun q l hl=>Fg.less (Bx l') (q l ((l' l).elim (fun e=>e.trans hl) id))⟩
theorem mw {m:Rat} (h:fP m.num m.den=true):Sc hW MM m∧0≤m:=by
 have h:=of_decide_eq_true h
 have hd:m.den≤60:=by omega
 constructor
 ·have h1:Sc m.den m.num.natAbs m:=⟨m.num,by have:=cast_eq m;rw [this];rfl,Nat.le_refl _⟩
  obtain ⟨k,hk⟩:=OJ m.den m.den_pos hd
  have h2:=h1.scale (E:=k)
  rw [show k * m.den=hW by rw [hk,Nat.mul_comm]] at h2
  refine h2.mono ?_
  have h3:m.num.natAbs≤1000000 * m.den:=by omega
  have h4:k * m.num.natAbs≤k * (1000000 * m.den):=Nat.mul_le_mul_left _ h3
  have h5:k * (1000000 * m.den)=1000000 * hW:=by rw [hk];rw [Nat.mul_left_comm,Nat.mul_comm k]
  unfold MM
  omega
 ·exact Rat.num_nonneg.mp h.2.2.2.1
theorem a8.K4 {L:Ln} (h:a8 L) {m:Rat} (hm:L.t≤m) (hg:fP m.num m.den=true):a8 { L with t:=m } :=
 ⟨h.nd,h.ne,fun c hc l hl=>Rat.le_trans (h.le c hc l hl) hm,h.ck,h.len,fun c hc q e=>⟨(h.gz c hc q e).1,Rat.le_trans (h.gz c hc q e).2 hm⟩,(mw hg).2,(mw hg).1,h.many,h.rm,h.rn,h.rl⟩
abbrev fY:Stmt:=(L2.inClass (top 42) 5)
theorem lA:L2.aw ["self","moment","passings"] ["self","moment"] (L2.aj fY):=dT
def ED (cN cL eM eP:Addr):cH:=fun xs J Q E=>∃ p L a b,xs=[.ref p,.tup [.int a,.int b]]∧a_ cN cL J p L∧cn L∧(fP a b=false→E eM J)∧(∀ m:Rat,m.num=a→(m.den:Int)=b→fP a b=true→(m < L.t→E eP J)∧(L.t≤m→∀ J' o',a_ cN cL J' p { L with t:=m,o:=o',row:=cS m L.fs }→cn { L with t:=m,o:=o',row:=cS m L.fs }→Mv J J' (L.own p) (Ln.own { L with t:=m,o:=o',row:=cS m L.fs } p)→Q (.fl ((eK L.t (L.fs.map (key L.t)) m).map aD.v)) J'))
theorem r8 {cN cL eM eP f:Addr} {fd:FuncData} (F:cm K "go_to" "Lane.go_to" fY f fd) (Z:bV mg) (ax:dt K mg "Lane" cN) (aA:aF K cN "now") (bN:cJ P w K mg base cN 7 "foretold" ["self","moment"] (pB cN cL eM eP)) (bA:cJ P w K mg base cN 7 "settle" ["self"] (iZ cN cL)):aO P w K mg base (c5 P w) 8 f fd ["self","moment"] (dI K (ED cN cL eM eP)):=by
 simp_arith [lA]
 ·obtain ⟨p,L,a,b,rfl,_⟩:=h;rfl
 obtain ⟨p,L,a,bb,rfl,b,ok,qe,q⟩:=h
 have bo:=b.ob
 refine ⟨_,(ai (aE (i:=2) lA.nd rfl (Or.inl rfl) (bp (pl:=_) bN B hr (by decide) (rv 0) (af (rv 1) ah)))
   (ai (iu ax.cl aA (rv 0) (rv 1))
   (ai (bc (dq (pl:=_) bA B hr (by decide) (rv 0)))
   (ak (az (rv 2)))))),?_⟩
 simp_all! only [bo]
 refine ⟨eG _ _ _ _,p,L,a,bb,rfl,b,ok,qe,fun m h1 h2 hg=>⟨(q m h1 h2 hg).1,fun hm=>.inl ?_⟩⟩
 have q:=(q m h1 h2 hg).2 hm
 have ef:PV.tup [.int a,.int bb]=fr m:=by rw [← h1,← h2];rfl
 have hgm:fP m.num m.den=true:=by rw [h1,h2];exact hg
 have ok1:=ok.toa8.K4 hm hgm
 simp_all! only [bo,ef]
 refine ⟨by show (3:Nat) < 1000;decide,?_⟩
 have b1:a_ cN cL (put J p (.ins cN [("now",fr m),("logs",.ref L.d),("row",.ref L.o)])) p { L with t:=m } :=
  ⟨av,by show put J p _ L.d=_;rw [au b.FV];exact b.dc,by show put J p _ L.o=_;rw [au b.FX];exact b.rw,fun c hc=>⟨by rw [au (b.MU hc)];exact (b.lg c hc).o,by rw [au (b.Kq hc)];exact (b.lg c hc).l⟩,b.ap,b.ao⟩
 have mv1:Mv J (put J p (.ins cN [("now",fr m),("logs",.ref L.d),("row",.ref L.o)])) (L.own p) (L.own p):=gy (.inl rfl) fun a h=>.inl h
 generalize put J p (.ins cN [("now",fr m),("logs",.ref L.d),("row",.ref L.o)])=J1 at b1 mv1 ⊢
 simp_all! only [b1.ob]
 refine ⟨eG _ _ _ _,p,{ L with t:=m },rfl,b1,ok1,fun J2 o' b2 mv2=>?_⟩
 simp_all! only []
 exact q J2 o' b2 (cn.settled ok1 o') (mv1.trans mv2)
abbrev fV:Stmt:=(L2.inClass (top 42) 9)
theorem dY:L2.aw ["self","ringing","hind","fore","met"] ["self"] (L2.aj fV):=dT
def xB (cN cL:Addr):cH:=fun xs J Q E=>∃ p L,xs=[.ref p]∧a_ cN cL J p L∧cn L∧Q (.fl ((fI L.t (L.fs.map (key L.t))).map aD.v)) J
theorem rY {cN cL cB eC f:Addr} {fd:FuncData} (F:cm K "bells" "Lane.bells" fV f fd) (Z:bV mg) (ax:dt K mg "Lane" cN) (aB:aF K cN "row") (kB:ya P w K mg base cB 1 "Bells" ["self"] (vw cB)) (dz:cJ P w K mg base cN 6 "meets" ["self","name","other"] (qV cN cL eC)) (er:cJ P w K mg base cB 3 "put" ["self","moment","hind","fore"] (za cB)) (dw:cJ P w K mg base cB 1 "told" ["self"] (vA cB)):aO P w K mg base (c5 P w) 7 f fd ["self"] (dI K (xB cN cL)):=by
 refine Hu F dY (fun xs J Q E h=>?_) (fun cdv A outer s H E G xs J Q E2 hr h B=>?_)
 ·obtain ⟨p,L,rfl,_⟩:=h;rfl
 obtain ⟨p,L,rfl,b,ok,q⟩:=h
 refine ⟨_,(ai (aE (i:=1) dY.nd rfl (Or.inl rfl) (qK kB B hr (by decide) rfl))
   (ai (dO bR rfl (JO rfl Z.zip (af (aY ax.cl aB (rv 0)) (af (iQ EG (aY ax.cl aB (rv 0)) (kQ ag) kP) ah))) (qM (n:=2) rfl (cZ (bF (i:=2) dY.nd rfl (Or.inl rfl)) (cZ (bF (i:=3) dY.nd rfl (Or.inl rfl)) mJ))) (ai (aE (i:=4) dY.nd rfl (Or.inl rfl) (bp (pl:=_) dz B hr (by decide) (rv 0) (af (rv 2) (af (rv 3) ah))))
   (ak (aU (aI qB (rv 4) lT (L2.ay _)) (ak (bc (bp (pl:=_) er B hr (by decide) (rv 1) (af (rv 4) (af (rv 2) (af (rv 3) ah)))))) aH))))
   (ak (az (dq (pl:=_) dw B hr (by decide) (rv 1)))))),?_⟩
 simp_all! only []
 intro pb hpb
 refine ⟨pb,rfl,av,fun r0 hr0=>⟨rfl,?_⟩⟩
 have l0:=sZ (y:=.lst []) (z:=.ins cB [("rows",.ref r0)]) hpb hr0
 have nr0:r0≠pb:=by intro e;subst e;rw [av] at hr0;cases hr0
 have b0:E9 cB (put (put (put J pb (.ins cB [])) r0 (.lst [])) pb (.ins cB [("rows",.ref r0)])) pb r0 []:=⟨av,by rw [au nr0];exact av⟩
 generalize put (put (put J pb (.ins cB [])) r0 (.lst [])) pb (.ins cB [("rows",.ref r0)])=J0 at l0 b0 ⊢
 obtain ⟨ks,hks⟩:∃ ks,cu (L.fs.map (key L.t))=ks:=⟨_,rfl⟩
 have hrow:L.row.map PV.str=ks.map fun k=>PV.str k.n:=by rw [← hks];exact ok.keys
 have hkl:ks.length≤12:=by rw [← hks];exact ok.La
 have hct:lM (ks.map fun k=>PV.str k.n) (some 1) none=ks.tail.map fun k=>PV.str k.n:=by
  cases ks with
  | nil=>rfl
  | cons x ks=>exact wa (((x :: ks).map fun k=>PV.str k.n)) 1 (by simp)
 have hup:∀ {ps:List (Ky × Ky)},(∀ p∈ps,p.1∈ks∧p.2∈ks)→∀ x∈bq L.t cI ps,Sz 9000 x.m:=fun hp x hx=>by
  obtain ⟨p,hp',hc,rfl⟩:=f_ _ hx
  exact mC ok (by rw [hks];exact (hp p hp').1) (by rw [hks];exact (hp p hp').2) (of_decide_eq_true hc)
 simp_all! only [OI,(b.less l0).ob,(b.less l0).rw,rS,hrow,hct]
 have ez:((ks.map fun k=>PV.str k.n).zip (ks.tail.map fun k=>PV.str k.n)).map (fun p=>PV.tup [p.1,p.2])=(ks.zip ks.tail).map fun p=>PV.tup [.str p.1.n,.str p.2.n]:=by rw [List.zip_map,List.map_map];rfl
 rw [ez]
 generalize hps:ks.zip ks.tail=ps
 have hpl:ps.length≤12:=by rw [← hps,List.length_zip];omega
 have hpm:∀ x∈ps,x.1∈ks∧x.2∈ks:=fun x hx=>by
  rw [← hps] at hx
  obtain ⟨i,h3,h4⟩:=cW.mp (show (x.1,x.2)∈_ from hx)
  exact ⟨List.mem_of_getElem? h3,List.mem_of_getElem? h4⟩
 obtain ⟨Inv,hInv⟩:∃ Inv:Nat→Sr→Hq→Prop,∀ i τ J',Inv i τ J'↔∃ (r:Addr) (u2 u3 u4:Option PV),τ=[some (.ref p),some (.ref pb),u2,u3,u4]∧nu J J'∧E9 cB J' pb r (bq L.t cI (ps.take i)):=⟨_,fun _ _ _=>Iff.rfl⟩
 refine fJ Inv ((hInv _ _ _).mpr ⟨r0,_,_,_,rfl,l0,b0⟩) (fun i τ J' h=>?_) ?_ ?_
 ·obtain ⟨r,_,_,_,_,l',_⟩:=(hInv _ _ _).mp h
  rw [(b.less l').rw,hrow]
 ·intro i x τ J' hx hv
  obtain ⟨r,u2,u3,u4,rfl,l',bb⟩:=(hInv _ _ _).mp hv
  clear hv
  have hi:i < ps.length:=by have:=(List.getElem?_eq_some_iff.mp hx).1;rw [List.length_map] at this;exact this
  have hpi:ps[i]?=some ps[i]:=List.getElem?_eq_getElem hi
  rw [List.getElem?_map,hpi] at hx
  cases hx
  have et:ps.take (i + 1)=ps.take i ++ [ps[i]]:=by rw [List.take_add_one,hpi];rfl
  have szs:=hup (ps:=ps.take i) (fun p hp=>hpm p (List.mem_of_mem_take hp))
  have srt:=fc L.t cI (ps.take i)
  have hle:=kI L.t cI (ps.take i)
  rw [List.length_take] at hle
  rcases hab:ps[i] with ⟨a,y⟩
  rw [hab] at hpi et
  have ef2:bq L.t cI (ps.take (i + 1))=fA L.t cI (bq L.t cI (ps.take i)) (a,y):=by rw [et];exact dm _ _ _ _
  generalize bq L.t cI (ps.take i)=rows at bb szs srt hle ef2
  rw [← hps] at hpi
  obtain ⟨ha,hb⟩:=List.getElem?_zip_eq_some.mp hpi
  rw [List.getElem?_tail] at hb
  simp only at ha hb
  have b2:=b.less l'
  simp_all! only [b2.ob]
  refine ⟨eG _ _ _ _,p,L,a.n,y.n,rfl,b2,ok.toa8,fun c hc c' hc' e e' hg hg'=>?_,fun z=>?_⟩
  ·have hmet:=wC ok (by rw [hks];exact ha) (by rw [hks];exact hb) (by omega) hc hc' hg hg' e e'
   rw [hmet]
   by_cases c2:y.v < a.v
   ·have c3:=GD ok (by rw [hks];exact ha) (by rw [hks];exact hb) (by omega) c2
    rw [if_pos ⟨c2,c3⟩]
    have smk:=mC ok (by rw [hks];exact List.mem_of_getElem? ha) (by rw [hks];exact List.mem_of_getElem? hb) c2
    have hcp:cI (a,y)=true:=decide_eq_true c2
    have e:fA L.t cI rows (a,y)=iG ⟨cY L.t a y,a.n,y.n⟩ (cP a.n y.n rows):=by unfold fA;rw [if_pos hcp];rfl
    simp_all! only [gv,qp,bb.o]
    refine ⟨Lr _,pb,r,rows,cY L.t a y,a.n,y.n,rfl,bb,srt,by omega,smk,szs,fun r' hr'=>?_⟩
    have nr:r'≠pb:=by intro z;subst z;rw [bb.o] at hr';cases hr'
    exact (hInv _ _ _).mpr ⟨r',_,_,_,rfl,nL l' hpb hr',⟨av,by rw [au nr,av,ef2,e]⟩⟩
   ·rw [if_neg (fun z=>c2 z.1)]
    have e:fA L.t cI rows (a,y)=rows:=by
     have hcf:cI (a,y)=false:=decide_eq_false c2
     unfold fA;rw [if_neg (by rw [hcf];decide)]
    simp_all! only [gv]
    exact (hInv _ _ _).mpr ⟨r,_,_,_,rfl,l',by rw [ef2,e];exact bb⟩
  ·rcases z with z | z
   ·exact absurd (kR ok (by rw [hks];exact List.mem_of_getElem? ha)) z
   ·exact absurd (kR ok (by rw [hks];exact List.mem_of_getElem? hb)) z
 ·intro τ J' hv
  obtain ⟨r,u2,u3,u4,rfl,l',bb⟩:=(hInv _ _ _).mp hv
  rw [List.length_map,List.take_length,← hps,← hks,rb ok.knd] at bb
  simp_all! only [bb.o]
  exact ⟨Ls _,pb,r,_,rfl,bb,.inl (Fg.less l' q)⟩
def Cf.turn (c:Cf) (t:Rat) (v:Int):Cf:={ c with w:=turned c.w t v }
def dh (n:Str) (t:Rat) (v:Int) (c:Cf):Cf:=if c.n=n then c.turn t v else c
theorem m7 (n:Str) (t:Rat) (v:Int) (c:Cf):(dh n t v c).n=c.n∧(dh n t v c).a=c.a∧(dh n t v c).r=c.r∧(dh n t v c).g=c.g:=by unfold dh;split <;> exact ⟨rfl,rfl,rfl,rfl⟩
theorem eJ {α β:Type} {f:α→β} {g:α→α} (h:∀ x,f (g x)=f x) (l:List α):(l.map g).map f=l.map f:=by rw [List.map_map];exact List.map_congr_left fun x _=>h x
theorem a8.map {L:Ln} (h:a8 L) {f:Cf→Cf} (hn:∀ c,(f c).n=c.n∧(f c).a=c.a∧(f c).r=c.r∧(f c).g=c.g) (hw:∀ c∈L.cs,(f c).w≠[]∧(∀ l∈(f c).w,l.m≤L.t∧rh l)∧(f c).w.length≤200):a8 { L with cs:=L.cs.map f }:=by
 have mem:∀ c∈L.cs.map f,∃ c0∈L.cs,f c0=c:=fun c hc=>by obtain ⟨c0,h0,e⟩:=List.mem_map.mp hc;exact ⟨c0,h0,e⟩
 have hfs:(Ln.fs { L with cs:=L.cs.map f }).map (·.1)=L.fs.map (·.1):=by
  rw [fw,fw]
  unfold Ln.Cj
  show ((L.cs.map f).filter _).map Cf.n=_
  rw [List.filter_map,List.map_map]
  have e1:(fun c:Cf=>c.g.isNone) ∘ f=fun c=>c.g.isNone:=by funext c;show (f c).g.isNone=_;rw [(hn c).2.2.2]
  rw [e1]
  exact List.map_congr_left fun c _=>(hn c).1
 refine ⟨?_,?_,?_,?_,?_,?_,h.t0,h.ts,by show (L.cs.map f).length≤100;rw [List.length_map];exact h.many,fun n=>by rw [hfs];exact h.rm n,h.rn,h.rl⟩
 ·show ((L.cs.map f).map Cf.n).Nodup
  rw [eJ (fun c=>(hn c).1)];exact h.nd
 ·intro c hc;obtain ⟨c0,h0,rfl⟩:=mem c hc;exact (hw c0 h0).1
 ·intro c hc l hl;obtain ⟨c0,h0,rfl⟩:=mem c hc;exact ((hw c0 h0).2.1 l hl).1
 ·intro c hc l hl;obtain ⟨c0,h0,rfl⟩:=mem c hc;exact ((hw c0 h0).2.1 l hl).2
 ·intro c hc;obtain ⟨c0,h0,rfl⟩:=mem c hc;exact (hw c0 h0).2.2
 ·intro c hc q e;obtain ⟨c0,h0,rfl⟩:=mem c hc;exact h.gz c0 h0 q (by rw [← (hn c0).2.2.2];exact e)
theorem a8.Hg {L:Ln} (h:a8 L) {c:Cf} (hc:c∈L.cs):c.w≠[]∧(∀ l∈c.w,l.m≤L.t∧rh l)∧c.w.length≤200:=⟨h.ne c hc,fun l hl=>⟨h.le c hc l hl,h.ck c hc l hl⟩,h.len c hc⟩
theorem a8.Ia {L:Ln} (h:a8 L) {c:Cf} (hc:c∈L.cs) (hl:c.w.length < 200) {v:Int} (hv:v.natAbs≤1000):(c.turn L.t v).w≠[]∧(∀ l∈(c.turn L.t v).w,l.m≤L.t∧rh l)∧(c.turn L.t v).w.length≤200:=by
 refine ⟨tK (h.ne c hc),fun l hl'=>?_,?_⟩
 ·rcases zo hl' with k | ⟨l0,k,rfl⟩
  ·exact ⟨h.le c hc l k,h.ck c hc l k⟩
  ·exact ⟨Rat.le_refl,(h.ck c hc l0 k).at (h.le c hc l0 k) h.ts hv⟩
 ·have:=l5 c.w L.t v
  show (turned c.w L.t v).length≤200
  omega
theorem a_.turn {cN cL:Addr} {J:Hq} {p:Addr} {L:Ln} (h:a_ cN cL J p L) (ok:a8 L) {c:Cf} (hc:c∈L.cs) {t:Rat} {v:Int}:a_ cN cL (put J c.r (.lst ((turned c.w t v).map aV.V))) p { L with cs:=L.cs.map (dh c.n t v) }:=by
 have hcs:=m7 c.n t v
 refine ⟨by rw [au (Ne.symm (h.Kq hc))];exact h.ob,?_,?_,fun x hx=>?_,?_,fun x hx=>?_⟩
 ·show put J c.r _ L.d=_
  rw [au (Ne.symm (h.OM hc)),h.dc]
  show _=Option.some (HQ.dct ((L.cs.map (dh c.n t v)).map fun c=>(c.n,PV.ref c.a)) L.e)
  rw [eJ (f:=fun c:Cf=>(c.n,PV.ref c.a)) (fun x=>by rw [(hcs x).1,(hcs x).2.1])]
 ·show put J c.r _ L.o=_
  rw [au (Ne.symm (h.ao c hc))];exact h.rw
 ·obtain ⟨x0,h0,rfl⟩:=List.mem_map.mp hx
  have hl:=h.lg x0 h0
  refine ⟨?_,?_⟩
  ·rw [(hcs x0).2.1,(hcs x0).2.2.1,(hcs x0).2.2.2,au (h.Pb h0 hc)];exact hl.o
  ·rw [(hcs x0).2.2.1]
   by_cases e:x0.n=c.n
   ·have:x0=c:=ok.uniq h0 hc e
    subst this
    rw [av]
    unfold dh;rw [if_pos rfl];rfl
   ·have hr:x0.r≠c.r:=fun z=>e (by
     obtain ⟨i,hi,rfl⟩:=List.getElem_of_mem h0
     obtain ⟨j,hj,rfl⟩:=List.getElem_of_mem hc
     have:=(List.getElem_inj (xs:=L.cs.map Cf.r) (i:=i) (j:=j) (h₀:=by simpa using hi) (h₁:=by simpa using hj) h.ap).mp (by rw [List.getElem_map,List.getElem_map];exact z)
     subst this;rfl)
    rw [au hr]
    unfold dh;rw [if_neg e];exact hl.l
 ·show ((L.cs.map (dh c.n t v)).map Cf.r).Nodup
  rw [eJ (fun x=>(hcs x).2.2.1)];exact h.ap
 ·obtain ⟨x0,h0,rfl⟩:=List.mem_map.mp hx
  rw [(hcs x0).2.2.1];exact h.ao x0 h0
theorem uF {L:Ln} {p:Addr} {f:Cf→Cf} (hn:∀ c,(f c).n=c.n∧(f c).a=c.a∧(f c).r=c.r∧(f c).g=c.g) (a:Addr):Ln.own { L with cs:=L.cs.map f } p a↔L.own p a:=by
 unfold Ln.own
 constructor
 ·rintro (h | h | h | ⟨c,hc,h⟩)
  ·exact .inl h
  ·exact .inr (.inl h)
  ·exact .inr (.inr (.inl h))
  ·obtain ⟨c0,h0,rfl⟩:=List.mem_map.mp hc
   rw [(hn c0).2.1,(hn c0).2.2.1] at h
   exact .inr (.inr (.inr ⟨c0,h0,h⟩))
 ·rintro (h | h | h | ⟨c,hc,h⟩)
  ·exact .inl h
  ·exact .inr (.inl h)
  ·exact .inr (.inr (.inl h))
  ·exact .inr (.inr (.inr ⟨f c,List.mem_map.mpr ⟨c,hc,rfl⟩,by rw [(hn c).2.1,(hn c).2.2.1];exact h⟩))
abbrev gW:Stmt:=(L2.inClass (top 42) 3)
theorem vh:L2.aw ["self","name","pace"] ["self","name","pace"] (L2.aj gW):=dT
def AM (cN cL eC eF:Addr):cH:=fun xs J Q E=>∃ p L n v,xs=[.ref p,.str n,.int v]∧a_ cN cL J p L∧cn L∧(∀ c∈L.cs,c.w.length < 200)∧(n ∉ L.row→E eC J)∧(n∈L.row→¬ v.natAbs≤1000→E eF J)∧(n∈L.row→v.natAbs≤1000→∀ J' L',a_ cN cL J' p L'→cn L'→L'.cs=L.cs.map (dh n L.t v)→L'.t=L.t→Mv J J' (L.own p) (L'.own p)→Q .non J')
theorem ux {cN cL eC eF f:Addr} {fd:FuncData} (F:cm K "turn" "Lane.turn" gW f fd) (Z:bV mg) (ax:dt K mg "Lane" cN) (aK:aF K cN "logs") (aA:aF K cN "now") {gf:Tok} (eh:mg "FASTEST"=some (.int 1000 gf)) (fv:Own K mg "TooFar" eF) (a7:cJ P w K mg base cN 1 "must_be_there" ["self","name"] (pD cN cL eC)) (fe:cJ P w K mg base cL 5 "turn" ["self","moment","pace"] (vB cL)) (bA:cJ P w K mg base cN 7 "settle" ["self"] (iZ cN cL)):aO P w K mg base (c5 P w) 8 f fd ["self","name","pace"] (dI K (AM cN cL eC eF)):=by
 simp_arith [vh]
 ·obtain ⟨p,L,n,v,rfl,_⟩:=h;rfl
 obtain ⟨p,L,n,v,rfl,b,ok,hlen,qc,qf,q⟩:=h
 have bo:=b.ob
 have bd:=b.dc
 refine ⟨_,(ai (bc (bp (pl:=_) a7 B hr (by decide) (rv 0) (af (rv 1) ah)))
   (ai (aU (aI j8 (aG yj rfl Z.abs boot_abs (af (rv 2) ah)) (fS (v:=.int 1000) (.int 1000) rfl eh ⟨_,rfl⟩ (fun _ _=>rfl)) (L2.ay _)) (ak (dW fv rfl cF B.kn rfl (af bW ah))) aH)
   (ai (bc (bp (pl:=_) fe B hr (by decide) (aq cQ (aY ax.cl aK (rv 0)) (rv 1) (fun _ _=>rfl)) (af (aY ax.cl aA (rv 0)) (af (rv 2) ah))))
   (ak (bc (dq (pl:=_) bA B hr (by decide) (rv 0))))))),?_⟩
 simp_all! only [bo]
 refine ⟨eG _ _ _ _,p,L,n,rfl,b,fun hn=>?_,qc⟩
 simp_all! only []
 have habs:(1000 < if v < 0 then -v else v)↔¬ v.natAbs≤1000:=by split <;> omega
 by_cases hv:v.natAbs≤1000
 ·rw [if_neg (fun z=>habs.mp z hv)]
  obtain ⟨c,hc,rfl,hg⟩:=ok.found hn
  have lo:=(b.lg c hc).o
  have ok1:a8 { L with cs:=L.cs.map (dh c.n L.t v) }:=ok.toa8.map (m7 c.n L.t v) fun x hx=>by
   unfold dh
   split
   ·exact ok.toa8.Ia hx (hlen x hx) hv
   ·exact ok.toa8.Hg hx
  have b1:=b.turn ok.toa8 hc (t:=L.t) (v:=v)
  have mv1:Mv J (put J c.r (.lst ((turned c.w L.t v).map aV.V))) (L.own p) (Ln.own { L with cs:=L.cs.map (dh c.n L.t v) } p):=gy (.inr (.inr (.inr ⟨c,hc,.inr rfl⟩))) fun a h=>.inl ((uF (m7 c.n L.t v) a).mp h)
  simp_all! only [bo,rR,wy,bd,ok.va hc,lo]
  refine ⟨Lu _ _,c.a,c.r,c.w,c.g,L.t,v,rfl,b.lg c hc,ok.ne c hc,Nat.le_trans (ok.len c hc) (by decide),ok.Kf,fun l hl=>(ok.ck c hc l hl).Lv,?_⟩
  generalize put J c.r (.lst ((turned c.w L.t v).map aV.V))=J1 at b1 mv1 ⊢
  simp_all! only [b1.ob]
  refine ⟨eG _ _ _ _,p,_,rfl,b1,ok1,fun J2 o' b2 mv2=>?_⟩
  exact q hn hv J2 _ b2 (cn.settled ok1 o') rfl rfl (mv1.trans mv2)
 ·rw [if_pos (habs.mpr hv)]
  simp_all! only [fL]
  exact qf hn hv
def d9 (t:Rat) (c:Cf):Cf:=if c.g.isNone=true then c.turn t (-c.cur.v) else c
def b9 (t:Rat) (row:List Str) (c:Cf):Cf:=if c.n∈row then c.turn t (-c.cur.v) else c
theorem mf (t:Rat) (row:List Str) (c:Cf):(b9 t row c).n=c.n∧(b9 t row c).a=c.a∧(b9 t row c).r=c.r∧(b9 t row c).g=c.g:=by unfold b9;split <;> exact ⟨rfl,rfl,rfl,rfl⟩
theorem kC {L:Ln} (ok:a8 L):L.cs.map (b9 L.t L.row)=L.cs.map (d9 L.t):=by
 refine List.map_congr_left fun c hc=>?_
 have h:c.n∈L.row↔c.g.isNone=true:=by
  rw [ok.rm,fw,List.mem_map]
  constructor
  ·rintro ⟨c',hc',e⟩
   have h':=Ln.d3.mp hc'
   rw [ok.uniq h'.1 hc e] at h'
   rw [h'.2];rfl
  ·intro e
   exact ⟨c,Ln.d3.mpr ⟨hc,by cases hg:c.g with | none=>rfl | some q=>rw [hg] at e;cases e⟩,rfl⟩
 unfold b9 d9
 by_cases e:c.n∈L.row
 ·rw [if_pos e,if_pos (h.mp e)]
 ·rw [if_neg e,if_neg (fun z=>e (h.mpr z))]
theorem a8.b9 {L:Ln} (ok:a8 L) (hlen:∀ c∈L.cs,c.w.length < 200) (row:List Str):a8 { L with cs:=L.cs.map (b9 L.t row) }:=ok.map (mf L.t row) fun x hx=>by
 unfold Ov.b9
 split
 ·exact ok.Ia hx (hlen x hx) (by have:=(ok.ck x hx _ (Cf.jh (ok.ne x hx)).2).v;omega)
 ·exact ok.Hg hx
abbrev fU:Stmt:=(L2.inClass (top 42) 4)
theorem iy:L2.aw ["self","name","pace"] ["self"] (L2.aj fU):=dT
def xA (cN cL:Addr):cH:=fun xs J Q E=>∃ p L,xs=[.ref p]∧a_ cN cL J p L∧cn L∧(∀ c∈L.cs,c.w.length < 200)∧(∀ J' L',a_ cN cL J' p L'→cn L'→L'.cs=L.cs.map (d9 L.t)→L'.t=L.t→Mv J J' (L.own p) (L'.own p)→Q .non J')
theorem rX {cN cL eC f:Addr} {fd:FuncData} (F:cm K "about" "Lane.about" fU f fd) (Z:bV mg) (ax:dt K mg "Lane" cN) (aB:aF K cN "row") (aK:aF K cN "logs") (aA:aF K cN "now") (bJ:cJ P w K mg base cN 4 "leg_of" ["self","name"] (mY cN cL eC)) (fe:cJ P w K mg base cL 5 "turn" ["self","moment","pace"] (vB cL)) (bA:cJ P w K mg base cN 7 "settle" ["self"] (iZ cN cL)):aO P w K mg base (c5 P w) 8 f fd ["self"] (dI K (xA cN cL)):=by
 simp_arith [iy]
 ·obtain ⟨p,L,rfl,_⟩:=h;rfl
 obtain ⟨p,L,rfl,b,ok,hlen,q⟩:=h
 refine ⟨_,(ai (dO bR rfl (fj (aY ax.cl aB (rv 0))) (bF (i:=1) iy.nd rfl (Or.inl rfl)) (ai (aE (i:=2) iy.nd rfl (Or.inl rfl) (aq ar (bp (pl:=_) bJ B hr (by decide) (rv 0) (af (rv 1) ah)) ag (fun _ _=>rfl)))
   (ak (bc (bp (pl:=_) fe B hr (by decide) (aq cQ (aY ax.cl aK (rv 0)) (rv 1) (fun _ _=>rfl)) (af (aY ax.cl aA (rv 0)) (af (tq ou (rv 2)) ah)))))))
   (ak (bc (dq (pl:=_) bA B hr (by decide) (rv 0))))),?_⟩
 simp_all! only [b.ob,b.rw,rS]
 have hid:L.cs.map (b9 L.t (L.row.take 0))=L.cs:=by
  have:∀ c∈L.cs,b9 L.t (L.row.take 0) c=c:=fun c _=>by unfold b9;rw [if_neg (by simp)]
  rw [List.map_congr_left this,List.map_id']
 obtain ⟨Inv,hInv⟩:∃ Inv:Nat→Sr→Hq→Prop,∀ i τ J',Inv i τ J'↔∃ (u1 u2:Option PV),τ=[some (.ref p),u1,u2]∧a_ cN cL J' p { L with cs:=L.cs.map (b9 L.t (L.row.take i)) }∧Mv J J' (L.own p) (L.own p):=⟨_,fun _ _ _=>Iff.rfl⟩
 refine fJ Inv ((hInv _ _ _).mpr ⟨_,_,rfl,by rw [hid];exact b,Mv.refl _ _⟩) (fun i τ J' h=>?_) ?_ ?_
 ·obtain ⟨_,_,_,b',_⟩:=(hInv _ _ _).mp h
  have:=b'.rw
  simp only at this
  rw [this]
 ·intro i x τ J' hx hv
  obtain ⟨u1,u2,rfl,b',mv'⟩:=(hInv _ _ _).mp hv
  clear hv
  have hi:i < L.row.length:=by have:=(List.getElem?_eq_some_iff.mp hx).1;simpa using this
  have hget:L.row[i]?=some L.row[i]:=List.getElem?_eq_getElem hi
  rw [List.getElem?_map,hget] at hx
  cases hx
  have hn:L.row[i]∈L.row:=List.getElem_mem hi
  have et:L.row.take (i + 1)=L.row.take i ++ [L.row[i]]:=by rw [List.take_add_one,hget];rfl
  have hnd:(L.row.take (i + 1)).Nodup:=ok.rn.sublist (List.take_sublist _ _)
  rw [et] at hnd
  have hnew:=(ju hnd).2
  generalize L.row[i]=n at hn et hnew ⊢
  obtain ⟨c,hc,rfl,hg⟩:=ok.found hn
  have oki:=ok.toa8.b9 hlen (L.row.take i)
  have ecc:b9 L.t (L.row.take i) c=c:=by unfold b9;rw [if_neg hnew]
  have hci:c∈L.cs.map (b9 L.t (L.row.take i)):=List.mem_map.mpr ⟨c,hc,ecc⟩
  simp_all! only [b'.ob]
  refine ⟨eG _ _ _ _,p,_,c.n,rfl,b',oki,fun c' hc' e' hg'=>?_,fun z=>absurd hn z⟩
  have ec':c'=c:=oki.uniq hc' hci e'
  subst ec'
  have hcv:=(ok.ck c' hc _ (Cf.jh (ok.ne c' hc)).2).v
  have lo:=(b'.lg c' hci).o
  have bo':=b'.ob
  have bd':=b'.dc
  simp only at bo' bd'
  simp_all! only [j0,bo',rR,wy,bd',lo]
  have hva:=oki.va hci
  simp only at hva
  simp_all! only [hva,lo,bo',rR]
  refine ⟨Lu _ _,c'.a,c'.r,c'.w,c'.g,L.t,-c'.cur.v,rfl,b'.lg c' hci,ok.ne c' hc,Nat.le_trans (ok.len c' hc) (by decide),ok.Kf,fun l hl=>(ok.ck c' hc l hl).Lv,?_⟩
  have b1:=b'.turn oki hci (t:=L.t) (v:=-c'.cur.v)
  have em:(L.cs.map (b9 L.t (L.row.take i))).map (dh c'.n L.t (-c'.cur.v))=L.cs.map (b9 L.t (L.row.take (i + 1))):=by
   rw [List.map_map]
   refine List.map_congr_left fun x hx=>?_
   show dh c'.n L.t (-c'.cur.v) (b9 L.t (L.row.take i) x)=_
   by_cases e:x.n=c'.n
   ·have:x=c':=ok.uniq hx hc e
    subst this
    rw [ecc]
    unfold dh Ov.b9
    rw [if_pos rfl,if_pos (by rw [et];simp)]
   ·unfold dh
    rw [if_neg (by rw [(mf L.t (L.row.take i) x).1];exact e)]
    unfold Ov.b9
    rw [et]
    by_cases e2:x.n∈L.row.take i
    ·rw [if_pos e2,if_pos (List.mem_append.mpr (.inl e2))]
    ·rw [if_neg e2,if_neg (fun z=>by
      rcases List.mem_append.mp z with z | z
      ·exact e2 z
      ·exact e (by simpa using z))]
  simp only [em] at b1
  refine (hInv _ _ _).mpr ⟨_,_,rfl,b1,mv'.trans (gy (.inr (.inr (.inr ⟨c',hc,.inr rfl⟩))) fun a h=>.inl h)⟩
 ·intro τ J' hv
  obtain ⟨u1,u2,rfl,b',mv'⟩:=(hInv _ _ _).mp hv
  rw [List.length_map,List.take_length,kC ok.toa8] at b'
  have oki:a8 { L with cs:=L.cs.map (d9 L.t) }:=by rw [← kC ok.toa8];exact ok.toa8.b9 hlen L.row
  simp_all! only [b'.ob]
  refine ⟨eG _ _ _ _,p,_,rfl,b',oki,fun J2 o' b2 mv2=>?_⟩
  refine q J2 _ b2 (cn.settled oki o') rfl rfl (mv'.trans ⟨fun a o e n=>mv2.keep a o e fun z=>n ?_,fun a h=>?_,mv2.mono⟩)
  ·rw [← kC ok.toa8] at z;exact (uF (mf L.t L.row) a).mp z
  ·rcases mv2.own a h with h' | h'
   ·rw [← kC ok.toa8] at h';exact .inl ((uF (mf L.t L.row) a).mp h')
   ·exact .inr h'
def bP (n:Str) (t:Rat) (c:Cf):Cf:=if c.n=n then { c with g:=some t } else c
theorem fz (n:Str) (t:Rat) (c:Cf):(bP n t c).n=c.n∧(bP n t c).a=c.a∧(bP n t c).r=c.r∧(bP n t c).w=c.w:=by unfold bP;split <;> exact ⟨rfl,rfl,rfl,rfl⟩
theorem wq {L L':Ln} {n:Str} {t:Rat} (e:L'.cs=L.cs.map (bP n t)):L'.fs=L.fs.filter fun x=>decide (x.1≠n):=by
 unfold Ln.fs Ln.Cj
 rw [e,List.filter_map,List.map_map,List.filter_map,List.filter_filter]
 have e1:(fun c:Cf=>c.g.isNone) ∘ bP n t=fun c=>((fun x:Str × aV=>decide (x.1≠n)) ∘ fun c:Cf=>(c.n,c.cur)) c && c.g.isNone:=by
  funext c
  show (bP n t c).g.isNone=(decide (c.n≠n) && c.g.isNone)
  unfold bP
  by_cases z:c.n=n
  ·rw [if_pos z];simp [z]
  ·rw [if_neg z];simp [z]
 rw [e1]
 refine List.map_congr_left fun c hc=>?_
 show ((bP n t c).n,(bP n t c).cur)=_
 unfold Cf.cur
 rw [(fz n t c).1,(fz n t c).2.2.2]
theorem wV {ks:List Ky} (h:(ks.map Ky.n).Nodup) (f:Ky→Bool):cu (ks.filter f)=(cu ks).filter f:=by
 have hs:((ks.filter f).map Ky.n).Nodup:=h.sublist (List.Sublist.map _ List.filter_sublist)
 refine m3 (lt:=Ky.lt) Ky.E7 Ky.tr (cR hs) ((cR h).filter _) fun x=>?_
 rw [bz,List.mem_filter,List.mem_filter,bz]
theorem wX {t:Rat} {fs:List (Str × aV)} (h:(fs.map (·.1)).Nodup) (n:Str):cS t (fs.filter fun x=>decide (x.1≠n))=(cS t fs).filter fun x=>decide (x≠n):=by
 unfold cS
 have e:(fs.filter fun x=>decide (x.1≠n)).map (key t)=(fs.map (key t)).filter fun k=>decide (k.n≠n):=by rw [List.filter_map];rfl
 rw [e,wV (by rw [cv];exact h),List.filter_map]
 rfl
theorem erase_filter {l:List Str} (h:l.Nodup) {j:Nat} {n:Str} (hj:l[j]?=some n):l.eraseIdx j=l.filter fun x=>decide (x≠n):=by
 obtain ⟨hl,e⟩:=List.getElem?_eq_some_iff.mp hj
 rw [List.eraseIdx_eq_take_drop_succ]
 have hd:l=l.take j ++ n :: l.drop (j + 1):=by rw [← e,← List.drop_eq_getElem_cons hl,List.take_append_drop]
 have hn:=h
 rw [hd,List.nodup_append] at hn
 have k1:∀ x∈l.take j,x≠n:=fun x hx=>hn.2.2 x hx n (by simp)
 have k2:∀ x∈l.drop (j + 1),x≠n:=fun x hx z=>(List.nodup_cons.mp hn.2.1).1 (by rw [← z];exact hx)
 conv=>rhs;rw [hd]
 rw [List.filter_append,List.filter_cons,if_neg (by simp),List.filter_eq_self.mpr fun x hx=>decide_eq_true (k1 x hx),List.filter_eq_self.mpr fun x hx=>decide_eq_true (k2 x hx)]
theorem cn.leave {L:Ln} (ok:cn L) (n:Str):cn { L with cs:=L.cs.map (bP n L.t),row:=L.row.filter fun x=>decide (x≠n) }:=by
 have hfs:Ln.fs { L with cs:=L.cs.map (bP n L.t),row:=L.row.filter fun x=>decide (x≠n) }=L.fs.filter fun x=>decide (x.1≠n):=wq (L:=L) (t:=L.t) rfl
 have mem:∀ c∈L.cs.map (bP n L.t),∃ c0∈L.cs,bP n L.t c0=c:=fun c hc=>by obtain ⟨c0,h0,e⟩:=List.mem_map.mp hc;exact ⟨c0,h0,e⟩
 have hw:∀ c,(bP n L.t c).w=c.w:=fun c=>(fz n L.t c).2.2.2
 refine ⟨⟨?_,?_,?_,?_,?_,?_,ok.t0,ok.ts,?_,?_,?_,?_⟩,?_⟩
 ·show ((L.cs.map (bP n L.t)).map Cf.n).Nodup
  rw [eJ (fun c=>(fz n L.t c).1)];exact ok.nd
 ·intro c hc;obtain ⟨c0,h0,rfl⟩:=mem c hc;rw [hw];exact ok.ne c0 h0
 ·intro c hc l hl;obtain ⟨c0,h0,rfl⟩:=mem c hc;rw [hw] at hl;exact ok.le c0 h0 l hl
 ·intro c hc l hl;obtain ⟨c0,h0,rfl⟩:=mem c hc;rw [hw] at hl;exact ok.ck c0 h0 l hl
 ·intro c hc;obtain ⟨c0,h0,rfl⟩:=mem c hc;rw [hw];exact ok.len c0 h0
 ·intro c hc q e
  obtain ⟨c0,h0,rfl⟩:=mem c hc
  unfold bP at e
  split at e
  ·cases e;exact ⟨ok.ts,Rat.le_refl⟩
  ·exact ok.gz c0 h0 q e
 ·show (L.cs.map (bP n L.t)).length≤100
  rw [List.length_map];exact ok.many
 ·intro m
  rw [hfs]
  show m∈L.row.filter _↔_
  rw [List.mem_filter,ok.rm,List.mem_map,List.mem_map]
  constructor
  ·rintro ⟨⟨x,hx,rfl⟩,k⟩;exact ⟨x,List.mem_filter.mpr ⟨hx,k⟩,rfl⟩
  ·rintro ⟨x,hx,rfl⟩;exact ⟨⟨x,(List.mem_filter.mp hx).1,rfl⟩,(List.mem_filter.mp hx).2⟩
 ·exact ok.rn.sublist List.filter_sublist
 ·exact Nat.le_trans (List.length_filter_le _ _) ok.rl
 ·rw [hfs]
  show L.row.filter _=_
  rw [wX ok.Ha,← ok.row]
theorem zP {α:Type} [DecidableEq α]:∀ {l:List α} {x:α},x∈l→∃ j:Nat,l[j]?=some x∧∀ m:Nat,m < j→l[m]?≠some x
 | y :: l,x,h=>by
  by_cases e:y=x
  ·exact ⟨0,by rw [e];rfl,fun m hm=>by omega⟩
  ·rcases List.mem_cons.mp h with h | h
   ·exact absurd h.symm e
   ·obtain ⟨j,h1,h2⟩:=zP h
    refine ⟨j + 1,h1,fun m hm=>?_⟩
    cases m with
    | zero=>intro z;exact e (Option.some.inj z)
    | succ m=>exact h2 m (by omega)
abbrev fZ:Stmt:=(L2.inClass (top 42) 2)
theorem su:L2.aw ["self","name"] ["self","name"] (L2.aj fZ):=dT
def xD (cN cL eC:Addr):cH:=fun xs J Q E=>∃ p L n,xs=[.ref p,.str n]∧a_ cN cL J p L∧cn L∧(n ∉ L.row→E eC J)∧(n∈L.row→∀ J' L',a_ cN cL J' p L'→cn L'→L'.cs=L.cs.map (bP n L.t)→L'.t=L.t→Mv J J' (L.own p) (L'.own p)→Q .non J')
theorem r_ {cN cL eC f:Addr} {fd:FuncData} (F:cm K "leave" "Lane.leave" fZ f fd) (Z:bV mg) (ax:dt K mg "Lane" cN) (aK:aF K cN "logs") (aA:aF K cN "now") (aB:aF K cN "row") (a7:cJ P w K mg base cN 1 "must_be_there" ["self","name"] (pD cN cL eC)) (j5:cJ P w K mg base cL 1 "leave" ["self","moment"] (xt cL)):aO P w K mg base (c5 P w) 2 f fd ["self","name"] (dI K (xD cN cL eC)):=by
 simp_arith [su]
 ·obtain ⟨p,L,n,rfl,_⟩:=h;rfl
 obtain ⟨p,L,n,rfl,b,ok,qc,q⟩:=h
 have bo:=b.ob
 have bd:=b.dc
 refine ⟨_,(ai (bc (bp (pl:=_) a7 B hr (by decide) (rv 0) (af (rv 1) ah)))
   (ai (bc (bp (pl:=_) j5 B hr (by decide) (aq cQ (aY ax.cl aK (rv 0)) (rv 1) (fun _ _=>rfl)) (af (aY ax.cl aA (rv 0)) ah)))
   (ak (bc (lz PySem.F.plainAttrs_list PySem.F.slot_list_remove PySem.F.type_list_remove BD (aY ax.cl aB (rv 0)) (af (rv 1) ah)))))),?_⟩
 simp_all! only [bo]
 refine ⟨eG _ _ _ _,p,L,n,rfl,b,fun hn=>?_,qc⟩
 obtain ⟨c,hc,rfl,hg⟩:=ok.found hn
 have lo:=(b.lg c hc).o
 simp_all! only [bo,rR,wy,bd,ok.va hc,lo]
 refine ⟨NG _ _,c.a,c.r,c.w,c.g,L.t,rfl,b.lg c hc,?_⟩
 simp_all! only [au (Ne.symm (b.MU hc)),bo,rS,au (Ne.symm (b.NN hc)),b.rw]
 obtain ⟨j,h1,h2⟩:=zP hn
 refine ⟨L.row,rfl,j,h1,h2,?_⟩
 rw [erase_filter ok.rn h1]
 have hn':=fz c.n L.t
 have ok1:=ok.leave c.n
 refine q hn _ { L with cs:=L.cs.map (bP c.n L.t),row:=L.row.filter fun x=>decide (x≠c.n) } ⟨?_,?_,av,fun x hx=>?_,?_,fun x hx=>?_⟩ ok1 rfl rfl ?_
 ·rw [au (Ne.symm b.FX),au (Ne.symm (b.MU hc))];exact bo
 ·show put (put J c.a _) L.o _ L.d=_
  rw [au b.NO,au (Ne.symm (b.OL hc)),bd]
  show _=some (HQ.dct ((L.cs.map (bP c.n L.t)).map fun c=>(c.n,PV.ref c.a)) L.e)
  rw [eJ (f:=fun c:Cf=>(c.n,PV.ref c.a)) (fun x=>by rw [(hn' x).1,(hn' x).2.1])]
 ·obtain ⟨x0,h0,rfl⟩:=List.mem_map.mp hx
  have hl:=b.lg x0 h0
  refine ⟨?_,?_⟩
  ·rw [(hn' x0).2.1,(hn' x0).2.2.1,au (b.NN h0)]
   by_cases e:x0.n=c.n
   ·have:x0=c:=ok.uniq h0 hc e
    subst this
    rw [av]
    unfold bP;rw [if_pos rfl];rfl
   ·have ha:x0.a≠c.a:=fun z=>by
     have hh:=hl.o
     have hh2:=(b.lg c hc).o
     rw [z,hh2] at hh
     have hrr:c.r=x0.r:=by
      have h3:=(HQ.ins.inj (Option.some.inj hh)).2
      have h4:=(List.cons.inj h3).1
      have h5:=(Prod.mk.inj h4).2
      exact PV.ref.inj h5
     obtain ⟨i,hi,rfl⟩:=List.getElem_of_mem h0
     obtain ⟨j',hj',rfl⟩:=List.getElem_of_mem hc
     have:=(List.getElem_inj (xs:=L.cs.map Cf.r) (i:=i) (j:=j') (h₀:=by simpa using hi) (h₁:=by simpa using hj') b.ap).mp (by rw [List.getElem_map,List.getElem_map];exact hrr.symm)
     subst this;exact e rfl
    rw [au ha]
    unfold bP;rw [if_neg e];exact hl.o
  ·rw [(hn' x0).2.2.1,(hn' x0).2.2.2,au (b.ao x0 h0),au (fun z=>by have h3:=hl.l;rw [z,lo] at h3;cases h3)];exact hl.l
 ·show ((L.cs.map (bP c.n L.t)).map Cf.r).Nodup
  rw [eJ (fun x=>(hn' x).2.2.1)];exact b.ap
 ·obtain ⟨x0,h0,rfl⟩:=List.mem_map.mp hx
  rw [(hn' x0).2.2.1];exact b.ao x0 h0
 ·have own':∀ a,Ln.own { L with cs:=L.cs.map (bP c.n L.t),row:=L.row.filter fun x=>decide (x≠c.n) } p a→L.own p a:=fun a h=>by
   rcases h with h | h | h | ⟨x,hx,h⟩
   ·exact .inl h
   ·exact .inr (.inl h)
   ·exact .inr (.inr (.inl h))
   ·obtain ⟨c0,h0,rfl⟩:=List.mem_map.mp hx
    rw [(hn' c0).2.1,(hn' c0).2.2.1] at h
    exact .inr (.inr (.inr ⟨c0,h0,h⟩))
  refine (gy (S':=L.own p) (.inr (.inr (.inr ⟨c,hc,.inl rfl⟩))) fun a h=>.inl h).trans (gy (.inr (.inr (.inl rfl))) fun a h=>.inl (own' a h))
abbrev kW:Stmt:=(top 53)
theorem eW:L2.aw ["_law_cell_here","_law_many","_law_signs","_law_row","_law_some","_law_body","_law_at_here","_law_out","_law_k"] ["_law_cell_here","_law_many"] (L2.aj kW):=dT
def AN:Sp:=fun vs H Q _=>∃ c m:Int,vs=[.int c,.int m]∧0≤m∧m≤36∧∀ (r:Addr) (H':Hp) (xs:List Str),H r=none→bG H H'→H' r=some (.lst (xs.map V.str))→(xs.length:Int)=m→xs.Nodup→(∀ x∈xs,good x=true)→Q (.ref r) H'
def menu:List Str:=["m","ab","a","zebra9","b0","0","abc","9zz","q7q7q7q7","aa","z","a1b2c3d4"]
def cX:Str:="abcdefghijklmnopqrstuvwxyz0123456789"
theorem FN:menu.Nodup:=by decide +kernel
theorem CD:cX.cps.toList.Nodup:=by decide +kernel
theorem kD:cX.cps.toList.length=36:=by decide +kernel
theorem Iv {α:Type} {xs:List α} {j:Int} (h0:0≤j) (h1:j < xs.length):c_ xs j=some (xs[j.toNat]'(by omega)):=by
 have h:=ba (xs:=xs) (j:=j.toNat) (List.getElem?_eq_getElem (by omega))
 rw [show ((j.toNat:Nat):Int)=j by omega] at h
 exact h
def G' {α:Type} (xs:List α) (z:α) (d:Int) (k:Nat):α:=xs.getD ((d + 5 * (k:Int)) % (xs.length:Int)).toNat z
section
variable {α:Type} {xs:List α} {z:α} (d:Int)
theorem p6 (h:0 < xs.length) (k:Nat):0≤(d + 5 * (k:Int)) % (xs.length:Int)∧(d + 5 * (k:Int)) % (xs.length:Int) < (xs.length:Int):=⟨Int.emod_nonneg _ (by omega),Int.emod_lt_of_pos _ (by omega)⟩
theorem ml (h:0 < xs.length) (k:Nat):xs[((d + 5 * (k:Int)) % (xs.length:Int)).toNat]?=some (G' xs z d k):=by
 have:=p6 d h k
 unfold G'
 rw [List.getD_eq_getElem?_getD,List.getElem?_eq_getElem (by omega)]
 rfl
theorem ID (h:0 < xs.length) (k:Nat):c_ xs ((d + 5 * (k:Int)) % (xs.length:Int))=some (G' xs z d k):=by
 have:=ba (ml (z:=z) d h k)
 rwa [Int.toNat_of_nonneg (p6 d h k).1] at this
theorem zJ (h:0 < xs.length) (k:Nat):G' xs z d k∈xs:=List.mem_of_getElem? (ml d h k)
theorem Nl {M a b d u v:Int} (g:5 * u=1 + M * v) (a0:0≤a) (a1:a < M) (b0:0≤b) (b1:b < M) (e:(d + 5 * a) % M=(d + 5 * b) % M):a=b:=by
 have h:M ∣ 5 * (a - b):=by
  have:=Int.dvd_of_emod_eq_zero (Int.emod_eq_emod_iff_emod_sub_eq_zero.mp e)
  rwa [show d + 5 * a - (d + 5 * b)=5 * (a - b) by omega] at this
 obtain ⟨c,hc⟩:M ∣ a - b:=by
  obtain ⟨c,hc⟩:=h
  refine ⟨u * c - v * (a - b),?_⟩
  have h1:5 * u * (a - b)=u * (M * c):=by rw [← hc];grind
  rw [g] at h1
  grind
 rcases Int.lt_trichotomy c 0 with k | k | k
 ·have:M * c≤M * (-1):=Int.mul_le_mul_of_nonneg_left (by omega) (by omega)
  omega
 ·subst k;omega
 ·have:M * 1≤M * c:=Int.mul_le_mul_of_nonneg_left (by omega) (by omega)
  omega
theorem zI (u v:Int) (hn:xs.Nodup) (g:5 * u=1 + (xs.length:Int) * v) {i j:Nat} (hi:i < xs.length) (hj:j < xs.length) (e:G' xs z d i=G' xs z d j):i=j:=by
 have h:0 < xs.length:=by omega
 have a:=ml (z:=z) d h i
 have b:=ml (z:=z) d h j
 rw [e] at a
 obtain ⟨a1,a2⟩:=List.getElem?_eq_some_iff.mp a
 obtain ⟨b1,b2⟩:=List.getElem?_eq_some_iff.mp b
 have e1:=(List.getElem_inj hn).mp (a2.trans b2.symm)
 have:=p6 d h i
 have:=p6 d h j
 exact Int.ofNat.inj (Nl g (Int.natCast_nonneg i) (Int.ofNat_lt.mpr hi) (Int.natCast_nonneg j) (Int.ofNat_lt.mpr hj) (show (d + 5 * (i:Int)) % _=(d + 5 * (j:Int)) % _ by omega))
end
theorem DB:menu.length=12:=by decide +kernel
abbrev pick:Int→Nat→Str:=G' menu ""
theorem Gi (d:Int) (k:Nat):c_ (menu.map V.str) ((d + 5 * (k:Int)) % 12)=some (.str (pick d k)):=by
 have h:=p6 (xs:=menu) d (by decide +kernel) k
 have g:=ba (xs:=menu.map V.str) (j:=((d + 5 * (k:Int)) % (menu.length:Int)).toNat) (by rw [List.getElem?_map,ml (xs:=menu) (z:="") d (by decide +kernel) k];rfl)
 rw [Int.toNat_of_nonneg h.1,DB] at g
 exact g
theorem D4 (d:Int) {m:Nat} (hm:m≤12):((List.range m).map (pick d)).Nodup:=by
 refine List.Pairwise.map (R:=fun i j=>i < 12∧j < 12∧i≠j) _ (fun i j ⟨a,b,c⟩ e=>c (zI d 5 2 FN (by decide +kernel) a b e)) ?_
 refine List.Pairwise.imp_of_mem (R:=fun i j=>i≠j) (fun {i j} hi hj ne=>?_) (List.nodup_range)
 rw [List.mem_range] at hi hj
 exact ⟨by omega,by omega,ne⟩
theorem BC:∀ x∈menu,good x=true:=by decide +kernel
theorem pY:∀ c∈cX.cps.toList,ed cD c=true:=by decide +kernel
theorem BX (d:Int) (k:Nat):good (pick d k)=true:=BC _ (zJ d (by decide +kernel) k)
theorem FD {cs:List Nat} (h0:0 < cs.length) (h1:cs.length≤8) (h:∀ c∈cs,ed cD c=true):good ⟨cs.toArray⟩=true:=by
 unfold good
 rw [Bool.and_eq_true,Bool.and_eq_true]
 refine ⟨⟨decide_eq_true ?_,decide_eq_true ?_⟩,List.all_eq_true.mpr fun c hc=>h c (by simpa using hc)⟩
 ·show 1≤cs.toArray.size;rw [List.size_toArray];omega
 ·show cs.toArray.size≤8;rw [List.size_toArray];omega
abbrev sign:Int→Nat→Nat:=G' cX.cps.toList 0
theorem GS (d:Int) (k:Nat):c_ cX.cps.toList ((d + 5 * (k:Int)) % 36)=some (sign d k):=by
 have h:=ID (xs:=cX.cps.toList) (z:=0) d (by decide +kernel) k
 rw [kD] at h
 exact h
theorem B5 (d:Int) (k:Nat):ed cD (sign d k)=true:=pY _ (zJ d (by decide +kernel) k)
theorem Eu (d:Int) {i j:Nat} (hi:i < 36) (hj:j < 36) (e:sign d i=sign d j):i=j:=zI d (-7) (-1) CD (by decide +kernel) (by rw [kD];exact hi) (by rw [kD];exact hj) e
theorem EU {d:Int} {n:Nat} {xs:List Str} (hl:xs.length≤36) (h:∀ k x,xs[k]?=some x→x.cps.toList[n]?=some (sign d k)):xs.Nodup:=by
 refine List.pairwise_iff_getElem.mpr fun i j hi hj hij e=>?_
 have a:=h i _ (List.getElem?_eq_getElem hi)
 have b:=h j _ (List.getElem?_eq_getElem hj)
 rw [e] at a
 rw [a] at b
 have:=Eu d (by omega) (by omega) (Option.some.inj b)
 omega
theorem CN {xs:List V} {k:Int} (h:0≤k):nB xs none (some k)=xs.take k.toNat:=by
 obtain ⟨j,rfl⟩:∃ j:Nat,k=(j:Int):=⟨k.toNat,by omega⟩
 unfold nB
 rw [HT.xm,HT.uZ,List.drop_zero,Int.toNat_natCast]
 rcases Nat.le_total j xs.length with e | e
 ·rw [Nat.min_eq_left e]
  rfl
 ·rw [Nat.min_eq_right e,Nat.sub_zero,List.take_of_length_le (Nat.le_refl _),List.take_of_length_le e]
theorem DP (cs:List Nat):((cs.map one).map (·.length)).sum=cs.length:=by
 induction cs with
 | nil=>rfl
 | cons c cs ih =>
  rw [List.map_cons,List.map_cons,List.sum_cons,ih,List.length_cons]
  show 1 + cs.length=cs.length + 1
  omega
theorem Mr {ds:List Int} (hD:Dig ds [3,36,8,36,36,36,36,36,36,36,36,840]):∃ (d0 d1 d2 d11:Int) (es:List Int),c_ (ds.map V.int) 0=some (.int d0)∧c_ (ds.map V.int) 1=some (.int d1)∧c_ (ds.map V.int) 2=some (.int d2)∧c_ (ds.map V.int) 11=some (.int d11) ∧
  nB (ds.map V.int) (some 3) (some 11)=es.map V.int∧es.length=8∧(∀ e∈es,0≤e∧e < 36)∧0≤d2∧d2 < 8:=by
 obtain ⟨d0,ds,rfl,_,_,hD⟩:=hD.cons
 obtain ⟨d1,ds,rfl,_,_,hD⟩:=hD.cons
 obtain ⟨d2,ds,rfl,d20,d21,hD⟩:=hD.cons
 have key:∀ (n:Nat) {ds:List Int},Dig ds (List.replicate n 36 ++ [840])→∃ es d,ds=es ++ [d]∧es.length=n∧∀ e∈es,0≤e∧e < 36:=by
  intro n
  induction n with
  | zero=>intro ds h;obtain ⟨d,ds,rfl,_,_,h⟩:=h.cons;cases h.nil;exact ⟨[],d,rfl,rfl,fun e he=>by cases he⟩
  | succ n ih =>
   intro ds h
   obtain ⟨d,ds,rfl,h0,h1,h⟩:=h.cons
   obtain ⟨es,x,rfl,hl,he⟩:=ih h
   exact ⟨d :: es,x,rfl,congrArg Nat.succ hl,List.forall_mem_cons.mpr ⟨⟨h0,h1⟩,he⟩⟩
 obtain ⟨es,d11,rfl,hl,he⟩:=key 8 hD
 refine ⟨d0,d1,d2,d11,es,ba (j:=0) rfl,ba (j:=1) rfl,ba (j:=2) rfl,ba (j:=11) ?_,?_,hl,he,d20,d21⟩
 ·rw [List.getElem?_map,List.getElem?_cons_succ,List.getElem?_cons_succ,List.getElem?_cons_succ,List.getElem?_append_right (by omega),hl];rfl
 ·have h11:((d0 :: d1 :: d2 :: (es ++ [d11])).map V.int).length=12:=by simp [hl]
  unfold nB
  rw [show (some (3:Int))=some ((3:Nat):Int) from rfl,show (some (11:Int))=some ((11:Nat):Int) from rfl,HT.uZ,HT.uZ,h11]
  show List.take 8 ((es ++ [d11]).map V.int)=_
  rw [List.map_append,List.take_append_of_le_length (by simp [hl]),List.take_of_length_le (by simp [hl])]
theorem FI {p q a b:Prop} [Decidable p] [Decidable q]:(if p then if q then a else b else b)=if p∧q then a else b:=by by_cases hp:p <;> by_cases hq:q <;> simp [hp,hq]
theorem DI {f:Addr} {fd:FuncData} (F:cm K "_law_names" "_law_names" kW f fd) (Z:Cd mg) (eu:rd P w K mg base 1 "_law_digits" ["_law_cell_here","_law_sizes"] (qT K)):aO P w K mg base pK 2 f fd ["_law_cell_here","_law_many"] AN:=by
 refine F.ok eW (fun vs H Q E h=>?_) (fun cdv A outer s H vs Q E hr h=>?_)
 ·obtain ⟨c,m,rfl,_⟩:=h
  rfl
 obtain ⟨c,m,rfl,m0,m1,q⟩:=h
 refine ⟨_,(QB.run (aZ (cV (i:=2) eW.nd rfl (Or.inr rfl) nW)
   (aZ (cV (i:=3) eW.nd rfl (Or.inr rfl) (w8 eu hr (by decide) rfl (aW (pv 0) (aW (j_ (DV [.int 3,.int 36,.int 8,.int 36,.int 36,.int 36,.int 36,.int 36,.int 36,.int 36,.int 36,.int 840] rfl)) bK))))
   (aZ (mG (HD (uQ (dA DQ (cj gu (pv 3) aP (fun _ _=>rfl)) aP (ay _)) (o_ (dA Hx (pv 1) aP (ay _))))) (aZ (cV (i:=4) eW.nd rfl (Or.inr rfl) (j_ (DV [.str "m",.str "ab",.str "a",.str "zebra9",.str "b0",.str "0",.str "abc",.str "9zz",.str "q7q7q7q7",.str "aa",.str "z",.str "a1b2c3d4"] rfl)))
   (bL (dN (Ga (aj kW) ["_law_cell_here","_law_many","_law_signs","_law_row","_law_some","_law_body","_law_at_here","_law_out","_law_k"] [("_law_row",3),("_law_some",4)] rfl rfl rfl (gd rfl Z.range (aW (pv 1) bK)) (fun _ _ _ _ _ _=>(cj gu (pv 2) (bB gB (bB jv (cj gu (pv 1) aP (fun _ _=>rfl)) (bB cM aP (pv 0))) aP) (fun _ _=>rfl))))))) fR)
   (aZ (Gm (i:=5) (aj kW) ["_law_cell_here","_law_many","_law_signs","_law_row","_law_some","_law_body","_law_at_here","_law_out","_law_k"] [("_law_signs",2)] rfl rfl rfl eW.nd rfl (Or.inl rfl) (mF (ka vn (pv 3) (kM aP) (kM aP))) (fun _ _ _ _ _ _=>(cj Dk (pv 1) (pv 0) (fun _ _=>rfl))))
   (w_ (mG (dA DQ (cj gu (pv 3) aP (fun _ _=>rfl)) aP (ay _)) (bL (cV (i:=5) eW.nd rfl (Or.inl rfl) (ka vn (pv 5) o9 (kM (bB jv (cj gu (pv 3) aP (fun _ _=>rfl)) aP))))) fR)
   (aZ (cV (i:=6) eW.nd rfl (Or.inl rfl) (bB gB (cj gu (pv 3) aP (fun _ _=>rfl)) (dU jf rfl Z.len boot_len (aW (pv 5) bK))))
   (aZ (cV (i:=7) eW.nd rfl (Or.inl rfl) (j_ bK))
   (aZ (nX PassesOwn.never rfl (gd rfl Z.range (aW (pv 1) bK)) (kL (i:=8) eW.nd rfl (Or.inl rfl)) (aZ (uL (cj Dk (pv 2) (bB gB (bB jv (cj gu (pv 3) aP (fun _ _=>rfl)) (bB cM aP (pv 8))) aP) (fun _ _=>rfl)) (uH (pv 5) (pv 6) set_list))
   (bL (kO (qE PySem.F.plainAttrs_list PySem.F.slot_list_append PySem.F.type_list_append f' (pv 7) (aW (qE PySem.F.plainAttrs_str PySem.F.slot_str_join PySem.F.type_str_join FT nW (aW (pv 5) bK)) bK))))))
   (bL (dN (pv 7)))))))))))),?_⟩
 refine ⟨_,rfl,(by show 12≤sizeLine;decide),fun p hp=>?_⟩
 have ss:=mU (ss:=[3,36,8,36,36,36,36,36,36,36,36,840]) (by decide)
 refine ⟨c,p,[3,36,8,36,36,36,36,36,36,36,36,840],rfl,c7.of aJ,ss,by decide,fun r H1 ds _ g1 hr1 hD=>?_⟩
 obtain ⟨d0,d1,d2,d11,es,at0,at1,at2,at11,hcut,el,be,d20,d21⟩:=Mr hD
 clear hD
 generalize ds.map V.int=row at hr1 at0 at1 at2 at11 hcut
 have g1:=(bG.new hp _).trans g1
 dsimp! only [rJoin,hr1,at0,at1]
 rw [FI]
 split
 ·refine ⟨(by show 12≤sizeLine;decide),fun p2 hp2=>?_⟩
  have g2:=bG.new hp2 (.lst (menu.map V.str))
  have h2:(upd H1 p2 (.lst (menu.map V.str))) p2=some (.lst (menu.map V.str)):=aJ
  have hr2:=g2 _ _ hr1
  refine ⟨_,rfl,m,rfl,by omega,by omega,fun D hD=>?_⟩
  refine Dr (lo:=0) (n:=m.toNat) (fun i H'=>bG (upd H1 p2 (.lst (menu.map V.str))) H'∧H' D=some (.lst (((List.range i).map (pick d1)).map V.str))) ⟨bG.new hD _,aJ⟩ ?_ ?_
  ·rintro i H' R hi ⟨g,hd⟩ k
   have hr3:=g _ _ hr2
   have h3:=g _ _ h2
   dsimp! only [rJoin,hr3,h3,at1,Int.zero_add]
   refine ⟨.of (Bd.small (by decide) (by decide)) (Bd.small (x:=(i:Int)) (by omega) (by omega)),_,Gi d1 i,?_⟩
   refine k _ _ _ hd (by rw [List.length_map,List.length_map,List.length_range];exact a9 (by omega)) ⟨g.Ks hD _,?_⟩
   rw [aJ]
   simp [List.range_succ]
  ·rintro H' ⟨g,hd⟩
   exact q D H' _ (g1.free (g2.free hD)) (g1.trans (g2.trans g)) hd (by rw [List.length_map,List.length_range];omega) (D4 d1 (by omega)) (fun x hx=>by obtain ⟨k,_,rfl⟩:=List.mem_map.mp hx;exact BX d1 k)
 refine ⟨_,rfl,3,rfl,11,rfl,r,_,rfl,c7.of hr1,fun p2 hp2=>⟨p2,rfl,⟨_,c7.of aJ⟩,fun D hD=>?_⟩⟩
 rw [hcut] at hD ⊢
 have g2:=bG.new hp2 (.lst (es.map V.int))
 have hr2:=g2 _ _ hr1
 have h2:(upd H1 p2 (.lst (es.map V.int))) p2=some (.lst (es.map V.int)):=aJ
 have al:=kD
 have al2:cX.length≤sizeLine:=by decide +kernel
 refine FK (K:=K) (a:=p2) (xs:=es.map V.int) (fun i H'=>bG (upd H1 p2 (.lst (es.map V.int))) H'∧∃ cs:List Nat,cs.length=i∧(∀ c∈cs,ed cD c=true)∧H' D=some (.lst ((cs.map one).map V.str)))
  ⟨bG.new hD _,[],rfl,(fun c hc=>by cases hc),aJ⟩ (fun i H' _ ⟨g,_⟩=>c7.of (g _ _ h2)) ?_ ?_
 ·rintro i y H' R hi ⟨g,cs,hcs,hca,hd⟩ k
  have hil:=(List.getElem?_eq_some_iff.mp hi).1
  obtain ⟨z,rfl,hz⟩:=qj hi
  obtain ⟨z0,z1⟩:=be z (List.mem_of_getElem? hz)
  have at1:=Iv (xs:=cX.cps.toList) z0 (by rw [al];exact z1)
  dsimp! only [rJoin]
  refine ⟨al2,_,at1,?_⟩
  refine k _ _ _ hd (by rw [List.length_map,List.length_map,hcs];rw [List.length_map] at hil;exact a9 (by omega)) ⟨g.Ks hD _,cs ++ [cX.cps.toList[z.toNat]'(by rw [al];omega)],by rw [List.length_append,hcs];rfl,?_,?_⟩
  ·intro c hc
   rcases List.mem_append.mp hc with hc | hc
   ·exact hca c hc
   ·rw [List.mem_singleton] at hc;subst hc;exact pY _ (List.getElem_mem _)
  rw [aJ,List.map_append,List.map_append]
  rfl
 rintro H2 ⟨g,cs,hcs,hca,hd⟩
 have hr3:=g _ _ hr2
 have g:=g1.trans (g2.trans g)
 have hcs:cs.length=8:=hcs.trans ((List.length_map _).trans el)
 obtain ⟨M,hM⟩:∃ M:L2.St→Hp→Prop,∀ σ' H',M σ' H'↔∃ (D:Addr) (cs:List Nat),σ'=[some (.int c),some (.int m),some (.str cX),some (.ref r),none,some (.ref D),none,none,none]∧bG H H'∧H D=none∧H' r=some (.lst row)∧D≠r∧0 < cs.length∧cs.length≤8∧(∀ c∈cs,ed cD c=true)∧H' D=some (.lst ((cs.map one).map V.str)):=⟨_,fun _ _=>Iff.rfl⟩
 have fD:H D=none:=g1.free (g2.free hD)
 have nDr:D≠r:=(cg hr2 hD).symm
 refine ⟨M,?_,?_⟩
 ·dsimp! only [rJoin,hr3,at0,at2]
  split
  ·refine ⟨_,c7.of hd,fun p4 hp4=>(hM _ _).mpr ⟨p4,cs.take (d2 + 1).toNat,rfl,g.trans (bG.new hp4 _),g.free hp4,?_,?_,?_,?_,(fun c hc=>hca c (List.mem_of_mem_take hc)),?_⟩⟩
   ·exact (bG.new hp4 _) _ _ hr3
   ·exact (cg hr3 hp4).symm
   ·rw [List.length_take];omega
   ·rw [List.length_take];omega
   ·rw [aJ,CN (by omega),List.map_take,List.map_take]
  ·exact (hM _ _).mpr ⟨D,cs,rfl,g,fD,hr3,nDr,by omega,by omega,hca,hd⟩
 clear hca hd hr3 g fD nDr hcs
 intro σ5 H5 hm
 obtain ⟨D,cs,rfl,g,fD,hr3,nDr,l0,l1,hca,hd⟩:=(hM _ _).mp hm
 clear hm hM M
 have e0s:(Str.ofString "").length=0:=by decide +kernel
 have hl:((cs.map one).map V.str).length=cs.length:=by rw [List.length_map,List.length_map]
 have hlp:(0:Int) < (((cs.map one).map V.str).length:Nat):=by rw [hl];omega
 have a0:=Int.emod_nonneg d11 (show (((cs.map one).map V.str).length:Int)≠0 by omega)
 have a1:=Int.emod_lt_of_pos d11 hlp
 refine ⟨_,rfl,r,_,11,_,rfl,rfl,hr3,at11,_,rfl,D,rfl,_,.inl (c7.of hd),_,_,rfl,rfl,hlp,?_⟩
 generalize hat:d11 % (((cs.map one).map V.str).length:Int)=at' at a0 a1
 rw [hl] at a1
 refine ⟨Nat.zero_le _,fun O hO=>?_⟩
 have gO:=bG.new hO (.lst [])
 have nOD:O≠D:=(cg hd hO).symm
 have nOr:O≠r:=(cg hr3 hO).symm
 have fO:H O=none:=g.free hO
 refine ⟨_,rfl,m,rfl,by omega,by omega,sW (lo:=0) (n:=m.toNat) (fun i σ H'=>∃ (v:Option V) (cs':List Nat) (xs:List Str),σ=[some (.int c),some (.int m),some (.str cX),some (.ref r),none,some (.ref D),some (.int at'),some (.ref O),v] ∧
  bG H H'∧H' r=some (.lst row)∧cs'.length=cs.length∧(∀ c∈cs',ed cD c=true)∧H' D=some (.lst ((cs'.map one).map V.str))∧H' O=some (.lst (xs.map V.str))∧xs.length=i∧(∀ x∈xs,good x=true)∧∀ k x,xs[k]?=some x→x.cps.toList[at'.toNat]?=some (sign d1 k)) ?_ ?_ ?_⟩
 ·exact ⟨none,cs,[],by rw [← hat];rfl,g.trans gO,gO _ _ hr3,rfl,hca,gO _ _ hd,aJ,rfl,(fun x hx=>by cases hx),fun k x e=>by cases e⟩
 ·rintro i σ H' hi ⟨v,cs',xs,rfl,g',hr',hl',hca',hd',ho',hx,hxl,hs⟩
  have al2:cX.length≤sizeLine:=by decide +kernel
  have sg:=GS d1 i
  refine ⟨_,rfl,_,rfl,r,_,1,_,rfl,rfl,hr',at1,_,rfl,_,_,rfl,rfl,.of (Bd.small (by decide) (by decide)) (Bd.small (x:=0 + (i:Int)) (by omega) (by omega)),_,_,rfl,rfl,_,_,rfl,rfl,(show (0:Int) < 36 by decide),_,_,_,rfl,rfl,al2,(by rw [Int.zero_add];exact sg),?_⟩
  have ix:Ci ((cs'.map one).map V.str).length at'=some at'.toNat:=by
   unfold Ci
   rw [if_pos a0,if_pos (by rw [List.length_map,List.length_map,hl'];exact a1)]
  refine ⟨_,rfl,_,rfl,D,_,at',_,rfl,rfl,hd',ix,?_⟩
  have es:((cs'.map one).map V.str).set at'.toNat (.str ⟨#[sign d1 i]⟩)=((cs'.set at'.toNat (sign d1 i)).map one).map V.str:=by
   rw [List.map_set,List.map_set]
   rfl
  have gD:=bG.Ks fD g' (.lst (((cs'.map one).map V.str).set at'.toNat (.str ⟨#[sign d1 i]⟩)))
  have hD2:(upd H' D (.lst (((cs'.map one).map V.str).set at'.toNat (.str ⟨#[sign d1 i]⟩)))) D=some (.lst (((cs'.set at'.toNat (sign d1 i)).map one).map V.str)):=by rw [aJ,es]
  have hr2:(upd H' D (.lst (((cs'.map one).map V.str).set at'.toNat (.str ⟨#[sign d1 i]⟩)))) r=_:=(aQ nDr.symm).trans hr'
  have ho2:(upd H' D (.lst (((cs'.map one).map V.str).set at'.toNat (.str ⟨#[sign d1 i]⟩)))) O=_:=(aQ nOD).trans ho'
  have lc:(cs'.set at'.toNat (sign d1 i)).length=cs.length:=by rw [List.length_set,hl']
  have hcn:∀ c∈cs'.set at'.toNat (sign d1 i),ed cD c=true:=fun c hc=>by
   rcases List.mem_or_eq_of_mem_set hc with h | h
   ·exact hca' c h
   ·rw [h];exact B5 d1 i
  refine ⟨_,rfl,.inl ⟨rfl,_,c7.of ho2⟩,rfl,_,rfl,_,D,(cs'.set at'.toNat (sign d1 i)).map one,rfl,rfl,c7.of hD2,?_,O,_,_,rfl,rfl,ho2,?_,?_⟩
  ·rw [DP,List.length_map,lc,e0s]
   omega
  ·rw [List.length_map,hx]
   exact a9 (by omega)
  ·rw [join_ones]
   refine ⟨_,cs'.set at'.toNat (sign d1 i),xs ++ [⟨(cs'.set at'.toNat (sign d1 i)).toArray⟩],rfl,gD.Ks fO _,(aQ nOr.symm).trans hr2,lc,hcn,(aQ nOD.symm).trans hD2,?_,by rw [List.length_append,hx];rfl,?_,?_⟩
   ·rw [aJ,List.map_append]
    rfl
   ·intro x hx2
    rcases List.mem_append.mp hx2 with h | h
    ·exact hxl x h
    ·simp only [List.mem_cons,List.not_mem_nil,or_false] at h
     subst h
     exact FD (by rw [lc];exact l0) (by rw [lc];exact l1) hcn
   ·intro k x e
    rcases Nat.lt_or_ge k xs.length with hk | hk
    ·rw [List.getElem?_append_left hk] at e
     exact hs k x e
    ·rw [List.getElem?_append_right hk] at e
     have ek:k=i:=by
      cases hz:k - xs.length with
      | zero=>omega
      | succ z=>rw [hz] at e;cases e
     rw [show k - xs.length=0 by omega] at e
     have ex:=Option.some.inj e
     subst ex
     rw [ek]
     show (cs'.set at'.toNat (sign d1 i))[at'.toNat]?=some (sign d1 i)
     rw [List.getElem?_set_self (by omega)]
 ·rintro σ H' ⟨v,cs',xs,rfl,g',hr',hl',hca',hd',ho',hx,hxl,hs⟩
  exact ⟨_,rfl,q O H' xs fO g' ho' (by omega) (EU (by omega) hs) hxl⟩
def xG:cH:=fun xs J Q _=>∃ c m:Int,xs=[.int c,.int m]∧0≤m∧m≤36∧∀ ns:List Str,(ns.length:Int)=m→ns.Nodup→(∀ x∈ns,good x=true)→Q (.fl (ns.map .str)) J
theorem tu {K:PySem.W.Frag} {J:Hq} {H:Hp}:∀ ns:List Str,aS K J H (ns.map PV.str) (ns.map V.str)
 | []=>rfl
 | n :: ns=>⟨_,_,rfl,rfl,tu ns⟩
theorem yx (C:rd P w K mg base 2 "_law_names" ["_law_cell_here","_law_many"] AN):bh P w K mg base 2 "_law_names" ["_law_cell_here","_law_many"] xG:=C.lift fun xs J vs H Q2 E2 Q E rs r ⟨c,m,ex,h0,h1,q⟩ kn=>by
 subst ex
 obtain ⟨v,u,rfl,r1,r2⟩:=jI rs
 cases r1;cases r2
 exact ⟨c,m,rfl,h0,h1,fun p H' ns hp s e hl nd lx=>kn (.fl (ns.map .str)) J (.ref p) H' ⟨p,_,rfl,.inl ⟨r.free hp,.inl e⟩,tu ns⟩ (r.same s) (.same s) (q ns hl nd lx)⟩
abbrev pw:Stmt:=(top 46)
theorem Es:L2.aw ["_law_found"] ["_law_found"] (L2.aj pw):=dT
def kq:cH:=fun xs J Q _=>∃ i:Int,xs=[.int i]∧Q (.bl true) J
theorem BO {f:Addr} {fd:FuncData} (F:cm K "_law_whole" "_law_whole" pw f fd) (Z:bV mg):aO P w K mg base (c5 P w) 1 f fd ["_law_found"] (dI K kq):=by
 simp_arith [Es]
 ·obtain ⟨i,rfl,_⟩:=h;rfl
 obtain ⟨i,rfl,q⟩:=h
 refine ⟨_,(ak (az (y4 (aG gq rfl Z.isinstance boot_isinstance (af (rv 0) (af (kj rfl Z.int boot_int) ah))) (uV (JL (aG gq rfl Z.isinstance boot_isinstance (af (rv 0) (af (kj rfl Z.bool boot_bool) ah)))))))),?_⟩
 simp_arith! only [cK]
 exact q
abbrev vd:Stmt:=(top 48)
theorem GL:L2.aw ["_law_found","_law_due_here"] ["_law_found","_law_due_here"] (L2.aj vd):=dT
def k4:cH:=fun xs J Q _=>∃ a:Rat,xs=[fr a,fr a]∧Q (.bl true) J
theorem DN {f:Addr} {fd:FuncData} (F:cm K "_law_part" "_law_part" vd f fd) (Z:bV mg) (oU:bh P w K mg base 1 "_law_whole" ["_law_found"] kq):aO P w K mg base (c5 P w) 2 f fd ["_law_found","_law_due_here"] (dI K k4):=by
 simp_arith [GL]
 ·obtain ⟨a,rfl,_⟩:=h;rfl
 obtain ⟨a,rfl,q⟩:=h
 refine ⟨_,(ai (aU (c4 (gS (bQ (bj (aG gq rfl Z.isinstance boot_isinstance (af (rv 0) (af (kj rfl Z.tuple boot_tuple) ah))))) (fM (aI (iK hr.aX) (aG bH rfl Z.len boot_len (af (rv 0) ah)) ag (L2.ay _))))) (ak (az dn)) aH)
   (ai (aU (c4 (gS (bQ (bj (aM oU B hr (by decide) rfl (af (aq ar (rv 0) ag (fun _ _=>rfl)) ah)))) (fM (bQ (bj (aM oU B hr (by decide) rfl (af (aq ar (rv 0) ag (fun _ _=>rfl)) ah))))))) (ak (az dn)) aH)
   (ak (az (fh (df hr.aX) (rv 0) (rv 1) (L2.ay _)))))),?_⟩
 simp_arith! only [cK,kq]
 exact q
abbrev mO:Stmt:=(top 54)
theorem B2:L2.aw ["_law_number","_law_mode"] ["_law_number","_law_mode"] (L2.aj mO):=dT
def tH:cH:=fun xs J Q _=>∃ n m:Int,xs=[.int n,.int m]∧0≤n∧∀ v:Int,v.natAbs≤1000000→Q (.int v) J
theorem yJ {f:Addr} {fd:FuncData} (F:cm K "_law_placed" "_law_placed" mO f fd) (Z:bV mg):aO P w K mg base (c5 P w) 1 f fd ["_law_number","_law_mode"] (dI K tH):=by
 simp_arith [B2]
 ·obtain ⟨n,m,rfl,_⟩:=h;rfl
 obtain ⟨n,m,rfl,n0,q⟩:=h
 refine ⟨_,(ai (aU (aI gC (rv 1) ag (L2.ay _)) (ak (az (aL dM (aL ff (rv 0) ag) ag))) aH)
   (ai (aU (aI (df hr.aX) (rv 1) ag (L2.ay _)) (ak (az (aL dM (aL ff (rv 0) ag) ag))) aH)
   (ak (az (aL dM (aL ff (rv 0) ag) ag))))),?_⟩
 simp_all! only []
 split
 ·simp_all! only [];exact ⟨by decide,q _ (by omega)⟩
 simp_all! only []
 split
 ·simp_all! only [];exact ⟨by decide,q _ (by omega)⟩
 ·simp_all! only [];exact ⟨by decide,q _ (by omega)⟩
abbrev pj:Stmt:=(top 55)
theorem Ep:L2.aw ["_law_number","_law_mode"] ["_law_number","_law_mode"] (L2.aj pj):=dT
def xH:cH:=fun xs J Q _=>∃ n m:Int,xs=[.int n,.int m]∧0≤n∧n < 2001∧∀ v:Int,v.natAbs≤1000→Q (.int v) J
theorem BN {f:Addr} {fd:FuncData} (F:cm K "_law_paced" "_law_paced" pj f fd) (Z:bV mg):aO P w K mg base (c5 P w) 1 f fd ["_law_number","_law_mode"] (dI K xH):=by
 simp_arith [Ep]
 ·obtain ⟨n,m,rfl,_⟩:=h;rfl
 obtain ⟨n,m,rfl,n0,n1,q⟩:=h
 refine ⟨_,(ai (aU (aI gC (rv 1) ag (L2.ay _)) (ak (az (aL dM (aL ff (rv 0) ag) ag))) aH)
   (ai (aU (aI (df hr.aX) (rv 1) ag (L2.ay _)) (ak (az (aL dM (aL ff (rv 0) ag) ag))) aH)
   (ak (az (aL dM (aL ff (rv 0) ag) ag))))),?_⟩
 simp_all! only []
 split
 ·simp_all! only [];exact ⟨by decide,q _ (by omega)⟩
 simp_all! only []
 split
 ·simp_all! only [];exact ⟨by decide,q _ (by omega)⟩
 ·simp_all! only [];exact ⟨by decide,q _ (by omega)⟩
abbrev GH:Stmt:=(top 58)
theorem xq:L2.aw ["_law_leg","_law_moment","_law_begun","_law_place","_law_way","_law_under"] ["_law_leg","_law_moment"] (L2.aj GH):=dT
theorem Jn {f:Addr} {fd:FuncData} (F:cm K "_law_at" "_law_at" GH f fd) (Z:bV mg) (l8:bh P w K mg base 1 "_law_low" ["_law_top","_law_bottom"] jF):aO P w K mg base (c5 P w) 2 f fd ["_law_leg","_law_moment"] (dI K mZ):=by
 simp_arith [xq]
 ·obtain ⟨l,t,rfl,_⟩:=h;rfl
 obtain ⟨l,m,rfl,sb,sp,sm,bv,q⟩:=h
 refine ⟨_,(ai (aE (i:=2) xq.nd rfl (Or.inl rfl) (aq ar (rv 0) ag (fun _ _=>rfl)))
   (ai (aE (i:=3) xq.nd rfl (Or.inl rfl) (aq ar (rv 0) ag (fun _ _=>rfl)))
   (ai (aE (i:=4) xq.nd rfl (Or.inl rfl) (aL bI (aq ar (rv 0) ag (fun _ _=>rfl)) (aL dM (aL bI (aq ar (rv 1) ag (fun _ _=>rfl)) (aq ar (rv 2) ag (fun _ _=>rfl))) (aL bI (aq ar (rv 2) ag (fun _ _=>rfl)) (aq ar (rv 1) ag (fun _ _=>rfl))))))
   (ai (aE (i:=5) xq.nd rfl (Or.inl rfl) (aL bI (aq ar (rv 1) ag (fun _ _=>rfl)) (aq ar (rv 2) ag (fun _ _=>rfl))))
   (ak (az (aM l8 B hr (by decide) rfl (af (aL cU (aL bI (aq ar (rv 3) ag (fun _ _=>rfl)) (rv 5)) (aL bI (rv 4) (aq ar (rv 3) ag (fun _ _=>rfl)))) (af (aL bI (aq ar (rv 3) ag (fun _ _=>rfl)) (rv 5)) ah))))))))),?_⟩
 simp_arith! only [cK,wm,Hf,j0,jF]
 have bn:Bd 1801 (m.num * l.m.den - l.m.num * m.den):=.sub (.mul sm.num sb.den (Nat.le_refl _)) (.mul sb.num sm.den (Nat.le_refl _))
 have bu:Bd 1800 ((m.den:Int) * l.m.den):=.mul sm.den sb.den
 have bw:Bd 1900 (l.v * (m.num * l.m.den - l.m.num * m.den)):=.mul bv bn
 refine ⟨.of sm.num sb.den,.of sb.num sm.den,.of bv bn,.of sm.den sb.den,.of sp.num bu,.of bw sp.den,.of sp.den bu,Int.mul_pos (dJ _) (Int.mul_pos (dJ _) (dJ _)),.mul sp.den bu,?_⟩
 rw [KR]
 exact q
abbrev pf:Stmt:=(top 56)
theorem mT:L2.aw ["_law_clock","_law_number","_law_bottom","_law_mode","_law_under","_law_steps"] ["_law_clock","_law_number","_law_bottom","_law_mode"] (L2.aj pf):=dT
def vC:cH:=fun xs J Q _=>∃ (c:Rat) (n b m:Int),xs=[fr c,.int n,.int b,.int m]∧0≤n∧0≤b∧0≤m∧m < 4∧n < 2 ^ 60∧Sz 900 c∧∀ q,Later c q→Q (fr q) J
theorem BL {f:Addr} {fd:FuncData} (F:cm K "_law_later" "_law_later" pf f fd) (Z:bV mg) (l8:bh P w K mg base 1 "_law_low" ["_law_top","_law_bottom"] jF):aO P w K mg base (c5 P w) 2 f fd ["_law_clock","_law_number","_law_bottom","_law_mode"] (dI K vC):=by
 simp_arith [mT]
 ·obtain ⟨c,n,b,m,rfl,_⟩:=h;rfl
 obtain ⟨c,n,b,m,rfl,n0,b0,m0,m1,n2,sc,q⟩:=h
 refine ⟨_,(ai (aU (aI (df hr.aX) (aL ff (rv 1) ag) ag (L2.ay _)) (ak (az (rv 0))) aH)
   (ai (aE (i:=4) mT.nd rfl (Or.inl rfl) (aL cU ag (aL ff (rv 2) (aq ar (xh (y3 [.int 4,.int 6,.int 60,.int 60] rfl [.int 4,.int 6,.int 60,.int 60] rfl)) (rv 3) (fun _ _=>rfl)))))
   (ai (aE (i:=5) mT.nd rfl (Or.inl rfl) (aL cU ag (aL ff (aL o6 (rv 1) ag) (aL bI ag (rv 4)))))
   (eL (aU (aI (df hr.aX) (rv 3) ag (L2.ay _)) (ak (aE (i:=5) mT.nd rfl (Or.inl rfl) (aL cU ag (aL ff (aL o6 (rv 1) ag) (aL bI ag (rv 4)))))) aH)
   (ak (az (aM l8 B hr (by decide) rfl (af (aL cU (aL o6 (aL bI (aq ar (rv 0) ag (fun _ _=>rfl)) (rv 4)) (aq ar (rv 0) ag (fun _ _=>rfl))) (rv 5)) (af (rv 4) ah))))))))),?_⟩
 simp_arith! only [cK]
 refine ⟨by decide,?_⟩
 split
 ·exact q c (.inl rfl)
 obtain ⟨x,hx,x0,x1⟩:∃ x:Int,c_ [PV.int 4,PV.int 6,PV.int 60,PV.int 60] m=some (.int x)∧1≤x∧x≤60:=by
  rcases (by omega:m=0∨m=1∨m=2∨m=3) with e | e | e | e <;> subst e
  ·exact ⟨4,dH _ _,by decide,by decide⟩
  ·exact ⟨6,fN _ _ _,by decide,by decide⟩
  ·exact ⟨60,lq _ _ _ _,by decide,by decide⟩
  ·exact ⟨60,CG _ _ _ _ _,by decide,by decide⟩
 have u0:0≤b % x:=Int.emod_nonneg _ (by omega)
 have u1:b % x < x:=Int.emod_lt_of_pos _ (by omega)
 have bu:Bd 64 (1 + b % x):=.small (by omega) (by omega)
 have b8:Bd 9000 8:=(Bd.small (x:=8) (by decide) (by decide)).mono (by decide)
 refine ⟨_,hx,x,rfl,by omega,⟨by decide,b8⟩,.of (.small (x:=2) (by decide) (by decide)) bu,by omega,?_⟩
 generalize hu:1 + b % x=u at *
 have k0:0≤n.fdiv 8:=by rw [Int.fdiv_eq_ediv_of_nonneg _ (by decide)];exact Int.ediv_nonneg n0 (by decide)
 obtain ⟨M,hM⟩:∃ M:Sr→Hq→Prop,∀ τ' J',M τ' J'↔∃ s:Int,τ'=[some (fr c),some (.int n),some (.int b),some (.int m),some (.int u),some (.int s)]∧J'=J∧1≤s∧s≤500 * u:=⟨_,fun _ _=>Iff.rfl⟩
 refine ⟨M,?_,?_⟩
 ·simp_arith! only [cK]
  have h2:0≤n.fdiv 8 % (2 * u):=Int.emod_nonneg _ (by omega)
  have h3:n.fdiv 8 % (2 * u) < 2 * u:=Int.emod_lt_of_pos _ (by omega)
  have h4:0≤n.fdiv 8 % (500 * u):=Int.emod_nonneg _ (by omega)
  have h5:n.fdiv 8 % (500 * u) < 500 * u:=Int.emod_lt_of_pos _ (by omega)
  split
  ·refine ⟨⟨by decide,b8⟩,.of (.small (x:=500) (by decide) (by decide)) bu,by omega,(hM _ _).mpr ⟨_,rfl,rfl,by omega,by omega⟩⟩
  ·exact (hM _ _).mpr ⟨_,rfl,rfl,by omega,by omega⟩
 ·intro τ' J' hm
  obtain ⟨s,rfl,rfl,s0,s1⟩:=(hM _ _).mp hm
  clear hm hM M
  simp_arith! only [cK,jF]
  refine ⟨.of sc.num bu,⟨fb c,sc.den.mono (by decide)⟩,by omega,bu.mono (by decide),?_⟩
  obtain ⟨u',rfl⟩:=Int.eq_ofNat_of_zero_le (show 0≤u by omega)
  obtain ⟨s',rfl⟩:=Int.eq_ofNat_of_zero_le (show 0≤s by omega)
  exact q _ (.inr ⟨u',s',by omega,by omega,by omega,by omega,rfl⟩)
theorem nH {α:Type} {V:α→PV} {lt:α→α→Bool} {ys:List α} {b:α} {r:Addr} {sp:cH} {E2:Addr→Hq→Prop} {D:En} {τ:Sr} {J:Hq} {iO iA iR:Nat}
  (hO:τ[iO]?=some (some (.ref r))) (hR:τ[iR]?=some (some (V b))) (hA:τ[iA]?=some (some (.int 0))) (nO:iA≠iO) (nR:iA≠iR) (hJ:J r=some (.lst (ys.map V)))
  (hb:∀ y∈ys,∀ R:PV→Hq→Prop,R (.bl (lt y b)) J→sp [V y,V b] J R E2)
  (high:∀ {i j:Nat} {x y:α},ys[i]?=some x→ys[j]?=some y→i≤j→lt x b=false→lt y b=false)
  (fin:∀ j:Nat,j≤ys.length→(∀ (k:Nat) y,k < j→ys[k]?=some y→lt y b=true)→(∀ (k:Nat) y,j≤k→ys[k]?=some y→lt y b=false)→D.nx (τ.set iA (some (.int j))) J) :
  Eg (Gu (rB (vL (Ea fun i j=>.bl (decide (i < j))) (jw iA) (L5 JF (kg (jw iO) sj)))) (rB (xf sp E2 (kg (vL HF (jw iO) (jw iA)) (kg (jw iR) sj))))) (si (vL (Ea fun i j=>.int (i + j)) (jw iA) (rC (.int 1))) (Fy iA)) D τ J:=by
 have hl:iA < τ.length:=(List.getElem?_eq_some_iff.mp hA).1
 have sO:∀ x,(τ.set iA x)[iO]?=some (some (.ref r)):=fun x=>by rw [List.getElem?_set_ne nO];exact hO
 have sR:∀ x,(τ.set iA x)[iR]?=some (some (V b)):=fun x=>by rw [List.getElem?_set_ne nR];exact hR
 have sA:∀ x,(τ.set iA x)[iA]?=some x:=fun x=>List.getElem?_set_self hl
 refine ⟨fun m τ' J'=>∃ j:Nat,j≤ys.length∧m=ys.length - j∧τ'=τ.set iA (some (.int j))∧J'=J∧∀ (k:Nat) y,k < j→ys[k]?=some y→lt y b=true,⟨ys.length,0,Nat.zero_le _,rfl,?_,rfl,fun k y hk=>by omega⟩,?_⟩
 ·have h2:=List.set_getElem_self hl
  rw [(List.getElem?_eq_some_iff.mp hA).2] at h2
  exact h2.symm
 rintro m τ' J' ⟨j,hj,rfl,rfl,rfl,hlow⟩
 simp_all! only [sO,sA,hJ,List.length_map]
 by_cases c0:j < ys.length
 ·rw [if_pos (by omega)]
  obtain ⟨y,hy⟩:∃ y,ys[j]?=some y:=⟨_,List.getElem?_eq_getElem c0⟩
  have ha:c_ (ys.map V) (j:Int)=some (V y):=ba (by rw [List.getElem?_map,hy];rfl)
  simp_all! only [sO,sA,sR,hJ,ha]
  refine hb y (List.mem_of_getElem? hy) _ ?_
  refine ⟨lt y b,rfl,?_⟩
  cases hc:lt y b with
  | true =>
   rw [if_pos rfl]
   refine ⟨fun τ' J''=>∃ i:Nat,i≤ys.length∧ys.length - (j + 1)=ys.length - i∧τ'=τ.set iA (some (.int i))∧J''=J'∧∀ (k:Nat) y,k < i→ys[k]?=some y→lt y b=true,fun τ'' J'' h=>⟨ys.length - (j + 1),by omega,h⟩,j + 1,by omega,rfl,by rw [List.set_set,Int.natCast_succ],rfl,fun k z hk e=>?_⟩
   rcases Nat.lt_or_eq_of_le (Nat.lt_succ_iff.mp hk) with h | h
   ·exact hlow k z h e
   ·subst h;rw [hy] at e;cases e;exact hc
  | false =>
   rw [if_neg (by decide)]
   exact fin j hj hlow fun k z hk e=>high hy e hk hc
 ·rw [if_neg (by omega)]
  exact fin j hj hlow fun k z hk e=>by rw [List.getElem?_eq_none (by omega)] at e;cases e
section
variable {X:Cx}
theorem md.or {f:Value→Value→Sem Value} {q q':me} (h:md X f q) (h':md X f q'):md X f (fun x y J Q=>q x y J Q∨q' x y J Q):=by
 obtain ⟨r,a,lr⟩:=h
 obtain ⟨r',a',lr'⟩:=h'
 refine ⟨fun x y H Q=>r x y H Q∨r' x y H Q,fun pins s σ H x y v u Q I rx ry h=>?_,fun J H x y v w Q2 Q rx ry rr h k=>?_⟩
 ·rcases h with h | h
  ·exact a pins s σ H x y v u Q I rx ry h
  ·exact a' pins s σ H x y v u Q I rx ry h
 ·rcases h with h | h
  ·exact .inl (lr J H x y v w Q2 Q rx ry rr h k)
  ·exact .inr (lr' J H x y v w Q2 Q rx ry rr h k)
end
def Ky.V (k:Ky):PV:=.tup [fr k.p,.int k.v,.str k.n]
theorem K9 (J:Hq) (k:Ky):fK J k.V (.int 0)=some (fr k.p):=dH _ _
theorem K_ (J:Hq) (k:Ky):fK J k.V (.int 1)=some (.int k.v):=fN _ _ _
theorem He (J:Hq) (k:Ky):fK J k.V (.int 2)=some (.str k.n):=lq _ _ _ _
theorem MG (p:Rat) (v:Int) (n:Str):PV.tup [fr p,.int v,.str n]=(Ky.mk p v n).V:=rfl
theorem nA (p q:Rat):(p.num * (q.den:Int) < q.num * (p.den:Int))=(p < q):=propext (Rat.lt_iff p q).symm
abbrev mK:Stmt:=(top 61)
theorem oa:L2.aw ["_law_one","_law_two","_law_here","_law_there"] ["_law_one","_law_two"] (L2.aj mK):=dT
def mW:cH:=fun xs J Q _=>(∃ a b:Ky,xs=[a.V,b.V]∧Sz 9000 a.p∧Sz 9000 b.p∧Q (.bl (a.lt b)) J)∨(∃ a b:aD,xs=[a.v,b.v]∧Sz 9000 a.m∧Sz 9000 b.m∧Q (.bl (a.lt b)) J)
theorem yI {f:Addr} {fd:FuncData} (F:cm K "_law_before" "_law_before" mK f fd) (Z:bV mg):aO P w K mg base (c5 P w) 1 f fd ["_law_one","_law_two"] (dI K mW):=by
 simp_arith [oa]
 ·rcases h with ⟨a,b,rfl,_⟩ | ⟨a,b,rfl,_⟩ <;> rfl
 refine ⟨_,(ai (aE (i:=2) oa.nd rfl (Or.inl rfl) (aL bI (aq ar (aq ar (rv 0) ag (fun _ _=>rfl)) ag (fun _ _=>rfl)) (aq ar (aq ar (rv 1) ag (fun _ _=>rfl)) ag (fun _ _=>rfl))))
   (ai (aE (i:=3) oa.nd rfl (Or.inl rfl) (aL bI (aq ar (aq ar (rv 1) ag (fun _ _=>rfl)) ag (fun _ _=>rfl)) (aq ar (aq ar (rv 0) ag (fun _ _=>rfl)) ag (fun _ _=>rfl))))
   (ai (aU (aI (iK hr.aX) (rv 2) (rv 3) (L2.ay _)) (ak (az (fh gC (rv 2) (rv 3) (L2.ay _)))) aH)
   (ai (aU (aI (iK hr.aX) (aq ar (rv 0) ag (fun _ _=>rfl)) (aq ar (rv 1) ag (fun _ _=>rfl)) (L2.ay _)) (ak (az (fh (md.or gC yM) (aq ar (rv 0) ag (fun _ _=>rfl)) (aq ar (rv 1) ag (fun _ _=>rfl)) (L2.ay _)))) aH)
   (ak (az (fh yM (aq ar (rv 0) ag (fun _ _=>rfl)) (aq ar (rv 1) ag (fun _ _=>rfl)) (L2.ay _)))))))),?_⟩
 rcases h with ⟨a,b,rfl,sa,sb,q⟩ | ⟨a,b,rfl,sa,sb,q⟩
 ·simp_arith! only [cK,K9,K_,He]
  refine ⟨.of sa.num sb.den,.of sb.num sa.den,?_⟩
  unfold Ky.lt at q
  by_cases e:a.p=b.p
  ·rw [if_pos e] at q
   rw [if_pos ((kF _ _).mpr e)]
   by_cases k:a.v=b.v
   ·rw [if_pos k] at q ⊢;exact q
   ·rw [if_neg k] at q ⊢;exact q
  ·rw [if_neg e] at q
   rw [if_neg (fun z=>e ((kF _ _).mp z))]
   simp only [nA]
   exact q
 ·simp_arith! only [cK,Dh,Di,Dj]
  refine ⟨.of sa.num sb.den,.of sb.num sa.den,?_⟩
  unfold aD.lt at q
  by_cases e:a.m=b.m
  ·rw [if_pos e] at q
   rw [if_pos ((kF _ _).mpr e)]
   by_cases k:a.h=b.h
   ·rw [if_pos k] at q ⊢;exact q
   ·rw [if_neg k] at q ⊢;exact q
  ·rw [if_neg e] at q
   rw [if_neg (fun z=>e ((kF _ _).mp z))]
   simp only [nA]
   exact q
abbrev mM:Stmt:=(top 62)
theorem iY:L2.aw ["_law_legs","_law_moment","_law_out","_law_name","_law_row","_law_at_here"] ["_law_legs","_law_moment"] (L2.aj mM):=dT
def qW:cH:=fun xs J Q _=>∃ (D:Addr) (fs:List (Str × aV)) (ep:Nat) (t:Rat),xs=[.ref D,fr t]∧J D=some (.dct (bS fs) ep)∧(fs.map (·.1)).Nodup∧fs.length≤100∧Sz 900 t∧(∀ x∈fs,ox 900 x.2)∧Q (.fl ((cS t fs).map .str)) J
theorem BM {f:Addr} {fd:FuncData} (F:cm K "_law_order" "_law_order" mM f fd) (Z:bV mg) (rp:bh P w K mg base 2 "_law_at" ["_law_leg","_law_moment"] mZ) (jQ:bh P w K mg base 1 "_law_before" ["_law_one","_law_two"] mW):aO P w K mg base (c5 P w) 3 f fd ["_law_legs","_law_moment"] (dI K qW):=by
 refine Hu F iY (fun xs J Q E h=>?_) (fun cdv A outer s H E G xs J Q E2 hr h B=>?_)
 ·obtain ⟨D,fs,ep,t,rfl,_⟩:=h;rfl
 obtain ⟨D,fs,ep,t,rfl,hD,hnd,hlen,st,sl,q⟩:=h
 refine ⟨_,(ai (aE (i:=2) iY.nd rfl (Or.inl rfl) (ki ah))
   (ai (dO bR rfl (pd (rv 0)) (bF (i:=3) iY.nd rfl (Or.inl rfl)) (ai (aE (i:=4) iY.nd rfl (Or.inl rfl) (cG (af (aM rp B hr (by decide) rfl (af (aq cQ (rv 0) (rv 3) (fun _ _=>rfl)) (af (rv 1) ah))) (af (aq ar (aq cQ (rv 0) (rv 3) (fun _ _=>rfl)) ag (fun _ _=>rfl)) (af (rv 3) ah)))))
   (ai (aE (i:=5) iY.nd rfl (Or.inl rfl) ag)
   (ai (iX bR (c4 (eQ (aI gC (rv 5) (aG bH rfl Z.len boot_len (af (rv 2) ah)) (L2.ay _)) (dB (bj (aM jQ B hr (by decide) rfl (af (aq ar (rv 2) (rv 5) (fun _ _=>rfl)) (af (rv 4) ah))))))) (ak (aE (i:=5) iY.nd rfl (Or.inl rfl) (aL cU (rv 5) ag))))
   (ak (bc (lz PySem.F.plainAttrs_list PySem.F.slot_list_insert PySem.F.type_list_insert iI (rv 2) (af (rv 5) (af (rv 4) ah)))))))))
   (ak (az (Mo (L2.aj mM) ["_law_legs","_law_moment","_law_out","_law_name","_law_row","_law_at_here"] [] rfl rfl rfl (fj (rv 2)) (fun _ _ _ _ _ _=>(aq ar (rv 0) ag (fun _ _=>rfl)))))))),?_⟩
 simp_all! only []
 intro r hr'
 have nDr:D≠r:=by intro e;subst e;rw [hD] at hr';cases hr'
 simp_all! only [au nDr,hD]
 have hkv:(bS fs).map (fun kv=>PV.str kv.1)=fs.map fun x=>PV.str x.1:=by unfold bS;rw [List.map_map];rfl
 rw [hkv]
 obtain ⟨Inv,hInv⟩:∃ Inv:Nat→Sr→Hq→Prop,∀ i τ J',Inv i τ J'↔∃ (u3 u4 u5:Option PV),τ=[some (.ref D),some (fr t),some (.ref r),u3,u4,u5]∧J'=put J r (.lst ((cu ((fs.take i).map (key t))).map Ky.V)):=⟨_,fun _ _ _=>Iff.rfl⟩
 refine fJ Inv ((hInv _ _ _).mpr ⟨_,_,_,rfl,rfl⟩) (fun i τ J' h=>?_) ?_ ?_
 ·obtain ⟨_,_,_,_,rfl⟩:=(hInv _ _ _).mp h
  rw [au nDr];exact hD
 ·intro i x τ J' hx hv
  obtain ⟨u3,u4,u5,rfl,rfl⟩:=(hInv _ _ _).mp hv
  clear hv
  have hi:i < fs.length:=by have:=(List.getElem?_eq_some_iff.mp hx).1;simpa using this
  rw [List.getElem?_map,List.getElem?_eq_getElem hi] at hx
  cases hx
  rcases hfi:fs[i] with ⟨n,l⟩
  have hmem:(n,l)∈fs:=by rw [← hfi];exact List.getElem_mem hi
  have et:fs.take (i + 1)=fs.take i ++ [(n,l)]:=by rw [List.take_add_one,List.getElem?_eq_getElem hi,hfi];rfl
  have hndt:((fs.take i).map (·.1)).Nodup:=by rw [List.map_take];exact hnd.sublist (List.take_sublist _ _)
  obtain ⟨ys,hys⟩:∃ ys,cu ((fs.take i).map (key t))=ys:=⟨_,rfl⟩
  have srt:nv Ky.lt ys:=by rw [← hys];exact cR (by rw [cv];exact hndt)
  have hyl:ys.length=i:=by rw [← hys,iM,List.length_map,List.length_take];omega
  have hym:∀ y∈ys,Sz 9000 y.p:=fun y hy=>by
   rw [← hys,bz,List.mem_map] at hy
   obtain ⟨x',hx',rfl⟩:=hy
   exact (jV (sl x' (List.mem_of_mem_take hx')) st).mono (by decide)
  have en:cu ((fs.take (i + 1)).map (key t))=oK Ky.lt (key t (n,l)) ys:=by rw [et,List.map_append,List.map_cons,List.map_nil,iN,hys]
  rw [hys]
  have hvn:lp (bS fs) n=some l.V:=gJ (f:=aV.V) hnd hmem
  have sll:=sl _ hmem
  simp_all! only [au nDr,hD,hvn]
  refine ⟨l,t,rfl,sll.m,sll.p,st,sll.v,?_⟩
  simp_all! only [au nDr,hD,hvn,j0,MG]
  have ek:(Ky.mk (l.at t) l.v n)=key t (n,l):=rfl
  rw [ek]
  have skn:Sz 9000 (key t (n,l)).p:=(jV sll st).mono (by decide)
  generalize key t (n,l)=kn at en skn ⊢
  refine nH (V:=Ky.V) (lt:=Ky.lt) (ys:=ys) (b:=kn) (iO:=2) (iA:=5) (iR:=4) rfl rfl rfl (by decide) (by decide) av (fun y hy R hR=>.inl ⟨y,kn,rfl,hym y hy,skn,hR⟩) (fun hx hy h k=>B6 (lt:=Ky.lt) Ky.tr srt hx hy h k) fun j hj hlow hhigh=>?_
  simp_all! only [av]
  refine ⟨_,j,rfl,rfl,by rw [List.length_map];exact hj,a9 (by rw [List.length_map];omega),by omega,?_⟩
  rw [d4]
  refine (hInv _ _ _).mpr ⟨_,_,_,rfl,?_⟩
  rw [en,← z_ hj hlow hhigh,List.map_append,List.map_cons,List.map_take,List.map_drop]
 ·intro τ J' hv
  obtain ⟨u3,u4,u5,rfl,rfl⟩:=(hInv _ _ _).mp hv
  rw [List.length_map,List.take_length]
  simp_all! only [uU,av]
  refine ⟨fun _=>true,(fun x=>match x with | .tup [_,_,n]=>n | _=>.non),⟨a9 (by rw [List.length_map,iM,List.length_map];omega),fun J2 hs=>⟨hs _ _ av,fun x hx=>⟨⟨rfl,rfl⟩,fun _=>?_⟩⟩⟩,?_⟩
  ·obtain ⟨y,hy,rfl⟩:=List.mem_map.mp hx
   simp_arith! only [cK,He]
   rfl
  ·rw [List.filter_eq_self.mpr fun _ _=>rfl,List.map_map]
   have e:(cS t fs).map PV.str=(cu (fs.map (key t))).map ((fun x=>match x with | .tup [_,_,n]=>n | _=>.non) ∘ Ky.V):=by unfold cS;rw [List.map_map];rfl
   rw [e] at q
   exact Fg.less (gx hr') q
abbrev pz:Stmt:=(top 49)
theorem xr:L2.aw ["_law_found","_law_due_here","_law_one"] ["_law_found","_law_due_here"] (L2.aj pz):=dT
def AQ:cH:=fun xs J Q _=>∃ ss:List Str,xs=[.fl (ss.map .str),.fl (ss.map .str)]∧ss.length≤900∧Q (.bl true) J
theorem D8 (ss:List Str):lj (ss.map PV.str)=true:=by
 induction ss with
 | nil=>rfl
 | cons x ss ih=>rw [List.map_cons,n4,uP,ih];rfl
theorem CP (ss:List Str):dR (gF (ss.map PV.str))≤1:=by
 induction ss with
 | nil=>simp [gF,dR]
 | cons x ss ih=>simp only [List.map_cons,gF,gE,dR,dep];omega
theorem zG (ss:List Str):Fq (.fl (ss.map .str)):=⟨by unfold mH;exact D8 ss,by
 have:=CP ss
 simp only [gE,dep];omega⟩
theorem BP {f:Addr} {fd:FuncData} (F:cm K "_law_words" "_law_words" pz f fd) (Z:bV mg):aO P w K mg base (c5 P w) 1 f fd ["_law_found","_law_due_here"] (dI K AQ):=by
 simp_arith [xr]
 ·obtain ⟨ss,rfl,_⟩:=h;rfl
 obtain ⟨ss,rfl,hl,q⟩:=h
 refine ⟨_,(ai (aU (c4 (gS (bQ (bj (aG gq rfl Z.isinstance boot_isinstance (af (rv 0) (af (kj rfl Z.list boot_list) ah))))) (fM (aI (iK hr.aX) (aG bH rfl Z.len boot_len (af (rv 0) ah)) (aG bH rfl Z.len boot_len (af (rv 1) ah)) (L2.ay _))))) (ak (az dn)) aH)
   (ai (dO bR rfl (fj (rv 0)) (bF (i:=2) xr.nd rfl (Or.inl rfl)) (ak (aU (bQ (bj (aG gq rfl Z.isinstance boot_isinstance (af (rv 2) (af (kj rfl Z.str boot_str) ah))))) (ak (az dn)) aH)))
   (ak (az (fh (df hr.aX) (rv 0) (rv 1) (L2.ay _)))))),?_⟩
 simp_all! only [List.length_map]
 obtain ⟨Inv,hInv⟩:∃ Inv:Nat→Sr→Hq→Prop,∀ i τ J',Inv i τ J'↔∃ u:Option PV,τ=[some (.fl (ss.map .str)),some (.fl (ss.map .str)),u]∧J'=J:=⟨_,fun _ _ _=>Iff.rfl⟩
 refine fJ Inv ((hInv _ _ _).mpr ⟨_,rfl,rfl⟩) (fun _ _ _ _=>trivial) ?_ ?_
 ·intro i x τ J' hx hv
  obtain ⟨u,rfl,rfl⟩:=(hInv _ _ _).mp hv
  obtain ⟨y,_,rfl⟩:=List.mem_map.mp (List.mem_of_getElem? hx)
  simp_all! only []
  exact (hInv _ _ _).mpr ⟨_,rfl,rfl⟩
 ·intro τ J' hv
  obtain ⟨u,rfl,rfl⟩:=(hInv _ _ _).mp hv
  simp_all! only []
  refine ⟨zG ss,(zG ss).1,?_⟩
  rw [eq_self];exact q
abbrev kX:Stmt:=(top 50)
theorem y8:L2.aw ["_law_found","_law_due_here"] ["_law_found","_law_due_here"] (L2.aj kX):=dT
def om:cH:=fun xs J Q _=>∃ a:aD,xs=[a.v,a.v]∧Q (.bl true) J
theorem wN {f:Addr} {fd:FuncData} (F:cm K "_law_passrow" "_law_passrow" kX f fd) (Z:bV mg) (m_:bh P w K mg base 2 "_law_part" ["_law_found","_law_due_here"] k4):aO P w K mg base (c5 P w) 3 f fd ["_law_found","_law_due_here"] (dI K om):=by
 simp_arith [y8]
 ·obtain ⟨a,rfl,_⟩:=h;rfl
 obtain ⟨a,rfl,q⟩:=h
 refine ⟨_,(ai (aU (c4 (gS (bQ (bj (aG gq rfl Z.isinstance boot_isinstance (af (rv 0) (af (kj rfl Z.tuple boot_tuple) ah))))) (fM (aI (iK hr.aX) (aG bH rfl Z.len boot_len (af (rv 0) ah)) ag (L2.ay _))))) (ak (az dn)) aH)
   (ai (aU (c4 (gS (bQ (bj (aG gq rfl Z.isinstance boot_isinstance (af (aq ar (rv 0) ag (fun _ _=>rfl)) (af (kj rfl Z.str boot_str) ah))))) (fM (bQ (bj (aG gq rfl Z.isinstance boot_isinstance (af (aq ar (rv 0) ag (fun _ _=>rfl)) (af (kj rfl Z.str boot_str) ah)))))))) (ak (az dn)) aH)
   (ak (az (y4 (aM m_ B hr (by decide) rfl (af (aq ar (rv 0) ag (fun _ _=>rfl)) (af (aq ar (rv 1) ag (fun _ _=>rfl)) ah))) (uV (fh (df hr.aX) (rv 0) (rv 1) (L2.ay _)))))))),?_⟩
 simp_arith! only [cK,k4,Dh,Di,Dj,Od,Lc,Nh,HB,Nk]
 exact q
abbrev jC:Stmt:=(top 51)
theorem oH:L2.aw ["_law_found","_law_due_here","_law_k"] ["_law_found","_law_due_here"] (L2.aj jC):=dT
def lY:cH:=fun xs J Q _=>∃ (rows:List aD) (x:PV),xs=[x,.fl (rows.map aD.v)]∧lQ J x=some (rows.map aD.v)∧rows.length≤900∧Q (.bl true) J
theorem uC {f:Addr} {fd:FuncData} (F:cm K "_law_passrows" "_law_passrows" jC f fd) (Z:bV mg) (A8:bh P w K mg base 3 "_law_passrow" ["_law_found","_law_due_here"] om):aO P w K mg base (c5 P w) 4 f fd ["_law_found","_law_due_here"] (dI K lY):=by
 simp_arith [oH]
 ·obtain ⟨rows,x,rfl,_⟩:=h;rfl
 obtain ⟨rows,x,rfl,hx,hl,q⟩:=h
 refine ⟨_,(ai (aU (c4 (gS (bQ (bj (aG gq rfl Z.isinstance boot_isinstance (af (rv 0) (af (kj rfl Z.list boot_list) ah))))) (fM (aI (iK hr.aX) (aG bH rfl Z.len boot_len (af (rv 0) ah)) (aG bH rfl Z.len boot_len (af (rv 1) ah)) (L2.ay _))))) (ak (az dn)) aH)
   (ai (dO bR rfl (iT rfl Z.range (af (aG bH rfl Z.len boot_len (af (rv 1) ah)) ah)) (bF (i:=2) oH.nd rfl (Or.inl rfl)) (ak (aU (bQ (bj (aM A8 B hr (by decide) rfl (af (aq ar (rv 0) (rv 2) (fun _ _=>rfl)) (af (aq ar (rv 1) (rv 2) (fun _ _=>rfl)) ah))))) (ak (az dn)) aH)))
   (ak (az dn)))),?_⟩
 simp_arith! only [cK,List.length_map,Ho hx,yB hx]
 refine ⟨by omega,by omega,oY (fun i τ J'=>∃ u:Option PV,τ=[some x,some (.fl (rows.map aD.v)),u]∧J'=J) ⟨none,rfl,rfl⟩ ?_ ?_⟩
 ·rintro i τ J' hi ⟨u,rfl,rfl⟩
  have hi:i < rows.length:=by omega
  have ha:c_ (rows.map aD.v) (0 + (i:Int))=some (rows[i].v):=by rw [Int.zero_add];exact CH (List.getElem?_eq_getElem hi)
  simp_arith! only [cK,Dw hx,ha,om]
  exact ⟨_,rfl,rfl⟩
 ·rintro τ J' ⟨u,rfl,rfl⟩
  exact q
theorem vJ {t p q:Rat} {v:Int} (hv:0 < v):Rat.divInt (t.num * ((p.den:Int) * (q.den:Int) * v) + (q.num * (p.den:Int) - p.num * (q.den:Int)) * (t.den:Int)) ((t.den:Int) * ((p.den:Int) * (q.den:Int) * v))=t + (q - p) / (v:Rat):=by
 have a:=cast_eq t
 have b:=cast_eq p
 have c:=cast_eq q
 have d:=dQ t
 have e:=dQ p
 have f:=dQ q
 have k:(v:Rat)≠0:=oC (by omega)
 rw [Rat.divInt_eq_div]
 simp only [Rat.intCast_mul,Rat.intCast_add,Rat.intCast_sub,a,b,c]
 generalize (((t.den:Int)):Rat)=x at d ⊢
 generalize (((p.den:Int)):Rat)=y at e ⊢
 generalize (((q.den:Int)):Rat)=z at f ⊢
 generalize (v:Rat)=w at k ⊢
 have h1:y * z≠0:=fun h=>by rcases Rat.mul_eq_zero.mp h with h | h <;> contradiction
 have h2:y * z * w≠0:=fun h=>by rcases Rat.mul_eq_zero.mp h with h | h <;> contradiction
 have h3:x * (y * z * w)≠0:=fun h=>by rcases Rat.mul_eq_zero.mp h with h | h <;> contradiction
 grind
theorem ox.oz {l:aV} (h:ox 240 l) {t:Rat} (st:Sz 240 t):Sz 790 (l.at t):=by
 have s1:Sz 481 (t - l.m):=st.sub h.m
 have s2:Sz 545 ((t - l.m) * (l.v:Rat)):=s1.mul h.v
 exact h.p.add s2
theorem pJ {t p q:Rat} {v:Int} (st:Sz 240 t) (sp:Sz 790 p) (sq:Sz 790 q) (bv:Bd 70 v) (hv:0 < v):Bd 1650 ((p.den:Int) * (q.den:Int) * v)∧Bd 1590 (q.num * (p.den:Int) - p.num * (q.den:Int))∧Bd 1900 ((t.den:Int) * ((p.den:Int) * (q.den:Int) * v))∧Sz 9000 (t + (q - p) / (v:Rat)):=by
 have h1:Bd 1650 ((p.den:Int) * (q.den:Int) * v):=.mul (.mul (k:=1580) sp.den sq.den) bv
 have h2:Bd 1590 (q.num * (p.den:Int) - p.num * (q.den:Int)):=.sub (Bd.mul (k:=1580) sq.num sp.den) (Bd.mul (k:=1580) sp.num sq.den)
 have h3:Bd 1900 ((t.den:Int) * ((p.den:Int) * (q.den:Int) * v)):=.mul st.den h1
 refine ⟨h1,h2,h3,?_⟩
 rw [← vJ hv]
 have hd:0 < (t.den:Int) * ((p.den:Int) * (q.den:Int) * v):=Int.mul_pos (dJ _) (Int.mul_pos (Int.mul_pos (dJ _) (dJ _)) hv)
 exact (Sz.div (n:=1901) (.add (Bd.mul (k:=1900) st.num h1) (Bd.mul (k:=1900) h2 st.den)) (h3.mono (by decide)) (by omega)).mono (by decide)
theorem G1 (p q:Rat):(0 < q.num * (p.den:Int) - p.num * (q.den:Int))=(p < q):=by
 rw [← nA p q];exact propext (by omega)
abbrev Ax:Stmt:=(top 63)
theorem fi:L2.aw ["_law_legs","_law_clock","_law_moment","_law_out","_law_fast","_law_here","_law_slow","_law_pace","_law_there","_law_top","_law_under","_law_when","_law_row","_law_at_here"] ["_law_legs","_law_clock","_law_moment"] (L2.aj Ax):=dT
def Ey:cH:=fun xs J Q _=>∃ (D:Addr) (fs:List (Str × aV)) (ep:Nat) (t m:Rat),xs=[.ref D,fr t,fr m]∧J D=some (.dct (bS fs) ep)∧(fs.map (·.1)).Nodup∧fs.length≤20∧Sz 240 t∧Sz 900 m∧(∀ x∈fs,ox 240 x.2)∧Q (.fl ((eK t (fs.map (key t)) m).map aD.v)) J
theorem F2 {f:Addr} {fd:FuncData} (F:cm K "_law_due" "_law_due" Ax f fd) (Z:bV mg) (rp:bh P w K mg base 2 "_law_at" ["_law_leg","_law_moment"] mZ) (l8:bh P w K mg base 1 "_law_low" ["_law_top","_law_bottom"] jF) (jQ:bh P w K mg base 1 "_law_before" ["_law_one","_law_two"] mW):aO P w K mg base (c5 P w) 3 f fd ["_law_legs","_law_clock","_law_moment"] (dI K Ey):=by
 refine Hu F fi (fun xs J Q E h=>?_) (fun cdv A outer s H E G xs J Q E2 hr h B=>?_)
 ·obtain ⟨D,fs,ep,t,m,rfl,_⟩:=h;rfl
 obtain ⟨D,fs,ep,t,m,rfl,hD,hnd,hlen,st,sm,sl,q⟩:=h
 refine ⟨_,(ai (aE (i:=3) fi.nd rfl (Or.inl rfl) (ki ah))
   (ai (dO bR rfl (pd (rv 0)) (bF (i:=4) fi.nd rfl (Or.inl rfl)) (ai (aE (i:=5) fi.nd rfl (Or.inl rfl) (aM rp B hr (by decide) rfl (af (aq cQ (rv 0) (rv 4) (fun _ _=>rfl)) (af (rv 1) ah))))
   (ak (dO bR rfl (pd (rv 0)) (bF (i:=6) fi.nd rfl (Or.inl rfl)) (ai (aE (i:=7) fi.nd rfl (Or.inl rfl) (aL dM (aq ar (aq cQ (rv 0) (rv 4) (fun _ _=>rfl)) ag (fun _ _=>rfl)) (aq ar (aq cQ (rv 0) (rv 6) (fun _ _=>rfl)) ag (fun _ _=>rfl))))
   (ai (aE (i:=8) fi.nd rfl (Or.inl rfl) (aM rp B hr (by decide) rfl (af (aq cQ (rv 0) (rv 6) (fun _ _=>rfl)) (af (rv 1) ah))))
   (ai (aE (i:=9) fi.nd rfl (Or.inl rfl) (aL dM (aL bI (aq ar (rv 8) ag (fun _ _=>rfl)) (aq ar (rv 5) ag (fun _ _=>rfl))) (aL bI (aq ar (rv 5) ag (fun _ _=>rfl)) (aq ar (rv 8) ag (fun _ _=>rfl)))))
   (ak (aU (c4 (eQ (aI j8 (rv 7) ag (L2.ay _)) (dB (aI j8 (rv 9) ag (L2.ay _))))) (ai (aE (i:=10) fi.nd rfl (Or.inl rfl) (aL bI (aL bI (aq ar (rv 5) ag (fun _ _=>rfl)) (aq ar (rv 8) ag (fun _ _=>rfl))) (rv 7)))
   (ai (aE (i:=11) fi.nd rfl (Or.inl rfl) (aM l8 B hr (by decide) rfl (af (aL cU (aL bI (aq ar (rv 1) ag (fun _ _=>rfl)) (rv 10)) (aL bI (rv 9) (aq ar (rv 1) ag (fun _ _=>rfl)))) (af (aL bI (aq ar (rv 1) ag (fun _ _=>rfl)) (rv 10)) ah))))
   (ai (aE (i:=12) fi.nd rfl (Or.inl rfl) (cG (af (rv 11) (af (rv 4) (af (rv 6) ah)))))
   (ai (aE (i:=13) fi.nd rfl (Or.inl rfl) ag)
   (ai (iX bR (c4 (eQ (aI gC (rv 13) (aG bH rfl Z.len boot_len (af (rv 3) ah)) (L2.ay _)) (dB (bj (aM jQ B hr (by decide) rfl (af (aq ar (rv 3) (rv 13) (fun _ _=>rfl)) (af (rv 12) ah))))))) (ak (aE (i:=13) fi.nd rfl (Or.inl rfl) (aL cU (rv 13) ag))))
   (ak (aU (aI DT (aL bI (aq ar (rv 11) ag (fun _ _=>rfl)) (aq ar (rv 2) ag (fun _ _=>rfl))) (aL bI (aq ar (rv 2) ag (fun _ _=>rfl)) (aq ar (rv 11) ag (fun _ _=>rfl))) (L2.ay _)) (ak (bc (lz PySem.F.plainAttrs_list PySem.F.slot_list_insert PySem.F.type_list_insert iI (rv 3) (af (rv 13) (af (rv 12) ah))))) aH))))))) aH)))))))))
   (ak (az (rv 3))))),?_⟩
 simp_all! only []
 intro r hr'
 have nDr:D≠r:=by intro e;subst e;rw [hD] at hr';cases hr'
 simp_all! only [au nDr,hD]
 have hkv:(bS fs).map (fun kv=>PV.str kv.1)=fs.map fun x=>PV.str x.1:=by unfold bS;rw [List.map_map];rfl
 rw [hkv]
 obtain ⟨ks,hks⟩:∃ ks,fs.map (key t)=ks:=⟨_,rfl⟩
 have hkn:(ks.map Ky.n).Nodup:=by rw [← hks,cv];exact hnd
 have hkl:ks.length=fs.length:=by rw [← hks,List.length_map]
 have hkd:ks.Nodup:=List.Pairwise.of_map Ky.n (fun a b h e=>h (by rw [e])) hkn
 have hkm:∀ i (h:i < fs.length),ks[i]?=some (key t fs[i]):=fun i h=>by rw [← hks,List.getElem?_map,List.getElem?_eq_getElem h];rfl
 have hmz:∀ a∈ks,∀ b∈ks,b.v < a.v→Sz 9000 (cY t a b):=fun a ha b hb h=>by
  rw [← hks] at ha hb
  obtain ⟨x,hx,rfl⟩:=List.mem_map.mp ha
  obtain ⟨y,hy,rfl⟩:=List.mem_map.mp hb
  exact (pJ (v:=x.2.v - y.2.v) st ((sl x hx).oz st) ((sl y hy).oz st) (((sl x hx).v.sub (k:=66) (sl y hy).v).mono (by decide)) (by have:y.2.v < x.2.v:=h;omega)).2.2.2
 have hup:∀ {ps:List (Ky × Ky)},(∀ p∈ps,p.1∈ks∧p.2∈ks)→∀ x∈bq t (bU t m) ps,Sz 9000 x.m:=fun hp x hx=>by
  obtain ⟨p,hp',hc,rfl⟩:=f_ _ hx
  exact hmz _ (hp p hp').1 _ (hp p hp').2 (of_decide_eq_true hc).1
 have hnew:∀ {i:Nat} {l:List Ky} {y:Ky},l.Nodup→l[i]?=some y→y ∉ l.take i:=fun {i l y} hl hy hm=>by
  obtain ⟨j,hj⟩:=List.mem_iff_getElem?.mp hm
  rw [List.getElem?_take] at hj
  split at hj
  ·rename_i hji
   obtain ⟨h1,e1⟩:=List.getElem?_eq_some_iff.mp hj
   obtain ⟨h2,e2⟩:=List.getElem?_eq_some_iff.mp hy
   have:=(List.getElem_inj hl).mp (e1.trans e2.symm)
   omega
  ·cases hj
 have pin:∀ {i j:Nat} {a:Ky},a∈ks→∀ p∈((ks.take i).flatMap fun a=>ks.map fun b=>(a,b)) ++ (ks.take j).map (fun b=>(a,b)),p.1∈ks∧p.2∈ks:=fun {i j a} ha p hp=>by
  rcases List.mem_append.mp hp with hp | hp
  ·obtain ⟨x,hx,hp⟩:=List.mem_flatMap.mp hp
   obtain ⟨y,hy,rfl⟩:=List.mem_map.mp hp
   exact ⟨List.mem_of_mem_take hx,hy⟩
  ·obtain ⟨y,hy,rfl⟩:=List.mem_map.mp hp
   exact ⟨ha,List.mem_of_mem_take hy⟩
 obtain ⟨Inv,hInv⟩:∃ Inv:Nat→Sr→Hq→Prop,∀ i τ J',Inv i τ J'↔∃ (u4 u5 u6 u7 u8 u9 u10 u11 u12 u13:Option PV),τ=[some (.ref D),some (fr t),some (fr m),some (.ref r),u4,u5,u6,u7,u8,u9,u10,u11,u12,u13]∧J'=put J r (.lst ((bq t (bU t m) ((ks.take i).flatMap fun a=>ks.map fun b=>(a,b))).map aD.v))∧(bq t (bU t m) ((ks.take i).flatMap fun a=>ks.map fun b=>(a,b))).length≤20 * i:=⟨_,fun _ _ _=>Iff.rfl⟩
 refine fJ Inv ((hInv _ _ _).mpr ⟨_,_,_,_,_,_,_,_,_,_,rfl,rfl,Nat.le_refl _⟩) (fun i τ J' h=>?_) ?_ ?_
 ·obtain ⟨_,_,_,_,_,_,_,_,_,_,_,rfl,_⟩:=(hInv _ _ _).mp h
  rw [au nDr];exact hD
 ·intro i x τ J' hx hv
  obtain ⟨u4,u5,u6,u7,u8,u9,u10,u11,u12,u13,rfl,rfl,hle⟩:=(hInv _ _ _).mp hv
  clear hv
  have hi:i < fs.length:=by have:=(List.getElem?_eq_some_iff.mp hx).1;simpa using this
  rw [List.getElem?_map,List.getElem?_eq_getElem hi] at hx
  cases hx
  have ha:=hkm i hi
  rcases hfi:fs[i] with ⟨n,l⟩
  have hmem:(n,l)∈fs:=by rw [← hfi];exact List.getElem_mem hi
  rw [hfi] at ha
  have hvn:lp (bS fs) n=some l.V:=gJ (f:=aV.V) hnd hmem
  have sll:=sl _ hmem
  have sla:=sll.oz st
  simp_all! only [au nDr,hD,hvn]
  refine ⟨l,t,rfl,sll.m.mono (by decide),sll.p.mono (by decide),st.mono (by decide),sll.v,?_⟩
  simp_all! only [au nDr,hD,hkv]
  have hak:key t (n,l)∈ks:=List.mem_of_getElem? ha
  have eio:((ks.take (i + 1)).flatMap fun a=>ks.map fun b=>(a,b))=((ks.take i).flatMap fun a=>ks.map fun b=>(a,b)) ++ ks.map fun b=>(key t (n,l),b):=by
   rw [List.take_add_one,ha,List.flatMap_append];simp
  obtain ⟨In2,hIn2⟩:∃ In2:Nat→Sr→Hq→Prop,∀ j τ J',In2 j τ J'↔∃ (u6 u7 u8 u9 u10 u11 u12 u13:Option PV),τ=[some (.ref D),some (fr t),some (fr m),some (.ref r),some (.str n),some (fr (l.at t)),u6,u7,u8,u9,u10,u11,u12,u13]∧J'=put J r (.lst ((bq t (bU t m) (((ks.take i).flatMap fun a=>ks.map fun b=>(a,b)) ++ (ks.take j).map fun b=>(key t (n,l),b))).map aD.v))∧(bq t (bU t m) (((ks.take i).flatMap fun a=>ks.map fun b=>(a,b)) ++ (ks.take j).map fun b=>(key t (n,l),b))).length≤20 * i + j:=⟨_,fun _ _ _=>Iff.rfl⟩
  refine fJ In2 ((hIn2 _ _ _).mpr ⟨_,_,_,_,_,_,_,_,rfl,by simp,by simpa using hle⟩) (fun j τ J' h=>?_) ?_ ?_
  ·obtain ⟨_,_,_,_,_,_,_,_,_,rfl,_⟩:=(hIn2 _ _ _).mp h
   rw [au nDr];exact hD
  ·intro j x τ J2 hx hv
   obtain ⟨u6,u7,u8,u9,u10,u11,u12,u13,rfl,rfl,hle2⟩:=(hIn2 _ _ _).mp hv
   clear hv
   have hj:j < fs.length:=by have:=(List.getElem?_eq_some_iff.mp hx).1;simpa using this
   rw [List.getElem?_map,List.getElem?_eq_getElem hj] at hx
   cases hx
   have hb:=hkm j hj
   rcases hfj:fs[j] with ⟨n',l'⟩
   have hmem':(n',l')∈fs:=by rw [← hfj];exact List.getElem_mem hj
   rw [hfj] at hb
   have hvn':lp (bS fs) n'=some l'.V:=gJ (f:=aV.V) hnd hmem'
   have sll':=sl _ hmem'
   have sla':=sll'.oz st
   have hbk:key t (n',l')∈ks:=List.mem_of_getElem? hb
   have ejo:ks.take (j + 1)=ks.take j ++ [key t (n',l')]:=by rw [List.take_add_one,hb];rfl
   have ef2:bq t (bU t m) (((ks.take i).flatMap fun a=>ks.map fun b=>(a,b)) ++ (ks.take (j + 1)).map fun b=>(key t (n,l),b))=fA t (bU t m) (bq t (bU t m) (((ks.take i).flatMap fun a=>ks.map fun b=>(a,b)) ++ (ks.take j).map fun b=>(key t (n,l),b))) (key t (n,l),key t (n',l')):=by
    rw [ejo,List.map_append,← List.append_assoc];exact dm _ _ _ _
   have srt:=fc t (bU t m) (((ks.take i).flatMap fun a=>ks.map fun b=>(a,b)) ++ (ks.take j).map fun b=>(key t (n,l),b))
   have szs:=hup (pin (i:=i) (j:=j) hak)
   have hdr:cP n n' (bq t (bU t m) (((ks.take i).flatMap fun a=>ks.map fun b=>(a,b)) ++ (ks.take j).map fun b=>(key t (n,l),b)))=bq t (bU t m) (((ks.take i).flatMap fun a=>ks.map fun b=>(a,b)) ++ (ks.take j).map fun b=>(key t (n,l),b)):=by
    refine sV (p:=(key t (n,l),key t (n',l'))) (rH.of hkn fun p hp=>?_) fun hm=>?_
    ·rcases List.mem_append.mp hp with hp | hp
     ·exact pin hak p hp
     ·rw [List.mem_singleton] at hp;subst hp;exact ⟨hak,hbk⟩
    ·rcases List.mem_append.mp hm with hm | hm
     ·obtain ⟨x,hx,hp⟩:=List.mem_flatMap.mp hm
      obtain ⟨y,hy,e⟩:=List.mem_map.mp hp
      cases e
      exact hnew hkd ha hx
     ·obtain ⟨y,hy,e⟩:=List.mem_map.mp hm
      have:y=key t (n',l'):=(Prod.mk.inj e).2
      subst this
      exact hnew hkd hb hy
   generalize bq t (bU t m) (((ks.take i).flatMap fun a=>ks.map fun b=>(a,b)) ++ (ks.take j).map fun b=>(key t (n,l),b))=rows at hle2 ef2 srt szs hdr ⊢
   have lZ:bU t m (key t (n,l),key t (n',l'))=false→∀ {v6 v7 v8 v9 v10 v11 v12 v13},In2 (j + 1) [some (.ref D),some (fr t),some (fr m),some (.ref r),some (.str n),some (fr (l.at t)),v6,v7,v8,v9,v10,v11,v12,v13] (put J r (.lst (rows.map aD.v))):=fun hc _ _ _ _ _ _ _ _=>by
    have e:fA t (bU t m) rows (key t (n,l),key t (n',l'))=rows:=by unfold fA;rw [if_neg (by rw [hc];decide)]
    exact (hIn2 _ _ _).mpr ⟨_,_,_,_,_,_,_,_,rfl,by rw [ef2,e],by rw [ef2,e];omega⟩
   simp_all! only [au nDr,hD,hvn,hvn',j0]
   refine ⟨l',t,rfl,sll'.m.mono (by decide),sll'.p.mono (by decide),st.mono (by decide),sll'.v,?_⟩
   simp_all! only [G1]
   refine ⟨.of sla'.num sla.den,.of sla.num sla'.den,?_⟩
   by_cases c1n:¬ 0 < l.v - l'.v
   ·rw [if_neg c1n]
    exact lZ (decide_eq_false (fun z=>by have:l'.v < l.v:=z.1;omega))
   have c1:=Decidable.not_not.mp c1n
   rw [if_pos c1]
   by_cases c2n:¬ l.at t < l'.at t
   ·rw [if_neg c2n]
    exact lZ (decide_eq_false (fun z=>c2n z.2.1))
   have c2:=Decidable.not_not.mp c2n
   rw [if_pos c2]
   have bv:Bd 70 (l.v - l'.v):=(sll.v.sub (k:=66) sll'.v).mono (by decide)
   obtain ⟨z1,z2,z3,z4⟩:=pJ st sla sla' bv c1
   have ew:t + (l'.at t - l.at t) / ((l.v - l'.v:Int):Rat)=cY t (key t (n,l)) (key t (n',l')):=rfl
   have hd:0 < (t.den:Int) * (((l.at t).den:Int) * ((l'.at t).den:Int) * (l.v - l'.v)):=Int.mul_pos (dJ _) (Int.mul_pos (Int.mul_pos (dJ _) (dJ _)) c1)
   simp_all! only []
   refine ⟨.of sla.den sla'.den,.of (Bd.mul (k:=1580) sla.den sla'.den) bv,?_⟩
   simp_all! only [jF]
   refine ⟨.of st.num z1,.of z2 st.den,.of st.den z1,hd,z3.mono (by decide),?_⟩
   rw [vJ c1,ew]
   rw [ew] at z4
   have hcp:∀ b:Bool,bU t m (key t (n,l),key t (n',l'))=b↔decide (cY t (key t (n,l)) (key t (n',l'))≤m)=b:=fun b=>by
    have:bU t m (key t (n,l),key t (n',l'))=decide (cY t (key t (n,l)) (key t (n',l'))≤m):=decide_eq_decide.mpr ⟨fun z=>z.2.2,fun z=>⟨by show l'.v < l.v;omega,c2,z⟩⟩
    rw [this]
   have eput:fA t (bU t m) rows (key t (n,l),key t (n',l'))=if bU t m (key t (n,l),key t (n',l'))=true then iG ⟨cY t (key t (n,l)) (key t (n',l')),n,n'⟩ rows else rows:=by
    unfold fA
    split
    ·show iG _ (cP n n' rows)=_;rw [hdr];rfl
    ·rfl
   generalize cY t (key t (n,l)) (key t (n',l'))=wh at z4 hcp eput ⊢
   simp_all! only [EW]
   obtain ⟨row,hrow⟩:∃ row:aD,aD.mk wh n n'=row:=⟨_,rfl⟩
   have erm:row.m=wh:=by rw [← hrow]
   rw [hrow] at eput ⊢
   refine nH (V:=aD.v) (lt:=aD.lt) (ys:=rows) (b:=row) (iO:=3) (iA:=13) (iR:=12) rfl rfl rfl (by decide) (by decide) av (fun x hx R hR=>.inr ⟨x,row,rfl,szs x hx,by rw [erm];exact z4,hR⟩) (fun hx hy h k=>qZ srt hx hy h k) fun h hj hlow hhigh=>?_
   have cle:(wh.num * (m.den:Int)≤m.num * (wh.den:Int))=(wh≤m):=propext (Rat.le_iff wh m).symm
   have stop:¬ wh≤m→bU t m (key t (n,l),key t (n',l'))=false:=fun z=>(hcp false).mpr (decide_eq_false z)
   simp_all! only [av,cle]
   refine ⟨.of z4.num sm.den,.of sm.num z4.den,?_⟩
   by_cases c6:wh≤m
   ·rw [if_pos c6]
    rw [if_pos ((hcp true).mpr (decide_eq_true c6))] at eput
    simp_all! only [av]
    refine ⟨_,h,rfl,rfl,by rw [List.length_map];exact hj,a9 (by rw [List.length_map];omega),by omega,?_⟩
    rw [d4]
    refine (hIn2 _ _ _).mpr ⟨_,_,_,_,_,_,_,_,rfl,?_,by rw [ef2,eput,qi];omega⟩
    rw [ef2,eput,← ud hj hlow hhigh,List.map_append,List.map_cons,List.map_take,List.map_drop]
   ·rw [if_neg c6]
    exact lZ (stop c6)
  ·intro τ J2 hv
   obtain ⟨u6,u7,u8,u9,u10,u11,u12,u13,rfl,rfl,hle2⟩:=(hIn2 _ _ _).mp hv
   rw [List.length_map,← hkl,List.take_length,← eio] at hle2 ⊢
   exact (hInv _ _ _).mpr ⟨_,_,_,_,_,_,_,_,_,_,rfl,rfl,by omega⟩
 ·intro τ J' hv
  obtain ⟨u4,u5,u6,u7,u8,u9,u10,u11,u12,u13,rfl,rfl,hle⟩:=(hInv _ _ _).mp hv
  rw [List.length_map,← hkl,List.take_length,vV hkn,← hks]
  simp_all! only []
  exact Fg.oJ (gx hr') av hr' q
theorem cn.IJ {L:Ln} (ok:cn L):L.fs.length≤12:=by
 have:=ok.rl
 rw [ok.row,wY] at this;exact this
theorem yf (t:Rat) (ks:List Ky) (h:(ks.map Ky.n).Nodup):(fI t ks).length≤ks.length:=by
 rw [← rb h]
 have h1:=kI t cI ((cu ks).zip (cu ks).tail)
 rw [List.length_zip,iM] at h1
 omega
def Cz (t:Rat) (fs gs:List (Str × aV)):Prop:=∀ x,x∈fs.map (key t)↔x∈gs.map (key t)
abbrev kY:Stmt:=(top 65)
theorem bT:L2.aw ["_law_legs","_law_clock","_law_row","_law_out","_law_k","_law_here","_law_there","_law_pace","_law_top","_law_under","_law_when","_law_bell","_law_at_here"] ["_law_legs","_law_clock"] (L2.aj kY):=dT
def EE:cH:=fun xs J Q _=>∃ (D:Addr) (fs:List (Str × aV)) (ep:Nat) (t:Rat),xs=[.ref D,fr t]∧J D=some (.dct (bS fs) ep)∧(fs.map (·.1)).Nodup∧fs.length≤20∧Sz 240 t∧(∀ x∈fs,ox 240 x.2)∧Q (.fl ((fI t (fs.map (key t))).map aD.v)) J
theorem wO {f:Addr} {fd:FuncData} (F:cm K "_law_ringdue" "_law_ringdue" kY f fd) (Z:bV mg) (tP:bh P w K mg base 3 "_law_order" ["_law_legs","_law_moment"] qW) (rp:bh P w K mg base 2 "_law_at" ["_law_leg","_law_moment"] mZ) (l8:bh P w K mg base 1 "_law_low" ["_law_top","_law_bottom"] jF) (jQ:bh P w K mg base 1 "_law_before" ["_law_one","_law_two"] mW):aO P w K mg base (c5 P w) 4 f fd ["_law_legs","_law_clock"] (dI K EE):=by
 refine Hu F bT (fun xs J Q E h=>?_) (fun cdv A outer s H E G xs J Q E2 hr h B=>?_)
 ·obtain ⟨D,fs,ep,t,rfl,_⟩:=h;rfl
 obtain ⟨D,fs,ep,t,rfl,hD,hnd,hlen,st,sl,q⟩:=h
 refine ⟨_,(ai (aE (i:=2) bT.nd rfl (Or.inl rfl) (aM tP B hr (by decide) rfl (af (rv 0) (af (rv 1) ah))))
   (ai (aE (i:=3) bT.nd rfl (Or.inl rfl) (ki ah))
   (ai (dO bR rfl (iT rfl Z.range (af (aL dM (aG bH rfl Z.len boot_len (af (rv 2) ah)) ag) ah)) (bF (i:=4) bT.nd rfl (Or.inl rfl)) (ai (aE (i:=5) bT.nd rfl (Or.inl rfl) (aM rp B hr (by decide) rfl (af (aq cQ (rv 0) (aq ar (rv 2) (rv 4) (fun _ _=>rfl)) (fun _ _=>rfl)) (af (rv 1) ah))))
   (ai (aE (i:=6) bT.nd rfl (Or.inl rfl) (aM rp B hr (by decide) rfl (af (aq cQ (rv 0) (aq ar (rv 2) (aL cU (rv 4) ag) (fun _ _=>rfl)) (fun _ _=>rfl)) (af (rv 1) ah))))
   (ai (aE (i:=7) bT.nd rfl (Or.inl rfl) (aL dM (aq ar (aq cQ (rv 0) (aq ar (rv 2) (rv 4) (fun _ _=>rfl)) (fun _ _=>rfl)) ag (fun _ _=>rfl)) (aq ar (aq cQ (rv 0) (aq ar (rv 2) (aL cU (rv 4) ag) (fun _ _=>rfl)) (fun _ _=>rfl)) ag (fun _ _=>rfl))))
   (ak (aU (aI j8 (rv 7) ag (L2.ay _)) (ai (aE (i:=8) bT.nd rfl (Or.inl rfl) (aL dM (aL bI (aq ar (rv 6) ag (fun _ _=>rfl)) (aq ar (rv 5) ag (fun _ _=>rfl))) (aL bI (aq ar (rv 5) ag (fun _ _=>rfl)) (aq ar (rv 6) ag (fun _ _=>rfl)))))
   (ai (aE (i:=9) bT.nd rfl (Or.inl rfl) (aL bI (aL bI (aq ar (rv 5) ag (fun _ _=>rfl)) (aq ar (rv 6) ag (fun _ _=>rfl))) (rv 7)))
   (ai (aE (i:=10) bT.nd rfl (Or.inl rfl) (aM l8 B hr (by decide) rfl (af (aL cU (aL bI (aq ar (rv 1) ag (fun _ _=>rfl)) (rv 9)) (aL bI (rv 8) (aq ar (rv 1) ag (fun _ _=>rfl)))) (af (aL bI (aq ar (rv 1) ag (fun _ _=>rfl)) (rv 9)) ah))))
   (ai (aE (i:=11) bT.nd rfl (Or.inl rfl) (cG (af (rv 10) (af (aq ar (rv 2) (rv 4) (fun _ _=>rfl)) (af (aq ar (rv 2) (aL cU (rv 4) ag) (fun _ _=>rfl)) ah)))))
   (ai (aE (i:=12) bT.nd rfl (Or.inl rfl) ag)
   (ai (iX bR (c4 (eQ (aI gC (rv 12) (aG bH rfl Z.len boot_len (af (rv 3) ah)) (L2.ay _)) (dB (bj (aM jQ B hr (by decide) rfl (af (aq ar (rv 3) (rv 12) (fun _ _=>rfl)) (af (rv 11) ah))))))) (ak (aE (i:=12) bT.nd rfl (Or.inl rfl) (aL cU (rv 12) ag))))
   (ak (bc (lz PySem.F.plainAttrs_list PySem.F.slot_list_insert PySem.F.type_list_insert iI (rv 3) (af (rv 12) (af (rv 11) ah))))))))))) aH))))))
   (ak (az (rv 3)))))),?_⟩
 simp_all! only []
 refine ⟨D,fs,ep,t,rfl,hD,hnd,by omega,st.mono (by decide),fun x hx=>(sl x hx).mono (by decide),?_⟩
 simp_all! only []
 intro r hr'
 have nDr:D≠r:=by intro e;subst e;rw [hD] at hr';cases hr'
 obtain ⟨ks,hks⟩:∃ ks,cu (fs.map (key t))=ks:=⟨_,rfl⟩
 have hrow:(cS t fs).map PV.str=ks.map fun k=>PV.str k.n:=by unfold cS;rw [hks,List.map_map];rfl
 have hkn0:((fs.map (key t)).map Ky.n).Nodup:=by rw [cv];exact hnd
 have hks':nv Ky.lt ks:=by rw [← hks];exact cR hkn0
 have hkn:(ks.map Ky.n).Nodup:=by rw [← hks];exact k6 (cR hkn0) (fun x hx y hy e=>iJ hkn0 x ((bz _ _).mp hx) y ((bz _ _).mp hy) e)
 have hkd:ks.Nodup:=List.Pairwise.of_map Ky.n (fun a b h e=>h (by rw [e])) hkn
 have hkl:ks.length=fs.length:=by rw [← hks,iM,List.length_map]
 have hkf:∀ a∈ks,∃ l,(a.n,l)∈fs∧a=key t (a.n,l):=fun a ha=>by
  rw [← hks,bz] at ha
  obtain ⟨x,hx,rfl⟩:=List.mem_map.mp ha
  exact ⟨x.2,hx,rfl⟩
 have hmz:∀ a∈ks,∀ b∈ks,b.v < a.v→Sz 9000 (cY t a b):=fun a ha b hb h=>by
  obtain ⟨l,hl,ea⟩:=hkf a ha
  obtain ⟨l',hl',eb⟩:=hkf b hb
  have hv:l'.v < l.v:=by rw [ea,eb] at h;exact h
  rw [ea,eb]
  exact (pJ (v:=l.v - l'.v) st ((sl _ hl).oz st) ((sl _ hl').oz st) (((sl _ hl).v.sub (k:=66) (sl _ hl').v).mono (by decide)) (by omega)).2.2.2
 rw [hrow]
 simp_all! only [au nDr,hD,List.length_map]
 generalize hps:ks.zip ks.tail=ps
 have hpl:ps.length=ks.length - 1:=by rw [← hps,List.length_zip,List.length_tail];omega
 have hpm:∀ x∈ps,x.1∈ks∧x.2∈ks:=fun x hx=>by
  rw [← hps] at hx
  obtain ⟨i,h3,h4⟩:=cW.mp (show (x.1,x.2)∈_ from hx)
  exact ⟨List.mem_of_getElem? h3,List.mem_of_getElem? h4⟩
 have hup:∀ i,∀ x∈bq t cI (ps.take i),Sz 9000 x.m:=fun i x hx=>by
  obtain ⟨p,hp',hc,rfl⟩:=f_ _ hx
  have:=hpm p (List.mem_of_mem_take hp')
  exact hmz _ this.1 _ this.2 (of_decide_eq_true hc)
 refine ⟨by omega,by omega,?_⟩
 have hrn:((ks.length:Int) - 1).toNat=ps.length:=by omega
 rw [hrn]
 obtain ⟨Inv,hInv⟩:∃ Inv:Nat→Sr→Hq→Prop,∀ i τ J',Inv i τ J'↔∃ (u4 u5 u6 u7 u8 u9 u10 u11 u12:Option PV),τ=[some (.ref D),some (fr t),some (.fl (ks.map fun k=>PV.str k.n)),some (.ref r),u4,u5,u6,u7,u8,u9,u10,u11,u12]∧J'=put J r (.lst ((bq t cI (ps.take i)).map aD.v)):=⟨_,fun _ _ _=>Iff.rfl⟩
 refine oY Inv ((hInv _ _ _).mpr ⟨_,_,_,_,_,_,_,_,_,rfl,rfl⟩) ?_ ?_
 ·intro i τ J' hi hv
  obtain ⟨u4,u5,u6,u7,u8,u9,u10,u11,u12,rfl,rfl⟩:=(hInv _ _ _).mp hv
  clear hv
  have hpi:ps[i]?=some ps[i]:=List.getElem?_eq_getElem hi
  have et:ps.take (i + 1)=ps.take i ++ [ps[i]]:=by rw [List.take_add_one,hpi];rfl
  rcases hab:ps[i] with ⟨a,y⟩
  rw [hab] at hpi et
  have hpi0:=hpi
  rw [← hps] at hpi
  obtain ⟨ha,hb⟩:=List.getElem?_zip_eq_some.mp hpi
  rw [List.getElem?_tail] at hb
  simp only at ha hb
  have hak:=List.mem_of_getElem? ha
  have hbk:=List.mem_of_getElem? hb
  have srt:=fc t cI (ps.take i)
  have szs:=hup i
  have hle:=kI t cI (ps.take i)
  rw [List.length_take] at hle
  have ef2:bq t cI (ps.take (i + 1))=fA t cI (bq t cI (ps.take i)) (a,y):=by rw [et];exact dm _ _ _ _
  have hdr:cP a.n y.n (bq t cI (ps.take i))=bq t cI (ps.take i):=by
   refine sV (p:=(a,y)) (rH.of hkn fun p hp=>?_) fun hm=>?_
   ·rcases List.mem_append.mp hp with hp | hp
    ·exact hpm p (List.mem_of_mem_take hp)
    ·rw [List.mem_singleton] at hp;subst hp;exact ⟨hak,hbk⟩
   ·obtain ⟨j,hj⟩:=List.mem_iff_getElem?.mp hm
    rw [List.getElem?_take] at hj
    split at hj
    ·rename_i hji
     rw [← hps] at hj
     obtain ⟨h1,_⟩:=List.getElem?_zip_eq_some.mp hj
     simp only at h1
     obtain ⟨k1,e1⟩:=List.getElem?_eq_some_iff.mp h1
     obtain ⟨k2,e2⟩:=List.getElem?_eq_some_iff.mp ha
     have:=(List.getElem_inj hkd).mp (e1.trans e2.symm)
     omega
    ·cases hj
  generalize bq t cI (ps.take i)=rows at hle ef2 srt szs hdr ⊢
  obtain ⟨l,hmem,ea⟩:=hkf a hak
  obtain ⟨l',hmem',eb⟩:=hkf y hbk
  have hvn:lp (bS fs) a.n=some l.V:=gJ (f:=aV.V) hnd hmem
  have hvn':lp (bS fs) y.n=some l'.V:=gJ (f:=aV.V) hnd hmem'
  have sll:=sl _ hmem
  have sla:=sll.oz st
  have sll':=sl _ hmem'
  have sla':=sll'.oz st
  have h1:c_ (ks.map fun k=>PV.str k.n) (0 + (i:Int))=some (.str a.n):=by rw [Int.zero_add];exact ba (by rw [List.getElem?_map,ha];rfl)
  have h2:c_ (ks.map fun k=>PV.str k.n) (0 + (i:Int) + 1)=some (.str y.n):=by rw [Int.zero_add,show (i:Int) + 1=((i + 1:Nat):Int) by omega];exact ba (by rw [List.getElem?_map,hb];rfl)
  have eav:a.v=l.v:=by rw [ea];rfl
  have ebv:y.v=l'.v:=by rw [eb];rfl
  simp_all! only [h1,au nDr,hD,hvn]
  refine ⟨l,t,rfl,sll.m.mono (by decide),sll.p.mono (by decide),st.mono (by decide),sll.v,?_⟩
  simp_all! only [h2,au nDr,hD,hvn']
  refine ⟨l',t,rfl,sll'.m.mono (by decide),sll'.p.mono (by decide),st.mono (by decide),sll'.v,?_⟩
  simp_all! only [h1,h2,au nDr,hD,hvn,hvn',j0]
  by_cases c1n:¬ 0 < l.v - l'.v
  ·rw [if_neg c1n]
   have hc:cI (a,y)=false:=decide_eq_false (fun z=>by have:y.v < a.v:=z;omega)
   have e:fA t cI rows (a,y)=rows:=by unfold fA;rw [if_neg (by rw [hc];decide)]
   exact (hInv _ _ _).mpr ⟨_,_,_,_,_,_,_,_,_,rfl,by rw [ef2,e]⟩
  have c1:=Decidable.not_not.mp c1n
  rw [if_pos c1]
  have bv:Bd 70 (l.v - l'.v):=(sll.v.sub (k:=66) sll'.v).mono (by decide)
  obtain ⟨z1,z2,z3,z4⟩:=pJ st sla sla' bv c1
  have ew:t + (l'.at t - l.at t) / ((l.v - l'.v:Int):Rat)=cY t a y:=by rw [ea,eb];rfl
  have hd:0 < (t.den:Int) * (((l.at t).den:Int) * ((l'.at t).den:Int) * (l.v - l'.v)):=Int.mul_pos (dJ _) (Int.mul_pos (Int.mul_pos (dJ _) (dJ _)) c1)
  simp_all! only []
  refine ⟨.of sla'.num sla.den,.of sla.num sla'.den,?_⟩
  simp_all! only []
  refine ⟨.of sla.den sla'.den,.of (Bd.mul (k:=1580) sla.den sla'.den) bv,?_⟩
  simp_all! only [jF]
  refine ⟨.of st.num z1,.of z2 st.den,.of st.den z1,hd,z3.mono (by decide),?_⟩
  rw [vJ c1,ew]
  rw [ew] at z4
  have hcp:cI (a,y)=true:=decide_eq_true (by show y.v < a.v;omega)
  have eput:fA t cI rows (a,y)=iG ⟨cY t a y,a.n,y.n⟩ rows:=by
   unfold fA
   rw [if_pos hcp]
   show iG _ (cP a.n y.n rows)=_;rw [hdr];rfl
  generalize cY t a y=wh at z4 eput ⊢
  simp_all! only [h1,h2,EW]
  obtain ⟨row,hrow'⟩:∃ row:aD,aD.mk wh a.n y.n=row:=⟨_,rfl⟩
  have erm:row.m=wh:=by rw [← hrow']
  rw [hrow'] at eput ⊢
  refine nH (V:=aD.v) (lt:=aD.lt) (ys:=rows) (b:=row) (iO:=3) (iA:=12) (iR:=11) rfl rfl rfl (by decide) (by decide) av (fun x hx R hR=>.inr ⟨x,row,rfl,szs x hx,by rw [erm];exact z4,hR⟩) (fun hx hy h k=>qZ srt hx hy h k) fun j hj hlow hhigh=>?_
  simp_all! only [av]
  refine ⟨_,j,rfl,rfl,by rw [List.length_map];exact hj,a9 (by rw [List.length_map];omega),by omega,?_⟩
  rw [d4]
  refine (hInv _ _ _).mpr ⟨_,_,_,_,_,_,_,_,_,rfl,?_⟩
  rw [ef2,eput,← ud hj hlow hhigh,List.map_append,List.map_cons,List.map_take,List.map_drop]
 ·intro τ J' hv
  obtain ⟨u4,u5,u6,u7,u8,u9,u10,u11,u12,rfl,rfl⟩:=(hInv _ _ _).mp hv
  rw [List.take_length,← hps,← hks,rb hkn0]
  simp_all! only []
  exact Fg.oJ (gx hr') av hr' q
abbrev mQ:Stmt:=(top 66)
theorem B3:L2.aw ["_law_lane","_law_legs","_law_clock"] ["_law_lane","_law_legs","_law_clock"] (L2.aj mQ):=dT
def xI (cN cL:Addr):cH:=fun xs J Q _=>∃ p L D ep gs,xs=[.ref p,.ref D,fr L.t]∧a_ cN cL J p L∧cn L∧J D=some (.dct (bS gs) ep)∧(gs.map (·.1)).Nodup∧gs.length≤20∧(∀ x∈gs,ox 240 x.2)∧Cz L.t L.fs gs∧Q (.bl true) J
theorem yK {cN cL f:Addr} {fd:FuncData} (F:cm K "_law_stands" "_law_stands" mQ f fd) (Z:bV mg) (m_:bh P w K mg base 2 "_law_part" ["_law_found","_law_due_here"] k4) (Fb:bh P w K mg base 1 "_law_words" ["_law_found","_law_due_here"] AQ) (tP:bh P w K mg base 3 "_law_order" ["_law_legs","_law_moment"] qW) (eY:bh P w K mg base 4 "_law_passrows" ["_law_found","_law_due_here"] lY) (A9:bh P w K mg base 4 "_law_ringdue" ["_law_legs","_law_clock"] EE)
  (jl:cJ P w K mg base cN 1 "clock" ["self"] (xC cN cL)) (jq:cJ P w K mg base cN 1 "order" ["self"] (xF cN cL)) (jk:cJ P w K mg base cN 7 "bells" ["self"] (xB cN cL)):aO P w K mg base (c5 P w) 8 f fd ["_law_lane","_law_legs","_law_clock"] (dI K (xI cN cL)):=by
 simp_arith [B3]
 ·obtain ⟨p,L,D,ep,gs,rfl,_⟩:=h;rfl
 obtain ⟨p,L,D,ep,gs,rfl,b,ok,hD,hnd,hgl,sg,same,q⟩:=h
 have bo:=b.ob
 have st:Sz 240 L.t:=(qw ok.ts).mono (by decide)
 have e1:cS L.t gs=L.row:=by rw [ok.row];exact wW hnd ok.Ha fun x=>(same x).symm
 have e2:fI L.t (gs.map (key L.t))=fI L.t (L.fs.map (key L.t)):=ye (by rw [cv];exact hnd) ok.knd fun x=>(same x).symm
 have hrl:=ok.rl
 have hbl:=yf L.t (L.fs.map (key L.t)) ok.knd
 rw [List.length_map] at hbl
 have hfl:=ok.IJ
 refine ⟨_,(ai (aU (bQ (bj (aM m_ B hr (by decide) rfl (af (dq (pl:=_) jl B hr (by decide) (rv 0)) (af (rv 2) ah))))) (ak (az dn)) aH)
   (ai (aU (bQ (bj (aM Fb B hr (by decide) rfl (af (dq (pl:=_) jq B hr (by decide) (rv 0)) (af (aM tP B hr (by decide) rfl (af (rv 1) (af (rv 2) ah))) ah))))) (ak (az dn)) aH)
   (ak (az (aM eY B hr (by decide) rfl (af (dq (pl:=_) jk B hr (by decide) (rv 0)) (af (aM A9 B hr (by decide) rfl (af (rv 1) (af (rv 2) ah))) ah))))))),?_⟩
 simp_all! only [bo]
 refine ⟨eG _ _ _ _,p,L,rfl,b,L.t,rfl,?_⟩
 simp_all! only [bo]
 refine ⟨eG _ _ _ _,p,L,rfl,b,.inl ?_⟩
 refine ⟨D,gs,ep,L.t,rfl,hD,hnd,by omega,st.mono (by decide),fun x hx=>(sg x hx).mono (by decide),?_⟩
 rw [e1]
 refine ⟨L.row,rfl,by omega,?_⟩
 simp_all! only [bo]
 refine ⟨eG _ _ _ _,p,L,rfl,b,ok,?_⟩
 refine ⟨D,gs,ep,L.t,rfl,hD,hnd,hgl,st,sg,?_⟩
 rw [e2]
 exact ⟨_,_,rfl,rfl,by omega,q⟩
def vN:List aV→Prop
 | a :: b :: r=>b.p=a.at b.m∧vN (b :: r)
 | _=>True
theorem kE:∀ (ls:List aV) (l:aV),vN (ls ++ [l])↔vN ls∧∀ k,ls.getLast?=some k→l.p=k.at l.m
 | [],l=>⟨fun _=>⟨trivial,fun k h=>nomatch h⟩,fun _=>trivial⟩
 | [a],l=>⟨fun h=>⟨trivial,fun k e=>by cases e;exact h.1⟩,fun h=>⟨h.2 a rfl,trivial⟩⟩
 | a :: b :: r,l=>by
  have ih:=kE (b :: r) l
  show (b.p=a.at b.m∧vN ((b :: r) ++ [l]))↔_
  rw [ih,List.getLast?_cons_cons]
  constructor
  ·rintro ⟨h1,h2,h3⟩;exact ⟨⟨h1,h2⟩,h3⟩
  ·rintro ⟨⟨h1,h2⟩,h3⟩;exact ⟨h1,h2,h3⟩
def iE (l l':aV):Prop:=l.v=l'.v∧∀ t,l.at t=l'.at t
theorem iE.key {l l':aV} (h:iE l l') (n:Str) (t:Rat):key t (n,l)=key t (n,l'):=by unfold Ov.key;simp only;rw [h.1,h.2 t]
theorem Fn (l:aV):l.at l.m=l.p:=by unfold aV.at;grind
theorem Az {l l':aV} {t:Rat} (hv:l.v=l'.v) (h:l.at t=l'.at t):iE l l':=⟨hv,fun s=>by
 unfold aV.at at h ⊢
 rw [hv] at h ⊢
 generalize (l'.v:Rat)=x at h ⊢
 grind⟩
theorem kr {rows:List aV} {t:Rat} {v:Int} (h:vN rows) (ne:rows≠[]):vN (turned rows t v)∧∀ l,rows.getLast?=some l→∀ l',(turned rows t v).getLast?=some l'→iE ⟨t,l.at t,v⟩ l':=by
 obtain ⟨ls,l,rfl⟩:∃ ls l,rows=ls ++ [l]:=⟨rows.dropLast,rows.getLast ne,(List.dropLast_concat_getLast ne).symm⟩
 obtain ⟨h1,h2⟩:=(kE ls l).mp h
 have new:∀ {q:List aV},(q ++ [aV.mk t (l.at t) v]).getLast?=some (aV.mk t (l.at t) v):=fun {q}=>List.getLast?_concat ..
 rw [g8]
 simp only [List.getLast?_concat,Option.some.injEq]
 split
 ·rename_i e
  have el:l.at t=l.p:=by rw [← e];exact Fn l
  split
  ·rename_i ev
   refine ⟨h1,fun l0 h0 l' h'=>?_⟩
   subst h0
   rw [h'] at ev
   have hv:l'.v=v:=Option.some.inj ev
   have hp:=h2 l' h'
   rw [e] at hp
   refine Az (t:=t) hv.symm ?_
   show l.at t + (t - t) * (v:Rat)=_
   rw [← hp,el];grind
  ·refine ⟨(kE _ _).mpr ⟨h1,fun k hk=>?_⟩,fun l0 h0 l' h'=>?_⟩
   ·show l.at t=k.at t
    rw [el,h2 k hk,e]
   ·subst h0
    rw [new] at h';cases h';exact ⟨rfl,fun _=>rfl⟩
 ·split
  ·rename_i ev
   refine ⟨h,fun l0 h0 l' h'=>?_⟩
   subst h0
   rw [List.getLast?_concat] at h';cases h'
   refine Az (t:=t) ev.symm ?_
   show l.at t + (t - t) * (v:Rat)=_
   grind
  ·refine ⟨(kE _ _).mpr ⟨h,fun k hk=>?_⟩,fun l0 h0 l' h'=>?_⟩
   ·rw [List.getLast?_concat] at hk;cases hk;rfl
   ·subst h0
    rw [new] at h';cases h';exact ⟨rfl,fun _=>rfl⟩
structure Rl (L:Ln) (gs:List (Str × aV)):Prop where
 nm:gs.map (·.1)=L.fs.map (·.1)
 ln:∀ n l l',(n,l)∈gs→(n,l')∈L.fs→iE l l'
 ck:∀ x∈gs,rh x.2
 le:∀ x∈gs,x.2.m≤L.t
 ct:∀ c∈L.cs,vN c.w
theorem Rl.same {L:Ln} {gs:List (Str × aV)} (h:Rl L gs) (t:Rat):Cz t L.fs gs:=fun x=>by
 have other:∀ {as bs:List (Str × aV)},as.map (·.1)=bs.map (·.1)→∀ {n l},(n,l)∈as→∃ l',(n,l')∈bs:=fun {as bs} e {n l} hm=>by
  have:n∈bs.map (·.1):=by rw [← e];exact List.mem_map.mpr ⟨_,hm,rfl⟩
  obtain ⟨y,hy,e'⟩:=List.mem_map.mp this
  exact ⟨y.2,by rw [← e'];exact hy⟩
 rw [List.mem_map,List.mem_map]
 constructor
 ·rintro ⟨⟨n,l⟩,hm,rfl⟩
  obtain ⟨l',hl'⟩:=other h.nm.symm hm
  exact ⟨(n,l'),hl',(h.ln n l' l hl' hm).key n t⟩
 ·rintro ⟨⟨n,l⟩,hm,rfl⟩
  obtain ⟨l',hl'⟩:=other h.nm hm
  exact ⟨(n,l'),hl',((h.ln n l l' hm hl').key n t).symm⟩
theorem Rl.sz {L:Ln} {gs:List (Str × aV)} (h:Rl L gs):∀ x∈gs,ox 240 x.2:=fun x hx=>by
 have hk:=h.ck x hx
 exact ⟨hk.OK.mono (by decide),hk.OP.mono (by decide),.small (by have:=hk.v;omega) (by have:=hk.v;omega)⟩
theorem Rl.nd {L:Ln} {gs:List (Str × aV)} (h:Rl L gs) (ok:a8 L):(gs.map (·.1)).Nodup:=by rw [h.nm];exact ok.Ha
theorem Rl.len {L:Ln} {gs:List (Str × aV)} (h:Rl L gs):gs.length=L.fs.length:=by have:=congrArg List.length h.nm;rw [List.length_map,List.length_map] at this;exact this
theorem D7 {fs:List (Str × aV)} {n:Str} {l:aV} (hm:n∈fs.map (·.1)):uN (bS fs) n l.V=bS (fs.map fun x=>if x.1=n then (x.1,l) else x):=by
 unfold uN bS
 rw [if_pos,List.map_map,List.map_map]
 ·refine List.map_congr_left fun x _=>?_
  show (if x.1=n then (x.1,l.V) else (x.1,x.2.V))=_
  show _=((if x.1=n then (x.1,l) else x).1,(if x.1=n then (x.1,l) else x).2.V)
  split <;> rfl
 ·obtain ⟨x,hx,e⟩:=List.mem_map.mp hm
  rw [List.any_eq_true]
  exact ⟨(x.1,x.2.V),List.mem_map.mpr ⟨x,hx,rfl⟩,decide_eq_true e⟩
def tJ (n:Str) (t:Rat) (v:Int) (gs:List (Str × aV)):List (Str × aV):=gs.map fun x=>if x.1=n then (x.1,⟨t,x.2.at t,v⟩) else x
def jU (t:Rat) (gs:List (Str × aV)):List (Str × aV):=gs.map fun x=>(x.1,⟨t,x.2.at t,-x.2.v⟩)
theorem C1 {L:Ln} {f:Cf→Cf} (hn:∀ c,(f c).n=c.n∧(f c).a=c.a∧(f c).r=c.r∧(f c).g=c.g) {L':Ln} (e:L'.cs=L.cs.map f):L'.fs=L.Cj.map fun c=>(c.n,(f c).cur):=by
 unfold Ln.fs Ln.Cj
 rw [e,List.filter_map,List.map_map]
 have e1:(fun c:Cf=>c.g.isNone) ∘ f=fun c=>c.g.isNone:=by funext c;show (f c).g.isNone=_;rw [(hn c).2.2.2]
 rw [e1]
 exact List.map_congr_left fun c _=>by show ((f c).n,(f c).cur)=_;rw [(hn c).1]
theorem v_ {c:Cf} {t:Rat} {v:Int} (h:vN c.w) (ne:c.w≠[]):iE ⟨t,c.cur.at t,v⟩ (c.turn t v).cur:=by
 have h1:=(Cf.jh ne).1
 have h2:=(Cf.jh (c:=c.turn t v) (tK ne)).1
 exact (kr h ne).2 _ h1 _ h2
theorem iE.turn {l l':aV} (h:iE l l') (t:Rat) (v:Int):iE ⟨t,l.at t,v⟩ ⟨t,l'.at t,v⟩:=by rw [h.2 t];exact ⟨rfl,fun _=>rfl⟩
theorem iE.trans {l l' l'':aV} (h:iE l l') (k:iE l' l''):iE l l'':=⟨h.1.trans k.1,fun t=>(h.2 t).trans (k.2 t)⟩
theorem Rl.turn {L L':Ln} {gs:List (Str × aV)} (h:Rl L gs) (ok:a8 L) {n:Str} {v:Int} (hv:v.natAbs≤1000) (e:L'.cs=L.cs.map (dh n L.t v)) (et:L'.t=L.t):Rl L' (tJ n L.t v gs):=by
 have hn:=m7 n L.t v
 have hfs:=C1 hn e
 have nm:(tJ n L.t v gs).map (·.1)=gs.map (·.1):=by
  unfold tJ;rw [List.map_map];exact List.map_congr_left fun x _=>by show (if x.1=n then (x.1,_) else x).1=x.1;split <;> rfl
 refine ⟨?_,?_,?_,?_,?_⟩
 ·rw [nm,h.nm,hfs];unfold Ln.fs;rw [List.map_map,List.map_map];rfl
 ·intro m l l' hl hl'
  obtain ⟨x,hx,ex⟩:=List.mem_map.mp hl
  rw [hfs] at hl'
  obtain ⟨c,hc,ec⟩:=List.mem_map.mp hl'
  have hcs:=(Ln.d3.mp hc).1
  have hold:(c.n,c.cur)∈L.fs:=List.mem_map.mpr ⟨c,hc,rfl⟩
  cases ec
  by_cases z:x.1=n
  ·rw [if_pos z] at ex
   have ex1:x.1=c.n:=(Prod.mk.inj ex).1
   have ex2:aV.mk L.t (x.2.at L.t) v=l:=(Prod.mk.inj ex).2
   subst ex2
   have hs:=h.ln x.1 x.2 c.cur hx (by rw [ex1];exact hold)
   have zc:c.n=n:=by rw [← z];exact ex1.symm
   unfold dh
   rw [if_pos zc]
   exact (hs.turn L.t v).trans (v_ (h.ct c hcs) (ok.ne c hcs))
  ·rw [if_neg z] at ex
   subst ex
   have zc:¬ c.n=n:=z
   unfold dh
   rw [if_neg zc]
   exact h.ln c.n l c.cur hx hold
 ·intro x hx
  obtain ⟨y,hy,rfl⟩:=List.mem_map.mp hx
  split
  ·exact (h.ck y hy).at (h.le y hy) ok.ts hv
  ·exact h.ck y hy
 ·intro x hx
  rw [et]
  obtain ⟨y,hy,rfl⟩:=List.mem_map.mp hx
  split
  ·exact Rat.le_refl
  ·exact h.le y hy
 ·intro c hc
  rw [e] at hc
  obtain ⟨c0,h0,rfl⟩:=List.mem_map.mp hc
  unfold dh
  split
  ·exact (kr (h.ct c0 h0) (ok.ne c0 h0)).1
  ·exact h.ct c0 h0
theorem vT (t:Rat) (c:Cf):(d9 t c).n=c.n∧(d9 t c).a=c.a∧(d9 t c).r=c.r∧(d9 t c).g=c.g:=by unfold d9;split <;> exact ⟨rfl,rfl,rfl,rfl⟩
theorem Rl.about {L L':Ln} {gs:List (Str × aV)} (h:Rl L gs) (ok:a8 L) (e:L'.cs=L.cs.map (d9 L.t)) (et:L'.t=L.t):Rl L' (jU L.t gs):=by
 have hn:=vT L.t
 have hfs:=C1 hn e
 have nm:(jU L.t gs).map (·.1)=gs.map (·.1):=by
  unfold jU;rw [List.map_map];rfl
 refine ⟨?_,?_,?_,?_,?_⟩
 ·rw [nm,h.nm,hfs];unfold Ln.fs;rw [List.map_map,List.map_map];rfl
 ·intro m l l' hl hl'
  obtain ⟨x,hx,ex⟩:=List.mem_map.mp hl
  rw [hfs] at hl'
  obtain ⟨c,hc,ec⟩:=List.mem_map.mp hl'
  have hcs:=Ln.d3.mp hc
  have hold:(c.n,c.cur)∈L.fs:=List.mem_map.mpr ⟨c,hc,rfl⟩
  cases ec
  obtain ⟨xn,xl⟩:=x
  cases ex
  have hs:=h.ln c.n xl c.cur hx hold
  have ea:d9 L.t c=c.turn L.t (-c.cur.v):=by unfold d9;rw [if_pos (by rw [hcs.2];rfl)]
  rw [ea,hs.1]
  exact (hs.turn L.t _).trans (v_ (h.ct c hcs.1) (ok.ne c hcs.1))
 ·intro x hx
  obtain ⟨y,hy,rfl⟩:=List.mem_map.mp hx
  exact (h.ck y hy).at (h.le y hy) ok.ts (by have:=(h.ck y hy).v;omega)
 ·intro x hx
  rw [et]
  obtain ⟨y,hy,rfl⟩:=List.mem_map.mp hx
  exact Rat.le_refl
 ·intro c hc
  rw [e] at hc
  obtain ⟨c0,h0,rfl⟩:=List.mem_map.mp hc
  unfold d9
  split
  ·exact (kr (h.ct c0 h0) (ok.ne c0 h0)).1
  ·exact h.ct c0 h0
theorem Rl.join {L L':Ln} {gs:List (Str × aV)} (h:Rl L gs) (ok':a8 L') {n:Str} {x v:Int} (hv:v.natAbs≤1000) (hx:x.natAbs≤1000000) (j:L.joined n x v L') (t0:0≤L.t) (ts:Sc hW MM L.t) (hnew:n ∉ L.fs.map (·.1)):Rl L' (gs ++ [(n,⟨L.t,(x:Rat),v⟩)]):=by
 obtain ⟨a,r,ecs,et⟩:=j
 have efs:L'.fs=L.fs ++ [(n,⟨L.t,(x:Rat),v⟩)]:=zR L ecs rfl
 refine ⟨?_,?_,?_,?_,?_⟩
 ·rw [efs,List.map_append,List.map_append,h.nm]
 ·intro m l l' hl hl'
  rw [efs] at hl'
  have h1:∀ {k},(n,k)∈gs→False:=fun hk=>hnew (by rw [← h.nm];exact List.mem_map.mpr ⟨_,hk,rfl⟩)
  have h2:∀ {k},(n,k)∈L.fs→False:=fun hk=>hnew (List.mem_map.mpr ⟨_,hk,rfl⟩)
  rcases List.mem_append.mp hl with hl | hl <;> rcases List.mem_append.mp hl' with hl' | hl'
  ·exact h.ln m l l' hl hl'
  ·rw [List.mem_singleton] at hl';cases hl';exact (h1 hl).elim
  ·rw [List.mem_singleton] at hl;cases hl;exact (h2 hl').elim
  ·rw [List.mem_singleton] at hl hl';cases hl;cases hl';exact ⟨rfl,fun _=>rfl⟩
 ·intro y hy
  rcases List.mem_append.mp hy with hy | hy
  ·exact h.ck y hy
  ·rw [List.mem_singleton] at hy;subst hy;exact rh.new t0 ts hx hv
 ·intro y hy
  rw [et]
  rcases List.mem_append.mp hy with hy | hy
  ·exact h.le y hy
  ·rw [List.mem_singleton] at hy;subst hy;exact Rat.le_refl
 ·intro c hc
  rw [ecs] at hc
  rcases List.mem_append.mp hc with hc | hc
  ·exact h.ct c hc
  ·rw [List.mem_singleton] at hc;subst hc;exact trivial
def nK (n:Str) (gs:List (Str × aV)):List (Str × aV):=gs.filter fun x=>decide (x.1≠n)
theorem Rl.leave {L L':Ln} {gs:List (Str × aV)} (h:Rl L gs) {n:Str} (e:L'.cs=L.cs.map (bP n L.t)) (et:L'.t=L.t):Rl L' (nK n gs):=by
 have hfs:L'.fs=L.fs.filter fun x=>decide (x.1≠n):=wq e
 have hf:∀ l:List (Str × aV),(l.filter fun x=>decide (x.1≠n)).map (·.1)=(l.map (·.1)).filter fun y=>decide (y≠n):=fun l=>by rw [List.filter_map];rfl
 refine ⟨?_,?_,?_,?_,?_⟩
 ·unfold nK;rw [hf,hfs,hf,h.nm]
 ·intro m l l' hl hl'
  rw [hfs] at hl'
  exact h.ln m l l' (List.mem_filter.mp hl).1 (List.mem_filter.mp hl').1
 ·intro x hx;exact h.ck x (List.mem_filter.mp hx).1
 ·intro x hx;rw [et];exact h.le x (List.mem_filter.mp hx).1
 ·intro c hc
  rw [e] at hc
  obtain ⟨c0,h0,rfl⟩:=List.mem_map.mp hc
  rw [(fz n L.t c0).2.2.2];exact h.ct c0 h0
abbrev pe:Stmt:=(top 59)
theorem xp:L2.aw ["_law_legs","_law_clock","_law_deed_here","_law_name"] ["_law_legs","_law_clock","_law_deed_here"] (L2.aj pe):=dT
def gw (n:Str) (x v:Int):PV:=.tup [.str "join",.str n,.int x,.int v]
def jM (n:Str) (v:Int):PV:=.tup [.str "turn",.str n,.int v]
def jb:PV:=.tup [.str "about"]
def ip (n:Str):PV:=.tup [.str "leave",.str n]
def Hc (m:Rat):PV:=.tup [.str "go",fr m]
def vq:cH:=fun xs J Q _=>∃ (D:Addr) (gs:List (Str × aV)) (ep:Nat) (t:Rat) (dv:PV),xs=[.ref D,fr t,dv]∧J D=some (.dct (bS gs) ep)∧(gs.map (·.1)).Nodup∧gs.length≤100∧Sz 900 t∧(∀ x∈gs,ox 900 x.2) ∧
 ((∃ n x v,dv=gw n x v∧n ∉ gs.map (·.1)∧∀ ep',Q (fr t) (put J D (.dct (bS (gs ++ [(n,⟨t,(x:Rat),v⟩)])) ep'))) ∨
  (∃ n v,dv=jM n v∧n∈gs.map (·.1)∧∀ ep',Q (fr t) (put J D (.dct (bS (tJ n t v gs)) ep'))) ∨
  (dv=jb∧∀ ep',Q (fr t) (put J D (.dct (bS (jU t gs)) ep'))) ∨
  (∃ n,dv=ip n∧n∈gs.map (·.1)∧∀ ep',Q (fr t) (put J D (.dct (bS (nK n gs)) ep'))) ∨
  (∃ m,dv=Hc m∧Q (fr m) J))
theorem HX:(("join":Str)="go")=False:=eq_false (by decide +kernel)
theorem HZ:(("turn":Str)="go")=False:=eq_false (by decide +kernel)
theorem HW:(("about":Str)="go")=False:=eq_false (by decide +kernel)
theorem IC {c:lK} {a u:jJ} {D:En} {τ:Sr} {J:Hq} (hc:∀ R:Bool→Hq→Prop,R false J→c τ J R) (hu:u D τ J):Ee (y0 c a qJ) u D τ J :=
 ⟨fun τ' J'=>τ'=τ∧J'=J,hc _ (by rw [if_neg (by decide)];exact ⟨rfl,rfl⟩),fun τ' J' h=>by obtain ⟨rfl,rfl⟩:=h;exact hu⟩
theorem fQ {c:lK} {a u:jJ} {D:En} {τ:Sr} {J:Hq} (M:Sr→Hq→Prop) (hc:∀ R:Bool→Hq→Prop,R true J→c τ J R) (ha:a { D with nx:=M } τ J) (hu:∀ τ' J',M τ' J'→u D τ' J'):Ee (y0 c a qJ) u D τ J :=
 ⟨M,hc _ (by rw [if_pos rfl];exact ha),hu⟩
theorem A4 {x y:Str} {i:Nat} {dv:PV} {τ:Sr} {J:Hq} (h:τ[i]?=some (some dv)) (h0:fK J dv (.int 0)=some (.str x)) (R:Bool→Hq→Prop) (hr:R (decide (x=y)) J):rB (vL (HE id) (vL HF (jw i) (rC (.int 0))) (rC (.str y))) τ J R :=
 ⟨dv,h,.str x,h0,⟨rfl,by simp [gE,dep]⟩,rfl,_,rfl,by rw [eq_str];exact hr⟩
theorem dj {x y:Str} {i:Nat} {dv:PV} {τ:Sr} {J:Hq} {a u:jJ} {D:En} (h:τ[i]?=some (some dv)) (h0:fK J dv (.int 0)=some (.str x)) (n:decide (x=y)=false) (hu:u D τ J):Ee (y0 (rB (vL (HE id) (vL HF (jw i) (rC (.int 0))) (rC (.str y)))) a qJ) u D τ J:=IC (fun R hr'=>A4 h h0 R (by rw [n];exact hr')) hu
theorem ue {x:Str} {i:Nat} {dv:PV} {τ:Sr} {J:Hq} (h:τ[i]?=some (some dv)) (h0:fK J dv (.int 0)=some (.str x)) (R:Bool→Hq→Prop) (hr:R true J):rB (vL (HE id) (vL HF (jw i) (rC (.int 0))) (rC (.str x))) τ J R:=A4 h h0 R (by rw [decide_eq_true rfl];exact hr)
def e9 (t:Rat) (gs:List (Str × aV)) (i:Nat):List (Str × aV):=jU t (gs.take i) ++ gs.drop i
theorem sH (t:Rat) (gs:List (Str × aV)) (i:Nat):(e9 t gs i).map (·.1)=gs.map (·.1):=by
 unfold e9 jU
 rw [List.map_append,List.map_map]
 have:((gs.take i).map ((fun x:Str × aV=>x.1) ∘ fun x=>(x.1,(⟨t,x.2.at t,-x.2.v⟩:aV))))=(gs.take i).map (·.1):=List.map_congr_left fun _ _=>rfl
 rw [this,← List.map_append,List.take_append_drop]
theorem vU (t:Rat) (gs:List (Str × aV)) (hnd:(gs.map (·.1)).Nodup) (i:Nat) (h:i < gs.length):(e9 t gs i).map (fun x=>if x.1=gs[i].1 then (x.1,(⟨t,gs[i].2.at t,-gs[i].2.v⟩:aV)) else x)=e9 t gs (i + 1):=by
 have hd:gs.drop i=gs[i] :: gs.drop (i + 1):=List.drop_eq_getElem_cons h
 have ht:gs.take (i + 1)=gs.take i ++ [gs[i]]:=by rw [List.take_add_one,List.getElem?_eq_getElem h];rfl
 have hn2:(gs.map (·.1))=(gs.take i).map (·.1) ++ (gs[i].1 :: (gs.drop (i + 1)).map (·.1)):=by
  rw [← List.map_cons (f:=fun x:Str × aV=>x.1),← hd,← List.map_append,List.take_append_drop]
 rw [hn2,List.nodup_append] at hnd
 unfold e9 jU
 rw [hd,ht,List.map_append,List.map_append,List.map_cons,if_pos rfl,List.append_assoc]
 congr 1
 ·rw [List.map_map]
  refine List.map_congr_left fun x hx=>?_
  show (if x.1=gs[i].1 then _ else _)=_
  rw [if_neg (hnd.2.2 x.1 (List.mem_map.mpr ⟨x,hx,rfl⟩) gs[i].1 (by simp))]
 ·show _ :: _=_ :: _
  congr 1
  have hno:=(List.nodup_cons.mp hnd.2.1).1
  have:∀ x∈gs.drop (i + 1),(if x.1=gs[i].1 then (x.1,(⟨t,gs[i].2.at t,-gs[i].2.v⟩:aV)) else x)=x:=fun x hx=>if_neg fun z=>hno (by rw [← z];exact List.mem_map.mpr ⟨x,hx,rfl⟩)
  rw [List.map_congr_left this,List.map_id']
  rfl
theorem HY:(("leave":Str)="go")=False:=eq_false (by decide +kernel)
theorem BK {f:Addr} {fd:FuncData} (F:cm K "_law_acted" "_law_acted" pe f fd) (Z:bV mg) (rp:bh P w K mg base 2 "_law_at" ["_law_leg","_law_moment"] mZ):aO P w K mg base (c5 P w) 3 f fd ["_law_legs","_law_clock","_law_deed_here"] (dI K vq):=by
 simp_arith [xp]
 ·obtain ⟨D,gs,ep,t,dv,rfl,_⟩:=h;rfl
 obtain ⟨D,gs,ep,t,dv,rfl,hD,hnd,hlen,st,sl,h⟩:=h
 refine ⟨_,(eL (aU (aI (df hr.aX) (aq ar (rv 2) ag (fun _ _=>rfl)) bW (L2.ay _)) (ak (uY pE (rv 0) (aq ar (rv 2) ag (fun _ _=>rfl)) (cG (af (rv 1) (af (cG (af (aq ar (rv 2) ag (fun _ _=>rfl)) (af ag ah))) (af (aq ar (rv 2) ag (fun _ _=>rfl)) ah)))))) aH)
   (eL (aU (aI (df hr.aX) (aq ar (rv 2) ag (fun _ _=>rfl)) bW (L2.ay _)) (ak (bc (lz PySem.F.plainAttrs_dict PySem.F.slot_dict_pop PySem.F.type_dict_pop FR (rv 0) (af (aq ar (rv 2) ag (fun _ _=>rfl)) ah)))) aH)
   (eL (aU (aI (df hr.aX) (aq ar (rv 2) ag (fun _ _=>rfl)) bW (L2.ay _)) (ak (uY pE (rv 0) (aq ar (rv 2) ag (fun _ _=>rfl)) (cG (af (rv 1) (af (aM rp B hr (by decide) rfl (af (aq cQ (rv 0) (aq ar (rv 2) ag (fun _ _=>rfl)) (fun _ _=>rfl)) (af (rv 1) ah))) (af (aq ar (rv 2) ag (fun _ _=>rfl)) ah)))))) aH)
   (eL (aU (aI (df hr.aX) (aq ar (rv 2) ag (fun _ _=>rfl)) bW (L2.ay _)) (ak (dO bR rfl (fj (iP (v3 rfl) rfl Z.list boot_list (af (rv 0) ah))) (bF (i:=3) xp.nd rfl (Or.inl rfl)) (ak (uY pE (rv 0) (rv 3) (cG (af (rv 1) (af (aM rp B hr (by decide) rfl (af (aq cQ (rv 0) (rv 3) (fun _ _=>rfl)) (af (rv 1) ah))) (af (tq ou (aq ar (aq cQ (rv 0) (rv 3) (fun _ _=>rfl)) ag (fun _ _=>rfl))) ah)))))))) aH)
   (ai (aU (aI (df hr.aX) (aq ar (rv 2) ag (fun _ _=>rfl)) bW (L2.ay _)) (ak (az (aq ar (rv 2) ag (fun _ _=>rfl)))) aH)
   (ak (az (rv 1)))))))),?_⟩
 rcases h with ⟨n,x,v,rfl,hn,q⟩ | ⟨n,v,rfl,hn,q⟩ | ⟨rfl,q⟩ | ⟨n,rfl,hn,q⟩ | ⟨m,rfl,q⟩
 ·have i0:∀ J,fK J (gw n x v) (.int 0)=some (.str "join"):=fun J=>dH _ _
  have i1:∀ J,fK J (gw n x v) (.int 1)=some (.str n):=fun J=>fN _ _ _
  have i2:∀ J,fK J (gw n x v) (.int 2)=some (.int x):=fun J=>lq _ _ _ _
  have i3:∀ J,fK J (gw n x v) (.int 3)=some (.int v):=fun J=>rfl
  refine fQ (fun τ' J'=>∃ ep',τ'=[some (.ref D),some (fr t),some (gw n x v),none]∧J'=put J D (.dct (bS (gs ++ [(n,⟨t,(x:Rat),v⟩)])) ep')) (ue rfl (i0 _)) ?_ ?_
  ·simp_all! only [i1,i2,i3,hD,IL,xM]
   refine ⟨a9 (by unfold bS;rw [List.length_map];omega),fun ep'=>⟨ep',?_⟩⟩
   have epu:uN (bS gs) n (aV.mk t (x:Rat) v).V=bS (gs ++ [(n,⟨t,(x:Rat),v⟩)]):=yY (f:=aV.V) (l:=⟨t,(x:Rat),v⟩) hn
   rw [epu]
  rintro τ' J' ⟨ep',rfl,rfl⟩
  refine dj rfl (i0 _) (by decide +kernel) ?_
  refine dj rfl (i0 _) (by decide +kernel) ?_
  refine dj rfl (i0 _) (by decide +kernel) ?_
  simp_all! only [i0,HX,if_false]
  exact q ep'
 ·have i0:∀ J,fK J (jM n v) (.int 0)=some (.str "turn"):=fun J=>dH _ _
  have i1:∀ J,fK J (jM n v) (.int 1)=some (.str n):=fun J=>fN _ _ _
  have i2:∀ J,fK J (jM n v) (.int 2)=some (.int v):=fun J=>lq _ _ _ _
  refine dj rfl (i0 _) (by decide +kernel) ?_
  refine dj rfl (i0 _) (by decide +kernel) ?_
  refine fQ (fun τ' J'=>∃ ep',τ'=[some (.ref D),some (fr t),some (jM n v),none]∧J'=put J D (.dct (bS (tJ n t v gs)) ep')) (ue rfl (i0 _)) ?_ ?_
  ·obtain ⟨l,hl,hvl⟩:=vI (f:=aV.V) hnd hn
   have hvl:lp (bS gs) n=some l.V:=hvl
   have sll:=sl _ hl
   simp_all! only [i1,i2,hD,hvl]
   refine ⟨l,t,rfl,sll.m,sll.p,st,sll.v,?_⟩
   simp_all! only [i1,i2,hD,xM]
   refine ⟨a9 (by unfold bS;rw [List.length_map];omega),fun ep'=>⟨ep',?_⟩⟩
   rw [D7 hn]
   have:(gs.map fun x=>if x.1=n then (x.1,(⟨t,l.at t,v⟩:aV)) else x)=tJ n t v gs:=List.map_congr_left fun x hx=>by
    by_cases z:x.1=n
    ·have hx':lp (bS gs) n=some x.2.V:=gJ (f:=aV.V) hnd (by rw [← z];exact hx)
     rw [hvl] at hx'
     have ex:l=x.2:=by have:=Option.some.inj hx';rw [KG] at this;exact this
     rw [if_pos z,if_pos z,ex]
    ·rw [if_neg z,if_neg z]
   rw [this]
  rintro τ' J' ⟨ep',rfl,rfl⟩
  refine dj rfl (i0 _) (by decide +kernel) ?_
  simp_all! only [i0,HZ,if_false]
  exact q ep'
 ·have i0:∀ J,fK J jb (.int 0)=some (.str "about"):=fun J=>dH _ _
  refine dj rfl (i0 _) (by decide +kernel) ?_
  refine dj rfl (i0 _) (by decide +kernel) ?_
  refine dj rfl (i0 _) (by decide +kernel) ?_
  refine fQ (fun τ' J'=>∃ u ep',τ'=[some (.ref D),some (fr t),some jb,u]∧J'=put J D (.dct (bS (jU t gs)) ep')) (ue rfl (i0 _)) ?_ ?_
  ·simp_all! only [hD]
   have hkv:(bS gs).map (fun kv=>PV.str kv.1)=gs.map fun x=>PV.str x.1:=by unfold bS;rw [List.map_map];rfl
   rw [hkv]
   obtain ⟨Inv,hInv⟩:∃ Inv:Nat→Sr→Hq→Prop,∀ i τ J',Inv i τ J'↔∃ (u:Option PV) (ep':Nat),τ=[some (.ref D),some (fr t),some jb,u]∧J'=put J D (.dct (bS (e9 t gs i)) ep'):=⟨_,fun _ _ _=>Iff.rfl⟩
   refine fJ Inv ((hInv _ _ _).mpr ⟨_,ep,rfl,by show J=put J D (.dct (bS gs) ep);rw [yZ hD]⟩) (fun _ _ _ _=>trivial) ?_ ?_
   ·intro i x τ J' hx hv
    obtain ⟨u,ep',rfl,rfl⟩:=(hInv _ _ _).mp hv
    clear hv
    have hi:i < gs.length:=by have:=(List.getElem?_eq_some_iff.mp hx).1;simpa using this
    rw [List.getElem?_map,List.getElem?_eq_getElem hi] at hx
    cases hx
    have hnd':((e9 t gs i).map (·.1)).Nodup:=by rw [sH];exact hnd
    have hmem:gs[i]∈e9 t gs i:=by unfold e9;rw [List.drop_eq_getElem_cons hi];exact List.mem_append.mpr (.inr List.mem_cons_self)
    have hva:lp (bS (e9 t gs i)) gs[i].1=some gs[i].2.V:=gJ (f:=aV.V) hnd' hmem
    have hstep:=vU t gs hnd i hi
    have hin:gs[i].1∈(e9 t gs i).map (·.1):=List.mem_map.mpr ⟨_,hmem,rfl⟩
    have hlen':(e9 t gs i).length=gs.length:=by have:=congrArg List.length (sH t gs i);rw [List.length_map,List.length_map] at this;exact this
    have sll:=sl _ (List.getElem_mem hi)
    generalize gs[i]=y at hva hstep hin sll ⊢
    simp_all! only [av,hva]
    refine ⟨y.2,t,rfl,sll.m,sll.p,st,sll.v,?_⟩
    simp_all! only [av,hva,j0,xM]
    refine ⟨a9 (by unfold bS;rw [List.length_map];omega),fun ep2=>(hInv _ _ _).mpr ⟨_,ep2,rfl,?_⟩⟩
    rw [d4,D7 hin,hstep]
   ·intro τ J' hv
    obtain ⟨u,ep',rfl,rfl⟩:=(hInv _ _ _).mp hv
    refine ⟨u,rfl,ep',?_⟩
    rw [List.length_map]
    unfold e9
    rw [List.take_length,List.drop_length,List.append_nil]
  rintro τ' J' ⟨u,ep',rfl,rfl⟩
  simp_all! only [i0,HW,if_false]
  exact q ep'
 ·have i0:∀ J,fK J (ip n) (.int 0)=some (.str "leave"):=fun J=>dH _ _
  have i1:∀ J,fK J (ip n) (.int 1)=some (.str n):=fun J=>fN _ _ _
  refine dj rfl (i0 _) (by decide +kernel) ?_
  refine fQ (fun τ' J'=>∃ ep',τ'=[some (.ref D),some (fr t),some (ip n),none]∧J'=put J D (.dct (bS (nK n gs)) ep')) (ue rfl (i0 _)) ?_ ?_
  ·obtain ⟨l,hl,hvl⟩:=vI (f:=aV.V) hnd hn
   have hvl:lp (bS gs) n=some l.V:=hvl
   simp_all! only [i1,hD,hvl]
   have edr:CS (bS gs) n=bS (nK n gs):=by unfold CS bS nK;rw [List.filter_map];rfl
   intro ep'
   exact ⟨ep',by rw [edr]⟩
  rintro τ' J' ⟨ep',rfl,rfl⟩
  refine dj rfl (i0 _) (by decide +kernel) ?_
  refine dj rfl (i0 _) (by decide +kernel) ?_
  simp_all! only [i0,HY,if_false]
  exact q ep'
 ·have i0:∀ J,fK J (Hc m) (.int 0)=some (.str "go"):=fun J=>dH _ _
  have i1:∀ J,fK J (Hc m) (.int 1)=some (fr m):=fun J=>fN _ _ _
  refine dj rfl (i0 _) (by decide +kernel) ?_
  refine dj rfl (i0 _) (by decide +kernel) ?_
  refine dj rfl (i0 _) (by decide +kernel) ?_
  refine dj rfl (i0 _) (by decide +kernel) ?_
  simp_all! only [i0,i1,if_true]
  exact q
abbrev vb:Stmt:=(top 60)
theorem GJ:L2.aw ["_law_lane","_law_deed_here"] ["_law_lane","_law_deed_here"] (L2.aj vb):=dT
def ze (cN cL T:Addr):cH:=fun xs J Q _=>∃ p L dv,xs=[.ref p,dv]∧a_ cN cL J p L∧cn L ∧
 ((∃ n x v,dv=gw n x v∧J T=some .tab∧good n=true∧Ko x v∧n ∉ L.cs.map Cf.n∧L.row.length < 12∧L.cs.length < 100∧n.length≤sizeLine∧∀ J' L',a_ cN cL J' p L'→cn L'→L.joined n x v L'→Mv J J' (L.own p) (L'.own p)→Q (.fl []) J') ∨
  (∃ n v,dv=jM n v∧n∈L.row∧v.natAbs≤1000∧(∀ c∈L.cs,c.w.length < 200)∧∀ J' L',a_ cN cL J' p L'→cn L'→L'.cs=L.cs.map (dh n L.t v)→L'.t=L.t→Mv J J' (L.own p) (L'.own p)→Q (.fl []) J') ∨
  (dv=jb∧(∀ c∈L.cs,c.w.length < 200)∧∀ J' L',a_ cN cL J' p L'→cn L'→L'.cs=L.cs.map (d9 L.t)→L'.t=L.t→Mv J J' (L.own p) (L'.own p)→Q (.fl []) J') ∨
  (∃ n,dv=ip n∧n∈L.row∧∀ J' L',a_ cN cL J' p L'→cn L'→L'.cs=L.cs.map (bP n L.t)→L'.t=L.t→Mv J J' (L.own p) (L'.own p)→Q (.fl []) J') ∨
  (∃ m:Rat,dv=Hc m∧fP m.num m.den=true∧L.t≤m∧∀ J' o',a_ cN cL J' p { L with t:=m,o:=o',row:=cS m L.fs }→cn { L with t:=m,o:=o',row:=cS m L.fs }→Mv J J' (L.own p) (Ln.own { L with t:=m,o:=o',row:=cS m L.fs } p)→Q (.fl ((eK L.t (L.fs.map (key L.t)) m).map aD.v)) J'))
theorem DM {cN cL T eB eF eT eU eC eM eP f:Addr} {fd:FuncData} (F:cm K "_law_done" "_law_done" vb f fd) (Z:bV mg) (j3:cJ P w K mg base cN 8 "join" ["self","name","place","pace"] (AL cN cL T eB eF eT eU)) (jm:cJ P w K mg base cN 2 "leave" ["self","name"] (xD cN cL eC)) (j4:cJ P w K mg base cN 8 "turn" ["self","name","pace"] (AM cN cL eC eF)) (jj:cJ P w K mg base cN 8 "about" ["self"] (xA cN cL)) (dy:cJ P w K mg base cN 8 "go_to" ["self","moment"] (ED cN cL eM eP)):aO P w K mg base (c5 P w) 9 f fd ["_law_lane","_law_deed_here"] (dI K (ze cN cL T)):=by
 simp_arith [GJ]
 ·obtain ⟨p,L,dv,rfl,_⟩:=h;rfl
 obtain ⟨p,L,dv,rfl,b,ok,h⟩:=h
 have bo:=b.ob
 refine ⟨_,(eL (aU (aI (df hr.aX) (aq ar (rv 1) ag (fun _ _=>rfl)) bW (L2.ay _)) (ak (bc (bp (pl:=_) j3 B hr (by decide) (rv 0) (af (aq ar (rv 1) ag (fun _ _=>rfl)) (af (aq ar (rv 1) ag (fun _ _=>rfl)) (af (aq ar (rv 1) ag (fun _ _=>rfl)) ah)))))) aH)
   (eL (aU (aI (df hr.aX) (aq ar (rv 1) ag (fun _ _=>rfl)) bW (L2.ay _)) (ak (bc (bp (pl:=_) jm B hr (by decide) (rv 0) (af (aq ar (rv 1) ag (fun _ _=>rfl)) ah)))) aH)
   (eL (aU (aI (df hr.aX) (aq ar (rv 1) ag (fun _ _=>rfl)) bW (L2.ay _)) (ak (bc (bp (pl:=_) j4 B hr (by decide) (rv 0) (af (aq ar (rv 1) ag (fun _ _=>rfl)) (af (aq ar (rv 1) ag (fun _ _=>rfl)) ah))))) aH)
   (eL (aU (aI (df hr.aX) (aq ar (rv 1) ag (fun _ _=>rfl)) bW (L2.ay _)) (ak (bc (dq (pl:=_) jj B hr (by decide) (rv 0)))) aH)
   (ai (aU (aI (df hr.aX) (aq ar (rv 1) ag (fun _ _=>rfl)) bW (L2.ay _)) (ak (az (bp (pl:=_) dy B hr (by decide) (rv 0) (af (aq ar (rv 1) ag (fun _ _=>rfl)) ah)))) aH)
   (ak (az (xh ah)))))))),?_⟩
 rcases h with ⟨n,x,v,rfl,hT,hg,hb,hn,hr12,hc,hl,q⟩ | ⟨n,v,rfl,hn,hv,hw,q⟩ | ⟨rfl,hw,q⟩ | ⟨n,rfl,hn,q⟩ | ⟨m,rfl,hg,hm,q⟩
 ·have i0:∀ J,fK J (gw n x v) (.int 0)=some (.str "join"):=fun J=>dH _ _
  have i1:∀ J,fK J (gw n x v) (.int 1)=some (.str n):=fun J=>fN _ _ _
  have i2:∀ J,fK J (gw n x v) (.int 2)=some (.int x):=fun J=>lq _ _ _ _
  have i3:∀ J,fK J (gw n x v) (.int 3)=some (.int v):=fun J=>rfl
  refine fQ (fun τ' J'=>τ'=[some (.ref p),some (gw n x v)]∧Q (.fl []) J') (ue rfl (i0 _)) ?_ ?_
  ·simp_all! only [bo,i1,i2,i3]
   exact ⟨eG _ _ _ _,p,L,n,x,v,rfl,b,ok,hT,hl,hc,(fun z=>by rw [hg] at z;cases z),(fun _ z=>absurd hb z),(fun _ _ z=>absurd z hn),(fun _ _ _ z=>by omega),fun _ _ _ _ J1 L1 b1 ok1 jn mv=>q J1 L1 b1 ok1 jn mv⟩
  rintro τ' J' ⟨rfl,hq⟩
  refine dj rfl (i0 _) (by decide +kernel) ?_
  refine dj rfl (i0 _) (by decide +kernel) ?_
  refine dj rfl (i0 _) (by decide +kernel) ?_
  simp_all! only [i0,HX,if_false]
  exact hq
 ·have i0:∀ J,fK J (jM n v) (.int 0)=some (.str "turn"):=fun J=>dH _ _
  have i1:∀ J,fK J (jM n v) (.int 1)=some (.str n):=fun J=>fN _ _ _
  have i2:∀ J,fK J (jM n v) (.int 2)=some (.int v):=fun J=>lq _ _ _ _
  refine dj rfl (i0 _) (by decide +kernel) ?_
  refine dj rfl (i0 _) (by decide +kernel) ?_
  refine fQ (fun τ' J'=>τ'=[some (.ref p),some (jM n v)]∧Q (.fl []) J') (ue rfl (i0 _)) ?_ ?_
  ·simp_all! only [bo,i1,i2]
   exact ⟨eG _ _ _ _,p,L,n,v,rfl,b,ok,hw,fun z=>absurd hn z,fun _ z=>absurd hv z,fun _ _ J1 L1 b1 ok1 e t1 mv=>q J1 L1 b1 ok1 e t1 mv⟩
  rintro τ' J' ⟨rfl,hq⟩
  refine dj rfl (i0 _) (by decide +kernel) ?_
  simp_all! only [i0,HZ,if_false]
  exact hq
 ·have i0:∀ J,fK J jb (.int 0)=some (.str "about"):=fun J=>dH _ _
  refine dj rfl (i0 _) (by decide +kernel) ?_
  refine dj rfl (i0 _) (by decide +kernel) ?_
  refine dj rfl (i0 _) (by decide +kernel) ?_
  refine fQ (fun τ' J'=>τ'=[some (.ref p),some (jb)]∧Q (.fl []) J') (ue rfl (i0 _)) ?_ ?_
  ·simp_all! only [bo]
   exact ⟨eG _ _ _ _,p,L,rfl,b,ok,hw,fun J1 L1 b1 ok1 e t1 mv=>q J1 L1 b1 ok1 e t1 mv⟩
  rintro τ' J' ⟨rfl,hq⟩
  simp_all! only [i0,HW,if_false]
  exact hq
 ·have i0:∀ J,fK J (ip n) (.int 0)=some (.str "leave"):=fun J=>dH _ _
  have i1:∀ J,fK J (ip n) (.int 1)=some (.str n):=fun J=>fN _ _ _
  refine dj rfl (i0 _) (by decide +kernel) ?_
  refine fQ (fun τ' J'=>τ'=[some (.ref p),some (ip n)]∧Q (.fl []) J') (ue rfl (i0 _)) ?_ ?_
  ·simp_all! only [bo,i1]
   exact ⟨eG _ _ _ _,p,L,n,rfl,b,ok,fun z=>absurd hn z,fun _ J1 L1 b1 ok1 e t1 mv=>q J1 L1 b1 ok1 e t1 mv⟩
  rintro τ' J' ⟨rfl,hq⟩
  refine dj rfl (i0 _) (by decide +kernel) ?_
  refine dj rfl (i0 _) (by decide +kernel) ?_
  simp_all! only [i0,HY,if_false]
  exact hq
 ·have i0:∀ J,fK J (Hc m) (.int 0)=some (.str "go"):=fun J=>dH _ _
  have i1:∀ J,fK J (Hc m) (.int 1)=some (fr m):=fun J=>fN _ _ _
  refine dj rfl (i0 _) (by decide +kernel) ?_
  refine dj rfl (i0 _) (by decide +kernel) ?_
  refine dj rfl (i0 _) (by decide +kernel) ?_
  refine dj rfl (i0 _) (by decide +kernel) ?_
  simp_all! only [i0,i1,if_true,bo]
  refine ⟨eG _ _ _ _,p,L,m.num,m.den,rfl,b,ok,(fun z=>by rw [hg] at z;cases z),fun m' e1 e2 _=>?_⟩
  obtain rfl:m'=m:=Rat.ext e1 (by omega)
  exact ⟨fun z=>absurd z (Rat.not_lt.mpr hm),fun _ J1 o1 b1 ok1 mv1=>q J1 o1 b1 ok1 mv1⟩
abbrev qN:Stmt:=(top 57)
theorem pA:L2.aw ["_law_row","_law_mode","_law_names_here","_law_used","_law_legs","_law_clock","_law_there","_law_fresh","_law_name"] ["_law_row","_law_mode","_law_names_here","_law_used","_law_legs","_law_clock"] (L2.aj qN):=dT
def Cq (names used:List Str) (gs:List (Str × aV)) (t:Rat) (dv:PV):Prop :=
 (∃ n x v,dv=gw n x v∧n∈names∧n ∉ used∧gs.length < 12∧x.natAbs≤1000000∧v.natAbs≤1000) ∨
 (∃ n v,dv=jM n v∧n∈gs.map (·.1)∧v.natAbs≤1000)∨dv=jb∨(∃ n,dv=ip n∧n∈gs.map (·.1))∨∃ m,dv=Hc m∧Later t m
def Ew:cH:=fun xs J Q _=>∃ (r0 r1 r2 r3 r4 r5 m:Int) (names used:List Str) (U D:Addr) (gs:List (Str × aV)) (ep:Nat) (t:Rat),xs=[.fl [.int r0,.int r1,.int r2,.int r3,.int r4,.int r5],.int m,.fl (names.map .str),.ref U,.ref D,fr t]∧J U=some (.lst (used.map .str))∧J D=some (.dct (bS gs) ep)∧names.length≤40∧gs.length≤100 ∧
 0≤r1∧0≤r2∧0≤r3∧r3 < 2001∧0≤r4∧r4 < 2 ^ 60∧0≤r5∧0≤m∧m < 4∧Sz 900 t∧∀ dv,Cq names used gs t dv→Q dv J
theorem uc {c:lK} {a u:jJ} {D:En} {τ:Sr} {J:Hq} (b:Prop) [Decidable b] (hc:∀ R:Bool→Hq→Prop,R (decide b) J→c τ J R) (h1:b→∀ N,a { D with nx:=N } τ J) (h2:¬ b→u D τ J):cK (y0 c a qJ) u D τ J:=by
 refine hc _ ?_
 by_cases h:b
 ·rw [decide_eq_true h,if_pos rfl];exact h1 h _
 ·rw [decide_eq_false h,if_neg (by decide)];exact h2 h
theorem Gz {R:Bool→Hq→Prop} {b c:Bool} {J:Hq} (h:R b J) (e:b=true↔c=true):R c J:=by rw [← Bool.eq_iff_iff.mpr e];exact h
theorem uJ {xs:List Str} {r:Int} (h0:0≤r) (hl:0 < xs.length):∃ n∈xs,c_ (xs.map PV.str) (r % (xs.length:Int))=some (.str n):=by
 obtain ⟨j,hj⟩:∃ j:Nat,r % (xs.length:Int)=j:=⟨(r % (xs.length:Int)).toNat,by have:=Int.emod_nonneg r (b:=(xs.length:Int)) (by omega);omega⟩
 have hjl:j < xs.length:=by have:=Int.emod_lt_of_pos r (b:=(xs.length:Int)) (by omega);omega
 exact ⟨xs[j],List.getElem_mem hjl,by rw [hj];exact ba (by rw [List.getElem?_map,List.getElem?_eq_getElem hjl];rfl)⟩
theorem DL {f:Addr} {fd:FuncData} (F:cm K "_law_deed" "_law_deed" qN f fd) (Z:bV mg) (Cm:bh P w K mg base 1 "_law_placed" ["_law_number","_law_mode"] tH) (zq:bh P w K mg base 1 "_law_paced" ["_law_number","_law_mode"] xH) (oT:bh P w K mg base 2 "_law_later" ["_law_clock","_law_number","_law_bottom","_law_mode"] vC):aO P w K mg base (c5 P w) 3 f fd ["_law_row","_law_mode","_law_names_here","_law_used","_law_legs","_law_clock"] (dI K Ew):=by
 simp_arith [pA]
 ·obtain ⟨r0,r1,r2,r3,r4,r5,m,names,used,U,D,gs,ep,t,rfl,_⟩:=h;rfl
 obtain ⟨r0,r1,r2,r3,r4,r5,m,names,used,U,D,gs,ep,t,rfl,hU,hD,hnl,hgl,r10,r20,r30,r31,r40,r41,r50,m0,m1,st,q⟩:=h
 have hkv:(bS gs).map (fun kv=>PV.str kv.1)=(gs.map (·.1)).map PV.str:=by unfold bS;rw [List.map_map,List.map_map];rfl
 refine ⟨_,(ai (aE (i:=6) pA.nd rfl (Or.inl rfl) (iP (v3 rfl) rfl Z.list boot_list (af (rv 4) ah)))
   (ai (JP (i:=7) (L2.aj qN) ["_law_row","_law_mode","_law_names_here","_law_used","_law_legs","_law_clock","_law_there","_law_fresh","_law_name"] [("_law_used",3)] rfl rfl rfl pA.nd rfl (Or.inl rfl) (fj (rv 2)) (fun _ _ _ _ _ _=>(rv 0)) (fun _ _ _ _ _ _=>(aI Ai (rv 0) (rv 1) (by with_unfolding_all rfl))))
   (ai (aU (c4 (eQ (aI j8 (aG bH rfl Z.len boot_len (af (rv 7) ah)) ag (L2.ay _)) (eQ (aI gC (aG bH rfl Z.len boot_len (af (rv 6) ah)) ag (L2.ay _)) (dB (c4 (gS (aI gC (aq ar (rv 0) ag (fun _ _=>rfl)) ag (L2.ay _)) (fM (c4 (eQ (aI gC (aG bH rfl Z.len boot_len (af (rv 6) ah)) ag (L2.ay _)) (dB (aI gC (aq ar (rv 0) ag (fun _ _=>rfl)) ag (L2.ay _)))))))))))) (ai (aE (i:=8) pA.nd rfl (Or.inl rfl) (aq ar (rv 7) (aL ff (aq ar (rv 0) ag (fun _ _=>rfl)) (aG bH rfl Z.len boot_len (af (rv 7) ah))) (fun _ _=>rfl)))
   (ak (az (cG (af bW (af (rv 8) (af (aM Cm B hr (by decide) rfl (af (aq ar (rv 0) ag (fun _ _=>rfl)) (af (rv 1) ah))) (af (aM zq B hr (by decide) rfl (af (aq ar (rv 0) ag (fun _ _=>rfl)) (af (rv 1) ah))) ah)))))))) aH)
   (ai (aU (c4 (eQ (aI Ju (aq ar (rv 0) ag (fun _ _=>rfl)) (cG (af ag (af ag ah))) (by with_unfolding_all rfl)) (dB (aI j8 (aG bH rfl Z.len boot_len (af (rv 6) ah)) ag (L2.ay _))))) (ak (az (cG (af bW (af (aq ar (rv 6) (aL ff (aq ar (rv 0) ag (fun _ _=>rfl)) (aG bH rfl Z.len boot_len (af (rv 6) ah))) (fun _ _=>rfl)) (af (aM zq B hr (by decide) rfl (af (aq ar (rv 0) ag (fun _ _=>rfl)) (af (rv 1) ah))) ah)))))) aH)
   (ai (aU (c4 (eQ (aI (df hr.aX) (aq ar (rv 0) ag (fun _ _=>rfl)) ag (L2.ay _)) (dB (aI j8 (aG bH rfl Z.len boot_len (af (rv 6) ah)) ag (L2.ay _))))) (ak (az (cG (af bW (af (aq ar (rv 6) (aL ff (aq ar (rv 0) ag (fun _ _=>rfl)) (aG bH rfl Z.len boot_len (af (rv 6) ah))) (fun _ _=>rfl)) ah))))) aH)
   (ai (aU (aI (df hr.aX) (aq ar (rv 0) ag (fun _ _=>rfl)) ag (L2.ay _)) (ak (az (cG (af bW ah)))) aH)
   (ak (az (cG (af bW (af (aM oT B hr (by decide) rfl (af (rv 5) (af (aq ar (rv 0) ag (fun _ _=>rfl)) (af (aq ar (rv 0) ag (fun _ _=>rfl)) (af (rv 1) ah))))) ah))))))))))),?_⟩
 simp_all! only [hD,hkv,uU]
 obtain ⟨pn,hpn⟩:∃ pn:Str→Bool,∀ x,pn x=!decide (x∈used):=⟨_,fun _=>rfl⟩
 refine ⟨fun x=>match x with | .str s=>pn s | _=>false,id,⟨by rw [List.length_map];exact Nat.lt_of_le_of_lt hnl (by decide),fun J' sub=>⟨trivial,fun x hx=>?_⟩⟩,?_⟩
 ·obtain ⟨s,hs,rfl⟩:=List.mem_map.mp hx
  have hU':=sub _ _ hU
  simp_all! only [oh]
  refine ⟨⟨s,used,rfl,by show (match J' U with | some (.lst xs)=>some xs | _=>none)=_;rw [hU'],⟨_,rfl,(hpn s).symm,rfl⟩⟩,fun _=>trivial⟩
 have ef:((names.map PV.str).filter fun x=>match x with | .str s=>pn s | _=>false).map id=(names.filter pn).map PV.str:=by rw [List.map_id,List.filter_map];rfl
 rw [ef]
 have hfr:∀ n∈names.filter pn,n∈names∧n ∉ used:=fun n hn=>by
  obtain ⟨h1,h2⟩:=List.mem_filter.mp hn
  rw [hpn] at h2
  exact ⟨h1,by simpa using h2⟩
 generalize names.filter pn=fresh at hfr ⊢
 have gl:(gs.map (·.1)).length=gs.length:=List.length_map _
 generalize hgn:gs.map (·.1)=gn at gl q ⊢
 refine uc (0 < fresh.length∧gs.length < 12∧(r0 < 3∨gs.length < 2∧r0 < 8)) (fun R hR=>?_) (fun hb N=>?_) (fun hb=>?_)
 ·simp_all! only [List.length_map]
  (repeat' split) <;> exact Gz hR (by simp only [decide_eq_true_eq,Bool.false_eq_true,eq_self,iff_true,iff_false];omega)
 ·obtain ⟨n,hn,ha⟩:=uJ r10 hb.1
  simp_all! only [List.length_map,ha]
  refine ⟨by omega,r2,m,rfl,r20,fun x hx=>⟨r3,m,rfl,r30,r31,fun v hv=>?_⟩⟩
  exact q _ (.inl ⟨n,x,v,rfl,(hfr n hn).1,(hfr n hn).2,hb.2.1,hx,hv⟩)
 refine uc ((r0=3∨r0=4)∧0 < gs.length) (fun R hR=>?_) (fun hb N=>?_) (fun hb=>?_)
 ·simp_all! only [List.length_map]
  refine ⟨r0,[3,4],rfl,rfl,_,rfl,?_⟩
  (repeat' split) <;> exact Gz hR (by simp only [decide_eq_true_eq,Bool.false_eq_true,id_eq,List.mem_cons,List.not_mem_nil,or_false,eq_self,iff_true,iff_false] at *;omega)
 ·obtain ⟨n,hn,ha⟩:=uJ (xs:=gn) r10 (by omega)
  simp_all! only [List.length_map,ha]
  refine ⟨by omega,r3,m,rfl,r30,r31,fun v hv=>?_⟩
  exact q _ (.inr (.inl ⟨n,v,rfl,by rw [hgn];exact hn,hv⟩))
 refine uc (r0=5∧2 < gs.length) (fun R hR=>?_) (fun hb N=>?_) (fun hb=>?_)
 ·simp_all! only [List.length_map]
  (repeat' split) <;> exact Gz hR (by simp only [decide_eq_true_eq,Bool.false_eq_true,eq_self,iff_true,iff_false];omega)
 ·obtain ⟨n,hn,ha⟩:=uJ (xs:=gn) r10 (by omega)
  simp_all! only [List.length_map,ha]
  exact ⟨by omega,q _ (.inr (.inr (.inr (.inl ⟨n,rfl,by rw [hgn];exact hn⟩))))⟩
 refine uc (r0=6) (fun R hR=>?_) (fun hb N=>?_) (fun hb=>?_)
 ·simp_all! only []
  exact Gz hR (by simp only [decide_eq_true_eq,Bool.false_eq_true])
 ·simp_all! only []
  exact q _ (.inr (.inr (.inl rfl)))
 simp_all! only []
 exact ⟨t,r4,r5,m,rfl,r40,r50,m0,m1,r41,st,fun m' hm'=>q _ (.inr (.inr (.inr (.inr ⟨m',rfl,hm'⟩))))⟩
theorem BV (t m:Rat) (ks:List Ky) (h:(ks.map Ky.n).Nodup) (hl:ks.length≤12):(eK t ks m).length≤900:=by
 rw [← vV h]
 have h1:=kI t (bU t m) (ks.flatMap fun a=>ks.map fun b=>(a,b))
 have h2:(ks.flatMap fun a=>ks.map fun b=>(a,b)).length=ks.length * ks.length:=by
  rw [List.length_flatMap]
  have:(ks.map fun a=>(ks.map fun b=>(a,b)).length)=List.replicate ks.length ks.length:=by
   rw [List.eq_replicate_iff]
   refine ⟨by rw [List.length_map],fun b hb=>?_⟩
   obtain ⟨_,_,rfl⟩:=List.mem_map.mp hb
   rw [List.length_map]
  rw [this,List.sum_replicate_nat]
 have h3:ks.length * ks.length≤12 * 12:=Nat.mul_le_mul hl hl
 omega
theorem qh {m:Rat} (h0:0≤m) (hd:m.den≤60) (h1:m.num≤1000000 * (m.den:Int)):fP m.num m.den=true:=by
 refine decide_eq_true ⟨by omega,by have:=m.den_pos;omega,?_,Rat.num_nonneg.mpr h0,h1⟩
 have:=m.reduced
 unfold Int.gcd
 exact this
theorem nJ {c q:Rat} (h:Later c q) (hc:c.den≤60):q.den≤60:=by
 rcases h with rfl | ⟨u,s,u0,u1,s0,s1,rfl⟩
 ·exact hc
 ·have:=ua (t:=(c.num * (u:Int)).fdiv (c.den:Int) + (s:Int)) (b:=(u:Int)) (by omega)
  omega
theorem yv {q:Rat}:q.num≤1000000 * (q.den:Int)↔q≤1000000:=by
 rw [Rat.le_iff]
 have h3:(1000000:Rat).num=1000000:=rfl
 have h4:((1000000:Rat).den:Int)=1:=rfl
 rw [h3,h4]
 omega
abbrev vf:Stmt:=(top 64)
theorem g7:L2.aw ["_law_lane","_law_names_here","_law_cells","_law_mode","_law_legs","_law_used","_law_clock","_law_cell_here","_law_row","_law_deed_here"] ["_law_lane","_law_names_here","_law_cells","_law_mode"] (L2.aj vf):=dT
structure Wk (cN cL:Addr) (J0:Hq) (S0:Addr→Prop) (J:Hq) (p:Addr) (L:Ln) (D U:Addr) (gs:List (Str × aV)) (ep:Nat) (used:List Str) (k:Nat):Prop where
 b:a_ cN cL J p L
 ok:cn L
 rl:Rl L gs
 hD:J D=some (.dct (bS gs) ep)
 hU:J U=some (.lst (used.map .str))
 nD:¬ L.own p D
 nU:¬ L.own p U
 mv:Mv J0 J S0 (fun a=>L.own p a∨a=D∨a=U)
 td:L.t.den≤60
 tl:L.t≤((500 * k:Nat):Rat)
 wl:∀ c∈L.cs,c.w.length≤1 + k
theorem Rl.go {L:Ln} {gs:List (Str × aV)} (h:Rl L gs) {m:Rat} (hm:L.t≤m) {o:Addr} {row:List Str}:Rl { L with t:=m,o:=o,row:=row } gs:=⟨h.nm,h.ln,h.ck,fun x hx=>Rat.le_trans (h.le x hx) hm,h.ct⟩
theorem qr {c q:Rat} (h:Later c q) (c0:0≤c):q≤c + 500:=by
 rcases h with rfl | ⟨u,s,u0,u1,s0,s1,rfl⟩
 ·grind
 rw [Rat.divInt_eq_div]
 have hu:(0:Rat) < ((u:Int):Rat):=by exact_mod_cast (show (0:Int) < u by omega)
 have h1:((s:Int):Rat)≤500 * ((u:Int):Rat):=by exact_mod_cast (show (s:Int)≤500 * u by omega)
 have hd:(0:Rat) < ((c.den:Int):Rat):=by exact_mod_cast (show (0:Int) < c.den by have:=c.den_pos;omega)
 have h2:((((c.num * (u:Int)).fdiv (c.den:Int)):Int):Rat)≤c * ((u:Int):Rat):=by
  have e1:(c.num * (u:Int)).fdiv (c.den:Int) * (c.den:Int)≤c.num * u:=by
   rw [Int.fdiv_eq_ediv_of_nonneg _ (by omega)]
   exact Int.ediv_mul_le _ (by have:=c.den_pos;omega)
  have e2:((((c.num * (u:Int)).fdiv (c.den:Int)):Int):Rat) * ((c.den:Int):Rat)≤(c.num:Rat) * ((u:Int):Rat):=by
   rw [← Rat.intCast_mul,← Rat.intCast_mul];exact Rat.intCast_le_intCast.mpr e1
  have e3:(c.num:Rat)=c * ((c.den:Int):Rat):=cast_eq c
  rw [e3] at e2
  generalize ((((c.num * (u:Int)).fdiv (c.den:Int)):Int):Rat)=x at e2 ⊢
  generalize ((c.den:Int):Rat)=y at e2 hd
  generalize ((u:Int):Rat)=z at e2 ⊢
  by_cases k:c * z < x
  ·have:0 < (x - c * z) * y:=Rat.mul_pos (by grind) hd
   grind
  ·grind
 rw [Rat.intCast_add]
 generalize ((((c.num * (u:Int)).fdiv (c.den:Int)):Int):Rat)=a at h2 ⊢
 generalize ((s:Int):Rat)=x at h1 ⊢
 generalize ((u:Int):Rat)=y at h1 h2 hu ⊢
 have e:(a + x) / y * y=a + x:=by grind
 generalize (a + x) / y=z at e ⊢
 by_cases k:c + 500 < z
 ·have:0 < (z - (c + 500)) * y:=Rat.mul_pos (by grind) hu
  grind
 ·grind
section
variable {cN cL:Addr} {J0 J:Hq} {S0:Addr→Prop} {p:Addr} {L:Ln} {D U:Addr} {gs:List (Str × aV)} {ep:Nat} {used:List Str} {k:Nat}
theorem Wk.ne (h:Wk cN cL J0 S0 J p L D U gs ep used k):U≠D:=fun e=>by have:=h.hU;rw [e,h.hD] at this;cases this
theorem Wk.kept (h:Wk cN cL J0 S0 J p L D U gs ep used k) {T:Addr} {o:HQ} (hT:J0 T=some o) (nT:¬ S0 T):J T=some o:=h.mv.keep _ _ hT nT
theorem Wk.next (h:Wk cN cL J0 S0 J p L D U gs ep used k) {J1:Hq} {L1:Ln} {gs1:List (Str × aV)} {k1:Nat} (b1:a_ cN cL J1 p L1) (ok1:cn L1) (mv:Mv J J1 (L.own p) (L1.own p)) (rl1:Rl L1 gs1) (td:L1.t.den≤60) (tl:L1.t≤((500 * k1:Nat):Rat)) (wl:∀ c∈L1.cs,c.w.length≤1 + k1) (ep':Nat):Wk cN cL J0 S0 (put J1 D (.dct (bS gs1) ep')) p L1 D U gs1 ep' used k1:=by
 have new:∀ {x o},J x=some o→¬ L.own p x→¬ L1.own p x:=fun hx nx z=>by
  rcases mv.own _ z with q | q
  ·exact nx q
  ·rw [hx] at q;cases q
 have nD1:=new h.hD h.nD
 have hD1:=mv.keep _ _ h.hD h.nD
 have hU1:=mv.keep _ _ h.hU h.nU
 have mv1:Mv J J1 (fun a=>L.own p a∨a=D∨a=U) (fun a=>L1.own p a∨a=D∨a=U) :=
  ⟨fun a o e n=>mv.keep a o e fun z=>n (.inl z),fun a z=>z.elim (fun z=>(mv.own a z).imp .inl id) (fun z=>.inl (.inr z)),mv.mono⟩
 refine ⟨b1.keep fun a u ow e=>?_,ok1,rl1,av,?_,nD1,new h.hU h.nU,(h.mv.trans mv1).trans (gy (.inr (.inl rfl)) fun a z=>.inl z),td,tl,wl⟩
 ·rw [au (fun z=>by subst z;exact nD1 ow)];exact e
 ·rw [au h.ne];exact hU1
theorem Wk.push (h:Wk cN cL J0 S0 J p L D U gs ep used k) (n:Str):Wk cN cL J0 S0 (put J U (.lst ((used ++ [n]).map .str))) p L D U gs ep (used ++ [n]) k:=by
 refine ⟨h.b.keep fun a u ow e=>?_,h.ok,h.rl,?_,av,h.nD,h.nU,h.mv.trans (gy (.inr (.inr rfl)) fun a z=>.inl z),h.td,h.tl,h.wl⟩
 ·rw [au (fun z=>by subst z;exact h.nU ow)];exact e
 ·rw [au (fun e=>h.ne e.symm)];exact h.hD
theorem Wk.up (h:Wk cN cL J0 S0 J p L D U gs ep used k):Sz 900 L.t∧(gs.map (·.1)).Nodup∧gs.length≤12∧∀ x∈gs,ox 900 x.2 :=
 ⟨h.ok.Kf,h.rl.nd h.ok.toa8,by rw [h.rl.len];exact h.ok.IJ,fun x hx=>(h.rl.sz x hx).mono (by decide)⟩
end
theorem lS {q:Rat} {k:Nat} (hk:k≤2000) (h:q≤((500 * k:Nat):Rat)):q≤1000000:=by
 refine Rat.le_trans h ?_
 have:((500 * k:Nat):Rat)≤((1000000:Nat):Rat):=by exact_mod_cast (show 500 * k≤1000000 by omega)
 exact this
theorem pF {a b:Rat} {k:Nat} (h:b≤a + 500) (ha:a≤((500 * k:Nat):Rat)):b≤((500 * (k + 1):Nat):Rat):=by
 have e:((500 * (k + 1):Nat):Rat)=((500 * k:Nat):Rat) + 500:=by
  rw [show 500 * (k + 1)=500 * k + 500 by omega];exact Rat.natCast_add _ _
 rw [e];grind
theorem AS {a:Rat} {k:Nat} (ha:a≤((500 * k:Nat):Rat)):a≤((500 * (k + 1):Nat):Rat):=pF (a:=a) (by grind) ha
theorem FE {n:Str} (hg:good n=true):n.length≤sizeLine:=by
 have h8:n.cps.size≤8:=by
  unfold good at hg
  rw [Bool.and_eq_true,Bool.and_eq_true] at hg
  exact of_decide_eq_true hg.1.2
 exact Nat.le_trans h8 (by decide)
theorem Cc {cN cL T p D U:Addr} {J0 J:Hq} {S0:Addr→Prop} {L:Ln} {gs:List (Str × aV)} {ep:Nat} {used names:List Str} {i:Nat} {dv:PV} {E2:Addr→Hq→Prop} {Dn:En} {τ:Sr} {iL iU iD iC iV:Nat}
  (hL:τ[iL]?=some (some (.ref p))) (hU:τ[iU]?=some (some (.ref U))) (hDt:τ[iD]?=some (some (.ref D))) (hC:τ[iC]?=some (some (fr L.t))) (hV:τ[iV]?=some (some dv))
  (wk:Wk cN cL J0 S0 J p L D U gs ep used i) (hun:L.cs.map Cf.n=used) (hus:∀ n∈used,n∈names) (hul:used.length≤i) (hi:i < 90) (hng:∀ n∈names,good n=true) (hT:J0 T=some .tab) (nT:¬ S0 T) (hdv:Cq names used gs L.t dv)
  (fin:∀ J1 L1 gs1 ep1 used1 t1,L1.t=t1→Wk cN cL J0 S0 J1 p L1 D U gs1 ep1 used1 (i + 1)→L1.cs.map Cf.n=used1→(∀ n∈used1,n∈names)→used1.length≤i + 1→Dn.nx (τ.set iC (some (fr t1))) J1) :
  Ee (y0 (rB (vL (HE id) (vL HF (jw iV) (rC (.int 0))) (rC (.str "join")))) (Au (NY "list" uS (jw iU) (kg (vL HF (jw iV) (rC (.int 1))) sj))) qJ)
   (cK (Au (xf (ze cN cL T) E2 (kg (jw iL) (kg (jw iV) sj)))) (si (xf vq E2 (kg (jw iD) (kg (jw iC) (kg (jw iV) sj)))) (Fy iC))) Dn τ J:=by
 obtain ⟨st,gnd,gl,gsz⟩:=wk.up
 have hT':∀ {J1:Hq} {L1 gs1 ep1 us k1},Wk cN cL J0 S0 J1 p L1 D U gs1 ep1 us k1→J1 T=some .tab:=fun wk'=>wk'.kept hT nT
 have hw200:∀ c∈L.cs,c.w.length < 200:=fun c hc=>by have:=wk.wl c hc;omega
 have tl1:L.t≤((500 * (i + 1):Nat):Rat):=AS wk.tl
 have hfl:L.fs.length=gs.length:=wk.rl.len.symm
 have hrow:∀ n,n∈gs.map (·.1)→n∈L.row:=fun n hn=>(wk.ok.rm n).mpr (by rw [← wk.rl.nm];exact hn)
 rcases hdv with ⟨n,x,v,rfl,hn,hnu,hgl,hx,hv⟩ | ⟨n,v,rfl,hn,hv⟩ | rfl | ⟨n,rfl,hn⟩ | ⟨m',rfl,hm'⟩
 ·have i0:∀ J,fK J (gw n x v) (.int 0)=some (.str "join"):=fun J=>dH _ _
  have i1:∀ J,fK J (gw n x v) (.int 1)=some (.str n):=fun J=>fN _ _ _
  refine fQ (fun τ' J2=>τ'=τ∧J2=put J U (.lst ((used ++ [n]).map .str))) (ue hV (i0 _)) ?_ ?_
  ·simp_all! only [hU,hV,i1,wk.hU,List.length_map]
   exact ⟨Nat.lt_of_lt_of_le (show used.length < 100 by omega) (by decide),by rw [List.map_append];rfl⟩
  rintro τ' J2 ⟨rfl,rfl⟩
  have wk2:=wk.push n
  generalize put J U (.lst ((used ++ [n]).map .str))=J2 at wk2 ⊢
  have hnc:n ∉ L.cs.map Cf.n:=by rw [hun];exact hnu
  have hcl':L.cs.length < 100:=by have:=congrArg List.length hun;rw [List.length_map] at this;omega
  have hnf:n ∉ L.fs.map (·.1):=fun z=>hnc (by
   rw [fw,List.mem_map] at z
   obtain ⟨c',hc',e'⟩:=z
   exact List.mem_map.mpr ⟨c',(Ln.d3.mp hc').1,e'⟩)
  simp_all! only [hL,hDt,hC,hV]
  refine ⟨p,L,_,rfl,wk2.b,wk2.ok,.inl ⟨n,x,v,rfl,hT' wk2,hng n hn,⟨hx,hv⟩,hnc,by rw [wk.ok.row,wY];omega,hcl',FE (hng n hn),fun J3 L3 b3 ok3 jn mv3=>?_⟩⟩
  have rl3:=wk2.rl.join ok3.toa8 hv hx jn wk.ok.t0 wk.ok.ts hnf
  obtain ⟨a,r,ecs,et⟩:=jn
  simp_all! only [hL,hDt,hC,hV]
  refine ⟨D,gs,ep,L.t,_,rfl,mv3.keep _ _ wk2.hD wk2.nD,gnd,by omega,st,gsz,.inl ⟨n,x,v,rfl,by rw [wk.rl.nm];exact hnf,fun ep'=>?_⟩⟩
  refine fin _ L3 _ ep' (used ++ [n]) _ et (wk2.next b3 ok3 mv3 rl3 (by rw [et];exact wk.td) (by rw [et];exact tl1) (fun c hc=>?_) ep') ?_ (fun y hy=>?_) (by rw [List.length_append];show used.length + 1≤_;omega)
  ·rw [ecs] at hc
   rcases List.mem_append.mp hc with hc | hc
   ·have:=wk.wl c hc;omega
   ·rw [List.mem_singleton] at hc;subst hc;show 1≤_;omega
  ·rw [ecs,List.map_append,hun];rfl
  ·rcases List.mem_append.mp hy with hy | hy
   ·exact hus y hy
   ·rw [List.mem_singleton] at hy;subst hy;exact hn
 ·have i0:∀ J,fK J (jM n v) (.int 0)=some (.str "turn"):=fun J=>dH _ _
  refine dj hV (i0 _) (by decide +kernel) ?_
  simp_all! only [hL,hDt,hC,hV]
  refine ⟨p,L,_,rfl,wk.b,wk.ok,.inr (.inl ⟨n,v,rfl,hrow n hn,hv,hw200,fun J3 L3 b3 ok3 e t1 mv3=>?_⟩)⟩
  simp_all! only [hL,hDt,hC,hV]
  refine ⟨D,gs,ep,L.t,_,rfl,mv3.keep _ _ wk.hD wk.nD,gnd,by omega,st,gsz,.inr (.inl ⟨n,v,rfl,hn,fun ep'=>?_⟩)⟩
  refine fin _ L3 _ ep' used _ t1 (wk.next b3 ok3 mv3 (wk.rl.turn wk.ok.toa8 hv e t1) (by rw [t1];exact wk.td) (by rw [t1];exact tl1) (fun c hc=>?_) ep') (by rw [e,eJ (fun c=>(m7 n L.t v c).1)];exact hun) hus (by omega)
  rw [e] at hc
  obtain ⟨c0,h0,rfl⟩:=List.mem_map.mp hc
  have h1:=wk.wl c0 h0
  unfold dh
  split
  ·have:=l5 c0.w L.t v
   show (turned c0.w L.t v).length≤_
   omega
  ·omega
 ·have i0:∀ J,fK J jb (.int 0)=some (.str "about"):=fun J=>dH _ _
  refine dj hV (i0 _) (by decide +kernel) ?_
  simp_all! only [hL,hDt,hC,hV]
  refine ⟨p,L,_,rfl,wk.b,wk.ok,.inr (.inr (.inl ⟨rfl,hw200,fun J3 L3 b3 ok3 e t1 mv3=>?_⟩))⟩
  simp_all! only [hL,hDt,hC,hV]
  refine ⟨D,gs,ep,L.t,_,rfl,mv3.keep _ _ wk.hD wk.nD,gnd,by omega,st,gsz,.inr (.inr (.inl ⟨rfl,fun ep'=>?_⟩))⟩
  refine fin _ L3 _ ep' used _ t1 (wk.next b3 ok3 mv3 (wk.rl.about wk.ok.toa8 e t1) (by rw [t1];exact wk.td) (by rw [t1];exact tl1) (fun c hc=>?_) ep') (by rw [e,eJ (fun c=>(vT L.t c).1)];exact hun) hus (by omega)
  rw [e] at hc
  obtain ⟨c0,h0,rfl⟩:=List.mem_map.mp hc
  have h1:=wk.wl c0 h0
  unfold d9
  split
  ·have:=l5 c0.w L.t (-c0.cur.v)
   show (turned c0.w L.t (-c0.cur.v)).length≤_
   omega
  ·omega
 ·have i0:∀ J,fK J (ip n) (.int 0)=some (.str "leave"):=fun J=>dH _ _
  refine dj hV (i0 _) (by decide +kernel) ?_
  simp_all! only [hL,hDt,hC,hV]
  refine ⟨p,L,_,rfl,wk.b,wk.ok,.inr (.inr (.inr (.inl ⟨n,rfl,hrow n hn,fun J3 L3 b3 ok3 e t1 mv3=>?_⟩)))⟩
  simp_all! only [hL,hDt,hC,hV]
  refine ⟨D,gs,ep,L.t,_,rfl,mv3.keep _ _ wk.hD wk.nD,gnd,by omega,st,gsz,.inr (.inr (.inr (.inl ⟨n,rfl,hn,fun ep'=>?_⟩)))⟩
  refine fin _ L3 _ ep' used _ t1 (wk.next b3 ok3 mv3 (wk.rl.leave e t1) (by rw [t1];exact wk.td) (by rw [t1];exact tl1) (fun c hc=>?_) ep') (by rw [e,eJ (fun c=>(fz n L.t c).1)];exact hun) hus (by omega)
  rw [e] at hc
  obtain ⟨c0,h0,rfl⟩:=List.mem_map.mp hc
  have h1:=wk.wl c0 h0
  rw [(fz n L.t c0).2.2.2];omega
 ·have i0:∀ J,fK J (Hc m') (.int 0)=some (.str "go"):=fun J=>dH _ _
  refine dj hV (i0 _) (by decide +kernel) ?_
  have tl3:=pF (qr hm' wk.ok.t0) wk.tl
  have td3:=nJ hm' wk.td
  have hg:fP m'.num m'.den=true:=qh (Rat.le_trans wk.ok.t0 (hm'.le)) td3 (yv.mpr (lS (by omega) tl3))
  simp_all! only [hL,hDt,hC,hV]
  refine ⟨p,L,_,rfl,wk.b,wk.ok,.inr (.inr (.inr (.inr ⟨m',rfl,hg,hm'.le,fun J3 o3 b3 ok3 mv3=>?_⟩)))⟩
  simp_all! only [hL,hDt,hC,hV]
  have hD3:=mv3.keep _ _ wk.hD wk.nD
  refine ⟨D,gs,ep,L.t,_,rfl,hD3,gnd,by omega,st,gsz,.inr (.inr (.inr (.inr ⟨m',rfl,?_⟩)))⟩
  have w3:=wk.next b3 ok3 mv3 (wk.rl.go hm'.le) td3 tl3 (fun c hc=>by have:=wk.wl c hc;omega) ep
  rw [yZ hD3] at w3
  exact fin _ _ _ ep used _ rfl w3 hun hus (by omega)
def EF (cN cL T:Addr):cH:=fun xs J Q _=>∃ (p:Addr) (L0:Ln) (names:List Str) (cells:List Int) (m:Int),xs=[.ref p,.fl (names.map .str),.fl (cells.map .int),.int m]∧a_ cN cL J p L0∧cn L0∧L0.cs=[]∧L0.t=0∧J T=some .tab∧names.length≤40∧(∀ n∈names,good n=true)∧cells.length≤40∧0≤m∧m < 4 ∧
 ∀ J' L D U gs ep used,Wk cN cL J (L0.own p) J' p L D U gs ep used cells.length→L.cs.map Cf.n=used→(∀ n∈used,n∈names)→used.length≤cells.length→Q (.tup [.ref D,fr L.t,.ref U]) J'
theorem DO {cN cL T f:Addr} {fd:FuncData} (F:cm K "_law_walk" "_law_walk" vf f fd) (Z:bV mg) (eu:bh P w K mg base 1 "_law_digits" ["_law_cell_here","_law_sizes"] zd) (Ib:bh P w K mg base 3 "_law_deed" ["_law_row","_law_mode","_law_names_here","_law_used","_law_legs","_law_clock"] Ew) (Ic:bh P w K mg base 9 "_law_done" ["_law_lane","_law_deed_here"] (ze cN cL T)) (E_:bh P w K mg base 3 "_law_acted" ["_law_legs","_law_clock","_law_deed_here"] vq):aO P w K mg base (c5 P w) 10 f fd ["_law_lane","_law_names_here","_law_cells","_law_mode"] (dI K (EF cN cL T)):=by
 simp_arith [g7]
 ·obtain ⟨p,L0,names,cells,m,rfl,_⟩:=h;rfl
 obtain ⟨p,L0,names,cells,m,rfl,b,ok,cs0,t0,hT,hnl,hng,hcl,m0,m1,q⟩:=h
 refine ⟨_,(ai (aE (i:=4) g7.nd rfl (Or.inl rfl) Aw)
   (ai (aE (i:=5) g7.nd rfl (Or.inl rfl) (ki ah))
   (ai (aE (i:=6) g7.nd rfl (Or.inl rfl) (cG (af ag (af ag ah))))
   (ai (dO bR rfl (fj (rv 2)) (bF (i:=7) g7.nd rfl (Or.inl rfl)) (ai (aE (i:=8) g7.nd rfl (Or.inl rfl) (aM eu B hr (by decide) rfl (af (rv 7) (af (xh (y3 [.int 10,.int 97,.int 2000001,.int 2001,.int 400000,.int 60] rfl [.int 10,.int 97,.int 2000001,.int 2001,.int 400000,.int 60] rfl)) ah))))
   (ai (aE (i:=9) g7.nd rfl (Or.inl rfl) (aM Ib B hr (by decide) rfl (af (rv 8) (af (rv 3) (af (rv 1) (af (rv 5) (af (rv 4) (af (rv 6) ah))))))))
   (eL (aU (aI (df hr.aX) (aq ar (rv 9) ag (fun _ _=>rfl)) bW (L2.ay _)) (ak (bc (lz PySem.F.plainAttrs_list PySem.F.slot_list_append PySem.F.type_list_append nQ (rv 5) (af (aq ar (rv 9) ag (fun _ _=>rfl)) ah)))) aH)
   (ai (bc (aM Ic B hr (by decide) rfl (af (rv 0) (af (rv 9) ah))))
   (ak (aE (i:=6) g7.nd rfl (Or.inl rfl) (aM E_ B hr (by decide) rfl (af (rv 4) (af (rv 6) (af (rv 9) ah)))))))))))
   (ak (az (cG (af (rv 4) (af (rv 6) (af (rv 5) ah)))))))))),?_⟩
 simp_all! only []
 intro D hD ep
 simp_all! only []
 intro U hU
 have nDU:D≠U:=fun e=>by subst e;rw [av] at hU;cases hU
 have hU0:J U=none:=by rw [au (fun e=>nDU e.symm)] at hU;exact hU
 have w0:Wk cN cL J (L0.own p) (put (put J D (.dct [] ep)) U (.lst [])) p L0 D U [] ep [] 0:=by
  refine ⟨(b.fresh hD).fresh hU,ok,⟨by unfold Ln.fs Ln.Cj;rw [cs0];rfl,(by simp),(by simp),(by simp),(by rw [cs0];simp)⟩,by rw [au nDU];exact av,av,fun z=>b.some z hD,fun z=>b.some z hU0,?_,by rw [t0];decide,by rw [t0];decide,by rw [cs0];simp⟩
  have hh:=(Mv.BF (S:=L0.own p) (o:=.dct [] ep) hD).trans (Mv.BF (o:=.lst []) hU)
  exact ⟨hh.keep,fun a z=>hh.own a (z.elim (fun z=>.inl (.inl z)) fun z=>z.elim (fun z=>.inl (.inr z)) .inr),hh.mono⟩
 generalize put (put J D (.dct [] ep)) U (.lst [])=J1 at w0 ⊢
 clear hU hU0
 simp_all! only []
 obtain ⟨Inv,hInv⟩:∃ Inv:Nat→Sr→Hq→Prop,∀ i τ J',Inv i τ J'↔∃ (L:Ln) (gs:List (Str × aV)) (ep:Nat) (used:List Str) (u7 u8 u9:Option PV),τ=[some (.ref p),some (.fl (names.map .str)),some (.fl (cells.map .int)),some (.int m),some (.ref D),some (.ref U),some (fr L.t),u7,u8,u9]∧Wk cN cL J (L0.own p) J' p L D U gs ep used i∧L.cs.map Cf.n=used∧(∀ n∈used,n∈names)∧used.length≤i:=⟨_,fun _ _ _=>Iff.rfl⟩
 refine fJ Inv ((hInv _ _ _).mpr ⟨L0,[],ep,[],_,_,_,by rw [t0];rfl,w0,by rw [cs0];rfl,(by simp),Nat.le_refl _⟩) (fun _ _ _ _=>trivial) ?_ ?_
 ·intro i x τ J' hx hv
  obtain ⟨L,gs,ep,used,u7,u8,u9,rfl,wk,hun,hus,hul⟩:=(hInv _ _ _).mp hv
  clear hv
  have hi:i < cells.length:=by have:=(List.getElem?_eq_some_iff.mp hx).1;simpa using this
  rw [List.getElem?_map,List.getElem?_eq_getElem hi] at hx
  cases hx
  generalize cells[i]=c
  simp_all! only []
  refine ⟨c,[10,97,2000001,2001,400000,60],rfl,mU (by decide),by decide,fun ds hG=>?_⟩
  obtain ⟨r0,ds,rfl,_,_,hG⟩:=hG.cons
  obtain ⟨r1,ds,rfl,r10,_,hG⟩:=hG.cons
  obtain ⟨r2,ds,rfl,r20,_,hG⟩:=hG.cons
  obtain ⟨r3,ds,rfl,r30,r31,hG⟩:=hG.cons
  obtain ⟨r4,ds,rfl,r40,r41,hG⟩:=hG.cons
  obtain ⟨r5,ds,rfl,r50,_,hG⟩:=hG.cons
  cases hG.nil
  obtain ⟨st,gnd,gl,gsz⟩:=wk.up
  simp_all! only []
  refine ⟨r0,r1,r2,r3,r4,r5,m,names,used,U,D,gs,ep,L.t,rfl,wk.hU,wk.hD,hnl,by omega,r10,r20,r30,r31,r40,by omega,r50,m0,m1,st,fun dv hdv=>?_⟩
  refine Cc (iL:=0) (iU:=5) (iD:=4) (iC:=6) (iV:=9) rfl rfl rfl rfl rfl wk hun hus hul (by omega) hng hT (b.DG hT) hdv fun J1 L1 gs1 ep1 used1 t1 e1 wk1 h1 h2 h3=>?_
  subst e1
  exact (hInv _ _ _).mpr ⟨L1,gs1,ep1,used1,_,_,_,rfl,wk1,h1,h2,h3⟩
 ·intro τ J' hv
  obtain ⟨L,gs,ep,used,u7,u8,u9,rfl,wk,hun,hus,hul⟩:=(hInv _ _ _).mp hv
  simp_all! only []
  rw [List.length_map] at wk hul
  exact q J' L D U gs ep used wk hun hus hul
def vY (ns:List Int) (k:Int):Int:=if k < (ns.length:Int) then ns.getD k.toNat 0 else 5 + 17 * k
def AD:cH:=fun xs J Q _=>∃ (ns:List Int) (k:Int),xs=[.fl (ns.map .int),.int k]∧0≤k∧k < 1000∧Q (.int (vY ns k)) J
theorem DK {f:Addr} {fd:FuncData} (F:cm K "_law_cell" "_law_cell" u_ f fd) (Z:bV mg):aO P w K mg base (c5 P w) 1 f fd ["_law_script","_law_k"] (dI K AD):=by
 simp_arith [GI]
 ·obtain ⟨ns,k,rfl,_⟩:=h;rfl
 obtain ⟨ns,k,rfl,h0,h1,q⟩:=h
 unfold vY at q
 refine ⟨_,(ai (aU (aI gC (rv 1) (aG bH rfl Z.len boot_len (af (rv 0) ah)) (L2.ay _)) (ak (az (aq ar (rv 0) (rv 1) (fun _ _=>rfl)))) aH)
   (ak (az (aL cU ag (aL bI ag (rv 1)))))),?_⟩
 simp_arith! only [cK,List.length_map]
 split
 ·rename_i c
  rw [if_pos c] at q
  obtain ⟨j,rfl⟩:=Int.eq_ofNat_of_zero_le h0
  have hj:j < ns.length:=by omega
  refine ⟨.int ns[j],ba (by rw [List.getElem?_map,List.getElem?_eq_getElem hj];rfl),?_⟩
  simpa [List.getD,hj] using q
 ·rename_i c
  rw [if_neg c] at q
  exact ⟨.of (.small (x:=17) (by decide) (by decide)) (.small (x:=k) (by omega) (by omega)),q⟩
def Nd:PV→Int
 | .int i=>i
 | _=>0
theorem CL (ss:List Str):lM (ss.map .str) none (some (-1))=(ss.dropLast).map PV.str:=by
 unfold lM
 rw [HT.xm,List.drop_zero,Nat.sub_zero,List.map_dropLast,List.dropLast_eq_take]
 have e:HT.d_ (ss.map PV.str).length (ss.map PV.str).length (some (-1))=(ss.map PV.str).length - 1:=by
  show (if (-1:Int) < 0 then (-1 + ((ss.map PV.str).length:Int)).toNat else min (-1:Int).toNat (ss.map PV.str).length)=_
  rw [if_pos (by decide)];omega
 rw [e]
abbrev fm:Stmt:=(L2.inClass (top 42) 21)
theorem qP:L2.aw ["self","name"] ["self","name"] (L2.aj fm):=dT
def xE (cN cL eC:Addr):cH:=fun xs J Q E=>∃ p L n,xs=[.ref p,.str n]∧a_ cN cL J p L∧a8 L∧(∀ c∈L.cs,c.n=n→Q (.ref c.a) J)∧(n ∉ L.cs.map Cf.n→E eC J)
theorem qz {cN cL eC f:Addr} {fd:FuncData} (F:cm K "log_of" "Lane.log_of" fm f fd) (Z:bV mg) (ax:dt K mg "Lane" cN) (aK:aF K cN "logs") (eg:Own K mg "NoCraft" eC):aO P w K mg base (c5 P w) 1 f fd ["self","name"] (dI K (xE cN cL eC)):=by
 simp_arith [qP]
 ·obtain ⟨p,L,n,rfl,_⟩:=h;rfl
 obtain ⟨p,L,n,rfl,b,ok,q,qe⟩:=h
 have bo:=b.ob
 have bd:=b.dc
 refine ⟨_,(ai (aU (aI F8 (rv 1) (aY ax.cl aK (rv 0)) (by with_unfolding_all rfl)) (ak (dW eg rfl cF B.kn rfl (af bW ah))) aH)
   (ak (az (aq cQ (aY ax.cl aK (rv 0)) (rv 1) (fun _ _=>rfl))))),?_⟩
 simp_all! only [bo,wy,bd,ok.O0]
 by_cases c:n∈L.cs.map Cf.n
 ·rw [if_pos (by simpa using c)]
  obtain ⟨c0,hc,rfl⟩:=List.mem_map.mp c
  simp_all! only [bo,wy,bd,ok.va hc]
  exact q c0 hc rfl
 ·rw [if_neg (by simpa using c)]
  simp_all! only [fL]
  exact qe c
abbrev eS:Stmt:=(L2.inClass (top 42) 16)
theorem oR:L2.aw ["self","name"] ["self","name"] (L2.aj eS):=dT
def vD (cN cL eC:Addr):cH:=fun xs J Q E=>∃ p L n,xs=[.ref p,.str n]∧a_ cN cL J p L∧a8 L∧(∀ c∈L.cs,c.n=n→Q (.fl (c.w.map aV.V)) J∨∀ l,J l=none→Q (.ref l) (put J l (.lst (c.w.map aV.V))))∧(n ∉ L.cs.map Cf.n→E eC J)
theorem oN {cN cL eC f:Addr} {fd:FuncData} (F:cm K "history" "Lane.history" eS f fd) (Z:bV mg) (ax:dt K mg "Lane" cN) (iq:cJ P w K mg base cN 1 "log_of" ["self","name"] (xE cN cL eC)) (lR:cJ P w K mg base cL 1 "legs" ["self"] (AI cL)):aO P w K mg base (c5 P w) 2 f fd ["self","name"] (dI K (vD cN cL eC)):=by
 simp_arith [oR]
 ·obtain ⟨p,L,n,rfl,_⟩:=h;rfl
 obtain ⟨p,L,n,rfl,b,ok,q,qe⟩:=h
 have bo:=b.ob
 refine ⟨_,(ak (az (dq (pl:=_) lR B hr (by decide) (bp (pl:=_) iq B hr (by decide) (rv 0) (af (rv 1) ah))))),?_⟩
 simp_all! only [bo]
 refine ⟨eG _ _ _ _,p,L,n,rfl,b,ok,fun c hc e=>?_,qe⟩
 have lo:=(b.lg c hc).o
 simp_all! only [lo]
 exact ⟨NH _ _,c.a,c.r,c.w,c.g,rfl,b.lg c hc,q c hc e⟩
abbrev kT:Stmt:=(top 52)
theorem lW:L2.aw ["_law_found","_law_due_here","_law_k","_law_row"] ["_law_found","_law_due_here"] (L2.aj kT):=dT
def tG:cH:=fun xs J Q _=>∃ (rows:List aV) (x:PV),xs=[x,.fl (rows.map aV.V)]∧lQ J x=some (rows.map aV.V)∧rows.length≤900∧Q (.bl true) J
theorem wL {f:Addr} {fd:FuncData} (F:cm K "_law_legrows" "_law_legrows" kT f fd) (Z:bV mg) (oU:bh P w K mg base 1 "_law_whole" ["_law_found"] kq) (m_:bh P w K mg base 2 "_law_part" ["_law_found","_law_due_here"] k4):aO P w K mg base (c5 P w) 3 f fd ["_law_found","_law_due_here"] (dI K tG):=by
 simp_arith [lW]
 ·obtain ⟨rows,x,rfl,_⟩:=h;rfl
 obtain ⟨rows,x,rfl,hx,hl,q⟩:=h
 refine ⟨_,(ai (aU (c4 (gS (bQ (bj (aG gq rfl Z.isinstance boot_isinstance (af (rv 0) (af (kj rfl Z.list boot_list) ah))))) (fM (aI (iK hr.aX) (aG bH rfl Z.len boot_len (af (rv 0) ah)) (aG bH rfl Z.len boot_len (af (rv 1) ah)) (L2.ay _))))) (ak (az dn)) aH)
   (ai (dO bR rfl (iT rfl Z.range (af (aG bH rfl Z.len boot_len (af (rv 1) ah)) ah)) (bF (i:=2) lW.nd rfl (Or.inl rfl)) (ai (aE (i:=3) lW.nd rfl (Or.inl rfl) (aq ar (rv 0) (rv 2) (fun _ _=>rfl)))
   (ai (aU (c4 (gS (bQ (bj (aG gq rfl Z.isinstance boot_isinstance (af (rv 3) (af (kj rfl Z.tuple boot_tuple) ah))))) (gS (aI (iK hr.aX) (aG bH rfl Z.len boot_len (af (rv 3) ah)) ag (L2.ay _)) (fM (bQ (bj (aM oU B hr (by decide) rfl (af (aq ar (rv 3) ag (fun _ _=>rfl)) ah)))))))) (ak (az dn)) aH)
   (ak (aU (c4 (gS (bQ (bj (aM m_ B hr (by decide) rfl (af (aq ar (rv 3) ag (fun _ _=>rfl)) (af (aq ar (aq ar (rv 1) (rv 2) (fun _ _=>rfl)) ag (fun _ _=>rfl)) ah))))) (gS (bQ (bj (aM m_ B hr (by decide) rfl (af (aq ar (rv 3) ag (fun _ _=>rfl)) (af (aq ar (aq ar (rv 1) (rv 2) (fun _ _=>rfl)) ag (fun _ _=>rfl)) ah))))) (fM (aI (iK hr.aX) (rv 3) (aq ar (rv 1) (rv 2) (fun _ _=>rfl)) (L2.ay _)))))) (ak (az dn)) aH)))))
   (ak (az dn)))),?_⟩
 simp_all! only [List.length_map,Ho hx,yB hx]
 refine ⟨by omega,by omega,oY (fun i τ J'=>∃ u u':Option PV,τ=[some x,some (.fl (rows.map aV.V)),u,u']∧J'=J) ⟨none,none,rfl,rfl⟩ ?_ ?_⟩
 ·rintro i τ J' hi ⟨u,u',rfl,rfl⟩
  have hi:i < rows.length:=by omega
  have ha:c_ (rows.map aV.V) (0 + (i:Int))=some (rows[i].V):=by rw [Int.zero_add];exact Oz (List.getElem?_eq_getElem hi)
  simp_all! only [Dw hx,ha,kq,k4,Og,Le,wm,Hf,j0,Ni,HC,K1]
  split
  ·trivial
  ·rename_i h;exact absurd rfl h
 ·rintro τ J' ⟨u,u',rfl,rfl⟩
  exact q
def Ln.iW (L:Ln) (n:Str):List aV:=((L.cs.find? fun c=>decide (c.n=n)).map Cf.w).getD []
theorem a8.iW {L:Ln} (ok:a8 L) {c:Cf} (hc:c∈L.cs):L.iW c.n=c.w:=by
 unfold Ln.iW
 cases h:L.cs.find? fun d=>decide (d.n=c.n) with
 | none=>have:=List.find?_eq_none.mp h c hc;simp at this
 | some d =>
  have h1:=List.mem_of_find?_eq_some h
  have h2:d.n=c.n:=by simpa using List.find?_some h
  rw [ok.uniq h1 hc h2];rfl
theorem Mv.fresh {J J':Hq} {S S':Addr→Prop} (mv:Mv J J' S S') {x:Addr} {o:HQ} (hx:J x=some o) (nx:¬ S x):¬ S' x:=fun z=>by
 rcases mv.own _ z with q | q
 ·exact nx q
 ·rw [hx] at q;cases q
section
variable {cN cL:Addr} {J0 J:Hq} {S0:Addr→Prop} {p:Addr} {L:Ln} {D U:Addr} {gs:List (Str × aV)} {ep:Nat} {used:List Str} {k:Nat}
theorem Wk.more (h:Wk cN cL J0 S0 J p L D U gs ep used k):Wk cN cL J0 S0 J p L D U gs ep used (k + 1):={ h with tl:=AS h.tl,wl:=fun c hc=>by have:=h.wl c hc;omega }
theorem Wk.other (h:Wk cN cL J0 S0 J p L D U gs ep used k) {x:Addr} {o:HQ} (nx:¬ L.own p x) (nD:x≠D) (nU:x≠U) (n0:J0 x=none):Wk cN cL J0 S0 (put J x o) p L D U gs ep used k:=by
 refine { h with b:=h.b.keep fun a u ow e=>by rw [au (fun z=>by subst z;exact nx ow)];exact e,hD:=by rw [au (Ne.symm nD)];exact h.hD,hU:=by rw [au (Ne.symm nU)];exact h.hU,mv:=⟨fun a u e n=>?_,h.mv.own,fun a z=>?_⟩ }
 ·rw [au (fun z=>by subst z;rw [n0] at e;cases e)];exact h.mv.keep a u e n
 ·by_cases q:a=x
  ·subst q;exact n0
  ·rw [au q] at z;exact h.mv.mono a z
end
abbrev tD:Stmt:=(top 67)
theorem dP:L2.aw ["_law_script","_law_head","_law_names_here","_law_lane","_law_cells","_law_legs","_law_clock","_law_used","_law_row","_law_near","_law_far","_law_ahead","_law_kept","_law_k","_law_told"] ["_law_script"] (L2.aj tD):=dT
theorem F3 {cN cL T eM eP eC f:Addr} {fd:FuncData} (F:cm K "law" "law" tD f fd) (Z:bV mg) (tN:bh P w K mg base 1 "_law_cell" ["_law_script","_law_k"] AD) (eu:bh P w K mg base 1 "_law_digits" ["_law_cell_here","_law_sizes"] zd) (tO:bh P w K mg base 2 "_law_names" ["_law_cell_here","_law_many"] xG) (Ie:bh P w K mg base 10 "_law_walk" ["_law_lane","_law_names_here","_law_cells","_law_mode"] (EF cN cL T)) (x_:ya P w K mg base cN 1 "Lane" ["self"] (AK cN cL)) (oT:bh P w K mg base 2 "_law_later" ["_law_clock","_law_number","_law_bottom","_law_mode"] vC) (Ck:bh P w K mg base 3 "_law_due" ["_law_legs","_law_clock","_law_moment"] Ey) (eY:bh P w K mg base 4 "_law_passrows" ["_law_found","_law_due_here"] lY) (A6:bh P w K mg base 3 "_law_legrows" ["_law_found","_law_due_here"] tG) (vM:bh P w K mg base 8 "_law_stands" ["_law_lane","_law_legs","_law_clock"] (xI cN cL)) (bN:cJ P w K mg base cN 7 "foretold" ["self","moment"] (pB cN cL eM eP)) (dy:cJ P w K mg base cN 8 "go_to" ["self","moment"] (ED cN cL eM eP)) (eI:cJ P w K mg base cN 2 "history" ["self","name"] (vD cN cL eC)) :
  aO P w K mg base (c5 P w) 11 f fd ["_law_script"] (dI K (zf [T])):=by
 simp_arith [dP]
 ·obtain ⟨ns,rfl,_⟩:=h;rfl
 obtain ⟨ns,rfl,hl,hT,hJ,q⟩:=h
 have hT:J T=some .tab:=hT T (by simp)
 refine ⟨_,(ai (aE (i:=1) dP.nd rfl (Or.inl rfl) (aM eu B hr (by decide) rfl (af (aM tN B hr (by decide) rfl (af (rv 0) (af ag ah))) (af (xh (af ag (af ag (af ag ah)))) ah))))
   (ai (aE (i:=2) dP.nd rfl (Or.inl rfl) (aM tO B hr (by decide) rfl (af (aM tN B hr (by decide) rfl (af (rv 0) (af ag ah))) (af (aL cU ag (aq ar (rv 1) ag (fun _ _=>rfl))) ah))))
   (ai (aE (i:=3) dP.nd rfl (Or.inr rfl) (qK x_ B hr (by decide) rfl))
   (ai (HU (i:=4) (L2.aj tD) ["_law_script","_law_head","_law_names_here","_law_lane","_law_cells","_law_legs","_law_clock","_law_used","_law_row","_law_near","_law_far","_law_ahead","_law_kept","_law_k","_law_told"] [("_law_script",0)] rfl rfl rfl dP.nd rfl (Or.inl rfl) (iT rfl Z.range (af (aq ar (rv 1) ag (fun _ _=>rfl)) ah)) (fun _ _ _ _ _ _=>(aM tN IG hr (by decide) rfl (af (rv 1) (af (aL cU ag (rv 0)) ah)))))
   (ai (uX (aM Ie B hr (by decide) rfl (af (rv 3) (af (iQ EG (rv 2) kP (kQ (tq ou ag))) (af (rv 4) (af (aq ar (rv 1) ag (fun _ _=>rfl)) ah))))) (qM (n:=3) rfl (cZ (bF (i:=5) dP.nd rfl (Or.inl rfl)) (cZ (bF (i:=6) dP.nd rfl (Or.inl rfl)) (cZ (bF (i:=7) dP.nd rfl (Or.inl rfl)) mJ)))))
   (ai (aE (i:=8) dP.nd rfl (Or.inl rfl) (aM eu B hr (by decide) rfl (af (aM tN B hr (by decide) rfl (af (rv 0) (af ag ah))) (af (xh (y3 [.int 400000,.int 60,.int 400000,.int 60] rfl [.int 400000,.int 60,.int 400000,.int 60] rfl)) ah))))
   (ai (aE (i:=9) dP.nd rfl (Or.inl rfl) (aM oT B hr (by decide) rfl (af (rv 6) (af (aq ar (rv 8) ag (fun _ _=>rfl)) (af (aq ar (rv 8) ag (fun _ _=>rfl)) (af (aq ar (rv 1) ag (fun _ _=>rfl)) ah))))))
   (ai (aE (i:=10) dP.nd rfl (Or.inl rfl) (aM oT B hr (by decide) rfl (af (rv 9) (af (aq ar (rv 8) ag (fun _ _=>rfl)) (af (aq ar (rv 8) ag (fun _ _=>rfl)) (af (aq ar (rv 1) ag (fun _ _=>rfl)) ah))))))
   (ai (aE (i:=11) dP.nd rfl (Or.inl rfl) (aM Ck B hr (by decide) rfl (af (rv 5) (af (rv 6) (af (rv 9) ah)))))
   (ai (HU (i:=12) (L2.aj tD) ["_law_script","_law_head","_law_names_here","_law_lane","_law_cells","_law_legs","_law_clock","_law_used","_law_row","_law_near","_law_far","_law_ahead","_law_kept","_law_k","_law_told"] [("_law_lane",3)] rfl rfl rfl dP.nd rfl (Or.inl rfl) (fj (rv 7)) (fun _ _ _ _ _ _=>(bp (pl:=_) eI IG hr (by decide) (rv 1) (af (rv 0) ah))))
   (ai (dO bR rfl (JN (cG (af ag (af ag ah)))) (bF (i:=13) dP.nd rfl (Or.inl rfl)) (ai (aU (bQ (bj (aM eY B hr (by decide) rfl (af (bp (pl:=_) bN B hr (by decide) (rv 3) (af (rv 10) ah)) (af (aM Ck B hr (by decide) rfl (af (rv 5) (af (rv 6) (af (rv 10) ah)))) ah))))) (ak (az dn)) aH)
   (ai (aE (i:=14) dP.nd rfl (Or.inl rfl) (bp (pl:=_) bN B hr (by decide) (rv 3) (af (rv 9) ah)))
   (ai (aU (bQ (bj (aM eY B hr (by decide) rfl (af (rv 14) (af (rv 11) ah))))) (ak (az dn)) aH)
   (ai (bc (Ek PySem.F.plainAttrs_list PySem.F.slot_list_clear PySem.F.type_list_clear DC (rv 14)))
   (ak (aU (bQ (bj (aM vM B hr (by decide) rfl (af (rv 3) (af (rv 5) (af (rv 6) ah)))))) (ak (az dn)) aH)))))))
   (ai (dO bR rfl (iT rfl Z.range (af (aG bH rfl Z.len boot_len (af (rv 7) ah)) ah)) (bF (i:=13) dP.nd rfl (Or.inl rfl)) (ak (aU (bQ (bj (aM A6 B hr (by decide) rfl (af (bp (pl:=_) eI B hr (by decide) (rv 3) (af (aq ar (rv 7) (rv 13) (fun _ _=>rfl)) ah)) (af (aq ar (rv 12) (rv 13) (fun _ _=>rfl)) ah))))) (ak (az dn)) aH)))
   (ai (aU (bQ (bj (aM eY B hr (by decide) rfl (af (bp (pl:=_) dy B hr (by decide) (rv 3) (af (rv 9) ah)) (af (rv 11) ah))))) (ak (az dn)) aH)
   (ai (aU (bQ (bj (aM eY B hr (by decide) rfl (af (bp (pl:=_) bN B hr (by decide) (rv 3) (af (rv 10) ah)) (af (aM Ck B hr (by decide) rfl (af (rv 5) (af (rv 9) (af (rv 10) ah)))) ah))))) (ak (az dn)) aH)
   (ak (az (aM vM B hr (by decide) rfl (af (rv 3) (af (rv 5) (af (rv 9) ah)))))))))))))))))))),?_⟩
 simp_all! only []
 refine ⟨ns,0,rfl,by decide,by decide,_,[21,7,4],rfl,mU (by decide),by decide,fun ds hD=>?_⟩
 obtain ⟨d0,ds,rfl,d00,d01,hD⟩:=hD.cons
 obtain ⟨d1,ds,rfl,d10,d11,hD⟩:=hD.cons
 obtain ⟨d2,ds,rfl,d20,d21,hD⟩:=hD.cons
 cases hD.nil
 simp_all! only []
 refine ⟨ns,1,rfl,by decide,by decide,_,3 + d1,rfl,by omega,by omega,fun names nl nd ng=>?_⟩
 simp_all! only []
 intro p hp
 refine ⟨p,rfl,av,fun J1 d e o b mv=>?_⟩
 have mvJ:Mv J J1 (fun _=>False) (Ln.own ⟨0,d,e,o,[],[]⟩ p):=by
  refine (Mv.BF (S:=fun _=>False) hp).trans ⟨fun a u h n=>mv.keep a u h fun z=>n (.inr z),fun a z=>(mv.own a z).imp .inr id,mv.mono⟩
 have ok0:cn ⟨0,d,e,o,[],[]⟩:=⟨⟨List.nodup_nil,(by simp),(by simp),(by simp),(by simp),(by simp),Rat.le_refl,Pf _,(by show 0≤100;decide),(by intro n;simp [Ln.fs,Ln.Cj]),List.nodup_nil,(by show 0≤12;decide)⟩,rfl⟩
 have hT1:J1 T=some .tab:=mvJ.keep _ _ hT fun z=>z
 simp_all! only [uU]
 refine ⟨by omega,by omega,fun _=>true,fun x=>.int (vY ns (8 + Nd x)),⟨by rw [iH];exact a9 (by omega),fun J' _=>⟨trivial,fun x hx=>⟨⟨rfl,rfl⟩,fun _=>?_⟩⟩⟩,?_⟩
 ·obtain ⟨i,hi⟩:=List.mem_iff_getElem?.mp hx
  obtain ⟨i1,rfl⟩:=(qm _ _ _ _).mp hi
  simp_all! only []
  exact ⟨ns,_,rfl,by omega,by omega,rfl,rfl⟩
 obtain ⟨cs,hcs,hcl⟩:∃ cs:List Int,((ql 0 d0.toNat).filter fun _=>true).map (fun x=>PV.int (vY ns (8 + Nd x)))=cs.map .int∧cs.length≤21:=⟨((ql 0 d0.toNat).filter fun _=>true).map (fun x=>vY ns (8 + Nd x)),by rw [List.map_map];rfl,by
  rw [List.length_map]
  exact Nat.le_trans (List.length_filter_le _ _) (by rw [iH];omega)⟩
 rw [hcs]
 simp_all! only [CL]
 have hnl:names.dropLast.length≤40:=by rw [List.length_dropLast];omega
 refine ⟨p,_,names.dropLast,cs,d2,rfl,b,ok0,rfl,rfl,hT1,hnl,(fun n hn=>ng n (List.dropLast_subset _ hn)),by omega,d20,d21,fun J2 L D U gs ep used wk hun hus hul=>?_⟩
 have hT2:J2 T=some .tab:=wk.kept hT1 (b.DG hT1)
 obtain ⟨st,gnd,gl,gsz⟩:=wk.up
 clear mvJ mv hcs
 simp_all! only []
 have bo:=wk.b.ob
 have st2:Sz 240 L.t:=(qw wk.ok.ts).mono (by decide)
 refine ⟨ns,2,rfl,by decide,by decide,_,[400000,60,400000,60],rfl,mU (by decide),by decide,fun ds hQ=>?_⟩
 obtain ⟨e0,ds,rfl,e00,e01,hQ⟩:=hQ.cons
 obtain ⟨e1,ds,rfl,e10,e11,hQ⟩:=hQ.cons
 obtain ⟨e2,ds,rfl,e20,e21,hQ⟩:=hQ.cons
 obtain ⟨e3,ds,rfl,e30,e31,hQ⟩:=hQ.cons
 cases hQ.nil
 simp_all! only []
 refine ⟨L.t,e0,e1,d2,rfl,e00,e10,d20,d21,by omega,st,fun m1 hm1=>?_⟩
 have tl1:=pF (qr hm1 wk.ok.t0) wk.tl
 have td1:=nJ hm1 wk.td
 have m10:0≤m1:=Rat.le_trans wk.ok.t0 hm1.le
 have g1:fP m1.num m1.den=true:=qh m10 td1 (yv.mpr (lS (by omega) tl1))
 have s1:Sz 240 m1:=(qw (mw g1).1).mono (by decide)
 simp_all! only []
 refine ⟨m1,e2,e3,d2,rfl,e20,e30,d20,d21,by omega,s1.mono (by decide),fun m2 hm2=>?_⟩
 have tl2:=pF (qr hm2 m10) tl1
 have td2:=nJ hm2 td1
 have g2:fP m2.num m2.den=true:=qh (Rat.le_trans m10 hm2.le) td2 (yv.mpr (lS (by omega) tl2))
 have s2:Sz 240 m2:=(qw (mw g2).1).mono (by decide)
 have due:∀ {Jx:Hq} {t m:Rat},Jx D=some (.dct (bS gs) ep)→Sz 240 t→Sz 240 m→∀ (R:PV→Hq→Prop),R (.fl ((eK t (L.fs.map (key t)) m).map aD.v)) Jx→Ey [.ref D,fr t,fr m] Jx R E2:=fun {Jx t m} hDx st sm R hR=>⟨D,gs,ep,t,m,rfl,hDx,gnd,by omega,st,sm.mono (by decide),wk.rl.sz,by rw [BU fun x=>(wk.rl.same t x).symm];exact hR⟩
 simp_all! only []
 refine due wk.hD st2 s1 _ ?_
 simp_all! only [uU,wk.hU]
 have inc:∀ n∈used,∃ c∈L.cs,c.n=n:=fun n hn=>by rw [← hun] at hn;obtain ⟨c,hc,e⟩:=List.mem_map.mp hn;exact ⟨c,hc,e⟩
 have hist:∀ {Jx:Hq} {n:Str},a_ cN cL Jx p L→n∈used→∀ (R:PV→Hq→Prop),R (.fl ((L.iW n).map aV.V)) Jx→∀ Ex,vD cN cL eC [.ref p,.str n] Jx R Ex:=fun {Jx n} bx hn R hR Ex=>⟨p,L,n,rfl,bx,wk.ok.toa8,fun c hc e=>.inl (by subst e;rw [← wk.ok.iW hc];exact hR),fun z=>by rw [hun] at z;exact absurd hn z⟩
 refine ⟨fun _=>true,fun x=>match x with | .str n=>.fl ((L.iW n).map aV.V) | _=>.non,⟨by rw [List.length_map];exact a9 (by omega),fun J' sub=>⟨sub _ _ wk.hU,fun x hx=>⟨⟨rfl,rfl⟩,fun _=>?_⟩⟩⟩,?_⟩
 ·obtain ⟨n,hn,rfl⟩:=List.mem_map.mp hx
  have b':a_ cN cL J' p L:=wk.b.keep fun a o _ e=>sub a o e
  simp_all! only [oh,b'.ob]
  exact ⟨eG _ _ _ _,hist b' hn _ ⟨rfl,rfl⟩ _⟩
 have ek:((used.map PV.str).filter fun _=>true).map (fun x=>match x with | .str n=>PV.fl ((L.iW n).map aV.V) | _=>.non)=used.map fun n=>PV.fl ((L.iW n).map aV.V):=by rw [List.filter_eq_self.mpr fun _ _=>rfl,List.map_map];rfl
 rw [ek]
 have fore:∀ {Jx:Hq} {Lx:Ln} {m:Rat},a_ cN cL Jx p Lx→cn Lx→fP m.num m.den=true→Lx.t≤m→∀ (R:PV→Hq→Prop),(R (.fl ((eK Lx.t (Lx.fs.map (key Lx.t)) m).map aD.v)) Jx∨∀ l,Jx l=none→R (.ref l) (put Jx l (.lst ((eK Lx.t (Lx.fs.map (key Lx.t)) m).map aD.v))))→pB cN cL eM eP [.ref p,fr m] Jx R E2:=fun {Jx Lx m} bx okx g hm R hR=>⟨p,Lx,m.num,m.den,rfl,bx,okx,(fun z=>by rw [g] at z;cases z),fun m' h1 h2 _=>by
  obtain rfl:m'=m:=Rat.ext h1 (by omega)
  exact ⟨fun z=>absurd z (Rat.not_lt.mpr hm),fun _=>hR⟩⟩
 have plen:∀ (t m:Rat),(eK t (L.fs.map (key t)) m).length≤900:=fun t m=>BV t m _ (by rw [cv];exact wk.ok.Ha) (by rw [List.length_map];exact wk.ok.IJ)
 simp_all! only []
 obtain ⟨Inv,hInv⟩:∃ Inv:Nat→Sr→Hq→Prop,∀ i τ J',Inv i τ J'↔∃ u13 u14:Option PV,τ=[some (.fl (ns.map .int)),some (.fl [.int d0,.int d1,.int d2]),some (.fl (names.map .str)),some (.ref p),some (.fl (cs.map .int)),some (.ref D),some (fr L.t),some (.ref U),some (.fl [.int e0,.int e1,.int e2,.int e3]),some (fr m1),some (fr m2),some (.fl ((eK L.t (L.fs.map (key L.t)) m1).map aD.v)),some (.fl (used.map fun n=>PV.fl ((L.iW n).map aV.V))),u13,u14]∧Wk cN cL J1 (Ln.own ⟨0,d,e,o,[],[]⟩ p) J' p L D U gs ep used cs.length:=⟨_,fun _ _ _=>Iff.rfl⟩
 refine fJ Inv ((hInv _ _ _).mpr ⟨_,_,rfl,wk⟩) (fun _ _ _ _=>trivial) ?_ ?_
 ·intro i x τ J' hx hv
  obtain ⟨u13,u14,rfl,wk'⟩:=(hInv _ _ _).mp hv
  clear hv
  simp_all! only [wk'.b.ob]
  refine ⟨eG _ _ _ _,fore wk'.b wk'.ok g2 (Rat.le_trans hm1.le hm2.le) _ (.inl ?_)⟩
  refine due wk'.hD st2 s2 _ ⟨_,_,rfl,rfl,plen _ _,true,rfl,?_⟩
  rw [if_neg (by decide)]
  simp_all! only [wk'.b.ob]
  refine ⟨eG _ _ _ _,fore wk'.b wk'.ok g1 hm1.le _ (.inr fun l hl=>?_)⟩
  simp_all! only []
  refine ⟨_,_,rfl,by show (match put J' l _ l with | some (.lst xs)=>some xs | _=>none)=_;rw [av],plen _ _,true,rfl,?_⟩
  rw [if_neg (by decide)]
  simp_all! only [av]
  rw [d4]
  have wk2:=wk'.other (o:=.lst []) (fun z=>wk'.b.some z hl) (fun e=>by rw [e,wk'.hD] at hl;cases hl) (fun e=>by rw [e,wk'.hU] at hl;cases hl) (wk'.mv.mono _ hl)
  generalize put J' l (.lst [])=J3 at wk2 ⊢
  refine ⟨p,L,D,ep,gs,rfl,wk2.b,wk2.ok,wk2.hD,gnd,by omega,wk.rl.sz,wk.rl.same _,true,rfl,?_⟩
  rw [if_neg (by decide)]
  exact (hInv _ _ _).mpr ⟨_,_,rfl,wk2⟩
 intro τ J' hv
 obtain ⟨u13,u14,rfl,wk'⟩:=(hInv _ _ _).mp hv
 clear hv hInv Inv
 simp_all! only [wk'.hU,List.length_map]
 refine ⟨by omega,by omega,?_⟩
 obtain ⟨Inv,hInv⟩:∃ Inv:Nat→Sr→Hq→Prop,∀ i τ Ja,Inv i τ Ja↔∃ u13:Option PV,τ=[some (.fl (ns.map .int)),some (.fl [.int d0,.int d1,.int d2]),some (.fl (names.map .str)),some (.ref p),some (.fl (cs.map .int)),some (.ref D),some (fr L.t),some (.ref U),some (.fl [.int e0,.int e1,.int e2,.int e3]),some (fr m1),some (fr m2),some (.fl ((eK L.t (L.fs.map (key L.t)) m1).map aD.v)),some (.fl (used.map fun n=>PV.fl ((L.iW n).map aV.V))),u13,u14]∧Ja=J':=⟨_,fun _ _ _=>Iff.rfl⟩
 refine oY Inv ((hInv _ _ _).mpr ⟨_,rfl,rfl⟩) ?_ ?_
 ·intro i τ Ja hi hv
  obtain ⟨u13,rfl,rfl⟩:=(hInv _ _ _).mp hv
  clear hv
  have hi':i < used.length:=by omega
  have hn:used[i]?=some used[i]:=List.getElem?_eq_getElem hi'
  have hnm:=List.getElem_mem hi'
  generalize used[i]=n at hn hnm
  have ha:c_ (used.map PV.str) (0 + (i:Int))=some (.str n):=by rw [Int.zero_add];exact ba (by rw [List.getElem?_map,hn];rfl)
  have hb:c_ (used.map fun n=>PV.fl ((L.iW n).map aV.V)) (0 + (i:Int))=some (.fl ((L.iW n).map aV.V)):=by rw [Int.zero_add];exact ba (by rw [List.getElem?_map,hn];rfl)
  simp_all! only [wk'.hU,wk'.b.ob,ha]
  refine ⟨eG _ _ _ _,hist wk'.b hnm _ ?_ _⟩
  simp_all! only [hb]
  obtain ⟨c,hc,rfl⟩:=inc n hnm
  refine ⟨_,_,rfl,rfl,by rw [wk.ok.iW hc];exact Nat.le_trans (wk.ok.len c hc) (by decide),true,rfl,?_⟩
  rw [if_neg (by decide)]
  exact (hInv _ _ _).mpr ⟨_,rfl,rfl⟩
 intro τ Ja hv
 obtain ⟨u13,rfl,rfl⟩:=(hInv _ _ _).mp hv
 clear hv hInv Inv
 simp_all! only [wk'.b.ob]
 refine ⟨eG _ _ _ _,p,L,m1.num,m1.den,rfl,wk'.b,wk'.ok,(fun z=>by rw [g1] at z;cases z),fun m' h1 h2 _=>?_⟩
 obtain rfl:m'=m1:=Rat.ext h1 (by omega)
 refine ⟨fun z=>absurd z (Rat.not_lt.mpr hm1.le),fun _ J3 o3 b3 ok3 mv3=>?_⟩
 refine ⟨_,_,rfl,rfl,plen _ _,true,rfl,?_⟩
 rw [if_neg (by decide)]
 have hD3:=mv3.keep _ _ wk'.hD wk'.nD
 have hT3:=mv3.keep _ _ (wk'.kept hT1 (b.DG hT1)) (wk'.b.DG (wk'.kept hT1 (b.DG hT1)))
 simp_all! only [b3.ob]
 refine ⟨eG _ _ _ _,fore b3 ok3 g2 hm2.le _ (.inl ?_)⟩
 refine due hD3 s1 s2 _ ⟨_,_,rfl,rfl,plen _ _,true,rfl,?_⟩
 rw [if_neg (by decide)]
 simp_all! only []
 exact ⟨p,{ L with t:=m',o:=o3,row:=cS m' L.fs },D,ep,gs,rfl,b3,ok3,hD3,gnd,by omega,wk.rl.sz,(show Cz m' L.fs gs from wk.rl.same m'),q J3 (by simpa using hT3)⟩
end
theorem Iq {P:Program} {w:World} {K:PySem.W.Frag} {mg:Str→Option Value} (Z:bV mg) (N:pU K mg) {jH:Tok} (gr:mg "FARTHEST"=some (.int 1000000 jH)) {gf:Tok} (eh:mg "FASTEST"=some (.int 1000 gf)) {m5:Tok} (jY:mg "FINEST"=some (.int 60 m5)) {m6:Tok} (jZ:mg "LATEST"=some (.int 1000000 m6)) {k7:Tok} (iF:mg "LONGEST"=some (.int 8 k7)) {vG:Tok} (qd:mg "MOST"=some (.int 12 vG)) {pH:Tok} (mq:mg "SIGNS"=some (.str "abcdefghijklmnopqrstuvwxyz0123456789" pH)) {oB:Addr} (fu:Own K mg "BadMoment" oB) {sQ:Addr} (iB:Own K mg "BadName" sQ) {CT:Addr} (pV:Own K mg "Full" CT) {sS:Addr} (eg:Own K mg "NoCraft" sS) {p8:Addr} (gj:Own K mg "NotThere" p8) {CU:Addr} (pW:Own K mg "Past" CU) {zN:Addr} (ma:Own K mg "Taken" zN) {wb:Addr} (fv:Own K mg "TooFar" wb) {gm:Addr} (bt:dt K mg "Log" gm) {cE:Addr} (ax:dt K mg "Lane" cE) {je:Addr} (bC:dt K mg "Bells" je) (aR:aF K gm "rows") (bM:aF K gm "gone") (aA:aF K cE "now") (aK:aF K cE "logs") (aB:aF K cE "row") (aT:aF K je "rows") (xS:Def K mg "_law_cell" u_) (pM:Def K mg "_law_digits" mL) (pO:Def K mg "shared" mP) (lD:Def K mg "fraction" jA) (Cp:Def K mg "_law_low" Ay) (xV:Def K mg "less" vc) (xX:Def K mg "plus" ve) (tT:Def K mg "minus" ph) (tX:Def K mg "times" pq) {gP:Addr} (gL:xZ K mg "good_name" gZ gP) (tU:Def K mg "_law_names" kW) (lG:Def K mg "place_on" jE) (nh:Def K mg "last_by" kS) (g_:Def K mg "lies_behind" fq) (lE:Def K mg "in_order" jB) (hE:Def K mg "rings_ahead" ft) (nj:Def K mg "meeting" kU) (eA:Def K mg "in_lowest_terms" dg) (g9:Def K mg "good_moment" fo) (tY:Def K mg "_law_whole" pw) (xW:Def K mg "_law_part" vd) (tZ:Def K mg "_law_words" pz) (ni:Def K mg "_law_legrows" kT) (nk:Def K mg "_law_passrow" kX) (lF:Def K mg "_law_passrows" jC) (pN:Def K mg "_law_placed" mO) (tW:Def K mg "_law_paced" pj) (Ih:Def K mg "_law_at" GH) (tS:Def K mg "_law_later" pf) (pL:Def K mg "_law_before" mK) (tV:Def K mg "_law_order" mM) (nq:Def K mg "_law_ringdue" kY) (pP:Def K mg "_law_stands" mQ) (Co:Def K mg "_law_due" Ax) (tR:Def K mg "_law_acted" pe) (xU:Def K mg "_law_done" vb) (xT:Def K mg "_law_deed" qN) (xY:Def K mg "_law_walk" vf) (fH:bO K gm "__init__" "Log.__init__" eV) (jT:bO K gm "turn" "Log.turn" jz) (i8:bO K gm "leave" "Log.leave" gX) (jS:bO K gm "legs" "Log.legs" jy) (i9:bO K gm "there" "Log.there" gY) (il:bO K gm "leg_at" "Log.leg_at" f9) (eZ:bO K cE "__init__" "Lane.__init__" d5) (c8:bO K cE "must_be_there" "Lane.must_be_there" cA) (gg:bO K cE "leg_of" "Lane.leg_of" fk) (gi:bO K cE "settle" "Lane.settle" dX) (i6:bO K cE "join" "Lane.join" gU) (ib:bO K cE "clock" "Lane.clock" fW) (ik:bO K cE "order" "Lane.order" f7) (gh:bO K cE "log_of" "Lane.log_of" fm) (fG:bO K cE "history" "Lane.history" eS) (eD:bO K je "__init__" "Bells.__init__" dC) (hX:bO K je "drop" "Bells.drop" eR) (i5:bO K je "put" "Bells.put" gT) (hZ:bO K je "told" "Bells.told" fT) (ij:bO K cE "meets" "Lane.meets" f6) (e8:bO K cE "foretold" "Lane.foretold" d6) (ie:bO K cE "go_to" "Lane.go_to" fY) (ia:bO K cE "bells" "Lane.bells" fV) (i7:bO K cE "turn" "Lane.turn" gW) (h_:bO K cE "about" "Lane.about" fU) (ig:bO K cE "leave" "Lane.leave" fZ) {f:Addr} {fd:FuncData} (F:cm K "law" "law" tD f fd) (base:Heap) (Bm:BMain mg base) :
  aO P w K mg base (c5 P w) 11 f fd ["_law_script"] (dI K (zf [gP])):=by
 have Ij:=xS.eX (P:=P) (w:=w) (base:=base) (fun _ _ F=>DK F Z) fun _ _ _ _ _ _=>jK fun _ _=>rfl
 have eu:=pM.CI (P:=P) (w:=w) (base:=base) (fun _ _ F=>BI F Z.toCd) fun _ _ _ _ _ _=>jK fun _ _=>rfl
 have vO:=wu eu
 have iz:=pO.CI (P:=P) (w:=w) (base:=base) (fun _ _ F=>BJ F Z.toCd) fun _ _ _ _ _ _=>jK fun _ _=>rfl
 have Cu:=wx iz
 have bY:=lD.CI (P:=P) (w:=w) (base:=base) (fun _ _ F=>wJ F Z.toCd iz) fun _ _ _ _ _ _=>jK fun _ _=>rfl
 have x6:=rQ bY
 have l8:=Cp.CI (P:=P) (w:=w) (base:=base) (fun _ _ F=>Jm F Z.toCd) fun _ _ _ _ _ _=>jK fun _ _=>rfl
 have zu:=Dt l8
 have d7:=xV.CI (P:=P) (w:=w) (base:=base) (fun _ _ F=>F0 F Z.toCd) fun _ _ _ _ _ _=>jK fun _ _=>rfl
 have nt:=By d7
 have xR:=xX.CI (P:=P) (w:=w) (base:=base) (fun _ _ F=>F1 F Z.toCd bY) fun _ _ _ _ _ _=>jK fun _ _=>rfl
 have l9:=tT.CI (P:=P) (w:=w) (base:=base) (fun _ _ F=>DH F Z.toCd bY) fun _ _ _ _ _ _=>jK fun _ _=>rfl
 have tQ:=tX.CI (P:=P) (w:=w) (base:=base) (fun _ _ F=>DJ F Z.toCd bY) fun _ _ _ _ _ _=>jK fun _ _=>rfl
 have Im:=Bz xR
 have zw:=yw l9
 have Fj:=yy tQ
 have jR:=gL.CI (P:=P) (w:=w) (base:=base) (fun _ _ _ F=>uA F Z.toCd Bm iF mq) fun _ _ _ _ _ _=>zB fun _=>rfl
 have vQ:=qv jR
 have tO:=tU.CI (P:=P) (w:=w) (base:=base) (fun _ _ F=>DI F Z.toCd eu) fun _ _ _ _ _ _=>jK fun _ _=>rfl
 have Fh:=yx tO
 have lH:=lG.eX (P:=P) (w:=w) (base:=base) (fun _ _ F=>uD F Z Im zw Fj) fun _ _ _ _ _ _=>jK fun _ _=>rfl
 have A_:=nh.eX (P:=P) (w:=w) (base:=base) (fun _ _ F=>wK F Z nt) fun _ _ _ _ _ _=>jK fun _ _=>rfl
 have rF:=g_.eX (P:=P) (w:=w) (base:=base) (fun _ _ F=>oP F Z lH nt) fun _ _ _ _ _ _=>Oy fun _ _ _ _ _=>rfl
 have x8:=lE.eX (P:=P) (w:=w) (base:=base) (fun _ _ F=>uB F Z rF) fun _ _ _ _ _ _=>jK fun _ _=>rfl
 have Cw:=fH.NM (P:=P) (w:=w) (base:=base) bt (fun _ _ F=>wG F bt aR bM) fun _ _ _ _ _ _=>Kl fun _ _ _ _=>rfl
 have fe:=jT.qx (P:=P) (w:=w) (base:=base) (mg:=mg) bt.cl (fun _ _ F=>wI F Z bt aR lH) fun _ _ _ _ _ _=>G_ fun _ _ _=>rfl
 have j5:=i8.qx (P:=P) (w:=w) (base:=base) (mg:=mg) bt.cl (fun _ _ F=>uy F Z bt bM) fun _ _ _ _ _ _=>jK fun _ _=>rfl
 have lR:=jS.qx (P:=P) (w:=w) (base:=base) (mg:=mg) bt.cl (fun _ _ F=>wH F Z bt aR) fun _ _ _ _ _ _=>zB fun _=>rfl
 have j6:=i9.qx (P:=P) (w:=w) (base:=base) (mg:=mg) bt.cl (fun _ _ F=>uz F Z bt aR bM nt) fun _ _ _ _ _ _=>jK fun _ _=>rfl
 have jt:=il.qx (P:=P) (w:=w) (base:=base) (mg:=mg) bt.cl (fun _ _ F=>sf F Z bt aR gj j6 A_) fun _ _ _ _ _ _=>jK fun _ _=>rfl
 have x_:=eZ.NM (P:=P) (w:=w) (base:=base) ax (fun _ _ F=>uv F (cL:=gm) N ax aA aK aB) fun _ _ _ _ _ _=>zB fun _=>rfl
 have a7:=c8.qx (P:=P) (w:=w) (base:=base) (mg:=mg) ax.cl (fun _ _ F=>jO F Z (cL:=gm) ax aB eg) fun _ _ _ _ _ _=>jK fun _ _=>rfl
 have bJ:=gg.qx (P:=P) (w:=w) (base:=base) (mg:=mg) ax.cl (fun _ _ F=>qy F Z ax aK aA a7 jt) fun _ _ _ _ _ _=>jK fun _ _=>rfl
 have bA:=gi.qx (P:=P) (w:=w) (base:=base) (mg:=mg) ax.cl (fun _ _ F=>qA F Z ax aB aA bJ x8) fun _ _ _ _ _ _=>zB fun _=>rfl
 have j3:=i6.qx (P:=P) (w:=w) (base:=base) (mg:=mg) ax.cl (fun _ _ F=>uw F Z ax aB aA aK gr eh qd iB fv ma pV vQ Cw bA) fun _ _ _ _ _ _=>Kl fun _ _ _ _=>rfl
 have jl:=ib.qx (P:=P) (w:=w) (base:=base) (mg:=mg) ax.cl (fun _ _ F=>rZ F Z (cL:=gm) ax aA) fun _ _ _ _ _ _=>zB fun _=>rfl
 have jq:=ik.qx (P:=P) (w:=w) (base:=base) (mg:=mg) ax.cl (fun _ _ F=>se F Z (cL:=gm) ax aB) fun _ _ _ _ _ _=>zB fun _=>rfl
 have iq:=gh.qx (P:=P) (w:=w) (base:=base) (mg:=mg) ax.cl (fun _ _ F=>qz F Z (cL:=gm) ax aK eg) fun _ _ _ _ _ _=>jK fun _ _=>rfl
 have eI:=fG.qx (P:=P) (w:=w) (base:=base) (mg:=mg) ax.cl (fun _ _ F=>oN F Z ax iq lR) fun _ _ _ _ _ _=>jK fun _ _=>rfl
 have rG:=hE.eX (P:=P) (w:=w) (base:=base) (fun _ _ F=>oQ F Z nt) fun _ _ _ _ _ _=>jK fun _ _=>rfl
 have kB:=eD.NM (P:=P) (w:=w) (base:=base) bC (fun _ _ F=>rV F bC aT) fun _ _ _ _ _ _=>zB fun _=>rfl
 have ji:=hX.qx (P:=P) (w:=w) (base:=base) (mg:=mg) bC.cl (fun _ _ F=>rT F Z bC aT) fun _ _ _ _ _ _=>G_ fun _ _ _=>rfl
 have er:=i5.qx (P:=P) (w:=w) (base:=base) (mg:=mg) bC.cl (fun _ _ F=>uu F Z bC aT ji rG) fun _ _ _ _ _ _=>Kl fun _ _ _ _=>rfl
 have dw:=hZ.qx (P:=P) (w:=w) (base:=base) (mg:=mg) bC.cl (fun _ _ F=>rW F Z bC aT) fun _ _ _ _ _ _=>zB fun _=>rfl
 have Bb:=nj.eX (P:=P) (w:=w) (base:=base) (fun _ _ F=>wM F Z N lH zw x6) fun _ _ _ _ _ _=>jK fun _ _=>rfl
 have dz:=ij.qx (P:=P) (w:=w) (base:=base) (mg:=mg) ax.cl (fun _ _ F=>sd F Z ax aA bJ Bb nt) fun _ _ _ _ _ _=>G_ fun _ _ _=>rfl
 have l_:=eA.eX (P:=P) (w:=w) (base:=base) (fun _ _ F=>k_ F Z Cu) fun _ _ _ _ _ _=>zB fun _=>rfl
 have rE:=g9.eX (P:=P) (w:=w) (base:=base) (fun _ _ F=>oO F Z jY jZ l_) fun _ _ _ _ _ _=>zB fun _=>rfl
 have bN:=e8.qx (P:=P) (w:=w) (base:=base) (mg:=mg) ax.cl (fun _ _ F=>nS F Z ax aA aB fu pW rE nt kB dz er dw) fun _ _ _ _ _ _=>jK fun _ _=>rfl
 have dy:=ie.qx (P:=P) (w:=w) (base:=base) (mg:=mg) ax.cl (fun _ _ F=>r8 F Z ax aA bN bA) fun _ _ _ _ _ _=>jK fun _ _=>rfl
 have jk:=ia.qx (P:=P) (w:=w) (base:=base) (mg:=mg) ax.cl (fun _ _ F=>rY F Z ax aB kB dz er dw) fun _ _ _ _ _ _=>zB fun _=>rfl
 have j4:=i7.qx (P:=P) (w:=w) (base:=base) (mg:=mg) ax.cl (fun _ _ F=>ux F Z ax aK aA eh fv a7 fe bA) fun _ _ _ _ _ _=>G_ fun _ _ _=>rfl
 have jj:=h_.qx (P:=P) (w:=w) (base:=base) (mg:=mg) ax.cl (fun _ _ F=>rX F Z ax aB aK aA bJ fe bA) fun _ _ _ _ _ _=>zB fun _=>rfl
 have jm:=ig.qx (P:=P) (w:=w) (base:=base) (mg:=mg) ax.cl (fun _ _ F=>r_ F Z ax aK aA aB a7 j5) fun _ _ _ _ _ _=>jK fun _ _=>rfl
 have zy:=tY.eX (P:=P) (w:=w) (base:=base) (fun _ _ F=>BO F Z) fun _ _ _ _ _ _=>zB fun _=>rfl
 have x9:=xW.eX (P:=P) (w:=w) (base:=base) (fun _ _ F=>DN F Z zy) fun _ _ _ _ _ _=>jK fun _ _=>rfl
 have Fl:=tZ.eX (P:=P) (w:=w) (base:=base) (fun _ _ F=>BP F Z) fun _ _ _ _ _ _=>jK fun _ _=>rfl
 have Ba:=ni.eX (P:=P) (w:=w) (base:=base) (fun _ _ F=>wL F Z zy x9) fun _ _ _ _ _ _=>jK fun _ _=>rfl
 have Bc:=nk.eX (P:=P) (w:=w) (base:=base) (fun _ _ F=>wN F Z x9) fun _ _ _ _ _ _=>jK fun _ _=>rfl
 have pS:=lF.eX (P:=P) (w:=w) (base:=base) (fun _ _ F=>uC F Z Bc) fun _ _ _ _ _ _=>jK fun _ _=>rfl
 have Ct:=pN.eX (P:=P) (w:=w) (base:=base) (fun _ _ F=>yJ F Z) fun _ _ _ _ _ _=>jK fun _ _=>rfl
 have Fi:=tW.eX (P:=P) (w:=w) (base:=base) (fun _ _ F=>BN F Z) fun _ _ _ _ _ _=>jK fun _ _=>rfl
 have Ff:=Ih.eX (P:=P) (w:=w) (base:=base) (fun _ _ F=>Jn F Z zu) fun _ _ _ _ _ _=>jK fun _ _=>rfl
 have zt:=tS.eX (P:=P) (w:=w) (base:=base) (fun _ _ F=>BL F Z zu) fun _ _ _ _ _ _=>Kl fun _ _ _ _=>rfl
 have pR:=pL.eX (P:=P) (w:=w) (base:=base) (fun _ _ F=>yI F Z) fun _ _ _ _ _ _=>jK fun _ _=>rfl
 have zx:=tV.eX (P:=P) (w:=w) (base:=base) (fun _ _ F=>BM F Z Ff pR) fun _ _ _ _ _ _=>jK fun _ _=>rfl
 have Be:=nq.eX (P:=P) (w:=w) (base:=base) (fun _ _ F=>wO F Z zx Ff zu pR) fun _ _ _ _ _ _=>jK fun _ _=>rfl
 have Cv:=pP.eX (P:=P) (w:=w) (base:=base) (fun _ _ F=>yK F Z x9 Fl zx pS Be jl jq jk) fun _ _ _ _ _ _=>G_ fun _ _ _=>rfl
 have Kx:=Co.eX (P:=P) (w:=w) (base:=base) (fun _ _ F=>F2 F Z Ff zu pR) fun _ _ _ _ _ _=>G_ fun _ _ _=>rfl
 have Fe:=tR.eX (P:=P) (w:=w) (base:=base) (fun _ _ F=>BK F Z Ff) fun _ _ _ _ _ _=>G_ fun _ _ _=>rfl
 have Il:=xU.eX (P:=P) (w:=w) (base:=base) (fun _ _ F=>DM F Z j3 jm j4 jj dy) fun _ _ _ _ _ _=>jK fun _ _=>rfl
 have Ik:=xT.eX (P:=P) (w:=w) (base:=base) (fun _ _ F=>DL F Z Ct Fi zt) fun _ _ _ _ _ _=>O5 fun _ _ _ _ _ _=>rfl
 have Io:=xY.eX (P:=P) (w:=w) (base:=base) (fun _ _ F=>DO F Z vO Ik Il Fe) fun _ _ _ _ _ _=>Kl fun _ _ _ _=>rfl
 exact F3 F Z Ij vO Fh Io x_ zt Kx pS Ba Cv bN dy eI
end Ov
namespace PySem.W.Fast
def tw9471074210226060004:=Nat
def tw11725688926906540828:=Nat
def tw3731823594699684566:=Nat
def tw9475872860935555499:=Nat
def tw17082914726998916333:=Nat
def tw521382266582138977:=Nat
def tw8191133103031230523:=Nat
def tw283264613411833029:=Nat
def tw326213351020497202:=Nat
def tw11135540610984115048:=Nat
def tw12625682480206293178:=Nat
def tw5744910613813893439:=Nat
def tw17029374229720842397:=Nat
def tw8601399825518296104:=Nat
def tw18227849902346337566:=Nat
def tw16867845505199304349:=Nat
def tw14072520499100639635:=Nat
def tw4845574694240805978:=Nat
def tw10531370849705776490:=Nat
def tw5814500882982289370:=Nat
def tw16424493864907261869:=Nat
def tw7734640966461330801:=Nat
def tw5387308322970933067:=Nat
def tw15773534606622695409:=Nat
def tw12469393819427733493:=Nat
def tw2133994004123448015:=Nat
def tw18207556480811010851:=Nat
def tw15469527019609212519:=Nat
def tw11934080676129473196:=Nat
def tw2510519017298602906:=Nat
def tw9332784879272112045:=Nat
def tw552641236789875509:=Nat
def tw5518821397063459411:=Nat
def tw11987161925319135051:=Nat
def tw1991669114770648348:=Nat
def tw13381733993940811726:=Nat
def tw8773708589885045849:=Nat
def tw18134774297397265846:=Nat
def tw15505318347151927635:=Nat
def tw16301420645410122901:=Nat
def tw15143006086675511932:=Nat
def tw631697516641940421:=Nat
def tw14468605508518887803:=Nat
def tw7392172820654805359:=Nat
def tw2310475425944835009:=Nat
def tw11363226726929991719:=Nat
def tw12783284922652231118:=Nat
def tw11902685804981083261:=Nat
def tw17976148062104897299:=Nat
def tw2057982901401982908:=Nat
def tw15841043225442663394:=Nat
def tw8201092542694028983:=Nat
def tw12107399773066962167:=Nat
def tw1200353105766996028:=Nat
def tw9756734059482497119:=Nat
def tw1102559533620232349:=Nat
def tw13518334029143579554:=Nat
def tw2886094607962789590:=Nat
def tw870808306206720419:=Nat
def tw1347854260887974435:=Nat
def tw6718068285633806238:=Nat
def tw8546552594244218349:=Nat
def tw8521620798730030626:=Nat
def tw12320326687687941499:=Nat
def tw8747553484669772155:=Nat
def tw8738036150356634490:=Nat
def tw2942904675917585619:=Nat
def tw7847459376829696799:=Nat
def tw11272223912746230303:=Nat
def tw9070208136922403314:=Nat
def tw1510575710469633413:=Nat
def tw3463513022028760023:=Nat
def tw394354552840664071:=Nat
def tw13552851219474490722:=Nat
def tw16011158306602349813:=Nat
def tw14556469571961612768:=Nat
def tw11409318926765535389:=Nat
def tw12680959998310524337:=Nat
def tw5977590575551074270:=Nat
def tw145615910345104737:=Nat
def tw9714277485337634461:=Nat
def tw5672401238543583633:=Nat
def tw17752634487398731693:=Nat
def tw14478481390914901972:=Nat
def tw5513786709880219238:=Nat
def tw5492354441588194796:=Nat
def tw6953378028641098956:=Nat
def tw1164828693122366184:=Nat
def tw1803842118976448392:=Nat
def tw6926683910685699655:=Nat
def tw5172687187070337409:=Nat
def tw14356836297121146587:=Nat
def tw5376138882229913732:=Nat
def tw2377676853497153686:=Nat
def tw2386697421832199891:=Nat
def tw245929102318097509:=Nat
def tw17013481960993063521:=Nat
def tw3211160321653838312:=Nat
def tw12006283569191460567:=Nat
def tw693785744006052025:=Nat
def tw9477038672858696099:=Nat
def tw3895213231228288302:=Nat
def tw6028785845396585137:=Nat
def tw5268097749651383497:=Nat
def tw4430648407408638170:=Nat
def tw5608886992391571020:=Nat
def tw8718578296015112895:=Nat
def tw8310411475229739720:=Nat
def tw16569639692639637130:=Nat
def tw8515905228100939192:=Nat
def tw14284397026864610198:=Nat
def tw12553781991538552433:=Nat
def tw392232679066282568:=Nat
def tw6664609657075351944:=Nat
def tw2284043376176690399:=Nat
def tw17721775555502352571:=Nat
def tw14960684555005160243:=Nat
def tw16400794528891662697:=Nat
def tw6237649935469818658:=Nat
def tw12576479129414424474:=Nat
def tw8079261920616342970:=Nat
def tw12132874770088392891:=Nat
def tw9399983253827645366:=Nat
def tw9242572069136393165:=Nat
def tw4389268775523050241:=Nat
def tw16354446646764423717:=Nat
def tw5278634293066993764:=Nat
def tw8129573581006349233:=Nat
def tw13709809410257619356:=Nat
def tw9581917806769393087:=Nat
def tw11429156305179735628:=Nat
def tw6839169562718815521:=Nat
def tw12865139630613374416:=Nat
def tw3580447559573940370:=Nat
def tw17827247786868129917:=Nat
def tw1702500074712453169:=Nat
def tw8482238371357373080:=Nat
def tw18173489963494090148:=Nat
def tw10563092268998210944:=Nat
def tw1615797328282663857:=Nat
def tw12170242690575717700:=Nat
def tw10570041680470167447:=Nat
def tw13145188378531128932:=Nat
def tw8046399701634290928:=Nat
def tw5213786274419353136:=Nat
def tw6103941414988593575:=Nat
def tw18318840642059823008:=Nat
def tw9824709016722163053:=Nat
def tw12433220124972666452:=Nat
def tw13551330115205929048:=Nat
def tw2049476724102006769:=Nat
def tw17548884569672292648:=Nat
def tw2506327725723241888:=Nat
def tw4481024280754186821:=Nat
def tw15691412024440486706:=Nat
def tw14013294348354961565:=Nat
def tw6470757159296073796:=Nat
def tw10852376564311640280:=Nat
def tw6477196934718220096:=Nat
def tw15203191956202180931:=Nat
def tw17089582104709559307:=Nat
def tw15939634877808797439:=Nat
def tw3768983145284685841:=Nat
def tw7055683781687986056:=Nat
def tw12622722404667116102:=Nat
def tw8578172778350406780:=Nat
def tw10836029463132060961:=Nat
def tw2472146634606693336:=Nat
def tw5346611876382630006:=Nat
def tw18431880760265518164:=Nat
def tw3314582182047222174:=Nat
def tw8080024503543499614:=Nat
def tw11258187126298439260:=Nat
def tw16370664510415888912:=Nat
def tw6083823668312245698:=Nat
def tw17384401092108508240:=Nat
def tw9878726363932329739:=Nat
def tw7732646786548701:=Nat
def tw6016130510053371939:=Nat
def tw4299876395297250482:=Nat
def tw3594272933438960024:=Nat
def tw6048529760906286510:=Nat
def tw1317093039970204422:=Nat
def tw7166598572527947842:=Nat
def tw16783645341389602878:=Nat
def tw627651323126156582:=Nat
def tw13095951119124010064:=Nat
def tw3259935807815611061:=Nat
def tw17087652313272394749:=Nat
def tw751337489291201759:=Nat
def tw10145505794170026480:=Nat
def tw17342365152429425386:=Nat
def tw15990071060908542547:=Nat
def tw10359701693035085319:=Nat
def tw11483342705083742976:=Nat
def tw12531293976598559274:=Nat
def tw16522356315035064805:=Nat
def tw13614310909284484328:=Nat
def tw10794826870380277242:=Nat
def tw250587430186693212:=Nat
def tw12659629678133623162:=Nat
def tw16525285467030294030:=Nat
def tw14307793550206382522:=Nat
def tw6912662505491575120:=Nat
def tw13545025873077784091:=Nat
def tw1042418321391509794:=Nat
def tw14567132097806701563:=Nat
def tw791437355345494422:=Nat
def tw347383135832053585:=Nat
def tw3889652935495898024:=Nat
def tw283202969306269966:=Nat
def tw11331876708282330620:=Nat
def tw10505325215016473020:=Nat
def tw15793363398844392797:=Nat
def tw13749346366959451478:=Nat
def tw5711664391941849328:=Nat
def tw811010908898342401:=Nat
def tw16528769576021380039:=Nat
def tw10051250962228094049:=Nat
def tw561742407644875658:=Nat
def tw7419634844588629165:=Nat
def tw3728660904123281425:=Nat
def tw15910049632552761425:=Nat
def tw3223428646980334016:=Nat
def tw1500393804955489444:=Nat
def tw4058368083051710688:=Nat
def tw16752102746589813030:=Nat
def tw6606666009885911276:=Nat
def tw13851170010430645793:=Nat
def tw8491280300028431427:=Nat
def tw7597478040491507417:=Nat
def tw17247602759660137839:=Nat
def tw17690011074270716116:=Nat
def tw11010933422358532072:=Nat
def tw1096518692890348428:=Nat
def tw14922896552382133519:=Nat
def tw17882277303150326367:=Nat
def tw6208804818814207108:=Nat
def tw16652108061104310146:=Nat
def tw5977040736001704414:=Nat
def tw2373269541319529624:=Nat
def tw16557725007249930440:=Nat
def tw9996815751978931273:=Nat
def tw907492929891447965:=Nat
def tw6862972839845353332:=Nat
def tw5758864212783403167:=Nat
def tw17104326317953369241:=Nat
def tw16113712725641699303:=Nat
def tw11406487384113170589:=Nat
def tw15302910945369596490:=Nat
def tw13796566577389010101:=Nat
def tw17268251500946326076:=Nat
def tw14316839334251153957:=Nat
def tw13857520646539383567:=Nat
def tw11919828020404400311:=Nat
def tw3279128034467469088:=Nat
def tw4668757661060738306:=Nat
def tw10994754026767449968:=Nat
def tw6652257667187763274:=Nat
def tw13698619804237163700:=Nat
def tw14028976984818723887:=Nat
def tw8833698584690876354:=Nat
def tw8488402195481330417:=Nat
def tw7229420103509082590:=Nat
def tw14078542368400377728:=Nat
def tw6228936691907580734:=Nat
def tw17668459864385523504:=Nat
def tw8479060596469260898:=Nat
def tw4870723083629592552:=Nat
def tw16952066189655877963:=Nat
def tw4770006107853483112:=Nat
def tw12553089735398846953:=Nat
def tw15414445675357834695:=Nat
def tw9575671240375769647:=Nat
def tw3678401792722822856:=Nat
def tw3809339374614328172:=Nat
def tw17191846670711403561:=Nat
def tw16984283262512936867:=Nat
def tw14119961722494769243:=Nat
def tw9679853867113930236:=Nat
def tw10563921373942311961:=Nat
def tw8926853226072522914:=Nat
def tw7000278721783958777:=Nat
def tw17803354484964202773:=Nat
def tw16261777404808536478:=Nat
def tw12929786205862983916:=Nat
def tw5925962868879416527:=Nat
def tw5593169064789300887:=Nat
def tw11342665201648950466:=Nat
def tw3969093225855704197:=Nat
def tw10232552494810449921:=Nat
def tw4644781333619678632:=Nat
def tw9327512407125713797:=Nat
def tw8334390658626390146:=Nat
def tw6550683721399978082:=Nat
def tw2583864535749281061:=Nat
def tw10301759837638713528:=Nat
def tw7838612134377962904:=Nat
def tw17166141247640137532:=Nat
def tw15746901626267602273:=Nat
def tw13304436608438972753:=Nat
def tw11357578084031866466:=Nat
def tw1940460665128549852:=Nat
def tw9083431231505475055:=Nat
def tw8858533745618290719:=Nat
def tw812107116498660053:=Nat
def tw6601480656637022790:=Nat
def tw4672705245993687544:=Nat
def tw3738015175008493390:=Nat
def tw17137288171727808149:=Nat
def tw15997163354580445116:=Nat
def tw1148670445274327965:=Nat
def tw16331979803880194725:=Nat
def tw12071776222085968512:=Nat
def tw11202924958117908262:=Nat
def tw10086974237337369422:=Nat
def tw13948853562033590676:=Nat
def tw2833433890177829520:=Nat
def tw1797795201432754769:=Nat
def tw17094022836760851882:=Nat
def tw12841603932301956111:=Nat
def tw11117648503641419638:=Nat
def tw10088792913383732477:=Nat
def tw7098029925401514636:=Nat
def tw3419784395818604628:=Nat
def tw3236539874785573944:=Nat
def tw10988694303388709640:=Nat
def tw8553764264027539577:=Nat
def tw7145676702360851943:=Nat
def tw17399980223373378321:=Nat
def tw6208256474280969312:=Nat
def tw10636177395496120413:=Nat
def tw16572031805078631902:=Nat
def tw12997451154132685642:=Nat
def tw12209501134833291620:=Nat
def tw18393563437161628862:=Nat
def tw5443068411112166941:=Nat
def tw8644522768338203470:=Nat
def tw2396739942828241464:=Nat
def tw10233900951699630548:=Nat
def tw2554005599039753289:=Nat
def tw14345167931428263071:=Nat
def tw6694165076498747601:=Nat
def tw8437262816559332338:=Nat
def tw1684352677060794663:=Nat
def tw12787630272800691827:=Nat
def tw3502578656332568046:=Nat
def tw15019219280810597815:=Nat
def tw12592500838277538011:=Nat
def tw6606796389025789785:=Nat
def tw2808958046118204667:=Nat
def tw10756580660514757403:=Nat
def tw1501968189357690068:=Nat
def tw10122890736208350897:=Nat
def tw15143354502776986896:=Nat
def tw8000125162968737823:=Nat
def tw3482915784184627670:=Nat
def tw7375978078720138611:=Nat
def tw8809021174017035432:=Nat
def tw2024343956925008957:=Nat
def tw15009370196183490939:=Nat
def tw11767869947454775527:=Nat
def tw8712992310516468871:=Nat
def tw5422352789696157043:=Nat
def tw15047287279781597703:=Nat
def tw11250654496451186732:=Nat
def tw5919431640456148334:=Nat
def tw6287570743960921649:=Nat
def tw17875575099496262078:=Nat
def tw1495410234838272334:=Nat
def tw12562035628061416444:=Nat
def tw2168154621095142158:=Nat
def tw15255865562003290904:=Nat
def tw12023537598680015068:=Nat
def tw4913390536892832479:=Nat
def tw161059139807228648:=Nat
def tw3362923170038555371:=Nat
def tw5195875380928718505:=Nat
def tw1051757156708626275:=Nat
def tw2225212371480783838:=Nat
def tw17653117862407765078:=Nat
def tw12323212513430890973:=Nat
def tw3222476224494137885:=Nat
def tw13347043287183307315:=Nat
def tw13246611055486306302:=Nat
def tw17435318723304391523:=Nat
def tw2239527786223566425:=Nat
def tw3156760314914651735:=Nat
def tw16521121643037177367:=Nat
def tw11970858482209762925:=Nat
def tw2403600606259223614:=Nat
def tw9754455447294538889:=Nat
def tw15535501079483753498:=Nat
def tw11885866643664506492:=Nat
def tw6453221764782804006:=Nat
def tw3689643243062424366:=Nat
def tw15343558226651936386:=Nat
def tw11440100457254385538:=Nat
def tw1804998335819236355:=Nat
def tw5895708224329336713:=Nat
def tw2401516710169115011:=Nat
def tw16491863096480631899:=Nat
def tw18003904674431072721:=Nat
def tw6332577931280824912:=Nat
def tw7152991822317871628:=Nat
def tw17741628613096223766:=Nat
def tw9731841639251524406:=Nat
def tw2991164082495586946:=Nat
def tw3959949232128945844:=Nat
def tw4685575787876407151:=Nat
def tw4103544164408971645:=Nat
def tw5694454828950433023:=Nat
def tw9439753737951071025:=Nat
def tw5234374894319633082:=Nat
def tw1911965858639634806:=Nat
def tw18232433589965031020:=Nat
def tw16470361334094961707:=Nat
def tw13360539347770099624:=Nat
def tw4344672209285708880:=Nat
def tw17227954322093781148:=Nat
def tw16675453731465559812:=Nat
def tw175049377523217157:=Nat
def tw8564649332599158088:=Nat
def tw4486963540956190641:=Nat
def tw16589791980487225656:=Nat
def tw13300466644947584655:=Nat
def tw14698417818016866668:=Nat
def tw7790087858510940996:=Nat
def tw5337334416505675514:=Nat
def tw13931433954955792184:=Nat
def tw2276440253932342993:=Nat
def tw16844084478892852665:=Nat
def tw12523651267369828251:=Nat
def tw14281517554023685529:=Nat
def tw2036194884038834985:=Nat
def tw18297401640795061833:=Nat
def tw16351774273729493362:=Nat
def tw17283833613702576429:=Nat
def tw17010792278906138382:=Nat
def tw16788169292271526079:=Nat
def tw1411424251965482098:=Nat
def tw10492606707949508310:=Nat
def tw9420565091555150816:=Nat
def tw6476169172317598928:=Nat
def tw5579708186435363543:=Nat
def tw4253015115740243497:=Nat
def tw182205627149142960:=Nat
def tw17493676042748579991:=Nat
def tw16606325795152207268:=Nat
def tw12684943306292717015:=Nat
def tw10172214735938509390:=Nat
def tw4853652435962759282:=Nat
def tw13253467343105135318:=Nat
def tw6511073448301085468:=Nat
def tw4510338675984138942:=Nat
def tw17111992996541101112:=Nat
def tw7723431266450733489:=Nat
def tw7350800687957056714:=Nat
def tw5401342339221555085:=Nat
def tw13864592606899352715:=Nat
def tw8193725630521274784:=Nat
def tw5497806686135211509:=Nat
def tw5325097450369479307:=Nat
def tw3500065684237012393:=Nat
def tw17985900831361132761:=Nat
def tw17749383393462774937:=Nat
def tw16647749087525671839:=Nat
def tw16603316027905657771:=Nat
def tw16390256171940932801:=Nat
def tw15575222088551071766:=Nat
def tw13967442726183509972:=Nat
def tw5973254588368269392:=Nat
def tw12039944487215578998:=Nat
def tw7942878297640498207:=Nat
def tw2207074105008176594:=Nat
def tw17079379928559490892:=Nat
def tw12468898459661663783:=Nat
def tw18331307230042320156:=Nat
def tw4490540267013945958:=Nat
def tw11443914073783257393:=Nat
def tw8597303589769287426:=Nat
def tw7483341021175882849:=Nat
def tw5505109325702709027:=Nat
def tw461740112046846789:=Nat
def tw2561831978056896201:=Nat
def tw18019457270272717410:=Nat
def tw17532062844970762759:=Nat
def tw1580438600164571680:=Nat
def tw15747400391713730119:=Nat
def tw1529782434008560534:=Nat
def tw14223231392898214674:=Nat
def tw13384436247948301229:=Nat
def tw1272453009291964845:=Nat
def tw12154196665526701750:=Nat
def tw10641421870456422963:=Nat
def tw10286522102063630926:=Nat
def tw10144559215309110755:=Nat
def tw4652397493825219584:=Nat
def tw1024221551094462280:=Nat
def tw11866718544541643178:=Nat
def tw8189729919781265175:=Nat
def tw7548219573426046691:=Nat
def tw6970364965134296268:=Nat
def tw4162070930305388489:=Nat
def tw4132834928389713239:=Nat
def tw2407729234773583118:=Nat
def tw2330686638801688288:=Nat
def tw2260144742400694462:=Nat
def tw17614829491321778513:=Nat
def tw17283534837683455132:=Nat
def tw15930542121993815865:=Nat
def tw1530582560603920118:=Nat
def tw14952239222589753248:=Nat
def tw9667853606426880022:=Nat
def tw8078704798104365265:=Nat
def tw6611886057807247323:=Nat
def tw4826533793073761149:=Nat
def tw4446556940489005900:=Nat
def tw4412820787907056:=Nat
def tw3991820965530698743:=Nat
def tw3927747366751273835:=Nat
def tw3335246840147192660:=Nat
def tw1960841668150769241:=Nat
def tw17915429448807533388:=Nat
def tw13667869787417005:=Nat
def tw2513780918854950812:=Nat
def tw1995969854973967697:=Nat
def tw7394797813864547415:=Nat
def tw6052889734914879625:=Nat
def tw5475430738184029572:=Nat
def tw4463699103312707189:=Nat
def tw2469893859010559737:=Nat
def tw14514419865233466045:=Nat
def tw12141053751113776462:=Nat
def tw11448213964402814057:=Nat
def tw9882689176792174142:=Nat
def tw9845534634519568174:=Nat
def tw9421155901041470755:=Nat
def tw8819266413134537780:=Nat
def tw7898865691724038247:=Nat
def tw2617935966667901146:=Nat
def tw1980421234954166962:=Nat
def tw1865851279616957816:=Nat
def tw17747313375113719929:=Nat
def tw1258200620800038577:=Nat
def tw12354224555750527723:=Nat
def tw10245092755786457612:=Nat
def tw9992374311870110279:=Nat
def tw991192351512257750:=Nat
def tw9803072596733870401:=Nat
def tw9577227044599186183:=Nat
def tw9546912485556965502:=Nat
def tw9539767650048237458:=Nat
def tw9298405895247369727:=Nat
def tw9213851263771965316:=Nat
def tw9210576190061727113:=Nat
def tw9136254969790118194:=Nat
def tw9052857007795031634:=Nat
def tw8925521333946292155:=Nat
def tw8850513729744886325:=Nat
def tw8764327561230451971:=Nat
def tw8755227535729322267:=Nat
def tw8746520203130220217:=Nat
def tw8655348663627827125:=Nat
def tw8501331888142232110:=Nat
def tw8357344616304237917:=Nat
def tw8348898811404490282:=Nat
def tw8331839882947127633:=Nat
def tw8297171271090052102:=Nat
def tw8207324422817473554:=Nat
def tw8134105480521262300:=Nat
def tw8072610275540834799:=Nat
def tw7888389669695058512:=Nat
def tw7596923353662917297:=Nat
def tw7596896351494893507:=Nat
def tw753072095963362057:=Nat
def tw752064463493264790:=Nat
def tw7369123532188693925:=Nat
def tw7358263766582980729:=Nat
def tw734207178665600827:=Nat
def tw7319831417693267305:=Nat
def tw714921546070422919:=Nat
def tw714409977962863922:=Nat
def tw7055971185272383803:=Nat
def tw7012587877823120517:=Nat
def tw6979596677064415279:=Nat
def tw6840681541502091508:=Nat
def tw6785366474325008404:=Nat
def tw6679715188293241285:=Nat
def tw6536200245661349730:=Nat
def tw6528555032717463708:=Nat
def tw630105770723101231:=Nat
def tw6268965829607339002:=Nat
def tw5997223050365396200:=Nat
def tw5836773102164061009:=Nat
def tw5737066240478650597:=Nat
def tw5701722002971583720:=Nat
def tw5615800465039785754:=Nat
def tw5596734694660659831:=Nat
def tw5450151622704448123:=Nat
def tw5405839340383539177:=Nat
def tw528389855740600751:=Nat
def tw5119515785691792606:=Nat
def tw4959666934956645831:=Nat
def tw4906490533926370437:=Nat
def tw4830351881671553008:=Nat
def tw475120251697189912:=Nat
def tw4730814325908439875:=Nat
def tw4664863068326529352:=Nat
def tw4550468631723062426:=Nat
def tw4336535943993956732:=Nat
def tw4273525971018516441:=Nat
def tw4201962229112643767:=Nat
def tw4188665814906228539:=Nat
def tw404899157228181693:=Nat
def tw3923977650783615383:=Nat
def tw3878195888733644479:=Nat
def tw386758766923561725:=Nat
def tw3854501673344741957:=Nat
def tw3815717897540328366:=Nat
def tw375573262060551897:=Nat
def tw3748630369097145367:=Nat
def tw3740933089378051892:=Nat
def tw3717642748163326731:=Nat
def tw3621082788004211029:=Nat
def tw3565957566916292604:=Nat
def tw3430665549213092869:=Nat
def tw3419567848583931210:=Nat
def tw3155814646096644881:=Nat
def tw3132354970774458656:=Nat
def tw3074724660797138553:=Nat
def tw306259035589651894:=Nat
def tw2922672059710350499:=Nat
def tw2881891553530129426:=Nat
def tw2663064890265652552:=Nat
def tw2662727387775703601:=Nat
def tw2657043318412370286:=Nat
def tw2507317654553292739:=Nat
def tw2360221469593427391:=Nat
def tw2315390941378785618:=Nat
def tw2275730608916433735:=Nat
def tw224492630347596551:=Nat
def tw2223340804588603860:=Nat
def tw2175614253976738311:=Nat
def tw2067575240748864218:=Nat
def tw2050530817610177729:=Nat
def tw2010076288189047298:=Nat
def tw196935718646819876:=Nat
def tw18387315587835901318:=Nat
def tw18226628537880612180:=Nat
def tw18045996794325160597:=Nat
def tw17950941905902602697:=Nat
def tw17906047812419524152:=Nat
def tw1788409791777793765:=Nat
def tw17632851110999285382:=Nat
def tw17598030992632162459:=Nat
def tw17517837089908545950:=Nat
def tw17502681970836816090:=Nat
def tw17458706057606015875:=Nat
def tw17397847204396010898:=Nat
def tw17379781578590962543:=Nat
def tw17325462262283142063:=Nat
def tw17305090514704621481:=Nat
def tw17268617621371978558:=Nat
def tw17253734749948061993:=Nat
def tw17194806410963994419:=Nat
def tw17175673246300778949:=Nat
def tw17139872419996829233:=Nat
def tw17107829674133376862:=Nat
def tw16997686471303320891:=Nat
def tw16934684533265530871:=Nat
def tw16876128430882843339:=Nat
def tw16859916899709244861:=Nat
def tw16846316135492333779:=Nat
def tw16641053684876180781:=Nat
def tw1663534683549253626:=Nat
def tw16556174650769000374:=Nat
def tw16555081091072472708:=Nat
def tw16542465315489818135:=Nat
def tw16531216617406564313:=Nat
def tw16511169203006358125:=Nat
def tw16352516576108092981:=Nat
def tw1630152224532660811:=Nat
def tw16139330844581130665:=Nat
def tw16081621498264092956:=Nat
def tw15928324864292070963:=Nat
def tw1583186684543978966:=Nat
def tw15700897119259428697:=Nat
def tw15681851282042094389:=Nat
def tw15668690048459790610:=Nat
def tw15549677533551264720:=Nat
def tw15451134887922167724:=Nat
def tw15360046089753254406:=Nat
def tw15256783767714918988:=Nat
def tw15183817402242517500:=Nat
def tw15156267415093383974:=Nat
def tw15103424735093101873:=Nat
def tw14983938427719939149:=Nat
def tw14976771357723134687:=Nat
def tw14789386074656847403:=Nat
def tw14585880649726384207:=Nat
def tw1456254788131508804:=Nat
def tw14553539477496233615:=Nat
def tw14449765388139716840:=Nat
def tw14088757075835232487:=Nat
def tw14038493493896960596:=Nat
def tw14025552082663595843:=Nat
def tw13945246968419827532:=Nat
def tw13849846774390767512:=Nat
def tw1379198735725713733:=Nat
def tw13652547765925051:=Nat
def tw13596532821113995889:=Nat
def tw13588973505033658315:=Nat
def tw1346990833607576152:=Nat
def tw13318831380058947794:=Nat
def tw13259827171156886810:=Nat
def tw13221023390402852637:=Nat
def tw13136323592100096174:=Nat
def tw12994510885679706639:=Nat
def tw12950179015051388529:=Nat
def tw12528917884697493231:=Nat
def tw12444897123564204503:=Nat
def tw12408755804052827442:=Nat
def tw12407583965397468922:=Nat
def tw12290647603424367391:=Nat
def tw12233633350906013616:=Nat
def tw12178064130271885658:=Nat
def tw12173476900360014800:=Nat
def tw1216359402250266676:=Nat
def tw12125499058150241560:=Nat
def tw12026883800114272145:=Nat
def tw11882018972210838873:=Nat
def tw11715332447374076526:=Nat
def tw1165902668464217898:=Nat
def tw11574602269651934070:=Nat
def tw11373465033117145283:=Nat
def tw11283518372189956798:=Nat
def tw11099518221282441600:=Nat
def tw11036700176201680108:=Nat
def tw10968020582369456476:=Nat
def tw10821676003763268096:=Nat
def tw10665494361061802454:=Nat
def tw10618056168532648385:=Nat
def tw10604445892967736370:=Nat
def tw1059855287789107207:=Nat
def tw10353722980174642689:=Nat
def tw10332563800059417025:=Nat
def tw10228840436125099781:=Nat
def tw10141231945239321366:=Nat
def tw10113732409709009559:=Nat
end PySem.W.Fast
open PySem PySem.W PyProof.Rows
set_option hygiene false
local macro_rules | `(tactic| simp_arith)=>`(tactic| (dsimp only [L2.cb];refine' Ov.IE KX G ?a ?l ?c ?k;(case a=>k_is);(case l=>k_is);(case c=>k_is);(case k=>k_is)))
set_option maxRecDepth 100000 in
set_option maxHeartbeats 0 in
theorem PySem.Challenge.cw_overhaul_k27_foretold_holds : PySem.Challenge.rw_overhaul_k27_foretold.Holds := by
 w_on;o_law;k_head;(case hw=>w_witness2)
 k_fill
 refine Ov.E1 (l:=PySem.Challenge.rw_overhaul_k27_foretold) (n:=63) (k:=11) (x:="_law_script") (sp:=Ov.EA) ["good_name"] rfl (by decide) rfl ⟨rfl,by decide,by decide⟩ (fun w h Y=>PySem.W.kIn_of Y) ?Nm ?F (fun tabs K H a ns hl hT hS hA hK=>⟨a,ns,rfl,hS,hl,hT,hA,hK,fun _ e=>⟨rfl,e⟩⟩)
 case Nm=>decide +kernel
 case F =>
  intro w mg fa h KX G hmg
  have xS:Ov.Def (L2.cb KX) mg "_law_cell" Ov.u_:=by simp_arith
  have pM:Ov.Def (L2.cb KX) mg "_law_digits" Ov.mL:=by simp_arith
  have pO:Ov.Def (L2.cb KX) mg "shared" Ov.mP:=by simp_arith
  have lD:Ov.Def (L2.cb KX) mg "fraction" Ov.jA:=by simp_arith
  have Cp:Ov.Def (L2.cb KX) mg "_law_low" Ov.Ay:=by simp_arith
  have xV:Ov.Def (L2.cb KX) mg "less" Ov.vc:=by simp_arith
  have xX:Ov.Def (L2.cb KX) mg "plus" Ov.ve:=by simp_arith
  have tT:Ov.Def (L2.cb KX) mg "minus" Ov.ph:=by simp_arith
  have tX:Ov.Def (L2.cb KX) mg "times" Ov.pq:=by simp_arith
  obtain ⟨gP,gL⟩:∃ T,Ov.xZ (L2.cb KX) mg "good_name" Ov.gZ T:=by
   dsimp only [L2.cb]
   refine' ⟨_,Ov.Ft KX G ?ga ?gl ?gc ?gk ?gt ?gp ?gb ?ge ?go⟩
   (case ga=>k_is);(case gl=>k_is);(case gc=>k_is);(case gk=>k_is);(case gt=>k_is);(case gp=>rfl);(case gb=>kernel_rfl);(case ge=>decide);(case go=>kernel_rfl)
  have tU:Ov.Def (L2.cb KX) mg "_law_names" Ov.kW:=by simp_arith
  have lG:Ov.Def (L2.cb KX) mg "place_on" Ov.jE:=by simp_arith
  have nh:Ov.Def (L2.cb KX) mg "last_by" Ov.kS:=by simp_arith
  have g_:Ov.Def (L2.cb KX) mg "lies_behind" Ov.fq:=by simp_arith
  have lE:Ov.Def (L2.cb KX) mg "in_order" Ov.jB:=by simp_arith
  have hE:Ov.Def (L2.cb KX) mg "rings_ahead" Ov.ft:=by simp_arith
  have nj:Ov.Def (L2.cb KX) mg "meeting" Ov.kU:=by simp_arith
  have eA:Ov.Def (L2.cb KX) mg "in_lowest_terms" Ov.dg:=by simp_arith
  have g9:Ov.Def (L2.cb KX) mg "good_moment" Ov.fo:=by simp_arith
  have tY:Ov.Def (L2.cb KX) mg "_law_whole" Ov.pw:=by simp_arith
  have xW:Ov.Def (L2.cb KX) mg "_law_part" Ov.vd:=by simp_arith
  have tZ:Ov.Def (L2.cb KX) mg "_law_words" Ov.pz:=by simp_arith
  have ni:Ov.Def (L2.cb KX) mg "_law_legrows" Ov.kT:=by simp_arith
  have nk:Ov.Def (L2.cb KX) mg "_law_passrow" Ov.kX:=by simp_arith
  have lF:Ov.Def (L2.cb KX) mg "_law_passrows" Ov.jC:=by simp_arith
  have pN:Ov.Def (L2.cb KX) mg "_law_placed" Ov.mO:=by simp_arith
  have tW:Ov.Def (L2.cb KX) mg "_law_paced" Ov.pj:=by simp_arith
  have Ih:Ov.Def (L2.cb KX) mg "_law_at" Ov.GH:=by simp_arith
  have tS:Ov.Def (L2.cb KX) mg "_law_later" Ov.pf:=by simp_arith
  have pL:Ov.Def (L2.cb KX) mg "_law_before" Ov.mK:=by simp_arith
  have tV:Ov.Def (L2.cb KX) mg "_law_order" Ov.mM:=by simp_arith
  have nq:Ov.Def (L2.cb KX) mg "_law_ringdue" Ov.kY:=by simp_arith
  have pP:Ov.Def (L2.cb KX) mg "_law_stands" Ov.mQ:=by simp_arith
  have Co:Ov.Def (L2.cb KX) mg "_law_due" Ov.Ax:=by simp_arith
  have tR:Ov.Def (L2.cb KX) mg "_law_acted" Ov.pe:=by simp_arith
  have xU:Ov.Def (L2.cb KX) mg "_law_done" Ov.vb:=by simp_arith
  have xT:Ov.Def (L2.cb KX) mg "_law_deed" Ov.qN:=by simp_arith
  have xY:Ov.Def (L2.cb KX) mg "_law_walk" Ov.vf:=by simp_arith
  have Kw:Ov.Def (L2.cb KX) mg "law" Ov.tD:=by simp_arith
  obtain ⟨gm,bt,aR,bM,fH,jT,i8,jS,i9,il⟩:∃ C,Ov.dt (L2.cb KX) mg "Log" C∧L2.aF (L2.cb KX) C "rows"∧L2.aF (L2.cb KX) C "gone"∧Ov.bO (L2.cb KX) C "__init__" "Log.__init__" Ov.eV∧Ov.bO (L2.cb KX) C "turn" "Log.turn" Ov.jz∧Ov.bO (L2.cb KX) C "leave" "Log.leave" Ov.gX∧Ov.bO (L2.cb KX) C "legs" "Log.legs" Ov.jy∧Ov.bO (L2.cb KX) C "there" "Log.there" Ov.gY∧Ov.bO (L2.cb KX) C "leg_at" "Log.leg_at" Ov.f9:=by
   dsimp only [L2.cb]
   refine' ⟨_,Ov.ug KX G ?a ?pg ?hd ?po ?sa ?mk ?kc,?n0,?n1,Ov.bE ?m0a ?m0i ?m0l ?m0c ?m0k,Ov.bE ?m1a ?m1i ?m1l ?m1c ?m1k,Ov.bE ?m2a ?m2i ?m2l ?m2c ?m2k,Ov.bE ?m3a ?m3i ?m3l ?m3c ?m3k,Ov.bE ?m4a ?m4i ?m4l ?m4c ?m4k,Ov.bE ?m5a ?m5i ?m5l ?m5c ?m5k⟩
   (case a=>k_is);(case pg=>k_is);(case hd=>k_is);(case po=>k_is);(case sa=>k_is);(case mk=>k_is);(case kc=>k_is)
   (case n0=>(show PySem.W.findIn _ _ _=_;k_is))
   (case n1=>(show PySem.W.findIn _ _ _=_;k_is))
   (case m0a=>k_is);(case m0i=>k_is);(case m0l=>k_is);(case m0c=>k_is);(case m0k=>k_is)
   (case m1a=>k_is);(case m1i=>k_is);(case m1l=>k_is);(case m1c=>k_is);(case m1k=>k_is)
   (case m2a=>k_is);(case m2i=>k_is);(case m2l=>k_is);(case m2c=>k_is);(case m2k=>k_is)
   (case m3a=>k_is);(case m3i=>k_is);(case m3l=>k_is);(case m3c=>k_is);(case m3k=>k_is)
   (case m4a=>k_is);(case m4i=>k_is);(case m4l=>k_is);(case m4c=>k_is);(case m4k=>k_is)
   (case m5a=>k_is);(case m5i=>k_is);(case m5l=>k_is);(case m5c=>k_is);(case m5k=>k_is)
  obtain ⟨cE,ax,aA,aK,aB,eZ,c8,gg,gi,i6,ib,ik,gh,fG,ij,e8,ie,ia,i7,h_,ig⟩:∃ C,Ov.dt (L2.cb KX) mg "Lane" C∧L2.aF (L2.cb KX) C "now"∧L2.aF (L2.cb KX) C "logs"∧L2.aF (L2.cb KX) C "row"∧Ov.bO (L2.cb KX) C "__init__" "Lane.__init__" Ov.d5∧Ov.bO (L2.cb KX) C "must_be_there" "Lane.must_be_there" Ov.cA∧Ov.bO (L2.cb KX) C "leg_of" "Lane.leg_of" Ov.fk∧Ov.bO (L2.cb KX) C "settle" "Lane.settle" Ov.dX∧Ov.bO (L2.cb KX) C "join" "Lane.join" Ov.gU∧Ov.bO (L2.cb KX) C "clock" "Lane.clock" Ov.fW∧Ov.bO (L2.cb KX) C "order" "Lane.order" Ov.f7∧Ov.bO (L2.cb KX) C "log_of" "Lane.log_of" Ov.fm∧Ov.bO (L2.cb KX) C "history" "Lane.history" Ov.eS∧Ov.bO (L2.cb KX) C "meets" "Lane.meets" Ov.f6∧Ov.bO (L2.cb KX) C "foretold" "Lane.foretold" Ov.d6∧Ov.bO (L2.cb KX) C "go_to" "Lane.go_to" Ov.fY∧Ov.bO (L2.cb KX) C "bells" "Lane.bells" Ov.fV∧Ov.bO (L2.cb KX) C "turn" "Lane.turn" Ov.gW∧Ov.bO (L2.cb KX) C "about" "Lane.about" Ov.fU∧Ov.bO (L2.cb KX) C "leave" "Lane.leave" Ov.fZ:=by
   dsimp only [L2.cb]
   refine' ⟨_,Ov.ug KX G ?a ?pg ?hd ?po ?sa ?mk ?kc,?n0,?n1,?n2,Ov.bE ?m0a ?m0i ?m0l ?m0c ?m0k,Ov.bE ?m1a ?m1i ?m1l ?m1c ?m1k,Ov.bE ?m2a ?m2i ?m2l ?m2c ?m2k,Ov.bE ?m3a ?m3i ?m3l ?m3c ?m3k,Ov.bE ?m4a ?m4i ?m4l ?m4c ?m4k,Ov.bE ?m5a ?m5i ?m5l ?m5c ?m5k,Ov.bE ?m6a ?m6i ?m6l ?m6c ?m6k,Ov.bE ?m7a ?m7i ?m7l ?m7c ?m7k,Ov.bE ?m8a ?m8i ?m8l ?m8c ?m8k,Ov.bE ?m9a ?m9i ?m9l ?m9c ?m9k,Ov.bE ?m10a ?m10i ?m10l ?m10c ?m10k,Ov.bE ?m11a ?m11i ?m11l ?m11c ?m11k,Ov.bE ?m12a ?m12i ?m12l ?m12c ?m12k,Ov.bE ?m13a ?m13i ?m13l ?m13c ?m13k,Ov.bE ?m14a ?m14i ?m14l ?m14c ?m14k,Ov.bE ?m15a ?m15i ?m15l ?m15c ?m15k⟩
   (case a=>k_is);(case pg=>k_is);(case hd=>k_is);(case po=>k_is);(case sa=>k_is);(case mk=>k_is);(case kc=>k_is)
   (case n0=>(show PySem.W.findIn _ _ _=_;k_is))
   (case n1=>(show PySem.W.findIn _ _ _=_;k_is))
   (case n2=>(show PySem.W.findIn _ _ _=_;k_is))
   (case m0a=>k_is);(case m0i=>k_is);(case m0l=>k_is);(case m0c=>k_is);(case m0k=>k_is)
   (case m1a=>k_is);(case m1i=>k_is);(case m1l=>k_is);(case m1c=>k_is);(case m1k=>k_is)
   (case m2a=>k_is);(case m2i=>k_is);(case m2l=>k_is);(case m2c=>k_is);(case m2k=>k_is)
   (case m3a=>k_is);(case m3i=>k_is);(case m3l=>k_is);(case m3c=>k_is);(case m3k=>k_is)
   (case m4a=>k_is);(case m4i=>k_is);(case m4l=>k_is);(case m4c=>k_is);(case m4k=>k_is)
   (case m5a=>k_is);(case m5i=>k_is);(case m5l=>k_is);(case m5c=>k_is);(case m5k=>k_is)
   (case m6a=>k_is);(case m6i=>k_is);(case m6l=>k_is);(case m6c=>k_is);(case m6k=>k_is)
   (case m7a=>k_is);(case m7i=>k_is);(case m7l=>k_is);(case m7c=>k_is);(case m7k=>k_is)
   (case m8a=>k_is);(case m8i=>k_is);(case m8l=>k_is);(case m8c=>k_is);(case m8k=>k_is)
   (case m9a=>k_is);(case m9i=>k_is);(case m9l=>k_is);(case m9c=>k_is);(case m9k=>k_is)
   (case m10a=>k_is);(case m10i=>k_is);(case m10l=>k_is);(case m10c=>k_is);(case m10k=>k_is)
   (case m11a=>k_is);(case m11i=>k_is);(case m11l=>k_is);(case m11c=>k_is);(case m11k=>k_is)
   (case m12a=>k_is);(case m12i=>k_is);(case m12l=>k_is);(case m12c=>k_is);(case m12k=>k_is)
   (case m13a=>k_is);(case m13i=>k_is);(case m13l=>k_is);(case m13c=>k_is);(case m13k=>k_is)
   (case m14a=>k_is);(case m14i=>k_is);(case m14l=>k_is);(case m14c=>k_is);(case m14k=>k_is)
   (case m15a=>k_is);(case m15i=>k_is);(case m15l=>k_is);(case m15c=>k_is);(case m15k=>k_is)
  obtain ⟨je,bC,aT,eD,hX,i5,hZ⟩:∃ C,Ov.dt (L2.cb KX) mg "Bells" C∧L2.aF (L2.cb KX) C "rows"∧Ov.bO (L2.cb KX) C "__init__" "Bells.__init__" Ov.dC∧Ov.bO (L2.cb KX) C "drop" "Bells.drop" Ov.eR∧Ov.bO (L2.cb KX) C "put" "Bells.put" Ov.gT∧Ov.bO (L2.cb KX) C "told" "Bells.told" Ov.fT:=by
   dsimp only [L2.cb]
   refine' ⟨_,Ov.ug KX G ?a ?pg ?hd ?po ?sa ?mk ?kc,?n0,Ov.bE ?m0a ?m0i ?m0l ?m0c ?m0k,Ov.bE ?m1a ?m1i ?m1l ?m1c ?m1k,Ov.bE ?m2a ?m2i ?m2l ?m2c ?m2k,Ov.bE ?m3a ?m3i ?m3l ?m3c ?m3k⟩
   (case a=>k_is);(case pg=>k_is);(case hd=>k_is);(case po=>k_is);(case sa=>k_is);(case mk=>k_is);(case kc=>k_is)
   (case n0=>(show PySem.W.findIn _ _ _=_;k_is))
   (case m0a=>k_is);(case m0i=>k_is);(case m0l=>k_is);(case m0c=>k_is);(case m0k=>k_is)
   (case m1a=>k_is);(case m1i=>k_is);(case m1l=>k_is);(case m1c=>k_is);(case m1k=>k_is)
   (case m2a=>k_is);(case m2i=>k_is);(case m2l=>k_is);(case m2c=>k_is);(case m2k=>k_is)
   (case m3a=>k_is);(case m3i=>k_is);(case m3l=>k_is);(case m3c=>k_is);(case m3k=>k_is)
  have Z:Ov.bV mg:=by
   refine' ⟨Ov.Cd.mk (PySem.W.mg_none_of KX G ?z0) (PySem.W.mg_none_of KX G ?z1) (PySem.W.mg_none_of KX G ?z2) (PySem.W.mg_none_of KX G ?z3) (PySem.W.mg_none_of KX G ?z4) (PySem.W.mg_none_of KX G ?z5) (PySem.W.mg_none_of KX G ?z6) (PySem.W.mg_none_of KX G ?z7) (PySem.W.mg_none_of KX G ?z8) (PySem.W.mg_none_of KX G ?z9),PySem.W.mg_none_of KX G ?w0,PySem.W.mg_none_of KX G ?w1,PySem.W.mg_none_of KX G ?w2,PySem.W.mg_none_of KX G ?w3,PySem.W.mg_none_of KX G ?w4⟩
   (case z0=>k_is);(case z1=>k_is);(case z2=>k_is);(case z3=>k_is);(case z4=>k_is);(case z5=>k_is);(case z6=>k_is);(case z7=>k_is);(case z8=>k_is);(case z9=>k_is);(case w0=>k_is);(case w1=>k_is);(case w2=>k_is);(case w3=>k_is);(case w4=>k_is)
  have N:Ov.pU (L2.cb KX) mg:=by
   dsimp only [L2.cb]
   refine' Ov.BG KX G ?a ?l
   (case a=>k_is);(case l=>k_is)
  obtain ⟨oB,fu⟩:∃ C,Ov.Own (L2.cb KX) mg "BadMoment" C:=by
   dsimp only [L2.cb]
   refine' ⟨_,Ov.j9 KX G ?a ?b⟩
   (case a=>k_is);(case b=>kernel_rfl)
  obtain ⟨sQ,iB⟩:∃ C,Ov.Own (L2.cb KX) mg "BadName" C:=by
   dsimp only [L2.cb]
   refine' ⟨_,Ov.j9 KX G ?a ?b⟩
   (case a=>k_is);(case b=>kernel_rfl)
  obtain ⟨CT,pV⟩:∃ C,Ov.Own (L2.cb KX) mg "Full" C:=by
   dsimp only [L2.cb]
   refine' ⟨_,Ov.j9 KX G ?a ?b⟩
   (case a=>k_is);(case b=>kernel_rfl)
  obtain ⟨sS,eg⟩:∃ C,Ov.Own (L2.cb KX) mg "NoCraft" C:=by
   dsimp only [L2.cb]
   refine' ⟨_,Ov.j9 KX G ?a ?b⟩
   (case a=>k_is);(case b=>kernel_rfl)
  obtain ⟨p8,gj⟩:∃ C,Ov.Own (L2.cb KX) mg "NotThere" C:=by
   dsimp only [L2.cb]
   refine' ⟨_,Ov.j9 KX G ?a ?b⟩
   (case a=>k_is);(case b=>kernel_rfl)
  obtain ⟨CU,pW⟩:∃ C,Ov.Own (L2.cb KX) mg "Past" C:=by
   dsimp only [L2.cb]
   refine' ⟨_,Ov.j9 KX G ?a ?b⟩
   (case a=>k_is);(case b=>kernel_rfl)
  obtain ⟨zN,ma⟩:∃ C,Ov.Own (L2.cb KX) mg "Taken" C:=by
   dsimp only [L2.cb]
   refine' ⟨_,Ov.j9 KX G ?a ?b⟩
   (case a=>k_is);(case b=>kernel_rfl)
  obtain ⟨wb,fv⟩:∃ C,Ov.Own (L2.cb KX) mg "TooFar" C:=by
   dsimp only [L2.cb]
   refine' ⟨_,Ov.j9 KX G ?a ?b⟩
   (case a=>k_is);(case b=>kernel_rfl)
  obtain ⟨jH,gr⟩:∃ t,mg "FARTHEST"=some (.int 1000000 t):=by
   refine' Ov.const_int KX G ?cz ?cw
   (case cz=>k_is);(case cw=>kernel_rfl)
  obtain ⟨gf,eh⟩:∃ t,mg "FASTEST"=some (.int 1000 t):=by
   refine' Ov.const_int KX G ?cz ?cw
   (case cz=>k_is);(case cw=>kernel_rfl)
  obtain ⟨m5,jY⟩:∃ t,mg "FINEST"=some (.int 60 t):=by
   refine' Ov.const_int KX G ?cz ?cw
   (case cz=>k_is);(case cw=>kernel_rfl)
  obtain ⟨m6,jZ⟩:∃ t,mg "LATEST"=some (.int 1000000 t):=by
   refine' Ov.const_int KX G ?cz ?cw
   (case cz=>k_is);(case cw=>kernel_rfl)
  obtain ⟨k7,iF⟩:∃ t,mg "LONGEST"=some (.int 8 t):=by
   refine' Ov.const_int KX G ?cz ?cw
   (case cz=>k_is);(case cw=>kernel_rfl)
  obtain ⟨vG,qd⟩:∃ t,mg "MOST"=some (.int 12 t):=by
   refine' Ov.const_int KX G ?cz ?cw
   (case cz=>k_is);(case cw=>kernel_rfl)
  obtain ⟨pH,mq⟩:∃ t,mg "SIGNS"=some (.str "abcdefghijklmnopqrstuvwxyz0123456789" t):=by
   refine' Ov.Bj KX G ?cz ?cw
   (case cz=>k_is);(case cw=>kernel_rfl)
  obtain ⟨fd,F,hb⟩:=Ov.I8 Kw hmg (fun _ _ _ _ _ _ _=>rfl)
  exact ⟨fd,[gP],hb,(fun T hT=>by simp only [List.mem_cons,List.not_mem_nil,or_false] at hT;rcases hT with rfl <;> first | exact ⟨_,by simp,_,gL⟩),fun base _ _ Bm=>Ov.Bv (Ov.Iq Z N gr eh jY jZ iF qd mq fu iB pV eg gj pW ma fv bt ax bC aR bM aA aK aB aT xS pM pO lD Cp xV xX tT tX gL tU lG nh g_ lE hE nj eA g9 tY xW tZ ni nk lF pN tW Ih tS pL tV nq pP Co tR xU xT xY fH jT i8 jS i9 il eZ c8 gg gi i6 ib ik gh fG eD hX i5 hZ ij e8 ie ia i7 h_ ig F base Bm)⟩
